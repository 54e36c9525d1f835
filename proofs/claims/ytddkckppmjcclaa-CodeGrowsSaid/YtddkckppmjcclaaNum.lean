/- What is wrong with one instruction: program and reference. -/
import Derived.Test.YtddkckppmjcclaaPrg
import Derived.Laws.EntriesVeiled
import Derived.Deep.RegionHeld3
import Derived.BigQuiet
namespace Go.Proofs.Ytddkckppmjcclaa
open Go.RowKit
set_option linter.unusedSimpArgs false
set_option linter.unusedVariables false
theorem res_c0' {fn : Func} {p : Tmp} {ty : TypeId} (h : fn.results = #[.cell p ty]) (tmps : Array Value) (w : World) :
    (results fn tmps).run Try.prog w = ((asAddr (tmps.getD p undef)).run Try.prog w).andThen fun a w₁ => ((loadVar ty a).run Try.prog w₁).andThen fun v w₂ => .ok v w₂ := by
  simp only [results, h]
  simp [Sem.run_bind, Result.andThen]
  cases Sem.run Try.prog (asAddr (tmps[p]?.getD undef)) w with
  | ok a w1 => simp only []; cases Sem.run Try.prog (loadVar ty a) w1 <;> rfl
  | halt h w1 => rfl
theorem res_c0 {fn : Func} {p : Tmp} {ty : TypeId} (h : fn.results = #[.cell p ty]) (tmps : Array Value) {W : World} {B : Nat} {v : Value} (hp : tmps.getD p undef = .pointer (some ⟨B, 0, none⟩)) (hg : (loadVar ty ⟨B, 0, none⟩).run Try.prog W = .ok v W) :
    (results fn tmps).run Try.prog W = .ok v W := by
  rw [res_c0' h, hp]
  simp [asAddr, Result.andThen, hg]
/-- a block that holds just these cells -/
def Bx (W : World) (B : Nat) (cs : Array Value) (t : TypeId) : Prop := W.heap[B]? = some (.cells cs t (0, 0))
theorem Bx.below {W W' : World} {B : Nat} {cs : Array Value} {t : TypeId} (h : Bx W B cs t) (hb : Below W.heap.size W W') : Bx W' B cs t := (hb.block _ (Array.getElem?_eq_some_iff.1 h).1).trans h
theorem Bx.lt {W : World} {B : Nat} {cs : Array Value} {t : TypeId} (h : Bx W B cs t) : B < W.heap.size := (Array.getElem?_eq_some_iff.1 h).1
theorem Bx.new (W : World) (cs : Array Value) (t : TypeId) : Bx (W.alloc (.cells cs t)) W.heap.size cs t := heap_alloc_new W _
theorem Bx.new2 (w : World) (A : Obj) (cs : Array Value) (t : TypeId) : Bx ((w.alloc A).alloc (.cells cs t)) (w.heap.size + 1) cs t := by
  have := heap_alloc_new (w.alloc A) (.cells cs t)
  rwa [World.size_alloc] at this
theorem Bx.cell {W : World} {B : Nat} {cs : Array Value} {t : TypeId} (h : Bx W B cs t) (j : Nat) {v : Value} (hv : cs[j]? = some v) : W.cell? ⟨B, j, none⟩ = some v := (cell_of_row W B j cs t (0, 0) h).trans hv
theorem Bx.froz {W : World} {B : Nat} {cs : Array Value} {t : TypeId} (h : Bx W B cs t) (j : Nat) : W.frozen? ⟨B, j, none⟩ = false := by unfold Bx at h; simp [World.frozen?, h]
theorem Bx.cells3 {W : World} {B : Nat} {a b c : Value} {t : TypeId} (h : Bx W B #[a, b, c] t) : W.cell? ⟨B, 0, none⟩ = some a ∧ W.cell? ⟨B, 1, none⟩ = some b ∧ W.cell? ⟨B, 2, none⟩ = some c := ⟨h.cell 0 rfl, h.cell 1 rfl, h.cell 2 rfl⟩
theorem Bx.cells6 {W : World} {B : Nat} {a b c d e f : Value} {t : TypeId} (h : Bx W B #[a, b, c, d, e, f] t) : W.cell? ⟨B, 0, none⟩ = some a ∧ W.cell? ⟨B, 1, none⟩ = some b ∧ W.cell? ⟨B, 2, none⟩ = some c ∧ W.cell? ⟨B, 3, none⟩ = some d ∧ W.cell? ⟨B, 4, none⟩ = some e ∧ W.cell? ⟨B, 5, none⟩ = some f := ⟨h.cell 0 rfl, h.cell 1 rfl, h.cell 2 rfl, h.cell 3 rfl, h.cell 4 rfl, h.cell 5 rfl⟩
theorem Bx.load {W : World} {B : Nat} {cs : Array Value} {t ty : TypeId} {fs : _} (h : Bx W B cs t) (hu : Try.prog.underlying ty = some (.struct fs)) (hi : (Try.prog.info? ty).map (·.size) = some cs.size) : (loadVar ty ⟨B, 0, none⟩).run Try.prog W = .ok (.agg cs) W :=
  run_loadVar_row W B t ty cs (0, 0) _ h hu rfl hi

def belowZ (n e : Int) : Bool := decide (0 ≤ n) && decide (n < e)
set_option maxRecDepth 100000 in
set_option maxHeartbeats 4000000 in
theorem below_any (n e : Int) (w : World) : Calls Try.prog 54 #[.int .i64 n, .int .i64 e] w fun x w' => x = .returned (.bool (belowZ n e)) ∧ w = w' := by
  by_cases h1 : 0 ≤ n
  all_goals by_cases h2 : n < e
  all_goals
    go_enter Try.func54, Try.ntmps54
    go_wp2_with fail
    go_ret
    exact ⟨ret_bool (by simp [belowZ, h1, h2]), rfl⟩
abbrev fnV (k : Nat) : Value := .func (.func k) #[] #[]
abbrev tab : Value := .agg #[fnV 62, fnV 63, fnV 63, fnV 63, fnV 64, fnV 65, fnV 65, fnV 66, fnV 66, fnV 67, fnV 68, fnV 68, fnV 69, fnV 69]
theorem inf57 : (Try.prog.info? 95).map (·.size) = some 14 := by kernel_rfl
set_option maxRecDepth 100000 in
set_option maxHeartbeats 4000000 in
theorem numbersOf_any (w : World) : Calls Try.prog 55 #[] w fun e w' => e = .returned tab ∧ Below w.heap.size w w' := by
  go_enter Try.func55, Try.ntmps55
  go_wp2_with fail
  refine bodyPost_ret (v := tab) (by first | (rw [res_c0 Try.results55 _ (by rfl) (run_loadVar_row _ _ 95 95 #[fnV 62, fnV 63, fnV 63, fnV 63, fnV 64, fnV 65, fnV 65, fnV 66, fnV 66, fnV 67, fnV 68, fnV 68, fnV 69, fnV 69] (0, 0) _ (Bx.new w _ 95) Try.underlying95 rfl inf57)])) rfl ⟨rfl, ?_⟩
  exact below_alloc w _
/-- how many numbers there are of what an op's A is of -/
def mostZ (p : Pr) (op : Int) (bl : Nat) : Int :=
  if 1 ≤ op ∧ op ≤ 3 then p.caps.length else if op = 4 then p.sels.length else if op = 5 ∨ op = 6 then p.mu else if op = 7 ∨ op = 8 then p.on else if op = 9 then p.blks.length else if op = 10 ∨ op = 11 then p.va else if 12 ≤ op then (bl : Int) + 1 else 1
set_option maxRecDepth 100000 in
set_option maxHeartbeats 4000000 in
theorem num_29 (p : Pr) (q : PAt) (ba : Option Addr) (len cap : Nat) (w : World) (hlc : len ≤ cap) (hcc : len ≤ 9223372036854775806) :
    Calls Try.prog 62 #[prV p q, .slice ba len cap] w fun e w' => e = .returned (.int .i64 1) ∧ Below w.heap.size w w' := by
  go_enter Try.func62, Try.ntmps62
  go_wp2_with fail
  go_ret
  exact ⟨rfl, below_alloc w _⟩
set_option maxRecDepth 100000 in
set_option maxHeartbeats 4000000 in
theorem num_30 (p : Pr) (q : PAt) (ba : Option Addr) (len cap : Nat) (w : World) (hlc : len ≤ cap) (hcc : len ≤ 9223372036854775806) :
    Calls Try.prog 63 #[prV p q, .slice ba len cap] w fun e w' => e = .returned (.int .i64 q.cn) ∧ Below w.heap.size w w' := by
  go_enter Try.func63, Try.ntmps63
  go_wp2_with fail
  go_ret
  exact ⟨rfl, below_alloc w _⟩
set_option maxRecDepth 100000 in
set_option maxHeartbeats 4000000 in
theorem num_31 (p : Pr) (q : PAt) (ba : Option Addr) (len cap : Nat) (w : World) (hlc : len ≤ cap) (hcc : len ≤ 9223372036854775806) :
    Calls Try.prog 64 #[prV p q, .slice ba len cap] w fun e w' => e = .returned (.int .i64 q.sn) ∧ Below w.heap.size w w' := by
  go_enter Try.func64, Try.ntmps64
  go_wp2_with fail
  go_ret
  exact ⟨rfl, below_alloc w _⟩
set_option maxRecDepth 100000 in
set_option maxHeartbeats 4000000 in
theorem num_32 (p : Pr) (q : PAt) (ba : Option Addr) (len cap : Nat) (w : World) (hlc : len ≤ cap) (hcc : len ≤ 9223372036854775806) :
    Calls Try.prog 65 #[prV p q, .slice ba len cap] w fun e w' => e = .returned (.int .i64 p.mu) ∧ Below w.heap.size w w' := by
  go_enter Try.func65, Try.ntmps65
  go_wp2_with fail
  go_ret
  exact ⟨rfl, below_alloc w _⟩
set_option maxRecDepth 100000 in
set_option maxHeartbeats 4000000 in
theorem num_33 (p : Pr) (q : PAt) (ba : Option Addr) (len cap : Nat) (w : World) (hlc : len ≤ cap) (hcc : len ≤ 9223372036854775806) :
    Calls Try.prog 66 #[prV p q, .slice ba len cap] w fun e w' => e = .returned (.int .i64 p.on) ∧ Below w.heap.size w w' := by
  go_enter Try.func66, Try.ntmps66
  go_wp2_with fail
  go_ret
  exact ⟨rfl, below_alloc w _⟩
set_option maxRecDepth 100000 in
set_option maxHeartbeats 4000000 in
theorem num_34 (p : Pr) (q : PAt) (ba : Option Addr) (len cap : Nat) (w : World) (hlc : len ≤ cap) (hcc : len ≤ 9223372036854775806) :
    Calls Try.prog 67 #[prV p q, .slice ba len cap] w fun e w' => e = .returned (.int .i64 q.bn) ∧ Below w.heap.size w w' := by
  go_enter Try.func67, Try.ntmps67
  go_wp2_with fail
  go_ret
  exact ⟨rfl, below_alloc w _⟩
set_option maxRecDepth 100000 in
set_option maxHeartbeats 4000000 in
theorem num_35 (p : Pr) (q : PAt) (ba : Option Addr) (len cap : Nat) (w : World) (hlc : len ≤ cap) (hcc : len ≤ 9223372036854775806) :
    Calls Try.prog 68 #[prV p q, .slice ba len cap] w fun e w' => e = .returned (.int .i64 p.va) ∧ Below w.heap.size w w' := by
  go_enter Try.func68, Try.ntmps68
  go_wp2_with fail
  go_ret
  exact ⟨rfl, below_alloc w _⟩
set_option maxRecDepth 100000 in
set_option maxHeartbeats 4000000 in
theorem num_36 (p : Pr) (q : PAt) (ba : Option Addr) (len cap : Nat) (w : World) (hlc : len ≤ cap) (hcc : len ≤ 9223372036854775806) :
    Calls Try.prog 69 #[prV p q, .slice ba len cap] w fun e w' => e = .returned (.int .i64 ((len : Int) + 1)) ∧ Below w.heap.size w w' := by
  go_enter Try.func69, Try.ntmps69
  go_wp2_with fail
  go_ret
  exact ⟨rfl, below_alloc w _⟩
def lastZ (op : Int) (bl : Nat) : Int := if op = 7 then (bl : Int) else 0
def instrZ (p : Pr) (bl : Nat) (x : Ins) : Int :=
  if belowZ x.op 14 = false then 11 else if belowZ x.a (mostZ p x.op bl) = false then 3 else if x.b < 0 ∨ lastZ x.op bl < x.b then 3 else 0
abbrev insV (x : Ins) : Value := .agg #[.int .i64 x.op, .int .i64 x.a, .int .i64 x.b]
structure Szs (p : Pr) (q : PAt) : Prop where
  cn : p.caps.length = q.cn
  sn : p.sels.length = q.sn
  bn : p.blks.length = q.bn
theorem Prg.szs {w : World} {p : Pr} {q : PAt} (h : Prg w p q) : Szs p q := ⟨h.caps.len_eq, h.sels.len, h.blks.len⟩
def Says3 (w : World) (n : Int) (e : Ending) (w' : World) : Prop := e = .returned (.int .i64 n) ∧ Below w.heap.size w w'
end Go.Proofs.Ytddkckppmjcclaa
