/- Blocks of structs; locks as plain data; what may be a lock. -/
import Derived.Test.YtipjdkaibkmciaaFr
import Derived.Laws.ResultCell
namespace Go.Proofs.Ytipjdkaibkmciaa
open Go.RowKit

/-- a block that holds just these cells -/
def Bx (W : World) (B : Nat) (cs : Array Value) (t : TypeId) : Prop := W.heap[B]? = some (.cells cs t (0, 0))
theorem Bx.below {W W' : World} {B : Nat} {cs : Array Value} {t : TypeId} (h : Bx W B cs t) (hb : Below W.heap.size W W') : Bx W' B cs t := (hb.block _ (Array.getElem?_eq_some_iff.1 h).1).trans h
theorem Bx.lt {W : World} {B : Nat} {cs : Array Value} {t : TypeId} (h : Bx W B cs t) : B < W.heap.size := (Array.getElem?_eq_some_iff.1 h).1
theorem Bx.new (W : World) (cs : Array Value) (t : TypeId) : Bx (W.alloc (.cells cs t)) W.heap.size cs t := heap_alloc_new W _
theorem Bx.cell {W : World} {B : Nat} {cs : Array Value} {t : TypeId} (h : Bx W B cs t) (j : Nat) {v : Value} (hv : cs[j]? = some v) : W.cell? ⟨B, j, none⟩ = some v := (cell_of_row W B j cs t (0, 0) h).trans hv
theorem Bx.froz {W : World} {B : Nat} {cs : Array Value} {t : TypeId} (h : Bx W B cs t) (j : Nat) : W.frozen? ⟨B, j, none⟩ = false := by unfold Bx at h; simp [World.frozen?, h]
theorem Bx.load {W : World} {B : Nat} {cs : Array Value} {t ty : TypeId} {fs : _} (h : Bx W B cs t) (hu : Try.prog.underlying ty = some (.struct fs)) (hi : (Try.prog.info? ty).map (·.size) = some cs.size) : (loadVar ty ⟨B, 0, none⟩).run Try.prog W = .ok (.agg cs) W :=
  run_loadVar_row W B t ty cs (0, 0) _ h hu rfl hi
theorem Bx.cells2 {W : World} {B : Nat} {a b : Value} {t : TypeId} (h : Bx W B #[a, b] t) : W.cell? ⟨B, 0, none⟩ = some a ∧ W.cell? ⟨B, 1, none⟩ = some b := ⟨h.cell 0 rfl, h.cell 1 rfl⟩
theorem Bx.cells3 {W : World} {B : Nat} {a b c : Value} {t : TypeId} (h : Bx W B #[a, b, c] t) : W.cell? ⟨B, 0, none⟩ = some a ∧ W.cell? ⟨B, 1, none⟩ = some b ∧ W.cell? ⟨B, 2, none⟩ = some c := ⟨h.cell 0 rfl, h.cell 1 rfl, h.cell 2 rfl⟩
theorem Bx.cells5 {W : World} {B : Nat} {a b c d e : Value} {t : TypeId} (h : Bx W B #[a, b, c, d, e] t) : W.cell? ⟨B, 0, none⟩ = some a ∧ W.cell? ⟨B, 1, none⟩ = some b ∧ W.cell? ⟨B, 2, none⟩ = some c ∧ W.cell? ⟨B, 3, none⟩ = some d ∧ W.cell? ⟨B, 4, none⟩ = some e := ⟨h.cell 0 rfl, h.cell 1 rfl, h.cell 2 rfl, h.cell 3 rfl, h.cell 4 rfl⟩
theorem Bx.cells7 {W : World} {B : Nat} {a b c d e f g : Value} {t : TypeId} (h : Bx W B #[a, b, c, d, e, f, g] t) : W.cell? ⟨B, 0, none⟩ = some a ∧ W.cell? ⟨B, 1, none⟩ = some b ∧ W.cell? ⟨B, 2, none⟩ = some c ∧ W.cell? ⟨B, 3, none⟩ = some d ∧ W.cell? ⟨B, 4, none⟩ = some e ∧ W.cell? ⟨B, 5, none⟩ = some f ∧ W.cell? ⟨B, 6, none⟩ = some g := ⟨h.cell 0 rfl, h.cell 1 rfl, h.cell 2 rfl, h.cell 3 rfl, h.cell 4 rfl, h.cell 5 rfl, h.cell 6 rfl⟩
theorem Bx.set {W : World} {B : Nat} {cs : Array Value} {t : TypeId} (h : Bx W B cs t) (j : Nat) (v : Value) : Bx (W.setCell ⟨B, j, none⟩ v) B (cs.setIfInBounds j v) t := set_at h v
abbrev set2c (W : World) (B : Nat) (a b : Value) : World := (W.setCell ⟨B, 0, none⟩ a).setCell ⟨B, 1, none⟩ b
abbrev set3c (W : World) (B : Nat) (a b c : Value) : World := (set2c W B a b).setCell ⟨B, 2, none⟩ c
abbrev set7c (W : World) (B : Nat) (a b c d e f g : Value) : World := ((((set3c W B a b c).setCell ⟨B, 3, none⟩ d).setCell ⟨B, 4, none⟩ e).setCell ⟨B, 5, none⟩ f).setCell ⟨B, 6, none⟩ g
theorem Bx.set2 {W : World} {B : Nat} {x y : Value} {t : TypeId} (h : Bx W B #[x, y] t) (a b : Value) : Bx (set2c W B a b) B #[a, b] t := (h.set 0 a).set 1 b
theorem Bx.set3 {W : World} {B : Nat} {x y z : Value} {t : TypeId} (h : Bx W B #[x, y, z] t) (a b c : Value) : Bx (set3c W B a b c) B #[a, b, c] t := ((h.set 0 a).set 1 b).set 2 c
theorem Bx.set7 {W : World} {B : Nat} {x0 x1 x2 x3 x4 x5 x6 : Value} {t : TypeId} (h : Bx W B #[x0, x1, x2, x3, x4, x5, x6] t) (a b c d e f g : Value) : Bx (set7c W B a b c d e f g) B #[a, b, c, d, e, f, g] t := by
  have h0 : Bx (W.setCell ⟨B, 0, none⟩ a) B #[a, x1, x2, x3, x4, x5, x6] t := h.set 0 a
  unfold set7c set3c set2c
  generalize W.setCell ⟨B, 0, none⟩ a = W0 at h0 ⊢
  have h1 : Bx (W0.setCell ⟨B, 1, none⟩ b) B #[a, b, x2, x3, x4, x5, x6] t := h0.set 1 b
  generalize W0.setCell ⟨B, 1, none⟩ b = W1 at h1 ⊢
  have h2 : Bx (W1.setCell ⟨B, 2, none⟩ c) B #[a, b, c, x3, x4, x5, x6] t := h1.set 2 c
  generalize W1.setCell ⟨B, 2, none⟩ c = W2 at h2 ⊢
  have h3 : Bx (W2.setCell ⟨B, 3, none⟩ d) B #[a, b, c, d, x4, x5, x6] t := h2.set 3 d
  generalize W2.setCell ⟨B, 3, none⟩ d = W3 at h3 ⊢
  have h4 : Bx (W3.setCell ⟨B, 4, none⟩ e) B #[a, b, c, d, e, x5, x6] t := h3.set 4 e
  generalize W3.setCell ⟨B, 4, none⟩ e = W4 at h4 ⊢
  have h5 : Bx (W4.setCell ⟨B, 5, none⟩ f) B #[a, b, c, d, e, f, x6] t := h4.set 5 f
  generalize W4.setCell ⟨B, 5, none⟩ f = W5 at h5 ⊢
  exact h5.set 6 g
theorem below_set2 {w W : World} {n₀ B : Nat} (h : Below n₀ w W) (hB : n₀ ≤ B) (a b : Value) : Below n₀ w (set2c W B a b) := (h.setCell (p := ⟨B, 0, none⟩) hB _).setCell (p := ⟨B, 1, none⟩) hB _
theorem below_set3 {w W : World} {n₀ B : Nat} (h : Below n₀ w W) (hB : n₀ ≤ B) (a b c : Value) : Below n₀ w (set3c W B a b c) := (below_set2 h hB a b).setCell (p := ⟨B, 2, none⟩) hB _
theorem below_set7 {w W : World} {n₀ B : Nat} (h : Below n₀ w W) (hB : n₀ ≤ B) (a b c d e f g : Value) : Below n₀ w (set7c W B a b c d e f g) :=
  ((((below_set3 h hB a b c).setCell (p := ⟨B, 3, none⟩) hB _).setCell (p := ⟨B, 4, none⟩) hB _).setCell (p := ⟨B, 5, none⟩) hB _).setCell (p := ⟨B, 6, none⟩) hB _
theorem res_c1 {fn : Func} {p u : Tmp} {ty : TypeId} (h : fn.results = #[.cell p ty, .tmp u]) (tmps : Array Value) {W : World} {B : Nat} {v : Value} (hp : tmps.getD p undef = .pointer (some ⟨B, 0, none⟩)) (hg : (loadVar ty ⟨B, 0, none⟩).run Try.prog W = .ok v W) :
    (results fn tmps).run Try.prog W = .ok (.tuple #[v, tmps.getD u undef]) W := by
  rw [results_cell_tmp h, hp]
  simp [asAddr, Result.andThen, hg]
theorem res_c2' {fn : Func} {p u u2 : Tmp} {ty : TypeId} (h : fn.results = #[.cell p ty, .tmp u, .tmp u2]) (tmps : Array Value) (w : World) :
    (results fn tmps).run Try.prog w = ((asAddr (tmps.getD p undef)).run Try.prog w).andThen fun a w₁ => ((loadVar ty a).run Try.prog w₁).andThen fun v w₂ => .ok (.tuple #[v, tmps.getD u undef, tmps.getD u2 undef]) w₂ := by
  simp only [results, h]
  simp [Sem.run_bind, Result.andThen]
theorem res_c2 {fn : Func} {p u u2 : Tmp} {ty : TypeId} (h : fn.results = #[.cell p ty, .tmp u, .tmp u2]) (tmps : Array Value) {W : World} {B : Nat} {v : Value} (hp : tmps.getD p undef = .pointer (some ⟨B, 0, none⟩)) (hg : (loadVar ty ⟨B, 0, none⟩).run Try.prog W = .ok v W) :
    (results fn tmps).run Try.prog W = .ok (.tuple #[v, tmps.getD u undef, tmps.getD u2 undef]) W := by
  rw [res_c2' h, hp]
  simp [asAddr, Result.andThen, hg]
theorem res_cc2' {fn : Func} {p q u u2 : Tmp} {ty ty2 : TypeId} (h : fn.results = #[.cell p ty, .cell q ty2, .tmp u, .tmp u2]) (tmps : Array Value) (w : World) :
    (results fn tmps).run Try.prog w = ((asAddr (tmps.getD p undef)).run Try.prog w).andThen fun a w₁ => ((loadVar ty a).run Try.prog w₁).andThen fun v w₂ => ((asAddr (tmps.getD q undef)).run Try.prog w₂).andThen fun a2 w₃ => ((loadVar ty2 a2).run Try.prog w₃).andThen fun v2 w₄ => .ok (.tuple #[v, v2, tmps.getD u undef, tmps.getD u2 undef]) w₄ := by
  simp only [results, h]
  simp [Sem.run_bind, Result.andThen]
theorem res_cc2 {fn : Func} {p q u u2 : Tmp} {ty ty2 : TypeId} (h : fn.results = #[.cell p ty, .cell q ty2, .tmp u, .tmp u2]) (tmps : Array Value) {W : World} {B C : Nat} {v v2 : Value} (hp : tmps.getD p undef = .pointer (some ⟨B, 0, none⟩)) (hg : (loadVar ty ⟨B, 0, none⟩).run Try.prog W = .ok v W) (hq : tmps.getD q undef = .pointer (some ⟨C, 0, none⟩)) (hg2 : (loadVar ty2 ⟨C, 0, none⟩).run Try.prog W = .ok v2 W) :
    (results fn tmps).run Try.prog W = .ok (.tuple #[v, v2, tmps.getD u undef, tmps.getD u2 undef]) W := by
  rw [res_cc2' h, hp, hq]
  simp [asAddr, Result.andThen, hg, hg2]

/-- what may be a lock -/
noncomputable def rightK (h : Bool) (L : List Wt) : Bool := rightW L && (h || L.isEmpty)
abbrev lkV (h : Bool) (a : Option Addr) (len cap : Nat) : Value := .agg #[.bool h, .slice a len cap]
theorem inf24 : (Try.prog.info? 24).map (·.size) = some 2 := by kernel_rfl
theorem inf45 : (Try.prog.info? 45).map (·.size) = some 7 := by kernel_rfl

set_option maxRecDepth 100000 in
set_option maxHeartbeats 2000000 in
theorem LRight_any (h : Bool) (a : Option Addr) (len cap : Nat) (L : List Wt) (w : World) (hL : Wts w a len cap L) :
    Calls Try.prog 10 #[lkV h a len cap] w fun e w' => e = .returned (.bool (rightK h L)) ∧ Below w.heap.size w w' := by
  have hcm := hL.recs.len_le
  have HLE : Hid (L.isEmpty = decide (len = 0)) := Lib.hid (by rw [← hL.recs.len_eq]; cases L <;> simp)
  have HR := Lib.hid (fun W (h : Wts W a len cap L) => Right_any a len cap L W h)
  have L_0 := Lib.hid (hL.below (below_alloc w (.cells #[.bool h, .slice a len cap] 24))); clear hL
  have X_0 := Lib.hid (Bx.new w #[.bool h, .slice a len cap] 24)
  have BEL_0 := Lib.hid (below_alloc w (.cells #[.bool h, .slice a len cap] 24))
  cases hr : rightW L
  all_goals
    rw [hr] at HR
    have HRR := Lib.hid hr; clear hr
    cases h
    all_goals
      by_cases h0 : len = 0
      all_goals
        have H0 := Lib.hid h0
        first | (have hz : ((len : Int) == 0) = true := by rw [beq_iff_eq]; omega) | (have hz : ((len : Int) == 0) = false := by rw [beq_eq_false_iff_ne]; omega)
        clear h0
        go_enter Try.func10, Try.ntmps10
        go_wp2_with fail
        refine (HR.out _ L_0.out).mono ?_
        rintro e w1 ⟨rfl, hb⟩
        have X_1 := Lib.hid (X_0.out.below hb)
        have BEL_1 := Lib.hid (BEL_0.out.trans (Below.mono hb BEL_0.out.size))
        clear hb
        obtain ⟨c0, c1⟩ := X_1.out.cells2
        go_wp2_with fail
        go_ret
        exact ⟨ret_bool (by rw [rightK, HRR.out, HLE.out]; simp [H0.out]), BEL_1.out⟩
end Go.Proofs.Ytipjdkaibkmciaa
