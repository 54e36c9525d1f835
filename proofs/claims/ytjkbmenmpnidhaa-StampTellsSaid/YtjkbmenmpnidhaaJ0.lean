/- The judge: what it knows, as plain data. -/
import Derived.Test.YtjkbmenmpnidhaaR9
import Derived.Maps.OwnOps
import Derived.Maps.OwnSet
import Derived.Maps.Views
import Derived.MapViews
import Derived.DeepKeys5
namespace Go.Proofs.Ytjkbmenmpnidhaa
open Go.RowKit Go.Maps
set_option linter.unusedSimpArgs false
set_option linter.unusedVariables false
theorem Try.laidOut' : laidOutB Try.prog = true := by kernel_rfl
theorem abWide : (match Try.prog.underlying 95 with | some (.array _ _) | some (.struct _) => true | _ => false) = true := by kernel_rfl
set_option maxRecDepth 100000 in
theorem abLaw : Keyed Try.prog 95 := Keyed.of_law (deep_law_gate Try.laidOut' (of_decide_eq_true (by kernel_rfl)) (of_decide_eq_true (by kernel_rfl)) (by kernel_rfl) abWide)
theorem zeroInt (w : World) : (zeroValue 3).run Try.prog w = .ok (.int .i64 0) w := by kernel_rfl
abbrev abV (k o : Int) : Value := .agg #[.int .i64 k, .int .i64 o]
theorem cells55 : Try.prog.cellsOf 95 = 2 := by kernel_rfl
theorem cells3 : Try.prog.cellsOf 3 = 1 := by kernel_rfl
set_option maxRecDepth 100000 in
theorem ab_key (g c : Int) (hg : I64 g) (hc : I64 c) : ∃ l, keyOf Try.prog 95 (abV g c) = some l := by
  have hwf : ∀ n : Int, I64 n → (Lit.int .i64 n).wf = true := fun n h => WalkArith.wf_i64 h
  have h1 : ∀ d n, I64 n → Try.prog.keyLits (d + 1) 3 [.int .i64 n] = some [.int .i64 n] := fun d n h => by
    unfold Program.keyLits
    rw [Try.underlying3]
    simp [hwf n h]
  have h2 : ∀ d, (Try.prog.keyLits (d + 2) 95 [.int .i64 g, .int .i64 c]).isSome = true := fun d => by
    unfold Program.keyLits
    rw [Try.underlying95]
    simp [cells55, cells3, h1 d g hg, h1 d c hc]
  obtain ⟨n, hn⟩ : ∃ n, Try.prog.types.size = n + 1 := ⟨Try.prog.types.size - 1, by kernel_rfl⟩
  have h3 := h2 n
  obtain ⟨ls, hls⟩ := Option.isSome_iff_exists.1 h3
  unfold keyOf
  rw [hn, Try.underlying95]
  have hf : (abV g c).formed Try.prog 95 = true := by simp [Value.formed, Try.underlying95, cells55]
  have hk : Try.prog.keyType 95 = true := by kernel_rfl
  simp [hf, hk, Value.cells, hls]
/-- the map in block M counts as S says -/
def Cnt (w : World) (M n : Nat) (S : Int → Int → Int) : Prop := ∃ D : DataW Unit, w.ownsMap Try.prog 95 (plainElem Try.prog 3) M n D ∧ ∀ k o l, I64 k → I64 o → keyOf Try.prog 95 (abV k o) = some l → D.atKey l (.lit (.int .i64 0)) = .lit (.int .i64 (S k o))
theorem Cnt.made (w : World) : Cnt (w.alloc (.map #[] 0)) w.heap.size 0 (fun _ _ => 0) := ⟨_, World.ownsMap_made _ _ _ _, fun k o l _ _ _ => rfl⟩
theorem Cnt.kept {w w' : World} {B n : Nat} {S : Int → Int → Int} {row : Option Nat} (h : Cnt w B n S) (hg : w.grownBy w' row) (hne : some B ≠ row) : Cnt w' B n S := by
  obtain ⟨D, h1, h2⟩ := h
  exact ⟨D, h1.kept hg hne, h2⟩
theorem Cnt.lt {w : World} {B n : Nat} {S : Int → Int → Int} (h : Cnt w B n S) : B < w.heap.size := by obtain ⟨D, h1, _⟩ := h; exact h1.lt
theorem Cnt.below {w w' : World} {B n : Nat} {S : Int → Int → Int} (h : Cnt w B n S) (hb : Below w.heap.size w w') : Cnt w' B n S :=
  h.kept (row := none) ⟨hb.os, hb.tape, hb.output, hb.size, fun k hk _ => hb.block k hk⟩ (by simp)
theorem Cnt.look {w : World} {B n : Nat} {S : Int → Int → Int} (h : Cnt w B n S) (k o : Int) (hk : I64 k) (ho : I64 o) :
    (Instr.lookup 71 (.map (some B)) (abV k o) false).run Try.prog w = .ok (.int .i64 (S k o)) w := by
  obtain ⟨D, h1, h2⟩ := h
  obtain ⟨l, hl⟩ := ab_key k o hk ho
  obtain ⟨c, hrun, hat, _⟩ := h1.lookup_int abLaw Try.underlying71 Try.underlying3 (zeroInt w) hl
  rw [h2 k o l hk ho hl] at hat
  rw [hrun]
  have : c = S k o := by simpa using hat.symm
  rw [this]
abbrev jCells (cs ah : Value) (ls : List Int) (M : Nat) (ds : List Int) : Array Value := ([cs, ah] ++ ls.map (Value.int .i64 ·) ++ [Value.map (some M)] ++ ds.map (Value.int .i64 ·)).toArray
def lastsZ (L : List Ev) (k : Nat) : List Int := (List.range 8).map fun (g : Nat) => lastZ L (g : Int) k
def doersZ (L : List Ev) (k : Nat) : List Int := [(doerZ L 0 k).getD 0, (doerZ L 1 k).getD 0]
structure JPlace where
  ca : Option Addr
  cn : Nat
  cc : Nat
  aa : Option Addr
  ac : Nat
  M : Nat
/-- the judge in block J has the first k of L ahead of it -/
structure Jd (w : World) (J : Nat) (p : JPlace) (caps : List Int) (L : List Ev) (k : Nat) : Prop where
  box : Bx w J (jCells (.slice p.ca p.cn p.cc) (.slice p.aa k p.ac) (lastsZ L k) p.M (doersZ L k)) 75
  caps : Ints w p.ca p.cn p.cc caps
  ahead : Evs w p.aa k p.ac (L.take k)
  cnt : Cnt w p.M k (fun kd ob => cntZ L kd ob k)
theorem Jd.below {w w' : World} {J : Nat} {p : JPlace} {caps : List Int} {L : List Ev} {k : Nat} (h : Jd w J p caps L k) (hb : Below w.heap.size w w') : Jd w' J p caps L k := ⟨h.box.below hb, h.caps.below hb, h.ahead.below hb, h.cnt.below hb⟩
theorem Jd.capsCell {w : World} {J : Nat} {p : JPlace} {caps : List Int} {L : List Ev} {k : Nat} (h : Jd w J p caps L k) : w.cell? ⟨J, 0, none⟩ = some (.slice p.ca p.cn p.cc) := h.box.cell 0 rfl
theorem Jd.aheadCell {w : World} {J : Nat} {p : JPlace} {caps : List Int} {L : List Ev} {k : Nat} (h : Jd w J p caps L k) : w.cell? ⟨J, 1, none⟩ = some (.slice p.aa k p.ac) := h.box.cell 1 rfl
theorem Jd.cntCell {w : World} {J : Nat} {p : JPlace} {caps : List Int} {L : List Ev} {k : Nat} (h : Jd w J p caps L k) : w.cell? ⟨J, 10, none⟩ = some (.map (some p.M)) := h.box.cell 10 rfl
theorem Jd.lastCell {w : World} {J : Nat} {p : JPlace} {caps : List Int} {L : List Ev} {k : Nat} (h : Jd w J p caps L k) (g : Nat) (hg : g < 8) : w.cell? ⟨J, 2 + g, none⟩ = some (.int .i64 (lastZ L (g : Int) k)) := by
  refine h.box.cell (2 + g) ?_
  rcases (show g = 0 ∨ g = 1 ∨ g = 2 ∨ g = 3 ∨ g = 4 ∨ g = 5 ∨ g = 6 ∨ g = 7 by omega) with rfl | rfl | rfl | rfl | rfl | rfl | rfl | rfl <;> rfl
theorem Jd.doerCell {w : World} {J : Nat} {p : JPlace} {caps : List Int} {L : List Ev} {k : Nat} (h : Jd w J p caps L k) (o : Nat) (ho : o < 2) : w.cell? ⟨J, 11 + o, none⟩ = some (.int .i64 ((doerZ L (o : Int) k).getD 0)) := by
  refine h.box.cell (11 + o) ?_
  rcases (show o = 0 ∨ o = 1 by omega) with rfl | rfl <;> rfl
set_option maxRecDepth 100000 in
set_option maxHeartbeats 8000000 in
theorem counted_any (J : Nat) (p : JPlace) (caps : List Int) (L : List Ev) (k : Nat) (kd ob : Int) (w : World) (h : Jd w J p caps L k) (hk : I64 kd) (ho : I64 ob) : Calls Try.prog 76 #[.pointer (some ⟨J, 0, none⟩), .int .i64 kd, .int .i64 ob] w fun e w' => e = .returned (.int .i64 (cntZ L kd ob k)) ∧ w = w' := by
  have hlook := h.cnt.look kd ob hk ho
  have hc := h.cntCell
  clear h
  go_enter Try.func76, Try.ntmps76
  go_wp2_with fail
  go_ret
  exact ⟨rfl, rfl⟩
set_option maxRecDepth 100000 in
set_option maxHeartbeats 8000000 in
theorem below_yes (n m : Int) (w : World) (h0 : 0 ≤ n) (h1 : n < m) : Calls Try.prog 66 #[.int .i64 n, .int .i64 m] w fun e w' => e = .returned (.bool true) ∧ w = w' := by
  go_enter Try.func66, Try.ntmps66
  go_wp2_with fail
  go_ret
  exact ⟨rfl, rfl⟩
set_option maxRecDepth 100000 in
set_option maxHeartbeats 8000000 in
theorem below_no (n m : Int) (w : World) (h : n < 0 ∨ m ≤ n) : Calls Try.prog 66 #[.int .i64 n, .int .i64 m] w fun e w' => e = .returned (.bool false) ∧ w = w' := by
  by_cases h0 : n < 0
  · have h1 : ¬ 0 ≤ n := by omega
    go_enter Try.func66, Try.ntmps66
    go_wp2_with fail
    go_ret
    exact ⟨rfl, rfl⟩
  · have h1 : ¬ n < m := by omega
    have h2 : 0 ≤ n := by omega
    clear h h0
    go_enter Try.func66, Try.ntmps66
    go_wp2_with fail
    go_ret
    exact ⟨ret_bool (by first | rfl | (simp; omega)), rfl⟩
theorem below_any (n m : Int) (w : World) : Calls Try.prog 66 #[.int .i64 n, .int .i64 m] w fun e w' => e = .returned (.bool (decide (0 ≤ n ∧ n < m))) ∧ w = w' := by
  by_cases h : 0 ≤ n ∧ n < m
  · rw [decide_eq_true h]; exact below_yes n m w h.1 h.2
  · rw [decide_eq_false h]; exact below_no n m w (by omega)
end Go.Proofs.Ytjkbmenmpnidhaa
