/- A map of the call's own, from pairs of ints to bools. -/
import Derived.Test.YtfolhgpbplfilaaRec
import Derived.Maps.OwnOps
import Derived.Maps.OwnSet
import Derived.Maps.Views
import Derived.DeepKeys5
import Derived.MapViews
namespace Go.Proofs.Ytfolhgpbplfilaa
open Go.RowKit Go.Maps

theorem Try.laidOut' : laidOutB Try.prog = true := by kernel_rfl
theorem whoWide : (match Try.prog.underlying 92 with | some (.array _ _) | some (.struct _) => true | _ => false) = true := by kernel_rfl
set_option maxRecDepth 100000 in
theorem whoLaw : Keyed Try.prog 92 := Keyed.of_law (deep_law_gate Try.laidOut' (of_decide_eq_true (by kernel_rfl)) (of_decide_eq_true (by kernel_rfl)) (by kernel_rfl) whoWide)
theorem zeroBool (w : World) : (zeroValue 4).run Try.prog w = .ok (.bool false) w := by kernel_rfl
abbrev whoV (g c : Int) : Value := .agg #[.int .i64 g, .int .i64 c]
theorem cells48 : Try.prog.cellsOf 92 = 2 := by kernel_rfl
theorem cells3 : Try.prog.cellsOf 3 = 1 := by kernel_rfl
set_option maxRecDepth 100000 in
theorem who_key (g c : Int) (hg : I64 g) (hc : I64 c) : ∃ l, keyOf Try.prog 92 (whoV g c) = some l := by
  have hwf : ∀ n : Int, I64 n → (Lit.int .i64 n).wf = true := fun n h => WalkArith.wf_i64 h
  have h1 : ∀ d n, I64 n → Try.prog.keyLits (d + 1) 3 [.int .i64 n] = some [.int .i64 n] := fun d n h => by
    unfold Program.keyLits
    rw [Try.underlying3]
    simp [hwf n h]
  have h2 : ∀ d, (Try.prog.keyLits (d + 2) 92 [.int .i64 g, .int .i64 c]).isSome = true := fun d => by
    unfold Program.keyLits
    rw [Try.underlying92]
    simp [cells48, cells3, h1 d g hg, h1 d c hc]
  obtain ⟨n, hn⟩ : ∃ n, Try.prog.types.size = n + 1 := ⟨Try.prog.types.size - 1, by kernel_rfl⟩
  have h3 := h2 n
  obtain ⟨ls, hls⟩ := Option.isSome_iff_exists.1 h3
  unfold keyOf
  rw [hn, Try.underlying92]
  have hf : (whoV g c).formed Try.prog 92 = true := by simp [Value.formed, Try.underlying92, cells48]
  have hk : Try.prog.keyType 92 = true := by kernel_rfl
  simp [hf, hk, Value.cells, hls]

def SeenD (D : DataW Unit) (S : Int → Int → Bool) : Prop := ∀ g c l, I64 g → I64 c → keyOf Try.prog 92 (whoV g c) = some l → D.atKey l (.lit (.bool false)) = .lit (.bool (S g c))
/-- the map in block B has true at just what S says -/
def Seen (w : World) (B n : Nat) (S : Int → Int → Bool) : Prop := ∃ D : DataW Unit, w.ownsMap Try.prog 92 (plainElem Try.prog 4) B n D ∧ SeenD D S
theorem seen_made (w : World) : Seen (w.alloc (.map #[] 0)) w.heap.size 0 (fun _ _ => false) :=
  ⟨_, World.ownsMap_made _ _ _ _, fun _g _c _l _ _ _ => rfl⟩
theorem Seen.kept {w w' : World} {B n : Nat} {S : Int → Int → Bool} {row : Option Nat} (h : Seen w B n S) (hg : w.grownBy w' row) (hne : some B ≠ row) : Seen w' B n S := by
  obtain ⟨D, h1, h2⟩ := h
  exact ⟨D, h1.kept hg hne, h2⟩
theorem Seen.lt {w : World} {B n : Nat} {S : Int → Int → Bool} (h : Seen w B n S) : B < w.heap.size := by obtain ⟨D, h1, _⟩ := h; exact h1.lt
theorem Seen.below {w w' : World} {B n : Nat} {S : Int → Int → Bool} (h : Seen w B n S) (hb : Below w.heap.size w w') : Seen w' B n S :=
  h.kept (row := none) ⟨hb.os, hb.tape, hb.output, hb.size, fun k hk _ => hb.block k hk⟩ (by simp)
set_option maxRecDepth 100000 in
theorem Seen.look {w : World} {B n : Nat} {S : Int → Int → Bool} (h : Seen w B n S) (g c : Int) (hg : I64 g) (hc : I64 c) :
    (Instr.lookup 90 (.map (some B)) (whoV g c) false).run Try.prog w = .ok (.bool (S g c)) w := by
  obtain ⟨D, h1, h2⟩ := h
  obtain ⟨l, hl⟩ := who_key g c hg hc
  obtain ⟨v, ps, hrun, hv⟩ := h1.lookup whoLaw Try.underlying90 (zeroBool w) (plainElem_bool Try.underlying4 false) hl
  rw [h2 g c l hg hc hl] at hv
  rw [hrun]
  have : v = .bool (S g c) := by
    unfold plainElem at hv
    rw [Try.underlying4] at hv
    cases v <;> simp at hv
    rw [hv.1]
  rw [this]
set_option maxRecDepth 100000 in
theorem Seen.store {w : World} {B n : Nat} {S : Int → Int → Bool} (h : Seen w B n S) (hn : n < maxLen) (g c : Int) (hg : I64 g) (hc : I64 c) :
    ∃ w', (Instr.mapUpdate 90 (.map (some B)) (whoV g c) (.bool true)).run Try.prog w = .ok () w' ∧ Seen w' B (n + 1) (fun g' c' => S g' c' || (g' == g && c' == c)) ∧ w.grownBy w' (some B) := by
  obtain ⟨D, h1, h2⟩ := h
  obtain ⟨l, hl⟩ := who_key g c hg hc
  obtain ⟨w', hrun, h3, h4⟩ := h1.update whoLaw Try.underlying90 hn hl (plainElem_bool Try.underlying4 true)
  refine ⟨w', hrun, ⟨_, h3, fun g' c' l' hg' hc' hl' => ?_⟩, h4⟩
  by_cases e : l' = l
  · subst e
    have hv := whoLaw.inj hl hl'
    simp at hv
    obtain ⟨rfl, rfl⟩ := hv
    rw [atKey_put_same h1.isMap (whoLaw.key hl)]; simp
  · rw [atKey_put_other e, h2 g' c' l' hg' hc' hl']
    have : (g' == g && c' == c) = false := by
      by_cases e1 : g' = g
      · by_cases e2 : c' = c
        · subst e1; subst e2
          rw [hl] at hl'; exact absurd (Option.some.inj hl').symm e
        · simp [e2]
      · simp [e1]
    show DataW.lit (Lit.bool (S g' c')) = DataW.lit (Lit.bool (S g' c' || (g' == g && c' == c)))
    rw [this, Bool.or_false]
theorem wpList_seen_store {ops : Array Oper} {rest : List Oper} {o : Oper} {a : Act} {w : World} {Q : Exit → Act → World → Prop} (hgd : o.guard = none) (m x v : Operand) (ho : o.op = Op.mapUpdate 90 m x v)
    (B n : Nat) (S : Int → Int → Bool) (hm : a.eval m = .map (some B)) (h : Seen w B n S) (hn : n ≤ 1000000) (g c : Int) (hx : a.eval x = whoV g c) (hv : a.eval v = .bool true) (hg : I64 g) (hc : I64 c)
    (hK : ∀ w', Hid (Seen w' B (n + 1) (fun g' c' => S g' c' || (g' == g && c' == c))) → Hid (w.grownBy w' (some B)) → wpList Try.prog ops Q rest (a.put o.dst undef) w') :
    wpList Try.prog ops Q (o :: rest) a w := by
  refine wpList_plain hgd fun K' hK' => ?_
  obtain ⟨w', hrun, r1, r2⟩ := h.store (by unfold maxLen; omega) g c hg hc
  unfold Oper.wp
  simp [execOp, ho, hm, hx, hv, hrun, Result.andThen]
  exact hK' _ _ (hK w' r1 r2)
end Go.Proofs.Ytfolhgpbplfilaa
