/- The map of the words: the program's; the reference's op. -/
import Derived.Test.YtpdlfijcicboiaaDoorT9
import Derived.Maps.OwnOps
import Derived.Maps.OwnSet
import Derived.Maps.Views
import Derived.MapViews
import Derived.StringKeys
namespace Go.Proofs.YtpdlfijcicboiaaDoor
open Go.RowKit Go.Maps
set_option linter.unusedSimpArgs false
set_option linter.unusedVariables false
theorem some_ne {a b : Nat} (h : a ≠ b) : some a ≠ some b := fun e => h (by cases e; rfl)
theorem recs_row {w : World} {B : Nat} {L : List ByteArray} (h : Bx w B (L.map Value.string).toArray 9) (hn : L.length ≤ 100000) : Txts w (some ⟨B, 0, none⟩) L.length L.length L := by
  refine ⟨rfl, Nat.le_refl _, by unfold maxLen; omega, fun e => by simp at e, fun i x hx => ⟨B, 0, rfl, fun j v hv => ?_⟩⟩
  have hj : j = 0 := by
    have := (List.getElem?_eq_some_iff.1 hv).1
    simp [encT] at this; exact this
  subst hj
  simp [encT] at hv; subst hv
  rw [Nat.zero_add, Nat.mul_one, Nat.add_zero]
  exact h.cell i (by rw [List.getElem?_toArray, List.getElem?_map, hx]; rfl)
theorem split_any (s sep : ByteArray) (w : World) (h1 : 1 ≤ sep.size) (hs : s.size ≤ 10000) (hE : EnvS w) : Calls Tryd.prog 20 #[.string s, .string sep] w (GotT w (pcB s sep)) := by
  obtain ⟨m, hm⟩ := hE
  refine (Tryd.strings_Split s sep m w (by omega) hm h1).mono ?_
  rintro e w' ⟨rfl, rfl⟩
  have hl := pcB_len s sep h1
  have hc := Lib.countB_le sep h1 s.size s (Nat.le_refl _)
  rw [← hl]
  exact ⟨_, _, _, rfl, recs_row (Bx.new w _ 9) (by omega), below_alloc w _⟩
theorem Tryd.zero3 (w : World) : (zeroValue 3).run Tryd.prog w = .ok (.int .i64 0) w := by kernel_rfl
theorem keyT (x : ByteArray) (h : x.size ≤ 100000) : keyOf Tryd.prog 9 (.string x) = some (.string x.data.toList) := WideMaps.keyOf_string_mk Tryd.underlying9 (by unfold maxLen; omega)
def opS : Nat → ByteArray → Option Nat
  | 0, _ => none
  | k + 1, x => if x = wordB (k : Int) then some k else opS k x
def opN (k : Nat) (x : ByteArray) : Int := match opS k x with | some j => (j : Int) | none => 0
def FoundK (w : World) (B k : Nat) : Prop := ∃ D : DataW Unit, w.ownsMap Tryd.prog 9 (plainElem Tryd.prog 3) B k D ∧ ∀ x : ByteArray, D.atKey (.string x.data.toList) (.lit (.int .i64 0)) = .lit (.int .i64 (opN k x)) ∧ Maps.has D (.string x.data.toList) = (opS k x).isSome
theorem FoundK.made (w : World) : FoundK (w.alloc (.map #[] 0)) w.heap.size 0 := ⟨_, World.ownsMap_made _ _ _ _, fun x => ⟨rfl, rfl⟩⟩
theorem FoundK.kept {w w' : World} {B k : Nat} {row : Option Nat} (h : FoundK w B k) (hg : w.grownBy w' row) (hne : some B ≠ row) : FoundK w' B k := by
  obtain ⟨D, h1, h2⟩ := h
  exact ⟨D, h1.kept hg hne, h2⟩
theorem FoundK.below {w w' : World} {B k : Nat} (h : FoundK w B k) (hb : Below w.heap.size w w') : FoundK w' B k :=
  h.kept (row := none) ⟨hb.os, hb.tape, hb.output, hb.size, fun k hk _ => hb.block k hk⟩ (by simp)
theorem FoundK.lt {w : World} {B k : Nat} (h : FoundK w B k) : B < w.heap.size := by obtain ⟨D, h1, _⟩ := h; exact h1.lt
theorem FoundK.look {w : World} {B k : Nat} (h : FoundK w B k) (x : ByteArray) (hx : x.size ≤ 100000) :
    (Instr.lookup 46 (.map (some B)) (.string x) true).run Tryd.prog w = .ok (.tuple #[.int .i64 (opN k x), .bool (opS k x).isSome]) w := by
  obtain ⟨D, h1, h2⟩ := h
  obtain ⟨v, ps, hrun, hv⟩ := h1.look_ok (string_keyed Tryd.underlying9) Tryd.underlying46 (Tryd.zero3 w) (plainElem_int Tryd.underlying3 (by decide)) (keyT x hx)
  rw [(h2 x).1] at hv
  obtain ⟨a, rfl, he, _⟩ := plainElem_int_inv Tryd.underlying3 hv
  simp at he
  rw [hrun, (h2 x).2, he.1]
theorem FoundK.store {w : World} {B k : Nat} (h : FoundK w B k) (hk : k < 14) :
    ∃ w', (Instr.mapUpdate 46 (.map (some B)) (.string (wordB (k : Int))) (.int .i64 (k : Int))).run Tryd.prog w = .ok () w' ∧ FoundK w' B (k + 1) ∧ w.grownBy w' (some B) := by
  obtain ⟨D, h1, h2⟩ := h
  have hky := keyT (wordB (k : Int)) (by have := wordB_size (k : Int); omega)
  obtain ⟨w', hrun, h3, h4⟩ := h1.store (string_keyed Tryd.underlying9) Tryd.underlying46 (by unfold maxLen; omega) hky (plainElem_int Tryd.underlying3 (WalkArith.wf_i64 (show I64 (k : Int) from ⟨by omega, by omega⟩)))
  refine ⟨w', hrun, ⟨_, h3, fun x => ?_⟩, h4.grown⟩
  by_cases e : x = wordB (k : Int)
  · subst e
    have e1 : opS (k + 1) (wordB (k : Int)) = some k := by unfold opS; rw [if_pos rfl]
    constructor
    · rw [atKey_put_same h1.isMap ((string_keyed Tryd.underlying9).key hky)]
      unfold opN; rw [e1]
    · rw [has_put_same h1.isMap ((string_keyed Tryd.underlying9).key hky), e1]; rfl
  · have hne : (Lit.string x.data.toList) ≠ .string (wordB (k : Int)).data.toList := fun h => e (bytes_ext (by injection h))
    have e1 : opS (k + 1) x = opS k x := by conv => lhs; unfold opS
                                            rw [if_neg e]
    constructor
    · rw [atKey_put_other hne, (h2 x).1]; unfold opN; rw [e1]
    · rw [has_put_other hne, (h2 x).2, e1]
theorem wpList_word_store {ops : Array Oper} {rest : List Oper} {o : Oper} {a : Act} {w : World} {Q : Exit → Act → World → Prop} (hgd : o.guard = none) (m x v : Operand) (ho : o.op = Op.mapUpdate 46 m x v)
    (B k : Nat) (hm : a.eval m = .map (some B)) (h : FoundK w B k) (hk : k < 14) (hx : a.eval x = .string (wordB (k : Int))) (hv : a.eval v = .int .i64 (k : Int))
    (hK : ∀ w', Hid (FoundK w' B (k + 1)) → Hid (w.grownBy w' (some B)) → wpList Tryd.prog ops Q rest (a.put o.dst undef) w') :
    wpList Tryd.prog ops Q (o :: rest) a w := by
  refine wpList_plain hgd fun K' hK' => ?_
  obtain ⟨w', hrun, r1, r2⟩ := h.store hk
  unfold Oper.wp
  simp [execOp, ho, hm, hx, hv, hrun, Result.andThen]
  exact hK' _ _ (hK w' r1 r2)
theorem run_makeMap_hint (n : Int) (w : World) : (Instr.makeMap 46 (some (.int .i64 n))).run Tryd.prog w = .ok (.map (some w.heap.size)) (w.alloc (.map #[] 0)) := by
  simp [Instr.makeMap, run_underlying Tryd.underlying46, asInt, asIntOf]
theorem words_at (k : Nat) (hk : k < 14) : (wordsB.map Value.string).toArray[k]? = some (.string (wordB (k : Int))) := by
  have hl : k < wordsB.length := hk
  simp only [List.getElem?_toArray, List.getElem?_map, wordB, Int.toNat_natCast, List.getD_eq_getElem?_getD]
  rw [List.getElem?_eq_getElem hl]; rfl
set_option maxRecDepth 100000 in
set_option maxHeartbeats 8000000 in
theorem ops_any (w : World) (hE : EnvS w) : Calls Tryd.prog 24 #[] w fun e w' => e = .returned (.map (some w.heap.size)) ∧ FoundK w' w.heap.size 14 ∧ Below w.heap.size w w' := by
  have hmm := run_makeMap_hint
  have HS := Lib.hid (splitWords (w.alloc (.map #[] 0)) (hE.below (below_alloc w _)))
  unfold wordsText at HS
  have F0 := Lib.hid ((FoundK.made w).below (below_alloc (w.alloc (.map #[] 0)) (.cells (wordsB.map Value.string).toArray 9)))
  have R0 := Lib.hid (Bx.new (w.alloc (.map #[] 0)) (wordsB.map Value.string).toArray 9)
  have B0 := Lib.hid ((below_alloc w (.map #[] 0)).trans (Below.mono (below_alloc (w.alloc (.map #[] 0)) (.cells (wordsB.map Value.string).toArray 9)) (by simp)))
  obtain ⟨B, hB⟩ : ∃ B, B = w.heap.size := ⟨_, rfl⟩
  obtain ⟨R, hR⟩ : ∃ B, B = (w.alloc (.map #[] 0)).heap.size := ⟨_, rfl⟩
  have hne : R ≠ B := by rw [hR, hB]; simp
  have hlo : w.heap.size ≤ B := by omega
  rw [← hB] at F0 ⊢
  rw [← hR] at R0 HS
  have HB := Lib.hid hB; have HR := Lib.hid hR
  clear hB hR hE
  have hlo' := Lib.hid hlo; have hne' := Lib.hid hne
  clear hlo hne
  go_enter Tryd.func24, Tryd.ntmps24
  go_wp2_with fail
  refine HS.out.mono ?_
  rintro e w1 ⟨rfl, hw1⟩
  obtain ⟨W, hW⟩ : ∃ W, W = (w.alloc (.map #[] 0)).alloc (.cells (wordsB.map Value.string).toArray 9) := ⟨_, rfl⟩
  rw [← hW] at F0 R0 B0 hw1
  subst hw1
  clear hW
  rw [← HB.out]
  go_wp2_with fail
  go_loopw [7] (fun i wr => ∃ k : Nat, k ≤ 14 ∧ i = .int .i64 k ∧ FoundK wr B k ∧ Bx wr R (wordsB.map Value.string).toArray 9 ∧ Below w.heap.size w wr) (fun i _ => 14 - (intOf i).toNat)
  case atStart => exact ⟨0, Nat.zero_le _, rfl, F0.out, R0.out, B0.out⟩
  case round =>
    obtain ⟨k, hk, rfl, hf, hr, hb⟩ := hrel
    have HF := Lib.hid hf
    have HRR := Lib.hid hr
    have HBB := Lib.hid hb
    clear hf hr hb
    by_cases hlt : k < 14
    · have hlt' : (k : Int) < 14 := by omega
      have c0 := HRR.out.cell k (words_at k hlt)
      go_wp2_with (at_mapUpdate; refine wpList_word_store rfl _ _ _ rfl B k rfl HF.out hlt rfl rfl ?_; intro w2 hf2 hg2)
      go_roundw
      case rel => exact ⟨k + 1, by omega, by go_num, hf2.out, HRR.out.other hg2.out (some_ne hne'.out), HBB.out.grown hg2.out HBB.out.size (fun j hj => by cases hj; exact hlo'.out)⟩
      case measure => simp [intOf]; omega
    · have hke : k = 14 := by omega
      subst hke
      go_wp2_with fail
      go_ret
      exact ⟨rfl, HF.out, by rw [HB.out]; exact HBB.out⟩
end Go.Proofs.YtpdlfijcicboiaaDoor
