/- The walk of EpochKnows: it returns true, and writes nothing that was there. -/
import Derived.Test.YtdlmfpofedfcdaaLawTurns
namespace Go.Proofs.Ytdlmfpofedfcdaa
open Go.RowKit

theorem u40 (t : Int) : 0 ≤ wrap64 ((IntKind.u64.wrap t).tmod 1099511627776) ∧ wrap64 ((IntKind.u64.wrap t).tmod 1099511627776) < 1099511627776 := by
  rw [IntKind.wrap_u64, Int.tmod_eq_emod_of_nonneg (by omega), IntWalk.wrap64_in _ ⟨by omega, by omega⟩]
  omega

/-- a clock of 16 that has one tick alone -/
def onlyL (g : Nat) (n : Int) : List Int := (List.replicate 16 0).set g n
theorem only_len (g : Nat) (n : Int) : (onlyL g n).length = 16 := by simp [onlyL]
theorem en_only (g : Nat) (n : Int) (hg : g < 16) (i : Nat) : en (onlyL g n) i = if i = g then n else 0 := by
  by_cases hi : i < 16
  · rw [en_get _ _ (by rw [only_len]; exact hi)]
    simp only [onlyL, List.getElem_set]
    by_cases h : g = i
    · rw [if_pos h, if_pos h.symm]
    · rw [if_neg h, if_neg (fun x => h x.symm), List.getElem_replicate]
  · rw [en_of_le _ _ (by rw [only_len]; omega), if_neg (by omega)]
theorem only_right (g : Nat) (n : Int) (hg : g < 16) (h0 : 0 ≤ n) (h1 : n < 1099511627776) : rightB (onlyL g n) = true :=
  right_of (by rw [only_len]; omega) fun i => by rw [en_only g n hg]; split <;> omega
theorem only_set (g : Nat) (n : Int) : (List.replicate 16 (Value.int .i64 0)).set g (.int .i64 n) = ints (onlyL g n) := by
  simp only [ints, onlyL, List.map_set, List.map_replicate]
theorem leq_only (g : Nat) (n : Int) (C : List Int) (hg : g < 16) (h0 : 0 ≤ n) (h1 : n < 1099511627776) (hC : rightB C = true) : leqE (onlyL g n) C = (decide (n ≤ en C g), 0) := by
  rw [leqE_ok (only_right g n hg h0 h1) hC]
  have : leqB (onlyL g n) C = decide (n ≤ en C g) := by
    rw [Bool.eq_iff_iff, leqB_iff (fun i => (right_en hC i).1), decide_eq_true_eq]
    constructor
    · intro h; have := h g; rwa [en_only g n hg, if_pos rfl] at this
    · intro h i; rw [en_only g n hg]; split
      · rename_i e; subst e; exact h
      · exact (right_en hC i).1
  rw [this]
theorem ep_of (t : Int) (g : Nat) (hg : g < 16) (h0 : 0 ≤ t) (h1 : t ≤ 1099511627776) : isEp (16 * t + g) ∧ (16 * t + (g : Int)) / 16 = t ∧ (16 * t + (g : Int)) % 16 = g := by
  unfold isEp; omega
theorem known_of (t : Int) (g : Nat) (C : List Int) (hg : g < 16) (h0 : 0 ≤ t) (h1 : t ≤ 1099511627776) (hC : rightB C = true) : knownE (16 * t + g) C = (decide (t ≤ en C g), 0) := by
  obtain ⟨e1, e2, e3⟩ := ep_of t g hg h0 h1
  rw [knownE, if_pos e1, if_pos hC, e2, e3, Int.toNat_natCast]
theorem known_bad (t : Int) (g : Nat) (C : List Int) (hg : g < 16) (h0 : 0 ≤ t) (h1 : t ≤ 1099511627776) (hC : rightB C = false) : knownE (16 * t + g) C = (false, 1) := by
  rw [knownE, if_pos (ep_of t g hg h0 h1).1, if_neg (by simp [hC])]
theorem ep_i64 (t : Int) (g : Nat) (hg : g < 16) (h0 : 0 ≤ t) (h1 : t ≤ 1099511627776) : I64 (16 * t + g) := by unfold I64; omega
theorem unpack_of (t : Int) (g : Nat) (hg : g < 16) (h0 : 0 ≤ t) (h1 : t ≤ 1099511627776) : unpackE (16 * t + g) = (t, (g : Int), 0) := by
  obtain ⟨e1, e2, e3⟩ := ep_of t g hg h0 h1
  rw [unpackE_ok e1, e2, e3]
theorem next_right {A : List Int} (hA : rightB A = true) (g : Nat) (hg : g < 16) (hm : en A g < 1099511627776) : rightB (grownL [A, stepL g (en A g + 1)]) = true := by
  have hn := right_en hA g
  have hst : ∀ j, 0 ≤ en (stepL g (en A g + 1)) j ∧ en (stepL g (en A g + 1)) j ≤ 1099511627776 := fun j => by rw [en_step]; split <;> omega
  refine right_of ?_ fun i => ?_
  · have := grown2_len A (stepL g (en A g + 1)); rw [step_len] at this; have := right_len hA; omega
  · rw [en_grown2 A _ (fun j => (right_en hA j).1) (fun j => (hst j).1)]
    have := right_en hA i; have := hst i; omega
theorem next_en {A : List Int} (hA : rightB A = true) (g : Nat) : en (grownL [A, stepL g (en A g + 1)]) g = en A g + 1 := by
  have hn := right_en hA g
  rw [en_grown2 A _ (fun j => (right_en hA j).1) (fun j => by rw [en_step]; split <;> omega), en_step, if_pos rfl]; omega

set_option maxRecDepth 100000 in
set_option maxHeartbeats 8000000 in
theorem knows_walk (a : Option Addr) (len cap : Nat) (l : List Int) (t g : Int) (w : World) (h : Ints w a len cap l) : Calls Try.prog 5 #[.slice a len cap, .int .i64 t, .int .i64 g] w (Says w) := by
  obtain ⟨i0, hi, hz0, hz1, hz2⟩ := info_parts Try.info3
  have H := Lib.hid h
  have HC := Lib.hid (h.take 20)
  obtain ⟨C, eC⟩ : ∃ C, C = l.take 20 := ⟨_, rfl⟩
  rw [← eC] at HC
  clear h eC
  obtain ⟨d1, d2⟩ := tmod_bd g 16 (by omega)
  obtain ⟨t1, t2⟩ := u40 t
  go_enter Try.func5, Try.ntmps5
  go_wp2_with fail
  refine (few_any _ _ _ _ _ H.out).mono ?_
  rintro e w' ⟨rfl, rfl⟩
  go_wp2_with fail
  obtain ⟨T, hT⟩ : ∃ T, T = wrap64 ((IntKind.u64.wrap t).tmod 1099511627776) := ⟨_, rfl⟩
  obtain ⟨k, hK⟩ : ∃ k : Nat, g.tmod 16 % 16 = (k : Int) := ⟨(g.tmod 16 % 16).toNat, by omega⟩
  have e2 : (g.tmod 16 + 16) % 16 = g.tmod 16 % 16 := Int.add_emod_right ..
  rw [e2, hK, ← hT]
  rw [← hT] at t1 t2
  have hk : k < 16 := by omega
  clear hT hK e2 d1 d2
  have P1 := Lib.hid (packE_ok (t := T) (g := k) t1 (by omega) (by omega) (by omega))
  have U1 := Lib.hid (unpack_of T k hk t1 (by omega))
  have I1 := Lib.hid (ep_i64 T k hk t1 (by omega))
  have hTT : (T != T) = false := by simp
  have hkk : ((k : Int) != k) = false := by simp
  skip
  refine (pack_any _ _ _).mono ?_
  rintro e w' ⟨rfl, rfl⟩
  rw [P1.out]
  go_wp2_with fail
  refine (unpack_any _ _ I1.out).mono ?_
  rintro e w' ⟨rfl, rfl⟩
  rw [U1.out]
  go_wp2_with fail
  refine (alive_any _).mono ?_
  rintro e w' ⟨rfl, rfl⟩
  clear hTT hkk
  cases rc : rightB C with
  | false =>
    have RC := Lib.hid rc; clear rc
    have K1 := Lib.hid (known_bad T k C hk t1 (by omega) RC.out)
    have L1 := Lib.hid (leqE_bad (a := onlyL k T) (.inr RC.out))
    go_wp2_with fail
    refine (known_any _ _ _ _ _ _ I1.out HC.out).mono ?_
    rintro e w' ⟨rfl, rfl⟩
    rw [K1.out]
    go_wp2_with (at_make; refine wpList_make_full _ rfl _ _ 22 rfl w.heap.size 3 i0 (.int .i64 0) 1 Try.underlying22 hi hz0 hz1 .i64 .i64 _ _ 16 rfl rfl (by omega) (by omega) (by rw [hz2]; omega) (by unfold maxLen; omega) (Nat.le_refl _) ?_)
    intro w1 hown hgrow
    have hb1 := (Below.refl w.heap.size w).grown hgrow (Nat.le_refl _) (fun k hk => by cases hk)
    have hrow := row_of_own hown
    have hrow' : w1.heap[w.heap.size]? = some (.cells (List.replicate 16 (Value.int .i64 0)).toArray 3 (0, 0)) := by rw [hrow, toList_madeCells_one]
    have hcell : w1.cell? ⟨w.heap.size, k, none⟩ = some (.int .i64 0) := by rw [cell_of_row w1 _ k _ 3 (0, 0) hrow', List.getElem?_toArray, List.getElem?_replicate, if_pos hk]
    have hfr : w1.frozen? ⟨w.heap.size, k, none⟩ = false := frozen_of_row w1 _ k _ 3 hrow'
    obtain ⟨w2, hw2⟩ : ∃ w2, w2 = w1.setCell ⟨w.heap.size, k, none⟩ (.int .i64 T) := ⟨_, rfl⟩
    have hst : w2.heap[w.heap.size]? = some (.cells (ints (onlyL k T)).toArray 3 (0, 0)) := by
      rw [hw2, heap_setCell_same w1 _ k _ 3 _ hrow', ← only_set, List.setIfInBounds_toArray]
    have hb2 : Below w.heap.size w w2 := by rw [hw2]; exact hb1.setCell (Nat.le_refl _) _
    have hi2 : Ints w2 (some ⟨w.heap.size, 0, none⟩) 16 16 (onlyL k T) := Ints.of_row (e := 3) hst (only_len _ _) (by unfold maxLen; omega) (fun i => by
      rw [en_only k T hk]; split
      · exact ⟨by omega, by omega⟩
      · exact ⟨by omega, by omega⟩)
    have HO_2 := Lib.hid hi2; have HBW2 := Lib.hid hb2; have HW := Lib.hid hw2; have HC_2 := Lib.hid (HC.out.below hb2)
    clear hown hgrow hrow hrow' hst hb1 hb2 hi2 hw2
    go_wp2_with fail
    rw [← HW.out]
    skip
    refine (leq_any _ _ _ _ _ _ _ _ _ HO_2.out HC_2.out).mono ?_
    rintro e w' ⟨rfl, rfl⟩
    rw [L1.out]
    go_wp2_with fail
    go_ret
    exact ⟨ret_bool rfl, HBW2.out⟩
  | true =>
    have RC := Lib.hid rc; clear rc
    have K1 := Lib.hid (known_of T k C hk t1 (by omega) RC.out)
    have L1 := Lib.hid (leq_only k T C hk t1 t2 RC.out)
    have A1 := Lib.hid (atE_ok (g := (k : Int)) RC.out (by omega) (by omega))
    go_wp2_with fail
    refine (known_any _ _ _ _ _ _ I1.out HC.out).mono ?_
    rintro e w' ⟨rfl, rfl⟩
    rw [K1.out]
    obtain ⟨x, hx⟩ : ∃ x, x = decide (T ≤ en C k) := ⟨_, rfl⟩
    rw [← hx]
    have HX := Lib.hid hx; clear hx
    have hxx : (x != x) = false := by cases x <;> rfl
    have HXX := Lib.hid hxx; clear hxx
    go_wp2_with (at_make; refine wpList_make_full _ rfl _ _ 22 rfl w.heap.size 3 i0 (.int .i64 0) 1 Try.underlying22 hi hz0 hz1 .i64 .i64 _ _ 16 rfl rfl (by omega) (by omega) (by rw [hz2]; omega) (by unfold maxLen; omega) (Nat.le_refl _) ?_)
    intro w1 hown hgrow
    have hb1 := (Below.refl w.heap.size w).grown hgrow (Nat.le_refl _) (fun k hk => by cases hk)
    have hrow := row_of_own hown
    have hrow' : w1.heap[w.heap.size]? = some (.cells (List.replicate 16 (Value.int .i64 0)).toArray 3 (0, 0)) := by rw [hrow, toList_madeCells_one]
    have hcell : w1.cell? ⟨w.heap.size, k, none⟩ = some (.int .i64 0) := by rw [cell_of_row w1 _ k _ 3 (0, 0) hrow', List.getElem?_toArray, List.getElem?_replicate, if_pos hk]
    have hfr : w1.frozen? ⟨w.heap.size, k, none⟩ = false := frozen_of_row w1 _ k _ 3 hrow'
    obtain ⟨w2, hw2⟩ : ∃ w2, w2 = w1.setCell ⟨w.heap.size, k, none⟩ (.int .i64 T) := ⟨_, rfl⟩
    have hst : w2.heap[w.heap.size]? = some (.cells (ints (onlyL k T)).toArray 3 (0, 0)) := by
      rw [hw2, heap_setCell_same w1 _ k _ 3 _ hrow', ← only_set, List.setIfInBounds_toArray]
    have hb2 : Below w.heap.size w w2 := by rw [hw2]; exact hb1.setCell (Nat.le_refl _) _
    have hi2 : Ints w2 (some ⟨w.heap.size, 0, none⟩) 16 16 (onlyL k T) := Ints.of_row (e := 3) hst (only_len _ _) (by unfold maxLen; omega) (fun i => by
      rw [en_only k T hk]; split
      · exact ⟨by omega, by omega⟩
      · exact ⟨by omega, by omega⟩)
    have HO_2 := Lib.hid hi2; have HBW2 := Lib.hid hb2; have HW := Lib.hid hw2; have HC_2 := Lib.hid (HC.out.below hb2)
    clear hown hgrow hrow hrow' hst hb1 hb2 hi2 hw2
    go_wp2_with fail
    rw [← HW.out]
    skip
    refine (leq_any _ _ _ _ _ _ _ _ _ HO_2.out HC_2.out).mono ?_
    rintro e w' ⟨rfl, rfl⟩
    rw [L1.out, ← HX.out]
    have hxx := HXX.out
    go_wp2_with fail
    refine (at_any _ _ _ _ _ _ HC_2.out).mono ?_
    rintro e w' ⟨rfl, rfl⟩
    rw [A1.out, Int.toNat_natCast]
    clear hxx
    obtain ⟨hn0, hn1⟩ := right_en RC.out k
    by_cases hm : en C k = 1099511627776
    · have HM := Lib.hid hm; clear hm
      rw [HM.out]
      go_wp2_with fail
      refine (tick_over _ _ _ _ _ _ HC_2.out RC.out (by omega) (by omega) (by rw [Int.toNat_natCast]; exact HM.out)).mono ?_
      rintro e w' ⟨rfl, rfl⟩
      go_wp2_with fail
      go_ret
      exact ⟨ret_bool rfl, HBW2.out⟩
    · have HM := Lib.hid (show en C k < 1099511627776 by omega); clear hm
      have RN := Lib.hid (next_right RC.out k hk HM.out)
      obtain ⟨n, hn⟩ : ∃ n, n = en C k := ⟨_, rfl⟩
      have P2 := Lib.hid (packE_ok (t := n + 1) (g := k) (by omega) (by have := HM.out; omega) (by omega) (by omega))
      have I2 := Lib.hid (ep_i64 (n + 1) k hk (by omega) (by have := HM.out; omega))
      have K2 := Lib.hid (known_of (n + 1) k _ hk (by omega) (by have := HM.out; omega) RN.out)
      have K3 := Lib.hid (known_of (n + 1) k C hk (by omega) (by have := HM.out; omega) RC.out)
      have NE := Lib.hid (next_en RC.out k)
      have hnm : n < 1099511627776 := by rw [hn]; exact HM.out
      rw [← hn] at hn0 hn1 ⊢
      have HN := Lib.hid hn; clear hn
      go_wp2_with fail
      refine (tick_ok _ _ _ _ _ _ HC_2.out RC.out hk HM.out).mono ?_
      rintro e w3 ⟨s1, n1, c1, rfl, i1, hb3⟩
      have HC_3 := Lib.hid (HC_2.out.below hb3)
      have HO_3 := Lib.hid (HO_2.out.below hb3)
      have HT_3 := Lib.hid i1
      have HBW3 := Lib.hid (HBW2.out.trans (hb3.mono HBW2.out.size))
      clear hb3 i1 HC_2 HO_2
      go_wp2_with fail
      refine (pack_any _ _ _).mono ?_
      rintro e w' ⟨rfl, rfl⟩
      rw [P2.out]
      go_wp2_with fail
      refine (known_any _ _ _ _ _ _ I2.out HT_3.out).mono ?_
      rintro e w' ⟨rfl, rfl⟩
      rw [K2.out, NE.out, ← HN.out, decide_eq_true (show n + 1 ≤ n + 1 by omega)]
      go_wp2_with fail
      refine (known_any _ _ _ _ _ _ I2.out HC_3.out).mono ?_
      rintro e w' ⟨rfl, rfl⟩
      rw [K3.out, ← HN.out, decide_eq_false (show ¬ n + 1 ≤ n by omega)]
      go_wp2_with fail
      go_ret
      exact ⟨ret_bool rfl, HBW3.out⟩
end Go.Proofs.Ytdlmfpofedfcdaa
