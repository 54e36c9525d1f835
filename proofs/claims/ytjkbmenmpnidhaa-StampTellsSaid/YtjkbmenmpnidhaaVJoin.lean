/- Join, Trim, Tick. -/
import Derived.Test.YtjkbmenmpnidhaaVGrown
namespace Go.Proofs.Ytjkbmenmpnidhaa
open Go.RowKit

def GotIntsErr (w : World) (L : List Int) (e : Ending) (w' : World) : Prop := ∃ a n cap, e = .returned (.tuple #[.slice a n cap, .int .i64 0]) ∧ Ints w' a n cap L ∧ Below w.heap.size w w'
def NoInts (w : World) (why : Int) (e : Ending) (w' : World) : Prop := e = .returned (.tuple #[.slice none 0 0, .int .i64 why]) ∧ w = w'


theorem rows_two {w : World} {a : Option Addr} {len cap : Nat} {l : List Int} {a2 : Option Addr} {len2 cap2 : Nat} {l2 : List Int} (h : Ints w a len cap l) (h2 : Ints w a2 len2 cap2 l2) (hs : len ≤ 1000) (hs2 : len2 ≤ 1000) :
    RowsAt (w.alloc (.cells #[.slice a len cap, .slice a2 len2 cap2] 22)) w.heap.size 2 [l, l2] := by
  refine ⟨rfl, fun j hj => ?_⟩
  have hr : (w.alloc (.cells #[.slice a len cap, .slice a2 len2 cap2] 22)).heap[w.heap.size]? = some (.cells #[.slice a len cap, .slice a2 len2 cap2] 22) := heap_alloc_new w _
  match j, hj with
  | 0, _ => exact ⟨a, len, cap, by rw [cell_of_row _ _ 0 _ 22 (0, 0) hr]; rfl, h.below (below_alloc _ _), hs⟩
  | 1, _ => exact ⟨a2, len2, cap2, by rw [cell_of_row _ _ 1 _ 22 (0, 0) hr]; rfl, h2.below (below_alloc _ _), hs2⟩
theorem rows_one {w : World} {a : Option Addr} {len cap : Nat} {l : List Int} (h : Ints w a len cap l) (hs : len ≤ 1000) :
    RowsAt (w.alloc (.cells #[.slice a len cap] 22)) w.heap.size 1 [l] := by
  refine ⟨rfl, fun j hj => ?_⟩
  have hr : (w.alloc (.cells #[.slice a len cap] 22)).heap[w.heap.size]? = some (.cells #[.slice a len cap] 22) := heap_alloc_new w _
  match j, hj with
  | 0, _ => exact ⟨a, len, cap, by rw [cell_of_row _ _ 0 _ 22 (0, 0) hr]; rfl, h.below (below_alloc _ _), hs⟩

set_option maxRecDepth 100000 in
theorem join_bad (a : Option Addr) (len cap : Nat) (l : List Int) (a2 : Option Addr) (len2 cap2 : Nat) (l2 : List Int) (w : World) (h : Ints w a len cap l) (h2 : Ints w a2 len2 cap2 l2)
    (hr : rightB l = false ∨ rightB l2 = false) : Calls Try.prog 37 #[.slice a len cap, .slice a2 len2 cap2] w (NoInts w 1) := by
  have H := Lib.hid h; have H2 := Lib.hid h2; clear h h2
  cases hr1 : rightB l with
  | false =>
    have Hr := Lib.hid hr1; clear hr hr1
    go_enter Try.func37, Try.ntmps37
    go_wp2_with fail
    refine (right_any _ _ _ _ _ H.out).mono ?_
    rintro e w' ⟨rfl, rfl⟩
    rw [Hr.out]
    go_wp2_with fail
    go_ret2
    exact ⟨rfl, rfl⟩
  | true =>
    have hr2 : rightB l2 = false := by rcases hr with h | h; · rw [h] at hr1; cases hr1
                                       · exact h
    have Hr := Lib.hid hr1; have Hr2 := Lib.hid hr2; clear hr hr1 hr2
    go_enter Try.func37, Try.ntmps37
    go_wp2_with fail
    refine (right_any _ _ _ _ _ H.out).mono ?_
    rintro e w' ⟨rfl, rfl⟩
    rw [Hr.out]
    go_wp2_with fail
    refine (right_any _ _ _ _ _ H2.out).mono ?_
    rintro e w' ⟨rfl, rfl⟩
    rw [Hr2.out]
    go_wp2_with fail
    go_ret2
    exact ⟨rfl, rfl⟩

set_option maxRecDepth 100000 in
theorem join_ok (a : Option Addr) (len cap : Nat) (l : List Int) (a2 : Option Addr) (len2 cap2 : Nat) (l2 : List Int) (w : World) (h : Ints w a len cap l) (h2 : Ints w a2 len2 cap2 l2)
    (hr1 : rightB l = true) (hr2 : rightB l2 = true) : Calls Try.prog 37 #[.slice a len cap, .slice a2 len2 cap2] w (GotIntsErr w (grownL [l, l2])) := by
  have H := Lib.hid h; have H2 := Lib.hid h2; clear h h2
  have Hr := Lib.hid hr1; have Hr2 := Lib.hid hr2; clear hr1 hr2
  go_enter Try.func37, Try.ntmps37
  go_wp2_with fail
  refine (right_any _ _ _ _ _ H.out).mono ?_
  rintro e w' ⟨rfl, rfl⟩
  rw [Hr.out]
  go_wp2_with fail
  refine (right_any _ _ _ _ _ H2.out).mono ?_
  rintro e w' ⟨rfl, rfl⟩
  rw [Hr2.out]
  go_wp2_with fail
  have hs := right_len Hr.out; have hs2 := right_len Hr2.out
  rw [H.out.len_eq] at hs; rw [H2.out.len_eq] at hs2
  refine (grown_any _ _ _ _ _ (rows_two H.out H2.out (by omega) (by omega)) (by omega)).mono ?_
  rintro e w1 ⟨a3, n3, c3, rfl, hi, hb⟩
  have hb' := (below_alloc w _).trans (hb.mono (by simp))
  have HI := Lib.hid hi; have HB := Lib.hid hb'; clear hi hb hb'
  go_wp2_with fail
  go_ret2
  exact ⟨a3, n3, c3, rfl, HI.out, HB.out⟩

/-- the step that a tick makes -/
def stepL (g : Nat) (n : Int) : List Int := List.replicate g 0 ++ [n]
theorem en_step (g : Nat) (n : Int) (i : Nat) : en (stepL g n) i = if i = g then n else 0 := by
  unfold stepL en
  by_cases h : i < g
  · rw [List.getD_eq_getElem?_getD, List.getElem?_append_left (by simpa using h)]
    simp [h]; omega
  · rw [List.getD_eq_getElem?_getD, List.getElem?_append_right (by simpa using h)]
    by_cases h2 : i = g
    · subst h2; simp
    · rw [if_neg h2, List.getElem?_eq_none (by simp; omega)]; rfl
theorem step_len (g : Nat) (n : Int) : (stepL g n).length = g + 1 := by simp [stepL]
theorem step_set (g : Nat) (n : Int) : (List.replicate (g + 1) (Value.int .i64 0)).set g (.int .i64 n) = ints (stepL g n) := by
  refine List.ext_getElem? fun i => ?_
  rw [List.getElem?_set]
  simp only [ints, stepL]
  by_cases h : g = i
  · subst h; simp
  · rw [if_neg h, List.getElem?_map]
    by_cases h2 : i < g
    · rw [List.getElem?_append_left (by simpa using h2)]; simp [List.getElem?_replicate, h2]; omega
    · rw [List.getElem?_eq_none (by simp; omega), List.getElem?_eq_none (by simp; omega)]; rfl

set_option maxRecDepth 100000 in
theorem tick_bad (a : Option Addr) (len cap : Nat) (l : List Int) (g : Int) (w : World) (h : Ints w a len cap l) (hr : (atE l g).2 ≠ 0) :
    Calls Try.prog 35 #[.slice a len cap, .int .i64 g] w (NoInts w (atE l g).2) := by
  have H := Lib.hid h; clear h
  have hne : ((atE l g).2 != 0) = true := by simpa using hr
  obtain ⟨r, hrr⟩ : ∃ r, r = atE l g := ⟨_, rfl⟩
  have HR := Lib.hid hrr
  rw [← hrr] at hne ⊢
  clear hr hrr
  obtain ⟨r1, r2⟩ := r
  simp only at hne ⊢
  go_enter Try.func35, Try.ntmps35
  go_wp2_with fail
  refine (at_any _ _ _ _ _ _ H.out).mono ?_
  rintro e w' ⟨rfl, rfl⟩
  rw [← HR.out]
  go_wp2_with fail
  go_ret2
  exact ⟨rfl, rfl⟩

set_option maxRecDepth 100000 in
theorem tick_over (a : Option Addr) (len cap : Nat) (l : List Int) (g : Int) (w : World) (h : Ints w a len cap l) (hr : rightB l = true) (h0 : 0 ≤ g) (h1 : g < 16) (hm : en l g.toNat = 1099511627776) :
    Calls Try.prog 35 #[.slice a len cap, .int .i64 g] w (NoInts w 8) := by
  have HE := Lib.hid (atE_ok hr h0 h1)
  have HM := Lib.hid hm
  have H := Lib.hid h; clear h hr hm
  go_enter Try.func35, Try.ntmps35
  go_wp2_with fail
  refine (at_any _ _ _ _ _ _ H.out).mono ?_
  rintro e w' ⟨rfl, rfl⟩
  rw [HE.out, HM.out]
  go_wp2_with fail
  go_ret2
  exact ⟨rfl, rfl⟩

set_option maxRecDepth 100000 in
theorem tick_ok (a : Option Addr) (len cap : Nat) (l : List Int) (g : Nat) (w : World) (h : Ints w a len cap l) (hr : rightB l = true) (h1 : g < 16) (hm : en l g < 1099511627776) :
    Calls Try.prog 35 #[.slice a len cap, .int .i64 g] w (GotIntsErr w (grownL [l, stepL g (en l g + 1)])) := by
  obtain ⟨i0, hi, hz0, hz1, hz2⟩ := info_parts Try.info3
  have HE := Lib.hid (atE_ok (g := g) hr (by omega) (by omega))
  have hn := right_en hr g
  have hs := right_len hr
  rw [h.len_eq] at hs
  have H := Lib.hid h; clear h hr
  obtain ⟨n, hnn⟩ : ∃ n, n = en l g := ⟨_, rfl⟩
  rw [← hnn] at hm hn ⊢
  have HN := Lib.hid hnn; clear hnn
  obtain ⟨hn0, _⟩ := hn
  go_enter Try.func35, Try.ntmps35
  go_wp2_with fail
  refine (at_any _ _ _ _ _ _ H.out).mono ?_
  rintro e w' ⟨rfl, rfl⟩
  rw [HE.out, Int.toNat_natCast, ← HN.out]
  go_wp2_with (at_make; refine wpList_make_full _ rfl _ _ 22 rfl w.heap.size 3 i0 (.int .i64 0) 1 Try.underlying22 hi hz0 hz1 .i64 .i64 _ _ (g + 1) rfl rfl (by omega) (by omega) (by rw [hz2]; omega) (by unfold maxLen; omega) (Nat.le_refl _) ?_)
  intro w1 hown hgrow
  have hb1 := (Below.refl w.heap.size w).grown hgrow (Nat.le_refl _) (fun k hk => by cases hk)
  have hrow := row_of_own hown
  have hrow' : w1.heap[w.heap.size]? = some (.cells (List.replicate (g + 1) (Value.int .i64 0)).toArray 3 (0, 0)) := by rw [hrow]; simp [toList_madeCells_one]
  have hcell : w1.cell? ⟨w.heap.size, g, none⟩ = some (.int .i64 0) := by rw [cell_of_row w1 _ g _ 3 (0, 0) hrow']; simp
  have hfr : w1.frozen? ⟨w.heap.size, g, none⟩ = false := frozen_of_row w1 _ g _ 3 hrow'
  obtain ⟨w2, hw2⟩ : ∃ w2, w2 = w1.setCell ⟨w.heap.size, g, none⟩ (.int .i64 (n + 1)) := ⟨_, rfl⟩
  have hst : w2.heap[w.heap.size]? = some (.cells (ints (stepL g (n + 1))).toArray 3 (0, 0)) := by
    rw [hw2, heap_setCell_same w1 _ g _ 3 _ hrow', ← step_set, List.setIfInBounds_toArray]
  have hb2 : Below w.heap.size w w2 := by rw [hw2]; exact hb1.setCell (Nat.le_refl _) _
  have hi2 : Ints w2 (some ⟨w.heap.size, 0, none⟩) (g + 1) (g + 1) (stepL g (n + 1)) := Ints.of_row (e := 3) hst (step_len _ _) (by unfold maxLen; omega) (fun i => by
    rw [en_step]; split
    · exact ⟨by omega, by omega⟩
    · exact ⟨by omega, by omega⟩)
  have HI2 := Lib.hid hi2; have HB2 := Lib.hid hb2; have HW := Lib.hid hw2
  clear hown hgrow hrow hrow' hst hb1 hb2 hi2 hw2
  go_wp2_with fail
  have hR : RowsAt (w2.alloc (.cells #[.slice a len cap, .slice (some ⟨w.heap.size, 0, none⟩) (g + 1) (g + 1)] 22)) w1.heap.size 2 [l, stepL g (n + 1)] := by
    have := rows_two (H.out.below HB2.out) HI2.out (by omega) (by omega)
    rwa [show w2.heap.size = w1.heap.size by rw [HW.out]; simp] at this
  rw [HW.out] at hR
  refine (grown_any _ _ _ _ _ hR (by omega)).mono ?_
  rintro e w3 ⟨a3, n3, c3, rfl, hi3, hb3⟩
  rw [← HW.out] at hb3
  have hb' := HB2.out.trans (((below_alloc w2 _).trans (hb3.mono (by simp))).mono HB2.out.size)
  have HI := Lib.hid hi3; have HB := Lib.hid hb'; clear hi3 hb3 hb'
  go_wp2_with fail
  go_ret2
  exact ⟨a3, n3, c3, rfl, HI.out, HB.out⟩
end Go.Proofs.Ytjkbmenmpnidhaa
