/- bare, ends, open: the program. -/
import Derived.Test.YtjkbmenmpnidhaaJ0
namespace Go.Proofs.Ytjkbmenmpnidhaa
open Go.RowKit
set_option linter.unusedSimpArgs false
set_option linter.unusedVariables false
set_option maxRecDepth 100000 in
set_option maxHeartbeats 8000000 in
theorem bare_any (x : Ev) (w : World) : Calls Try.prog 65 #[evV x] w (BoolTo w (decide (x.start = -1 ∧ x.no = 0))) := by
  have B0 := Lib.hid (below_alloc w (.cells (evC x) 48))
  unfold evC at B0
  unfold evV evC
  obtain ⟨x0, x1, x2, x3, x4⟩ := x
  dsimp only at B0 ⊢
  by_cases h1 : x4 = -1
  · obtain ⟨a1, a2⟩ := eq_facts h1
    by_cases h2 : x3 = 0
    · obtain ⟨b1, b2⟩ := eq_facts h2
      rw [decide_eq_true (show x4 = -1 ∧ x3 = 0 from ⟨h1, h2⟩)]
      subst h1
      subst h2
      go_enter Try.func65, Try.ntmps65
      go_wp2_with fail
      go_ret
      exact ⟨rfl, B0.out⟩
    · obtain ⟨b1, b2⟩ := ne_facts h2
      rw [decide_eq_false (show ¬ (x4 = -1 ∧ x3 = 0) from fun h => h2 h.2)]
      subst h1
      go_enter Try.func65, Try.ntmps65
      go_wp2_with fail
      go_ret
      exact ⟨rfl, B0.out⟩
  · obtain ⟨a1, a2⟩ := ne_facts h1
    rw [decide_eq_false (show ¬ (x4 = -1 ∧ x3 = 0) from fun h => h1 h.1)]
    go_enter Try.func65, Try.ntmps65
    go_wp2_with fail
    go_ret
    exact ⟨rfl, B0.out⟩
def endsB (L : List Ev) (k : Nat) (x : Ev) (kd : Int) : Bool := decide (0 ≤ x.start ∧ x.start = lastZ L x.g k ∧ (evAt L x.start.toNat).kind = kd ∧ (evAt L x.start.toNat).obj = x.obj)
set_option maxRecDepth 100000 in
set_option maxHeartbeats 8000000 in
theorem ends_any (J : Nat) (p : JPlace) (caps : List Int) (L : List Ev) (k : Nat) (x : Ev) (kd : Int) (w : World) (h : Jd w J p caps L k) (hok : EvOk x) (hpl : 0 ≤ x.g ∧ x.g < 8 ∧ x.start < (k : Int)) : Calls Try.prog 68 #[.pointer (some ⟨J, 0, none⟩), evV x, .int .i64 kd] w (BoolTo w (endsB L k x kd)) := by
  have J_0 := Lib.hid (h.below (below_alloc w (.cells (evC x) 48)))
  have B_0 := Lib.hid (below_alloc w (.cells (evC x) 48))
  have K_0 := Lib.hid (Bx.new w (evC x) 48)
  clear h
  have HZ := Lib.hid (show endsB L k x kd = decide (0 ≤ x.start ∧ x.start = lastZ L x.g k ∧ (evAt L x.start.toNat).kind = kd ∧ (evAt L x.start.toNat).obj = x.obj) from rfl)
  have hlz := lastZ_lt L x.g k
  unfold evC at B_0 K_0 J_0
  unfold evV evC
  obtain ⟨x0, x1, x2, x3, x4⟩ := x
  unfold EvOk I64 at hok
  dsimp only at B_0 K_0 J_0 hok HZ hlz hpl
  dsimp only
  obtain ⟨hok0, hok1, hok2, hok3, hok4⟩ := hok
  obtain ⟨e0, he0⟩ : ∃ z, z = w.heap.size := ⟨_, rfl⟩
  obtain ⟨v0, hv0⟩ : ∃ z, z = w.alloc (.cells #[.int .i64 x0, .int .i64 x1, .int .i64 x2, .int .i64 x3, .int .i64 x4] 48) := ⟨_, rfl⟩
  rw [← hv0] at B_0 K_0 J_0
  rw [← he0] at K_0
  have HE0 := Lib.hid he0; have HV0 := Lib.hid hv0
  clear he0 hv0
  go_enter Try.func68, Try.ntmps68
  go_upto_region 1 with (fail)
  rw [← HV0.out, ← HE0.out]
  obtain ⟨gg, rfl⟩ : ∃ gg : Nat, x0 = (gg : Int) := ⟨x0.toNat, by omega⟩
  have hg8 : gg < 8 := by omega
  have hLC := J_0.out.lastCell gg hg8
  have hg8' : (gg : Int) < 8 := by omega
  have hg0' : (0 : Int) ≤ (gg : Int) := by omega
  obtain ⟨lz, hlzz⟩ : ∃ z, z = lastZ L (gg : Int) k := ⟨_, rfl⟩
  rw [← hlzz] at hLC HZ hlz
  clear hlzz hpl
  by_cases s0 : x4 < 0
  · skip
    have HZ2 := Lib.hid (HZ.out.trans (decide_eq_false (fun h => by omega)))
    obtain ⟨z0, z1, z2, z3, z4⟩ := Bx.cells5 K_0.out
    have hfx0 : decide (0 ≤ x4) = false := by simp only [decide_eq_true_eq, decide_eq_false_iff_not]; omega
    refine wp_region_held_drew (S := (fun V => V.cell? ⟨e0, 0, none⟩ = some (.int .i64 (gg : Int)) ∧ V.cell? ⟨e0, 1, none⟩ = some (.int .i64 x1) ∧ V.cell? ⟨e0, 2, none⟩ = some (.int .i64 x2) ∧ V.cell? ⟨e0, 3, none⟩ = some (.int .i64 x3) ∧ V.cell? ⟨e0, 4, none⟩ = some (.int .i64 x4))) (by kernel_rfl) ⟨z0, z1, z2, z3, z4⟩ (fun hHeld => ?_)
    (try simp only [Act.put, List.getElem_toArray, List.getElem_cons_zero, List.getElem_cons_succ, List.setIfInBounds_toArray, List.set_cons_zero, List.set_cons_succ])
    refine takes [0, 1, 2, 3, 4, 5, 6, 7, 8, 9, 10, 11, 12, 13, 14, 15, 16, 17, 18, 19, 20, 21, 22, 23, 24, 25, 26, 27, 28, 29, 30, 31, 32, 33, 34, 35, 36, 37, 38, 39, 40, 41, 42] (by kernel_rfl) (fun _ _ _ _ _ h => h) (by assumption) ?_
    iterate 43 (first | (refine ally_cons (v := ?_) rfl (Or.inl ⟨?_, fun w hSw => ?_⟩) ?_; rotate_left; rfl; ((try dsimp only at hSw); go_simp; try with_reducible rfl); (try simp only [Act.put, List.getElem_toArray, List.getElem_cons_zero, List.getElem_cons_succ, List.setIfInBounds_toArray, List.set_cons_zero, List.set_cons_succ, hfx0])) | (refine ally_cons (v := undef) rfl (Or.inr ⟨?_, rfl⟩) ?_; kernel_rfl; (try simp only [Act.put, List.getElem_toArray, List.getElem_cons_zero, List.getElem_cons_succ, List.setIfInBounds_toArray, List.set_cons_zero, List.set_cons_succ, hfx0])))
    refine ally_nil ?_
    refine wpAnyH_done (by kernel_rfl) ?_ _
    clear hHeld
    go_wp2_with fail
    go_ret
    exact ⟨ret_bool HZ2.out.symm, (B_0.out).drew⟩
  · skip
    by_cases sl : ¬ x4 = lz
    · obtain ⟨slf1, slf2⟩ := ne_facts sl
      obtain ⟨s, rfl⟩ : ∃ s : Nat, x4 = (s : Int) := ⟨x4.toNat, by omega⟩
      rw [Int.toNat_natCast] at HZ
      have HZ2 := Lib.hid (HZ.out.trans (decide_eq_false (fun h => sl h.2.1)))
      obtain ⟨z0, z1, z2, z3, z4⟩ := Bx.cells5 K_0.out
      have hfx0 : ((s : Int) == lz) = false := by assumption
      refine wp_region_held_drew (S := (fun V => V.cell? ⟨e0, 0, none⟩ = some (.int .i64 (gg : Int)) ∧ V.cell? ⟨e0, 1, none⟩ = some (.int .i64 x1) ∧ V.cell? ⟨e0, 2, none⟩ = some (.int .i64 x2) ∧ V.cell? ⟨e0, 3, none⟩ = some (.int .i64 x3) ∧ V.cell? ⟨e0, 4, none⟩ = some (.int .i64 (s : Int)) ∧ V.cell? ⟨J, 2 + gg, none⟩ = some (.int .i64 lz))) (by kernel_rfl) ⟨z0, z1, z2, z3, z4, hLC⟩ (fun hHeld => ?_)
      (try simp only [Act.put, List.getElem_toArray, List.getElem_cons_zero, List.getElem_cons_succ, List.setIfInBounds_toArray, List.set_cons_zero, List.set_cons_succ])
      refine takes [0, 1, 2, 3, 4, 5, 6, 7, 8, 9, 10, 11, 12, 13, 14, 15, 16, 17, 18, 19, 20, 21, 22, 23, 24, 25, 26, 27, 28, 29, 30, 31, 32, 33, 34, 35, 36, 37, 38, 39, 40, 41, 42] (by kernel_rfl) (fun _ _ _ _ _ h => h) (by assumption) ?_
      iterate 43 (first | (refine ally_cons (v := ?_) rfl (Or.inl ⟨?_, fun w hSw => ?_⟩) ?_; rotate_left; rfl; ((try dsimp only at hSw); go_simp; try with_reducible rfl); (try simp only [Act.put, List.getElem_toArray, List.getElem_cons_zero, List.getElem_cons_succ, List.setIfInBounds_toArray, List.set_cons_zero, List.set_cons_succ, hfx0])) | (refine ally_cons (v := undef) rfl (Or.inr ⟨?_, rfl⟩) ?_; kernel_rfl; (try simp only [Act.put, List.getElem_toArray, List.getElem_cons_zero, List.getElem_cons_succ, List.setIfInBounds_toArray, List.set_cons_zero, List.set_cons_succ, hfx0])))
      refine ally_nil ?_
      refine wpAnyH_done (by kernel_rfl) ?_ _
      clear hHeld
      go_wp2_with fail
      go_ret
      exact ⟨ret_bool HZ2.out.symm, (B_0.out).drew⟩
    · have sl := Classical.not_not.1 sl
      obtain ⟨slt1, slt2⟩ := eq_facts sl
      obtain ⟨s, rfl⟩ : ∃ s : Nat, x4 = (s : Int) := ⟨x4.toNat, by omega⟩
      rw [Int.toNat_natCast] at HZ
      have hsk : s < k := by omega
      have hsk' : (s : Int) < (k : Int) := by omega
      have HAC := Lib.hid (J_0.out.aheadCell)
      obtain ⟨ab, ao, _, hae, d0, d1, d2, d3, d4⟩ := J_0.out.ahead.at s hsk
      rw [evAt_take L k s hsk] at d0 d1 d2 d3 d4
      rw [hae] at HAC
      have hAC := HAC.out
      obtain ⟨y, hy⟩ : ∃ y, y = evAt L s := ⟨_, rfl⟩
      rw [← hy] at d0 d1 d2 d3 d4 HZ
      clear hy hae HAC
      obtain ⟨y0, y1, y2, y3, y4⟩ := y
      dsimp only at d0 d1 d2 d3 d4 HZ
      subst sl
      by_cases kk : ¬ y1 = kd
      · obtain ⟨kkf1, kkf2⟩ := ne_facts kk
        have HZ2 := Lib.hid (HZ.out.trans (decide_eq_false (fun h => kk h.2.2.1)))
        obtain ⟨z0, z1, z2, z3, z4⟩ := Bx.cells5 K_0.out
        have hfx0 : (y1 == kd) = false := by assumption
        refine wp_region_held_drew (S := (fun V => V.cell? ⟨e0, 0, none⟩ = some (.int .i64 (gg : Int)) ∧ V.cell? ⟨e0, 1, none⟩ = some (.int .i64 x1) ∧ V.cell? ⟨e0, 2, none⟩ = some (.int .i64 x2) ∧ V.cell? ⟨e0, 3, none⟩ = some (.int .i64 x3) ∧ V.cell? ⟨e0, 4, none⟩ = some (.int .i64 (s : Int)) ∧ V.cell? ⟨J, 2 + gg, none⟩ = some (.int .i64 (s : Int)) ∧ V.cell? ⟨J, 1, none⟩ = some (.slice (some ⟨ab, ao, none⟩) k p.ac) ∧ V.cell? ⟨ab, ao + s * 5 + 1, none⟩ = some (.int .i64 y1) ∧ V.cell? ⟨ab, ao + s * 5 + 2, none⟩ = some (.int .i64 y2))) (by kernel_rfl) ⟨z0, z1, z2, z3, z4, hLC, hAC, d1, d2⟩ (fun hHeld => ?_)
        (try simp only [Act.put, List.getElem_toArray, List.getElem_cons_zero, List.getElem_cons_succ, List.setIfInBounds_toArray, List.set_cons_zero, List.set_cons_succ])
        refine takes [0, 1, 2, 3, 4, 5, 6, 7, 8, 9, 10, 11, 12, 13, 14, 15, 16, 17, 18, 19, 20, 21, 22, 23, 24, 25, 26, 27, 28, 29, 30, 31, 32, 33, 34, 35, 36, 37, 38, 39, 40, 41, 42] (by kernel_rfl) (fun _ _ _ _ _ h => h) (by assumption) ?_
        iterate 43 (first | (refine ally_cons (v := ?_) rfl (Or.inl ⟨?_, fun w hSw => ?_⟩) ?_; rotate_left; rfl; ((try dsimp only at hSw); go_simp; try with_reducible rfl); (try simp only [Act.put, List.getElem_toArray, List.getElem_cons_zero, List.getElem_cons_succ, List.setIfInBounds_toArray, List.set_cons_zero, List.set_cons_succ, hfx0])) | (refine ally_cons (v := undef) rfl (Or.inr ⟨?_, rfl⟩) ?_; kernel_rfl; (try simp only [Act.put, List.getElem_toArray, List.getElem_cons_zero, List.getElem_cons_succ, List.setIfInBounds_toArray, List.set_cons_zero, List.set_cons_succ, hfx0])))
        refine ally_nil ?_
        refine wpAnyH_done (by kernel_rfl) ?_ _
        clear hHeld
        go_wp2_with fail
        go_ret
        exact ⟨ret_bool HZ2.out.symm, (B_0.out).drew⟩
      · have kk := Classical.not_not.1 kk
        obtain ⟨kkt1, kkt2⟩ := eq_facts kk
        by_cases oo : ¬ y2 = x2
        · obtain ⟨oof1, oof2⟩ := ne_facts oo
          have HZ2 := Lib.hid (HZ.out.trans (decide_eq_false (fun h => oo h.2.2.2)))
          obtain ⟨z0, z1, z2, z3, z4⟩ := Bx.cells5 K_0.out
          have hfx0 : (y1 == kd) = true := by assumption
          have hfx1 : (y2 == x2) = false := by assumption
          refine wp_region_held_drew (S := (fun V => V.cell? ⟨e0, 0, none⟩ = some (.int .i64 (gg : Int)) ∧ V.cell? ⟨e0, 1, none⟩ = some (.int .i64 x1) ∧ V.cell? ⟨e0, 2, none⟩ = some (.int .i64 x2) ∧ V.cell? ⟨e0, 3, none⟩ = some (.int .i64 x3) ∧ V.cell? ⟨e0, 4, none⟩ = some (.int .i64 (s : Int)) ∧ V.cell? ⟨J, 2 + gg, none⟩ = some (.int .i64 (s : Int)) ∧ V.cell? ⟨J, 1, none⟩ = some (.slice (some ⟨ab, ao, none⟩) k p.ac) ∧ V.cell? ⟨ab, ao + s * 5 + 1, none⟩ = some (.int .i64 y1) ∧ V.cell? ⟨ab, ao + s * 5 + 2, none⟩ = some (.int .i64 y2))) (by kernel_rfl) ⟨z0, z1, z2, z3, z4, hLC, hAC, d1, d2⟩ (fun hHeld => ?_)
          (try simp only [Act.put, List.getElem_toArray, List.getElem_cons_zero, List.getElem_cons_succ, List.setIfInBounds_toArray, List.set_cons_zero, List.set_cons_succ])
          refine takes [0, 1, 2, 3, 4, 5, 6, 7, 8, 9, 10, 11, 12, 13, 14, 15, 16, 17, 18, 19, 20, 21, 22, 23, 24, 25, 26, 27, 28, 29, 30, 31, 32, 33, 34, 35, 36, 37, 38, 39, 40, 41, 42] (by kernel_rfl) (fun _ _ _ _ _ h => h) (by assumption) ?_
          iterate 43 (refine ally_cons (v := ?_) rfl (Or.inl ⟨?_, fun w hSw => ?_⟩) ?_; rotate_left; rfl; ((try dsimp only at hSw); go_simp; try with_reducible rfl); (try simp only [Act.put, List.getElem_toArray, List.getElem_cons_zero, List.getElem_cons_succ, List.setIfInBounds_toArray, List.set_cons_zero, List.set_cons_succ, hfx0, hfx1]))
          refine ally_nil ?_
          refine wpAnyH_done (by kernel_rfl) ?_ _
          clear hHeld
          go_wp2_with fail
          go_ret
          exact ⟨ret_bool HZ2.out.symm, (B_0.out).drew⟩
        · have oo := Classical.not_not.1 oo
          obtain ⟨oot1, oot2⟩ := eq_facts oo
          have HZ2 := Lib.hid (HZ.out.trans (decide_eq_true ⟨by omega, rfl, kk, oo⟩))
          obtain ⟨z0, z1, z2, z3, z4⟩ := Bx.cells5 K_0.out
          have hfx0 : (y1 == kd) = true := by assumption
          have hfx1 : (y2 == x2) = true := by assumption
          refine wp_region_held_drew (S := (fun V => V.cell? ⟨e0, 0, none⟩ = some (.int .i64 (gg : Int)) ∧ V.cell? ⟨e0, 1, none⟩ = some (.int .i64 x1) ∧ V.cell? ⟨e0, 2, none⟩ = some (.int .i64 x2) ∧ V.cell? ⟨e0, 3, none⟩ = some (.int .i64 x3) ∧ V.cell? ⟨e0, 4, none⟩ = some (.int .i64 (s : Int)) ∧ V.cell? ⟨J, 2 + gg, none⟩ = some (.int .i64 (s : Int)) ∧ V.cell? ⟨J, 1, none⟩ = some (.slice (some ⟨ab, ao, none⟩) k p.ac) ∧ V.cell? ⟨ab, ao + s * 5 + 1, none⟩ = some (.int .i64 y1) ∧ V.cell? ⟨ab, ao + s * 5 + 2, none⟩ = some (.int .i64 y2))) (by kernel_rfl) ⟨z0, z1, z2, z3, z4, hLC, hAC, d1, d2⟩ (fun hHeld => ?_)
          (try simp only [Act.put, List.getElem_toArray, List.getElem_cons_zero, List.getElem_cons_succ, List.setIfInBounds_toArray, List.set_cons_zero, List.set_cons_succ])
          refine takes [0, 1, 2, 3, 4, 5, 6, 7, 8, 9, 10, 11, 12, 13, 14, 15, 16, 17, 18, 19, 20, 21, 22, 23, 24, 25, 26, 27, 28, 29, 30, 31, 32, 33, 34, 35, 36, 37, 38, 39, 40, 41, 42] (by kernel_rfl) (fun _ _ _ _ _ h => h) (by assumption) ?_
          iterate 43 (refine ally_cons (v := ?_) rfl (Or.inl ⟨?_, fun w hSw => ?_⟩) ?_; rotate_left; rfl; ((try dsimp only at hSw); go_simp; try with_reducible rfl); (try simp only [Act.put, List.getElem_toArray, List.getElem_cons_zero, List.getElem_cons_succ, List.setIfInBounds_toArray, List.set_cons_zero, List.set_cons_succ, hfx0, hfx1]))
          refine ally_nil ?_
          refine wpAnyH_done (by kernel_rfl) ?_ _
          clear hHeld
          go_wp2_with fail
          go_ret
          exact ⟨ret_bool HZ2.out.symm, (B_0.out).drew⟩
end Go.Proofs.Ytjkbmenmpnidhaa
