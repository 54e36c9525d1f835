/- begin: the program. -/
import Derived.Test.YtjkbmenmpnidhaaC1
namespace Go.Proofs.Ytjkbmenmpnidhaa
open Go.RowKit
set_option linter.unusedSimpArgs false
set_option linter.unusedVariables false
def beginB (L : List Ev) (x : Ev) : Bool := decide (x.obj = 0 ∧ x.no = 0 ∧ ((x.g = 0 ∧ x.start = -1) ∨ (x.g ≠ 0 ∧ 0 ≤ x.start ∧ (evAt L x.start.toNat).kind = 1 ∧ (evAt L x.start.toNat).obj = x.g)))
set_option maxRecDepth 100000 in
set_option maxHeartbeats 8000000 in
theorem begin_any (J : Nat) (p : JPlace) (caps : List Int) (L : List Ev) (k : Nat) (x : Ev) (w : World) (h : Jd w J p caps L k) (hok : EvOk x) (hpl : 0 ≤ x.g ∧ x.g < 8 ∧ x.start < (k : Int)) : Calls Try.prog 57 #[.pointer (some ⟨J, 0, none⟩), evV x] w (BoolTo w (beginB L x)) := by
  have J_0 := Lib.hid (h.below (below_alloc w (.cells (evC x) 48)))
  have B_0 := Lib.hid (below_alloc w (.cells (evC x) 48))
  have K_0 := Lib.hid (Bx.new w (evC x) 48)
  clear h
  have HZ := Lib.hid (show beginB L x = decide (x.obj = 0 ∧ x.no = 0 ∧ ((x.g = 0 ∧ x.start = -1) ∨ (x.g ≠ 0 ∧ 0 ≤ x.start ∧ (evAt L x.start.toNat).kind = 1 ∧ (evAt L x.start.toNat).obj = x.g))) from rfl)
  unfold evC at B_0 K_0 J_0
  unfold evV evC
  obtain ⟨x0, x1, x2, x3, x4⟩ := x
  unfold EvOk I64 at hok
  dsimp only at B_0 K_0 J_0 hok HZ hpl
  dsimp only
  obtain ⟨hok0, hok1, hok2, hok3, hok4⟩ := hok
  obtain ⟨e0, he0⟩ : ∃ z, z = w.heap.size := ⟨_, rfl⟩
  obtain ⟨v0, hv0⟩ : ∃ z, z = w.alloc (.cells #[.int .i64 x0, .int .i64 x1, .int .i64 x2, .int .i64 x3, .int .i64 x4] 48) := ⟨_, rfl⟩
  rw [← hv0] at B_0 K_0 J_0
  rw [← he0] at K_0
  have HE0 := Lib.hid he0; have HV0 := Lib.hid hv0
  clear he0 hv0
  go_enter Try.func57, Try.ntmps57
  go_upto_region 1 with (fail)
  rw [← HV0.out, ← HE0.out]
  by_cases o0 : ¬ x2 = 0
  · obtain ⟨o0f1, o0f2⟩ := ne_facts o0
    have HZ2 := Lib.hid (HZ.out.trans (decide_eq_false (fun h => o0 h.1)))
    obtain ⟨z0, z1, z2, z3, z4⟩ := Bx.cells5 K_0.out
    go_wp2_with fail
    go_ret
    exact ⟨ret_bool HZ2.out.symm, B_0.out⟩
  · have o0 := Classical.not_not.1 o0
    obtain ⟨o0t1, o0t2⟩ := eq_facts o0
    by_cases n0 : ¬ x3 = 0
    · obtain ⟨n0f1, n0f2⟩ := ne_facts n0
      have HZ2 := Lib.hid (HZ.out.trans (decide_eq_false (fun h => n0 h.2.1)))
      obtain ⟨z0, z1, z2, z3, z4⟩ := Bx.cells5 K_0.out
      go_wp2_with fail
      go_ret
      exact ⟨ret_bool HZ2.out.symm, B_0.out⟩
    · have n0 := Classical.not_not.1 n0
      obtain ⟨n0t1, n0t2⟩ := eq_facts n0
      by_cases g0 : x0 = 0
      · obtain ⟨g0t1, g0t2⟩ := eq_facts g0
        subst o0 n0 g0
        by_cases s0 : x4 = -1
        · obtain ⟨s0t1, s0t2⟩ := eq_facts s0
          have HZ2 := Lib.hid (HZ.out.trans (decide_eq_true ⟨rfl, rfl, .inl ⟨rfl, s0⟩⟩))
          subst s0
          obtain ⟨z0, z1, z2, z3, z4⟩ := Bx.cells5 K_0.out
          go_wp2_with fail
          go_ret
          exact ⟨ret_bool HZ2.out.symm, B_0.out⟩
        · obtain ⟨s0f1, s0f2⟩ := ne_facts s0
          have HZ2 := Lib.hid (HZ.out.trans (decide_eq_false (fun h => h.2.2.elim (fun h => s0 h.2) (fun h => h.1 rfl))))
          obtain ⟨z0, z1, z2, z3, z4⟩ := Bx.cells5 K_0.out
          go_wp2_with fail
          go_ret
          exact ⟨ret_bool HZ2.out.symm, B_0.out⟩
      · obtain ⟨g0f1, g0f2⟩ := ne_facts g0
        subst o0 n0
        by_cases s0 : x4 < 0
        · skip
          have HZ2 := Lib.hid (HZ.out.trans (decide_eq_false (fun h => h.2.2.elim (fun h => g0 h.1) (fun h => by omega))))
          obtain ⟨z0, z1, z2, z3, z4⟩ := Bx.cells5 K_0.out
          go_upto_region 5 with (fail)
          have hfx0 : decide (0 ≤ x4) = false := by simp only [decide_eq_true_eq, decide_eq_false_iff_not]; omega
          refine wp_region_held_drew (S := (fun V => V.cell? ⟨e0, 0, none⟩ = some (.int .i64 x0) ∧ V.cell? ⟨e0, 1, none⟩ = some (.int .i64 x1) ∧ V.cell? ⟨e0, 2, none⟩ = some (.int .i64 0) ∧ V.cell? ⟨e0, 3, none⟩ = some (.int .i64 0) ∧ V.cell? ⟨e0, 4, none⟩ = some (.int .i64 x4))) (by kernel_rfl) ⟨z0, z1, z2, z3, z4⟩ (fun hHeld => ?_)
          (try simp only [Act.put, List.getElem_toArray, List.getElem_cons_zero, List.getElem_cons_succ, List.setIfInBounds_toArray, List.set_cons_zero, List.set_cons_succ])
          refine takes [0, 1, 2, 3, 4, 5, 6, 7, 8, 9, 10, 11, 12, 13, 14, 15, 16, 17, 18, 19, 20, 21, 22, 23, 24, 25, 26, 27, 28, 29] (by kernel_rfl) (fun _ _ _ _ _ h => h) (by assumption) ?_
          iterate 30 (first | (refine ally_cons (v := ?_) rfl (Or.inl ⟨?_, fun w hSw => ?_⟩) ?_; rotate_left; rfl; ((try dsimp only at hSw); go_simp; try with_reducible rfl); (try simp only [Act.put, List.getElem_toArray, List.getElem_cons_zero, List.getElem_cons_succ, List.setIfInBounds_toArray, List.set_cons_zero, List.set_cons_succ, hfx0])) | (refine ally_cons (v := undef) rfl (Or.inr ⟨?_, rfl⟩) ?_; kernel_rfl; (try simp only [Act.put, List.getElem_toArray, List.getElem_cons_zero, List.getElem_cons_succ, List.setIfInBounds_toArray, List.set_cons_zero, List.set_cons_succ, hfx0])))
          refine ally_nil ?_
          refine wpAnyH_done (by kernel_rfl) ?_ _
          clear hHeld
          go_wp2_with fail
          go_ret
          exact ⟨ret_bool HZ2.out.symm, (B_0.out).drew⟩
        · skip
          obtain ⟨s, rfl⟩ : ∃ s : Nat, x4 = (s : Int) := ⟨x4.toNat, by omega⟩
          rw [Int.toNat_natCast] at HZ
          have hsk : s < k := by omega
          have hsk' : (s : Int) < (k : Int) := by omega
          have HAC := Lib.hid (J_0.out.aheadCell)
          obtain ⟨ab, ao, _, hae, d0, d1, d2, d3, d4⟩ := J_0.out.ahead.at s hsk
          rw [evAt_take L k s hsk] at d0 d1 d2 d3 d4
          rw [hae] at HAC
          have hAC := HAC.out
          obtain ⟨y, hy⟩ : ∃ y, y = evAt L s := ⟨_, rfl⟩
          rw [← hy] at d0 d1 d2 d3 d4 HZ
          clear hy hae HAC
          obtain ⟨y0, y1, y2, y3, y4⟩ := y
          dsimp only at d0 d1 d2 d3 d4 HZ
          by_cases kk : ¬ y1 = 1
          · obtain ⟨kkf1, kkf2⟩ := ne_facts kk
            have HZ2 := Lib.hid (HZ.out.trans (decide_eq_false (fun h => h.2.2.elim (fun h => g0 h.1) (fun h => kk h.2.2.1))))
            obtain ⟨z0, z1, z2, z3, z4⟩ := Bx.cells5 K_0.out
            go_upto_region 5 with (fail)
            have hfx0 : (y1 == 1) = false := by assumption
            refine wp_region_held_drew (S := (fun V => V.cell? ⟨e0, 0, none⟩ = some (.int .i64 x0) ∧ V.cell? ⟨e0, 1, none⟩ = some (.int .i64 x1) ∧ V.cell? ⟨e0, 2, none⟩ = some (.int .i64 0) ∧ V.cell? ⟨e0, 3, none⟩ = some (.int .i64 0) ∧ V.cell? ⟨e0, 4, none⟩ = some (.int .i64 (s : Int)) ∧ V.cell? ⟨J, 1, none⟩ = some (.slice (some ⟨ab, ao, none⟩) k p.ac) ∧ V.cell? ⟨ab, ao + s * 5 + 1, none⟩ = some (.int .i64 y1) ∧ V.cell? ⟨ab, ao + s * 5 + 2, none⟩ = some (.int .i64 y2))) (by kernel_rfl) ⟨z0, z1, z2, z3, z4, hAC, d1, d2⟩ (fun hHeld => ?_)
            (try simp only [Act.put, List.getElem_toArray, List.getElem_cons_zero, List.getElem_cons_succ, List.setIfInBounds_toArray, List.set_cons_zero, List.set_cons_succ])
            refine takes [0, 1, 2, 3, 4, 5, 6, 7, 8, 9, 10, 11, 12, 13, 14, 15, 16, 17, 18, 19, 20, 21, 22, 23, 24, 25, 26, 27, 28, 29] (by kernel_rfl) (fun _ _ _ _ _ h => h) (by assumption) ?_
            iterate 30 (first | (refine ally_cons (v := ?_) rfl (Or.inl ⟨?_, fun w hSw => ?_⟩) ?_; rotate_left; rfl; ((try dsimp only at hSw); go_simp; try with_reducible rfl); (try simp only [Act.put, List.getElem_toArray, List.getElem_cons_zero, List.getElem_cons_succ, List.setIfInBounds_toArray, List.set_cons_zero, List.set_cons_succ, hfx0])) | (refine ally_cons (v := undef) rfl (Or.inr ⟨?_, rfl⟩) ?_; kernel_rfl; (try simp only [Act.put, List.getElem_toArray, List.getElem_cons_zero, List.getElem_cons_succ, List.setIfInBounds_toArray, List.set_cons_zero, List.set_cons_succ, hfx0])))
            refine ally_nil ?_
            refine wpAnyH_done (by kernel_rfl) ?_ _
            clear hHeld
            go_wp2_with fail
            go_ret
            exact ⟨ret_bool HZ2.out.symm, (B_0.out).drew⟩
          · have kk := Classical.not_not.1 kk
            obtain ⟨kkt1, kkt2⟩ := eq_facts kk
            by_cases oo : ¬ y2 = x0
            · obtain ⟨oof1, oof2⟩ := ne_facts oo
              have HZ2 := Lib.hid (HZ.out.trans (decide_eq_false (fun h => h.2.2.elim (fun h => g0 h.1) (fun h => oo h.2.2.2))))
              obtain ⟨z0, z1, z2, z3, z4⟩ := Bx.cells5 K_0.out
              go_upto_region 5 with (fail)
              have hfx0 : (y1 == 1) = true := by assumption
              have hfx1 : (y2 == x0) = false := by assumption
              refine wp_region_held_drew (S := (fun V => V.cell? ⟨e0, 0, none⟩ = some (.int .i64 x0) ∧ V.cell? ⟨e0, 1, none⟩ = some (.int .i64 x1) ∧ V.cell? ⟨e0, 2, none⟩ = some (.int .i64 0) ∧ V.cell? ⟨e0, 3, none⟩ = some (.int .i64 0) ∧ V.cell? ⟨e0, 4, none⟩ = some (.int .i64 (s : Int)) ∧ V.cell? ⟨J, 1, none⟩ = some (.slice (some ⟨ab, ao, none⟩) k p.ac) ∧ V.cell? ⟨ab, ao + s * 5 + 1, none⟩ = some (.int .i64 y1) ∧ V.cell? ⟨ab, ao + s * 5 + 2, none⟩ = some (.int .i64 y2))) (by kernel_rfl) ⟨z0, z1, z2, z3, z4, hAC, d1, d2⟩ (fun hHeld => ?_)
              (try simp only [Act.put, List.getElem_toArray, List.getElem_cons_zero, List.getElem_cons_succ, List.setIfInBounds_toArray, List.set_cons_zero, List.set_cons_succ])
              refine takes [0, 1, 2, 3, 4, 5, 6, 7, 8, 9, 10, 11, 12, 13, 14, 15, 16, 17, 18, 19, 20, 21, 22, 23, 24, 25, 26, 27, 28, 29] (by kernel_rfl) (fun _ _ _ _ _ h => h) (by assumption) ?_
              iterate 30 (refine ally_cons (v := ?_) rfl (Or.inl ⟨?_, fun w hSw => ?_⟩) ?_; rotate_left; rfl; ((try dsimp only at hSw); go_simp; try with_reducible rfl); (try simp only [Act.put, List.getElem_toArray, List.getElem_cons_zero, List.getElem_cons_succ, List.setIfInBounds_toArray, List.set_cons_zero, List.set_cons_succ, hfx0, hfx1]))
              refine ally_nil ?_
              refine wpAnyH_done (by kernel_rfl) ?_ _
              clear hHeld
              go_wp2_with fail
              go_ret
              exact ⟨ret_bool HZ2.out.symm, (B_0.out).drew⟩
            · have oo := Classical.not_not.1 oo
              obtain ⟨oot1, oot2⟩ := eq_facts oo
              have HZ2 := Lib.hid (HZ.out.trans (decide_eq_true ⟨rfl, rfl, .inr ⟨g0, by omega, kk, oo⟩⟩))
              obtain ⟨z0, z1, z2, z3, z4⟩ := Bx.cells5 K_0.out
              go_upto_region 5 with (fail)
              have hfx0 : (y1 == 1) = true := by assumption
              have hfx1 : (y2 == x0) = true := by assumption
              refine wp_region_held_drew (S := (fun V => V.cell? ⟨e0, 0, none⟩ = some (.int .i64 x0) ∧ V.cell? ⟨e0, 1, none⟩ = some (.int .i64 x1) ∧ V.cell? ⟨e0, 2, none⟩ = some (.int .i64 0) ∧ V.cell? ⟨e0, 3, none⟩ = some (.int .i64 0) ∧ V.cell? ⟨e0, 4, none⟩ = some (.int .i64 (s : Int)) ∧ V.cell? ⟨J, 1, none⟩ = some (.slice (some ⟨ab, ao, none⟩) k p.ac) ∧ V.cell? ⟨ab, ao + s * 5 + 1, none⟩ = some (.int .i64 y1) ∧ V.cell? ⟨ab, ao + s * 5 + 2, none⟩ = some (.int .i64 y2))) (by kernel_rfl) ⟨z0, z1, z2, z3, z4, hAC, d1, d2⟩ (fun hHeld => ?_)
              (try simp only [Act.put, List.getElem_toArray, List.getElem_cons_zero, List.getElem_cons_succ, List.setIfInBounds_toArray, List.set_cons_zero, List.set_cons_succ])
              refine takes [0, 1, 2, 3, 4, 5, 6, 7, 8, 9, 10, 11, 12, 13, 14, 15, 16, 17, 18, 19, 20, 21, 22, 23, 24, 25, 26, 27, 28, 29] (by kernel_rfl) (fun _ _ _ _ _ h => h) (by assumption) ?_
              iterate 30 (refine ally_cons (v := ?_) rfl (Or.inl ⟨?_, fun w hSw => ?_⟩) ?_; rotate_left; rfl; ((try dsimp only at hSw); go_simp; try with_reducible rfl); (try simp only [Act.put, List.getElem_toArray, List.getElem_cons_zero, List.getElem_cons_succ, List.setIfInBounds_toArray, List.set_cons_zero, List.set_cons_succ, hfx0, hfx1]))
              refine ally_nil ?_
              refine wpAnyH_done (by kernel_rfl) ?_ _
              clear hHeld
              go_wp2_with fail
              go_ret
              exact ⟨ret_bool HZ2.out.symm, (B_0.out).drew⟩
end Go.Proofs.Ytjkbmenmpnidhaa
