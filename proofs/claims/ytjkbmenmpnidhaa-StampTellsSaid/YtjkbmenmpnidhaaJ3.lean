/- placed, and what is asked of an event: the program. -/
import Derived.Test.YtjkbmenmpnidhaaJ2
namespace Go.Proofs.Ytjkbmenmpnidhaa
open Go.RowKit
set_option linter.unusedSimpArgs false
set_option linter.unusedVariables false
def placedB (L : List Ev) (k : Nat) (x : Ev) : Bool := decide (0 ≤ x.g ∧ x.g < 8 ∧ 0 ≤ x.no ∧ -1 ≤ x.start ∧ x.start < (k : Int) ∧ (x.kind = 0 ↔ lastZ L x.g k = -1))
def bareB (x : Ev) : Bool := decide (x.start = -1 ∧ x.no = 0)
def inB (x : Ev) (m : Int) : Bool := decide (0 ≤ x.obj ∧ x.obj < m)
set_option maxRecDepth 100000 in
set_option maxHeartbeats 8000000 in
theorem placed_any (J : Nat) (p : JPlace) (caps : List Int) (L : List Ev) (k : Nat) (x : Ev) (w : World) (h : Jd w J p caps L k) (hok : EvOk x) : Calls Try.prog 41 #[.pointer (some ⟨J, 0, none⟩), evV x] w (BoolTo w (placedB L k x)) := by
  have J_0 := Lib.hid (h.below (below_alloc w (.cells (evC x) 48)))
  have B_0 := Lib.hid (below_alloc w (.cells (evC x) 48))
  have K_0 := Lib.hid (Bx.new w (evC x) 48)
  clear h
  have HZ := Lib.hid (show placedB L k x = decide (0 ≤ x.g ∧ x.g < 8 ∧ 0 ≤ x.no ∧ -1 ≤ x.start ∧ x.start < (k : Int) ∧ (x.kind = 0 ↔ lastZ L x.g k = -1)) from rfl)
  have hlz := lastZ_lt L x.g k
  unfold evC at B_0 K_0 J_0
  unfold evV evC
  obtain ⟨x0, x1, x2, x3, x4⟩ := x
  unfold EvOk I64 at hok
  dsimp only at B_0 K_0 J_0 hok HZ hlz
  dsimp only
  obtain ⟨hok0, hok1, hok2, hok3, hok4⟩ := hok
  obtain ⟨e0, he0⟩ : ∃ z, z = w.heap.size := ⟨_, rfl⟩
  obtain ⟨v0, hv0⟩ : ∃ z, z = w.alloc (.cells #[.int .i64 x0, .int .i64 x1, .int .i64 x2, .int .i64 x3, .int .i64 x4] 48) := ⟨_, rfl⟩
  rw [← hv0] at B_0 K_0 J_0
  rw [← he0] at K_0
  have HE0 := Lib.hid he0; have HV0 := Lib.hid hv0
  clear he0 hv0
  go_enter Try.func41, Try.ntmps41
  go_upto_region 1 with (fail)
  rw [← HV0.out, ← HE0.out]
  by_cases g0 : x0 < 0
  · skip
    have HC := Lib.hid (fun W => below_no x0 8 W (by omega))
    have HZ2 := Lib.hid (HZ.out.trans (decide_eq_false (by omega)))
    have hac := J_0.out.aheadCell
    obtain ⟨z0, z1, z2, z3, z4⟩ := Bx.cells5 K_0.out
    refine wp_region_held_drew (S := (fun V => V.cell? ⟨e0, 0, none⟩ = some (.int .i64 x0) ∧ V.cell? ⟨e0, 1, none⟩ = some (.int .i64 x1) ∧ V.cell? ⟨e0, 2, none⟩ = some (.int .i64 x2) ∧ V.cell? ⟨e0, 3, none⟩ = some (.int .i64 x3) ∧ V.cell? ⟨e0, 4, none⟩ = some (.int .i64 x4) ∧ V.cell? ⟨J, 1, none⟩ = some (.slice p.aa k p.ac))) (by kernel_rfl) ⟨z0, z1, z2, z3, z4, hac⟩ (fun hHeld => ?_)
    (try simp only [Act.put, List.getElem_toArray, List.getElem_cons_zero, List.getElem_cons_succ, List.setIfInBounds_toArray, List.set_cons_zero, List.set_cons_succ])
    refine takes [0, 1] (by kernel_rfl) (fun _ _ _ _ _ h => h) (by assumption) ?_
    iterate 2 (refine ally_cons (v := ?_) rfl (Or.inl ⟨?_, fun w hSw => ?_⟩) ?_; rotate_left; rfl; ((try dsimp only at hSw); go_simp; try with_reducible rfl); (try simp only [Act.put, List.getElem_toArray, List.getElem_cons_zero, List.getElem_cons_succ, List.setIfInBounds_toArray, List.set_cons_zero, List.set_cons_succ]))
    refine ally_nil ?_
    refine wpAnyH_ready (rs := [2]) (by kernel_rfl) (by simp) ?_
    refine AllReadyH.cons (o := _) rfl (fun K hK => ?_) AllReadyH.nil
    go_simp
    refine (HC.out _).mono ?_
    rintro e q1 ⟨rfl, rfl⟩
    clear hHeld
    refine hK.out _ _ ⟨z0, z1, z2, z3, z4, hac⟩ (fun hHeld => ?_)
    clear hK K
    (try simp only [Act.put, List.getElem_toArray, List.getElem_cons_zero, List.getElem_cons_succ, List.setIfInBounds_toArray, List.set_cons_zero, List.set_cons_succ])
    refine takes [3, 4, 5, 6, 7, 8, 9, 10, 11, 12, 13, 14, 15, 16, 17, 18, 19, 20, 21, 22, 23] (by kernel_rfl) (fun _ _ _ _ _ h => h) (by assumption) ?_
    iterate 21 (first | (refine ally_cons (v := ?_) rfl (Or.inl ⟨?_, fun w hSw => ?_⟩) ?_; rotate_left; rfl; ((try dsimp only at hSw); go_simp; try with_reducible rfl); (try simp only [Act.put, List.getElem_toArray, List.getElem_cons_zero, List.getElem_cons_succ, List.setIfInBounds_toArray, List.set_cons_zero, List.set_cons_succ])) | (refine ally_cons (v := undef) rfl (Or.inr ⟨?_, rfl⟩) ?_; kernel_rfl; (try simp only [Act.put, List.getElem_toArray, List.getElem_cons_zero, List.getElem_cons_succ, List.setIfInBounds_toArray, List.set_cons_zero, List.set_cons_succ])))
    refine ally_nil ?_
    refine wpAnyH_done (by kernel_rfl) ?_ _
    clear hHeld
    go_wp2_with fail
    go_ret
    exact ⟨ret_bool HZ2.out.symm, (B_0.out).drew⟩
  · skip
    by_cases g1 : 8 ≤ x0
    · skip
      have HC := Lib.hid (fun W => below_no x0 8 W (by omega))
      have HZ2 := Lib.hid (HZ.out.trans (decide_eq_false (by omega)))
      have hac := J_0.out.aheadCell
      obtain ⟨z0, z1, z2, z3, z4⟩ := Bx.cells5 K_0.out
      refine wp_region_held_drew (S := (fun V => V.cell? ⟨e0, 0, none⟩ = some (.int .i64 x0) ∧ V.cell? ⟨e0, 1, none⟩ = some (.int .i64 x1) ∧ V.cell? ⟨e0, 2, none⟩ = some (.int .i64 x2) ∧ V.cell? ⟨e0, 3, none⟩ = some (.int .i64 x3) ∧ V.cell? ⟨e0, 4, none⟩ = some (.int .i64 x4) ∧ V.cell? ⟨J, 1, none⟩ = some (.slice p.aa k p.ac))) (by kernel_rfl) ⟨z0, z1, z2, z3, z4, hac⟩ (fun hHeld => ?_)
      (try simp only [Act.put, List.getElem_toArray, List.getElem_cons_zero, List.getElem_cons_succ, List.setIfInBounds_toArray, List.set_cons_zero, List.set_cons_succ])
      refine takes [0, 1] (by kernel_rfl) (fun _ _ _ _ _ h => h) (by assumption) ?_
      iterate 2 (refine ally_cons (v := ?_) rfl (Or.inl ⟨?_, fun w hSw => ?_⟩) ?_; rotate_left; rfl; ((try dsimp only at hSw); go_simp; try with_reducible rfl); (try simp only [Act.put, List.getElem_toArray, List.getElem_cons_zero, List.getElem_cons_succ, List.setIfInBounds_toArray, List.set_cons_zero, List.set_cons_succ]))
      refine ally_nil ?_
      refine wpAnyH_ready (rs := [2]) (by kernel_rfl) (by simp) ?_
      refine AllReadyH.cons (o := _) rfl (fun K hK => ?_) AllReadyH.nil
      go_simp
      refine (HC.out _).mono ?_
      rintro e q1 ⟨rfl, rfl⟩
      clear hHeld
      refine hK.out _ _ ⟨z0, z1, z2, z3, z4, hac⟩ (fun hHeld => ?_)
      clear hK K
      (try simp only [Act.put, List.getElem_toArray, List.getElem_cons_zero, List.getElem_cons_succ, List.setIfInBounds_toArray, List.set_cons_zero, List.set_cons_succ])
      refine takes [3, 4, 5, 6, 7, 8, 9, 10, 11, 12, 13, 14, 15, 16, 17, 18, 19, 20, 21, 22, 23] (by kernel_rfl) (fun _ _ _ _ _ h => h) (by assumption) ?_
      iterate 21 (first | (refine ally_cons (v := ?_) rfl (Or.inl ⟨?_, fun w hSw => ?_⟩) ?_; rotate_left; rfl; ((try dsimp only at hSw); go_simp; try with_reducible rfl); (try simp only [Act.put, List.getElem_toArray, List.getElem_cons_zero, List.getElem_cons_succ, List.setIfInBounds_toArray, List.set_cons_zero, List.set_cons_succ])) | (refine ally_cons (v := undef) rfl (Or.inr ⟨?_, rfl⟩) ?_; kernel_rfl; (try simp only [Act.put, List.getElem_toArray, List.getElem_cons_zero, List.getElem_cons_succ, List.setIfInBounds_toArray, List.set_cons_zero, List.set_cons_succ])))
      refine ally_nil ?_
      refine wpAnyH_done (by kernel_rfl) ?_ _
      clear hHeld
      go_wp2_with fail
      go_ret
      exact ⟨ret_bool HZ2.out.symm, (B_0.out).drew⟩
    · skip
      by_cases n0 : x3 < 0
      · skip
        have HC := Lib.hid (fun W => below_yes x0 8 W (by omega) (by omega))
        have HZ2 := Lib.hid (HZ.out.trans (decide_eq_false (by omega)))
        have hac := J_0.out.aheadCell
        obtain ⟨z0, z1, z2, z3, z4⟩ := Bx.cells5 K_0.out
        have hfx0 : decide (x3 < 0) = true := by simp only [decide_eq_true_eq, decide_eq_false_iff_not]; omega
        refine wp_region_held_drew (S := (fun V => V.cell? ⟨e0, 0, none⟩ = some (.int .i64 x0) ∧ V.cell? ⟨e0, 1, none⟩ = some (.int .i64 x1) ∧ V.cell? ⟨e0, 2, none⟩ = some (.int .i64 x2) ∧ V.cell? ⟨e0, 3, none⟩ = some (.int .i64 x3) ∧ V.cell? ⟨e0, 4, none⟩ = some (.int .i64 x4) ∧ V.cell? ⟨J, 1, none⟩ = some (.slice p.aa k p.ac))) (by kernel_rfl) ⟨z0, z1, z2, z3, z4, hac⟩ (fun hHeld => ?_)
        (try simp only [Act.put, List.getElem_toArray, List.getElem_cons_zero, List.getElem_cons_succ, List.setIfInBounds_toArray, List.set_cons_zero, List.set_cons_succ])
        refine takes [0, 1] (by kernel_rfl) (fun _ _ _ _ _ h => h) (by assumption) ?_
        iterate 2 (refine ally_cons (v := ?_) rfl (Or.inl ⟨?_, fun w hSw => ?_⟩) ?_; rotate_left; rfl; ((try dsimp only at hSw); go_simp; try with_reducible rfl); (try simp only [Act.put, List.getElem_toArray, List.getElem_cons_zero, List.getElem_cons_succ, List.setIfInBounds_toArray, List.set_cons_zero, List.set_cons_succ]))
        refine ally_nil ?_
        refine wpAnyH_ready (rs := [2]) (by kernel_rfl) (by simp) ?_
        refine AllReadyH.cons (o := _) rfl (fun K hK => ?_) AllReadyH.nil
        go_simp
        refine (HC.out _).mono ?_
        rintro e q1 ⟨rfl, rfl⟩
        clear hHeld
        refine hK.out _ _ ⟨z0, z1, z2, z3, z4, hac⟩ (fun hHeld => ?_)
        clear hK K
        (try simp only [Act.put, List.getElem_toArray, List.getElem_cons_zero, List.getElem_cons_succ, List.setIfInBounds_toArray, List.set_cons_zero, List.set_cons_succ])
        refine takes [3, 4, 5, 6, 7, 8, 9, 10, 11, 12, 13, 14, 15, 16, 17, 18, 19, 20, 21, 22, 23] (by kernel_rfl) (fun _ _ _ _ _ h => h) (by assumption) ?_
        iterate 21 (first | (refine ally_cons (v := ?_) rfl (Or.inl ⟨?_, fun w hSw => ?_⟩) ?_; rotate_left; rfl; ((try dsimp only at hSw); go_simp; try with_reducible rfl); (try simp only [Act.put, List.getElem_toArray, List.getElem_cons_zero, List.getElem_cons_succ, List.setIfInBounds_toArray, List.set_cons_zero, List.set_cons_succ, hfx0])) | (refine ally_cons (v := undef) rfl (Or.inr ⟨?_, rfl⟩) ?_; kernel_rfl; (try simp only [Act.put, List.getElem_toArray, List.getElem_cons_zero, List.getElem_cons_succ, List.setIfInBounds_toArray, List.set_cons_zero, List.set_cons_succ, hfx0])))
        refine ally_nil ?_
        refine wpAnyH_done (by kernel_rfl) ?_ _
        clear hHeld
        go_wp2_with fail
        go_ret
        exact ⟨ret_bool HZ2.out.symm, (B_0.out).drew⟩
      · skip
        by_cases s0 : x4 < -1
        · skip
          have HC := Lib.hid (fun W => below_yes x0 8 W (by omega) (by omega))
          have HZ2 := Lib.hid (HZ.out.trans (decide_eq_false (by omega)))
          have hac := J_0.out.aheadCell
          obtain ⟨z0, z1, z2, z3, z4⟩ := Bx.cells5 K_0.out
          have hfx0 : decide (x3 < 0) = false := by simp only [decide_eq_true_eq, decide_eq_false_iff_not]; omega
          have hfx1 : decide (x4 < -1) = true := by simp only [decide_eq_true_eq, decide_eq_false_iff_not]; omega
          refine wp_region_held_drew (S := (fun V => V.cell? ⟨e0, 0, none⟩ = some (.int .i64 x0) ∧ V.cell? ⟨e0, 1, none⟩ = some (.int .i64 x1) ∧ V.cell? ⟨e0, 2, none⟩ = some (.int .i64 x2) ∧ V.cell? ⟨e0, 3, none⟩ = some (.int .i64 x3) ∧ V.cell? ⟨e0, 4, none⟩ = some (.int .i64 x4) ∧ V.cell? ⟨J, 1, none⟩ = some (.slice p.aa k p.ac))) (by kernel_rfl) ⟨z0, z1, z2, z3, z4, hac⟩ (fun hHeld => ?_)
          (try simp only [Act.put, List.getElem_toArray, List.getElem_cons_zero, List.getElem_cons_succ, List.setIfInBounds_toArray, List.set_cons_zero, List.set_cons_succ])
          refine takes [0, 1] (by kernel_rfl) (fun _ _ _ _ _ h => h) (by assumption) ?_
          iterate 2 (refine ally_cons (v := ?_) rfl (Or.inl ⟨?_, fun w hSw => ?_⟩) ?_; rotate_left; rfl; ((try dsimp only at hSw); go_simp; try with_reducible rfl); (try simp only [Act.put, List.getElem_toArray, List.getElem_cons_zero, List.getElem_cons_succ, List.setIfInBounds_toArray, List.set_cons_zero, List.set_cons_succ]))
          refine ally_nil ?_
          refine wpAnyH_ready (rs := [2]) (by kernel_rfl) (by simp) ?_
          refine AllReadyH.cons (o := _) rfl (fun K hK => ?_) AllReadyH.nil
          go_simp
          refine (HC.out _).mono ?_
          rintro e q1 ⟨rfl, rfl⟩
          clear hHeld
          refine hK.out _ _ ⟨z0, z1, z2, z3, z4, hac⟩ (fun hHeld => ?_)
          clear hK K
          (try simp only [Act.put, List.getElem_toArray, List.getElem_cons_zero, List.getElem_cons_succ, List.setIfInBounds_toArray, List.set_cons_zero, List.set_cons_succ])
          refine takes [3, 4, 5, 6, 7, 8, 9, 10, 11, 12, 13, 14, 15, 16, 17, 18, 19, 20, 21, 22, 23] (by kernel_rfl) (fun _ _ _ _ _ h => h) (by assumption) ?_
          iterate 21 (first | (refine ally_cons (v := ?_) rfl (Or.inl ⟨?_, fun w hSw => ?_⟩) ?_; rotate_left; rfl; ((try dsimp only at hSw); go_simp; try with_reducible rfl); (try simp only [Act.put, List.getElem_toArray, List.getElem_cons_zero, List.getElem_cons_succ, List.setIfInBounds_toArray, List.set_cons_zero, List.set_cons_succ, hfx0, hfx1])) | (refine ally_cons (v := undef) rfl (Or.inr ⟨?_, rfl⟩) ?_; kernel_rfl; (try simp only [Act.put, List.getElem_toArray, List.getElem_cons_zero, List.getElem_cons_succ, List.setIfInBounds_toArray, List.set_cons_zero, List.set_cons_succ, hfx0, hfx1])))
          refine ally_nil ?_
          refine wpAnyH_done (by kernel_rfl) ?_ _
          clear hHeld
          go_wp2_with fail
          go_ret
          exact ⟨ret_bool HZ2.out.symm, (B_0.out).drew⟩
        · skip
          by_cases s1 : (k : Int) ≤ x4
          · skip
            have HC := Lib.hid (fun W => below_yes x0 8 W (by omega) (by omega))
            have HZ2 := Lib.hid (HZ.out.trans (decide_eq_false (by omega)))
            have hac := J_0.out.aheadCell
            obtain ⟨z0, z1, z2, z3, z4⟩ := Bx.cells5 K_0.out
            have hfx0 : decide (x3 < 0) = false := by simp only [decide_eq_true_eq, decide_eq_false_iff_not]; omega
            have hfx1 : decide (x4 < -1) = false := by simp only [decide_eq_true_eq, decide_eq_false_iff_not]; omega
            have hfx2 : decide ((k : Int) ≤ x4) = true := by simp only [decide_eq_true_eq, decide_eq_false_iff_not]; omega
            refine wp_region_held_drew (S := (fun V => V.cell? ⟨e0, 0, none⟩ = some (.int .i64 x0) ∧ V.cell? ⟨e0, 1, none⟩ = some (.int .i64 x1) ∧ V.cell? ⟨e0, 2, none⟩ = some (.int .i64 x2) ∧ V.cell? ⟨e0, 3, none⟩ = some (.int .i64 x3) ∧ V.cell? ⟨e0, 4, none⟩ = some (.int .i64 x4) ∧ V.cell? ⟨J, 1, none⟩ = some (.slice p.aa k p.ac))) (by kernel_rfl) ⟨z0, z1, z2, z3, z4, hac⟩ (fun hHeld => ?_)
            (try simp only [Act.put, List.getElem_toArray, List.getElem_cons_zero, List.getElem_cons_succ, List.setIfInBounds_toArray, List.set_cons_zero, List.set_cons_succ])
            refine takes [0, 1] (by kernel_rfl) (fun _ _ _ _ _ h => h) (by assumption) ?_
            iterate 2 (refine ally_cons (v := ?_) rfl (Or.inl ⟨?_, fun w hSw => ?_⟩) ?_; rotate_left; rfl; ((try dsimp only at hSw); go_simp; try with_reducible rfl); (try simp only [Act.put, List.getElem_toArray, List.getElem_cons_zero, List.getElem_cons_succ, List.setIfInBounds_toArray, List.set_cons_zero, List.set_cons_succ]))
            refine ally_nil ?_
            refine wpAnyH_ready (rs := [2]) (by kernel_rfl) (by simp) ?_
            refine AllReadyH.cons (o := _) rfl (fun K hK => ?_) AllReadyH.nil
            go_simp
            refine (HC.out _).mono ?_
            rintro e q1 ⟨rfl, rfl⟩
            clear hHeld
            refine hK.out _ _ ⟨z0, z1, z2, z3, z4, hac⟩ (fun hHeld => ?_)
            clear hK K
            (try simp only [Act.put, List.getElem_toArray, List.getElem_cons_zero, List.getElem_cons_succ, List.setIfInBounds_toArray, List.set_cons_zero, List.set_cons_succ])
            refine takes [3, 4, 5, 6, 7, 8, 9, 10, 11, 12, 13, 14, 15, 16, 17, 18, 19, 20, 21, 22, 23] (by kernel_rfl) (fun _ _ _ _ _ h => h) (by assumption) ?_
            iterate 21 (refine ally_cons (v := ?_) rfl (Or.inl ⟨?_, fun w hSw => ?_⟩) ?_; rotate_left; rfl; ((try dsimp only at hSw); go_simp; try with_reducible rfl); (try simp only [Act.put, List.getElem_toArray, List.getElem_cons_zero, List.getElem_cons_succ, List.setIfInBounds_toArray, List.set_cons_zero, List.set_cons_succ, hfx0, hfx1, hfx2]))
            refine ally_nil ?_
            refine wpAnyH_done (by kernel_rfl) ?_ _
            clear hHeld
            go_wp2_with fail
            go_ret
            exact ⟨ret_bool HZ2.out.symm, (B_0.out).drew⟩
          · skip
            have HC := Lib.hid (fun W => below_yes x0 8 W (by omega) (by omega))
            have hac := J_0.out.aheadCell
            obtain ⟨z0, z1, z2, z3, z4⟩ := Bx.cells5 K_0.out
            have hfx0 : decide (x3 < 0) = false := by simp only [decide_eq_true_eq, decide_eq_false_iff_not]; omega
            have hfx1 : decide (x4 < -1) = false := by simp only [decide_eq_true_eq, decide_eq_false_iff_not]; omega
            have hfx2 : decide ((k : Int) ≤ x4) = false := by simp only [decide_eq_true_eq, decide_eq_false_iff_not]; omega
            refine wp_region_held_drew (S := (fun V => V.cell? ⟨e0, 0, none⟩ = some (.int .i64 x0) ∧ V.cell? ⟨e0, 1, none⟩ = some (.int .i64 x1) ∧ V.cell? ⟨e0, 2, none⟩ = some (.int .i64 x2) ∧ V.cell? ⟨e0, 3, none⟩ = some (.int .i64 x3) ∧ V.cell? ⟨e0, 4, none⟩ = some (.int .i64 x4) ∧ V.cell? ⟨J, 1, none⟩ = some (.slice p.aa k p.ac))) (by kernel_rfl) ⟨z0, z1, z2, z3, z4, hac⟩ (fun hHeld => ?_)
            (try simp only [Act.put, List.getElem_toArray, List.getElem_cons_zero, List.getElem_cons_succ, List.setIfInBounds_toArray, List.set_cons_zero, List.set_cons_succ])
            refine takes [0, 1] (by kernel_rfl) (fun _ _ _ _ _ h => h) (by assumption) ?_
            iterate 2 (refine ally_cons (v := ?_) rfl (Or.inl ⟨?_, fun w hSw => ?_⟩) ?_; rotate_left; rfl; ((try dsimp only at hSw); go_simp; try with_reducible rfl); (try simp only [Act.put, List.getElem_toArray, List.getElem_cons_zero, List.getElem_cons_succ, List.setIfInBounds_toArray, List.set_cons_zero, List.set_cons_succ]))
            refine ally_nil ?_
            refine wpAnyH_ready (rs := [2]) (by kernel_rfl) (by simp) ?_
            refine AllReadyH.cons (o := _) rfl (fun K hK => ?_) AllReadyH.nil
            go_simp
            refine (HC.out _).mono ?_
            rintro e q1 ⟨rfl, rfl⟩
            clear hHeld
            refine hK.out _ _ ⟨z0, z1, z2, z3, z4, hac⟩ (fun hHeld => ?_)
            clear hK K
            (try simp only [Act.put, List.getElem_toArray, List.getElem_cons_zero, List.getElem_cons_succ, List.setIfInBounds_toArray, List.set_cons_zero, List.set_cons_succ])
            refine takes [3, 4, 5, 6, 7, 8, 9, 10, 11, 12, 13, 14, 15, 16, 17, 18, 19, 20, 21, 22, 23] (by kernel_rfl) (fun _ _ _ _ _ h => h) (by assumption) ?_
            iterate 21 (refine ally_cons (v := ?_) rfl (Or.inl ⟨?_, fun w hSw => ?_⟩) ?_; rotate_left; rfl; ((try dsimp only at hSw); go_simp; try with_reducible rfl); (try simp only [Act.put, List.getElem_toArray, List.getElem_cons_zero, List.getElem_cons_succ, List.setIfInBounds_toArray, List.set_cons_zero, List.set_cons_succ, hfx0, hfx1, hfx2]))
            refine ally_nil ?_
            refine wpAnyH_done (by kernel_rfl) ?_ _
            clear hHeld
            clear z0 z1 z2 z3 z4
            clear hac
            have hb : Below v0.heap.size v0 v0.drew := (Below.refl _ _).drew
            have B_1 := Lib.hid (B_0.out.trans (Below.mono hb B_0.out.size))
            have J_1 := Lib.hid (Jd.below J_0.out hb)
            have K_1 := Lib.hid (Bx.below K_0.out hb)
            clear hb B_0 J_0 K_0
            obtain ⟨v2, hv2⟩ : ∃ z, z = v0.drew := ⟨_, rfl⟩
            rw [← hv2] at B_1 J_1 K_1 ⊢
            clear hv2 hfx0 hfx1 hfx2
            obtain ⟨gg, hgg⟩ : ∃ gg : Nat, x0 = (gg : Int) := ⟨x0.toNat, by omega⟩
            have hg8 : gg < 8 := by omega
            subst hgg
            have hg8' : (gg : Int) < 8 := by omega
            obtain ⟨lz, hlzz⟩ : ∃ z, z = lastZ L (gg : Int) k := ⟨_, rfl⟩
            have hLC := (J_1.out).lastCell gg hg8
            rw [← hlzz] at hLC HZ hlz
            clear hlzz
            by_cases k0 : x1 = 0
            · obtain ⟨k0t1, k0t2⟩ := eq_facts k0
              by_cases l0 : lz = -1
              · obtain ⟨l0t1, l0t2⟩ := eq_facts l0
                have HZ2 := Lib.hid (HZ.out.trans (decide_eq_true (by omega)))
                subst k0
                subst l0
                obtain ⟨z0, z1, z2, z3, z4⟩ := Bx.cells5 K_1.out
                go_wp2_with fail
                refine wp_region_held_drew (S := (fun V => V.cell? ⟨e0, 0, none⟩ = some (.int .i64 (gg : Int)) ∧ V.cell? ⟨e0, 1, none⟩ = some (.int .i64 0) ∧ V.cell? ⟨e0, 2, none⟩ = some (.int .i64 x2) ∧ V.cell? ⟨e0, 3, none⟩ = some (.int .i64 x3) ∧ V.cell? ⟨e0, 4, none⟩ = some (.int .i64 x4) ∧ V.cell? ⟨J, 2 + gg, none⟩ = some (.int .i64 (-1)))) (by kernel_rfl) ⟨z0, z1, z2, z3, z4, hLC⟩ (fun hHeld => ?_)
                (try simp only [Act.put, List.getElem_toArray, List.getElem_cons_zero, List.getElem_cons_succ, List.setIfInBounds_toArray, List.set_cons_zero, List.set_cons_succ])
                refine takes [0, 1, 2, 3, 4, 5, 6, 7, 8, 9, 10, 11, 12] (by kernel_rfl) (fun _ _ _ _ _ h => h) (by assumption) ?_
                iterate 13 (refine ally_cons (v := ?_) rfl (Or.inl ⟨?_, fun w hSw => ?_⟩) ?_; rotate_left; rfl; ((try dsimp only at hSw); go_simp; try with_reducible rfl); (try simp only [Act.put, List.getElem_toArray, List.getElem_cons_zero, List.getElem_cons_succ, List.setIfInBounds_toArray, List.set_cons_zero, List.set_cons_succ]))
                refine ally_nil ?_
                refine wpAnyH_done (by kernel_rfl) ?_ _
                clear hHeld
                (try simp only [k0f1, l0f1])
                go_wp2_with fail
                go_ret
                exact ⟨ret_bool HZ2.out.symm, (B_1.out).drew⟩
              · obtain ⟨l0f1, l0f2⟩ := ne_facts l0
                have HZ2 := Lib.hid (HZ.out.trans (decide_eq_false (by omega)))
                subst k0
                obtain ⟨z0, z1, z2, z3, z4⟩ := Bx.cells5 K_1.out
                go_wp2_with fail
                refine wp_region_held_drew (S := (fun V => V.cell? ⟨e0, 0, none⟩ = some (.int .i64 (gg : Int)) ∧ V.cell? ⟨e0, 1, none⟩ = some (.int .i64 0) ∧ V.cell? ⟨e0, 2, none⟩ = some (.int .i64 x2) ∧ V.cell? ⟨e0, 3, none⟩ = some (.int .i64 x3) ∧ V.cell? ⟨e0, 4, none⟩ = some (.int .i64 x4) ∧ V.cell? ⟨J, 2 + gg, none⟩ = some (.int .i64 lz))) (by kernel_rfl) ⟨z0, z1, z2, z3, z4, hLC⟩ (fun hHeld => ?_)
                (try simp only [Act.put, List.getElem_toArray, List.getElem_cons_zero, List.getElem_cons_succ, List.setIfInBounds_toArray, List.set_cons_zero, List.set_cons_succ])
                refine takes [0, 1, 2, 3, 4, 5, 6, 7, 8, 9, 10, 11, 12] (by kernel_rfl) (fun _ _ _ _ _ h => h) (by assumption) ?_
                iterate 13 (refine ally_cons (v := ?_) rfl (Or.inl ⟨?_, fun w hSw => ?_⟩) ?_; rotate_left; rfl; ((try dsimp only at hSw); go_simp; try with_reducible rfl); (try simp only [Act.put, List.getElem_toArray, List.getElem_cons_zero, List.getElem_cons_succ, List.setIfInBounds_toArray, List.set_cons_zero, List.set_cons_succ]))
                refine ally_nil ?_
                refine wpAnyH_done (by kernel_rfl) ?_ _
                clear hHeld
                (try simp only [k0f1, l0f1])
                go_wp2_with fail
                go_ret
                exact ⟨ret_bool HZ2.out.symm, (B_1.out).drew⟩
            · obtain ⟨k0f1, k0f2⟩ := ne_facts k0
              by_cases l0 : lz = -1
              · obtain ⟨l0t1, l0t2⟩ := eq_facts l0
                have HZ2 := Lib.hid (HZ.out.trans (decide_eq_false (by omega)))
                subst l0
                obtain ⟨z0, z1, z2, z3, z4⟩ := Bx.cells5 K_1.out
                go_wp2_with fail
                refine wp_region_held_drew (S := (fun V => V.cell? ⟨e0, 0, none⟩ = some (.int .i64 (gg : Int)) ∧ V.cell? ⟨e0, 1, none⟩ = some (.int .i64 x1) ∧ V.cell? ⟨e0, 2, none⟩ = some (.int .i64 x2) ∧ V.cell? ⟨e0, 3, none⟩ = some (.int .i64 x3) ∧ V.cell? ⟨e0, 4, none⟩ = some (.int .i64 x4) ∧ V.cell? ⟨J, 2 + gg, none⟩ = some (.int .i64 (-1)))) (by kernel_rfl) ⟨z0, z1, z2, z3, z4, hLC⟩ (fun hHeld => ?_)
                (try simp only [Act.put, List.getElem_toArray, List.getElem_cons_zero, List.getElem_cons_succ, List.setIfInBounds_toArray, List.set_cons_zero, List.set_cons_succ])
                refine takes [0, 1, 2, 3, 4, 5, 6, 7, 8, 9, 10, 11, 12] (by kernel_rfl) (fun _ _ _ _ _ h => h) (by assumption) ?_
                iterate 13 (refine ally_cons (v := ?_) rfl (Or.inl ⟨?_, fun w hSw => ?_⟩) ?_; rotate_left; rfl; ((try dsimp only at hSw); go_simp; try with_reducible rfl); (try simp only [Act.put, List.getElem_toArray, List.getElem_cons_zero, List.getElem_cons_succ, List.setIfInBounds_toArray, List.set_cons_zero, List.set_cons_succ]))
                refine ally_nil ?_
                refine wpAnyH_done (by kernel_rfl) ?_ _
                clear hHeld
                (try simp only [k0f1, l0f1])
                go_wp2_with fail
                go_ret
                exact ⟨ret_bool HZ2.out.symm, (B_1.out).drew⟩
              · obtain ⟨l0f1, l0f2⟩ := ne_facts l0
                have HZ2 := Lib.hid (HZ.out.trans (decide_eq_true (by omega)))
                obtain ⟨z0, z1, z2, z3, z4⟩ := Bx.cells5 K_1.out
                go_wp2_with fail
                refine wp_region_held_drew (S := (fun V => V.cell? ⟨e0, 0, none⟩ = some (.int .i64 (gg : Int)) ∧ V.cell? ⟨e0, 1, none⟩ = some (.int .i64 x1) ∧ V.cell? ⟨e0, 2, none⟩ = some (.int .i64 x2) ∧ V.cell? ⟨e0, 3, none⟩ = some (.int .i64 x3) ∧ V.cell? ⟨e0, 4, none⟩ = some (.int .i64 x4) ∧ V.cell? ⟨J, 2 + gg, none⟩ = some (.int .i64 lz))) (by kernel_rfl) ⟨z0, z1, z2, z3, z4, hLC⟩ (fun hHeld => ?_)
                (try simp only [Act.put, List.getElem_toArray, List.getElem_cons_zero, List.getElem_cons_succ, List.setIfInBounds_toArray, List.set_cons_zero, List.set_cons_succ])
                refine takes [0, 1, 2, 3, 4, 5, 6, 7, 8, 9, 10, 11, 12] (by kernel_rfl) (fun _ _ _ _ _ h => h) (by assumption) ?_
                iterate 13 (refine ally_cons (v := ?_) rfl (Or.inl ⟨?_, fun w hSw => ?_⟩) ?_; rotate_left; rfl; ((try dsimp only at hSw); go_simp; try with_reducible rfl); (try simp only [Act.put, List.getElem_toArray, List.getElem_cons_zero, List.getElem_cons_succ, List.setIfInBounds_toArray, List.set_cons_zero, List.set_cons_succ]))
                refine ally_nil ?_
                refine wpAnyH_done (by kernel_rfl) ?_ _
                clear hHeld
                (try simp only [k0f1, l0f1])
                go_wp2_with fail
                go_ret
                exact ⟨ret_bool HZ2.out.symm, (B_1.out).drew⟩
set_option maxRecDepth 100000 in
set_option maxHeartbeats 8000000 in
theorem select_any (J : Nat) (p : JPlace) (caps : List Int) (L : List Ev) (k : Nat) (x : Ev) (w : World) (h : Jd w J p caps L k) (hok : EvOk x) : Calls Try.prog 64 #[.pointer (some ⟨J, 0, none⟩), evV x] w (BoolTo w (bareB x && inB x 4)) := by
  have J_0 := Lib.hid (h.below (below_alloc w (.cells (evC x) 48)))
  have B_0 := Lib.hid (below_alloc w (.cells (evC x) 48))
  have K_0 := Lib.hid (Bx.new w (evC x) 48)
  clear h
  have HZ := Lib.hid (show (bareB x && inB x 4) = (bareB x && inB x 4) from rfl)
  have HB := Lib.hid (fun W => bare_any x W)
  have HI := Lib.hid (fun W => below_any x.obj 4 W)
  unfold BoolTo evV evC at HB
  obtain ⟨bb, hbb⟩ : ∃ z, z = bareB x := ⟨_, rfl⟩
  obtain ⟨ib, hib⟩ : ∃ z, z = inB x 4 := ⟨_, rfl⟩
  rw [← hbb, ← hib] at HZ
  rw [show decide (x.start = -1 ∧ x.no = 0) = bb from hbb.symm] at HB
  rw [show decide (0 ≤ x.obj ∧ x.obj < 4) = ib from hib.symm] at HI
  rw [← hbb, ← hib]
  clear hbb hib
  unfold evC at B_0 K_0 J_0
  unfold evV evC
  obtain ⟨x0, x1, x2, x3, x4⟩ := x
  unfold EvOk I64 at hok
  dsimp only at B_0 K_0 J_0 hok HB HI
  dsimp only
  obtain ⟨hok0, hok1, hok2, hok3, hok4⟩ := hok
  obtain ⟨e0, he0⟩ : ∃ z, z = w.heap.size := ⟨_, rfl⟩
  obtain ⟨v0, hv0⟩ : ∃ z, z = w.alloc (.cells #[.int .i64 x0, .int .i64 x1, .int .i64 x2, .int .i64 x3, .int .i64 x4] 48) := ⟨_, rfl⟩
  rw [← hv0] at B_0 K_0 J_0
  rw [← he0] at K_0
  have HE0 := Lib.hid he0; have HV0 := Lib.hid hv0
  clear he0 hv0
  go_enter Try.func64, Try.ntmps64
  go_upto_region 1 with (fail)
  rw [← HV0.out, ← HE0.out]
  obtain ⟨z0, z1, z2, z3, z4⟩ := Bx.cells5 K_0.out
  go_wp2_with fail
  clear z0 z1 z2 z3 z4
  refine (HB.out _).mono ?_
  rintro e y1 ⟨rfl, hb⟩
  have B_1 := Lib.hid (B_0.out.trans (Below.mono hb B_0.out.size))
  have J_1 := Lib.hid (Jd.below J_0.out hb)
  have K_1 := Lib.hid (Bx.below K_0.out hb)
  clear hb B_0 J_0 K_0
  cases bb with
  | false =>
    obtain ⟨z0, z1, z2, z3, z4⟩ := Bx.cells5 K_1.out
    go_wp2_with fail
    go_ret
    exact ⟨ret_bool rfl, B_1.out⟩
  | true =>
    obtain ⟨z0, z1, z2, z3, z4⟩ := Bx.cells5 K_1.out
    go_wp2_with fail
    refine (HI.out _).mono ?_
    rintro e q1 ⟨rfl, rfl⟩
    go_wp2_with fail
    go_ret
    exact ⟨ret_bool (by cases ib <;> rfl), B_1.out⟩
set_option maxRecDepth 100000 in
set_option maxHeartbeats 8000000 in
theorem lock_any (J : Nat) (p : JPlace) (caps : List Int) (L : List Ev) (k : Nat) (x : Ev) (w : World) (h : Jd w J p caps L k) (hok : EvOk x) : Calls Try.prog 69 #[.pointer (some ⟨J, 0, none⟩), evV x] w (BoolTo w (bareB x && inB x 2)) := by
  have J_0 := Lib.hid (h.below (below_alloc w (.cells (evC x) 48)))
  have B_0 := Lib.hid (below_alloc w (.cells (evC x) 48))
  have K_0 := Lib.hid (Bx.new w (evC x) 48)
  clear h
  have HZ := Lib.hid (show (bareB x && inB x 2) = (bareB x && inB x 2) from rfl)
  have HB := Lib.hid (fun W => bare_any x W)
  have HI := Lib.hid (fun W => below_any x.obj 2 W)
  unfold BoolTo evV evC at HB
  obtain ⟨bb, hbb⟩ : ∃ z, z = bareB x := ⟨_, rfl⟩
  obtain ⟨ib, hib⟩ : ∃ z, z = inB x 2 := ⟨_, rfl⟩
  rw [← hbb, ← hib] at HZ
  rw [show decide (x.start = -1 ∧ x.no = 0) = bb from hbb.symm] at HB
  rw [show decide (0 ≤ x.obj ∧ x.obj < 2) = ib from hib.symm] at HI
  rw [← hbb, ← hib]
  clear hbb hib
  unfold evC at B_0 K_0 J_0
  unfold evV evC
  obtain ⟨x0, x1, x2, x3, x4⟩ := x
  unfold EvOk I64 at hok
  dsimp only at B_0 K_0 J_0 hok HB HI
  dsimp only
  obtain ⟨hok0, hok1, hok2, hok3, hok4⟩ := hok
  obtain ⟨e0, he0⟩ : ∃ z, z = w.heap.size := ⟨_, rfl⟩
  obtain ⟨v0, hv0⟩ : ∃ z, z = w.alloc (.cells #[.int .i64 x0, .int .i64 x1, .int .i64 x2, .int .i64 x3, .int .i64 x4] 48) := ⟨_, rfl⟩
  rw [← hv0] at B_0 K_0 J_0
  rw [← he0] at K_0
  have HE0 := Lib.hid he0; have HV0 := Lib.hid hv0
  clear he0 hv0
  go_enter Try.func69, Try.ntmps69
  go_upto_region 1 with (fail)
  rw [← HV0.out, ← HE0.out]
  obtain ⟨z0, z1, z2, z3, z4⟩ := Bx.cells5 K_0.out
  go_wp2_with fail
  clear z0 z1 z2 z3 z4
  refine (HB.out _).mono ?_
  rintro e y1 ⟨rfl, hb⟩
  have B_1 := Lib.hid (B_0.out.trans (Below.mono hb B_0.out.size))
  have J_1 := Lib.hid (Jd.below J_0.out hb)
  have K_1 := Lib.hid (Bx.below K_0.out hb)
  clear hb B_0 J_0 K_0
  cases bb with
  | false =>
    obtain ⟨z0, z1, z2, z3, z4⟩ := Bx.cells5 K_1.out
    go_wp2_with fail
    go_ret
    exact ⟨ret_bool rfl, B_1.out⟩
  | true =>
    obtain ⟨z0, z1, z2, z3, z4⟩ := Bx.cells5 K_1.out
    go_wp2_with fail
    refine (HI.out _).mono ?_
    rintro e q1 ⟨rfl, rfl⟩
    go_wp2_with fail
    go_ret
    exact ⟨ret_bool (by cases ib <;> rfl), B_1.out⟩
set_option maxRecDepth 100000 in
set_option maxHeartbeats 8000000 in
theorem do_any (J : Nat) (p : JPlace) (caps : List Int) (L : List Ev) (k : Nat) (x : Ev) (w : World) (h : Jd w J p caps L k) (hok : EvOk x) : Calls Try.prog 72 #[.pointer (some ⟨J, 0, none⟩), evV x] w (BoolTo w (bareB x && inB x 2)) := by
  have J_0 := Lib.hid (h.below (below_alloc w (.cells (evC x) 48)))
  have B_0 := Lib.hid (below_alloc w (.cells (evC x) 48))
  have K_0 := Lib.hid (Bx.new w (evC x) 48)
  clear h
  have HZ := Lib.hid (show (bareB x && inB x 2) = (bareB x && inB x 2) from rfl)
  have HB := Lib.hid (fun W => bare_any x W)
  have HI := Lib.hid (fun W => below_any x.obj 2 W)
  unfold BoolTo evV evC at HB
  obtain ⟨bb, hbb⟩ : ∃ z, z = bareB x := ⟨_, rfl⟩
  obtain ⟨ib, hib⟩ : ∃ z, z = inB x 2 := ⟨_, rfl⟩
  rw [← hbb, ← hib] at HZ
  rw [show decide (x.start = -1 ∧ x.no = 0) = bb from hbb.symm] at HB
  rw [show decide (0 ≤ x.obj ∧ x.obj < 2) = ib from hib.symm] at HI
  rw [← hbb, ← hib]
  clear hbb hib
  unfold evC at B_0 K_0 J_0
  unfold evV evC
  obtain ⟨x0, x1, x2, x3, x4⟩ := x
  unfold EvOk I64 at hok
  dsimp only at B_0 K_0 J_0 hok HB HI
  dsimp only
  obtain ⟨hok0, hok1, hok2, hok3, hok4⟩ := hok
  obtain ⟨e0, he0⟩ : ∃ z, z = w.heap.size := ⟨_, rfl⟩
  obtain ⟨v0, hv0⟩ : ∃ z, z = w.alloc (.cells #[.int .i64 x0, .int .i64 x1, .int .i64 x2, .int .i64 x3, .int .i64 x4] 48) := ⟨_, rfl⟩
  rw [← hv0] at B_0 K_0 J_0
  rw [← he0] at K_0
  have HE0 := Lib.hid he0; have HV0 := Lib.hid hv0
  clear he0 hv0
  go_enter Try.func72, Try.ntmps72
  go_upto_region 1 with (fail)
  rw [← HV0.out, ← HE0.out]
  obtain ⟨z0, z1, z2, z3, z4⟩ := Bx.cells5 K_0.out
  go_wp2_with fail
  clear z0 z1 z2 z3 z4
  refine (HB.out _).mono ?_
  rintro e y1 ⟨rfl, hb⟩
  have B_1 := Lib.hid (B_0.out.trans (Below.mono hb B_0.out.size))
  have J_1 := Lib.hid (Jd.below J_0.out hb)
  have K_1 := Lib.hid (Bx.below K_0.out hb)
  clear hb B_0 J_0 K_0
  cases bb with
  | false =>
    obtain ⟨z0, z1, z2, z3, z4⟩ := Bx.cells5 K_1.out
    go_wp2_with fail
    go_ret
    exact ⟨ret_bool rfl, B_1.out⟩
  | true =>
    obtain ⟨z0, z1, z2, z3, z4⟩ := Bx.cells5 K_1.out
    go_wp2_with fail
    refine (HI.out _).mono ?_
    rintro e q1 ⟨rfl, rfl⟩
    go_wp2_with fail
    go_ret
    exact ⟨ret_bool (by cases ib <;> rfl), B_1.out⟩
set_option maxRecDepth 100000 in
set_option maxHeartbeats 8000000 in
theorem access_any (J : Nat) (p : JPlace) (caps : List Int) (L : List Ev) (k : Nat) (x : Ev) (w : World) (h : Jd w J p caps L k) (hok : EvOk x) : Calls Try.prog 75 #[.pointer (some ⟨J, 0, none⟩), evV x] w (BoolTo w (bareB x && inB x 4)) := by
  have J_0 := Lib.hid (h.below (below_alloc w (.cells (evC x) 48)))
  have B_0 := Lib.hid (below_alloc w (.cells (evC x) 48))
  have K_0 := Lib.hid (Bx.new w (evC x) 48)
  clear h
  have HZ := Lib.hid (show (bareB x && inB x 4) = (bareB x && inB x 4) from rfl)
  have HB := Lib.hid (fun W => bare_any x W)
  have HI := Lib.hid (fun W => below_any x.obj 4 W)
  unfold BoolTo evV evC at HB
  obtain ⟨bb, hbb⟩ : ∃ z, z = bareB x := ⟨_, rfl⟩
  obtain ⟨ib, hib⟩ : ∃ z, z = inB x 4 := ⟨_, rfl⟩
  rw [← hbb, ← hib] at HZ
  rw [show decide (x.start = -1 ∧ x.no = 0) = bb from hbb.symm] at HB
  rw [show decide (0 ≤ x.obj ∧ x.obj < 4) = ib from hib.symm] at HI
  rw [← hbb, ← hib]
  clear hbb hib
  unfold evC at B_0 K_0 J_0
  unfold evV evC
  obtain ⟨x0, x1, x2, x3, x4⟩ := x
  unfold EvOk I64 at hok
  dsimp only at B_0 K_0 J_0 hok HB HI
  dsimp only
  obtain ⟨hok0, hok1, hok2, hok3, hok4⟩ := hok
  obtain ⟨e0, he0⟩ : ∃ z, z = w.heap.size := ⟨_, rfl⟩
  obtain ⟨v0, hv0⟩ : ∃ z, z = w.alloc (.cells #[.int .i64 x0, .int .i64 x1, .int .i64 x2, .int .i64 x3, .int .i64 x4] 48) := ⟨_, rfl⟩
  rw [← hv0] at B_0 K_0 J_0
  rw [← he0] at K_0
  have HE0 := Lib.hid he0; have HV0 := Lib.hid hv0
  clear he0 hv0
  go_enter Try.func75, Try.ntmps75
  go_upto_region 1 with (fail)
  rw [← HV0.out, ← HE0.out]
  obtain ⟨z0, z1, z2, z3, z4⟩ := Bx.cells5 K_0.out
  go_wp2_with fail
  clear z0 z1 z2 z3 z4
  refine (HB.out _).mono ?_
  rintro e y1 ⟨rfl, hb⟩
  have B_1 := Lib.hid (B_0.out.trans (Below.mono hb B_0.out.size))
  have J_1 := Lib.hid (Jd.below J_0.out hb)
  have K_1 := Lib.hid (Bx.below K_0.out hb)
  clear hb B_0 J_0 K_0
  cases bb with
  | false =>
    obtain ⟨z0, z1, z2, z3, z4⟩ := Bx.cells5 K_1.out
    go_wp2_with fail
    go_ret
    exact ⟨ret_bool rfl, B_1.out⟩
  | true =>
    obtain ⟨z0, z1, z2, z3, z4⟩ := Bx.cells5 K_1.out
    go_wp2_with fail
    refine (HI.out _).mono ?_
    rintro e q1 ⟨rfl, rfl⟩
    go_wp2_with fail
    go_ret
    exact ⟨ret_bool (by cases ib <;> rfl), B_1.out⟩
end Go.Proofs.Ytjkbmenmpnidhaa
