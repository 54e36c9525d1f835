/- began: the reference. -/
import Derived.Test.YtjkbmenmpnidhaaR4
namespace Go.Proofs.Ytjkbmenmpnidhaa
open Go.RowKit
set_option linter.unusedSimpArgs false
set_option linter.unusedVariables false
set_option maxRecDepth 100000 in
set_option maxHeartbeats 8000000 in
theorem began_any (a : Option Addr) (n c : Nat) (L : List Ev) (i : Nat) (w : World) (h : Evs w a n c L) (hi : i < n) (hsh : -1 ≤ (evAt L i).start ∧ (evAt L i).start < (i : Int)) : Calls Try.prog 51 #[.slice a n c, .int .i64 (i : Int)] w (BoolTo w (beganZ L i)) := by
  have hle := h.recs.len_le
  have hlc := h.recs.le_cap
  have H_0 := Lib.hid (h.below (below_alloc w (.cells (evC (evAt L i)) 48)))
  have B_0 := Lib.hid (below_alloc w (.cells (evC (evAt L i)) 48))
  have K_0 := Lib.hid (Bx.new w (evC (evAt L i)) 48)
  obtain ⟨b, off, hok, rfl, c0, c1, c2, c3, c4⟩ := h.at i hi
  have hi2 : (i : Int) < (n : Int) := by omega
  have hi3 : (i : Int) ≤ (n : Int) := by omega
  have hi4 : (i : Int) ≤ (c : Int) := by omega
  have hi0 : ¬ (i : Int) < 0 := by omega
  have HZ := Lib.hid (show beganZ L i = if (evAt L i).kind = 0 ∨ beginsZ (evAt L i).kind = false then false else if (evAt L i).start < 0 ∨ (evAt L i).start ≠ lastZ L (evAt L i).g i then true else if (evAt L i).kind ≤ 6 ∧ (stAt L i).kind = 8 then false else decide ((stAt L i).kind ≠ originZ (evAt L i).kind ∨ (stAt L i).obj ≠ (evAt L i).obj) from rfl)
  have HL := Lib.hid (fun W (h : Evs W (some ⟨b, off, none⟩) n c L) => refLast_any _ n c L i W h hi)
  unfold IntTo at HL
  obtain ⟨lz, hlz⟩ : ∃ z, z = lastZ L (evAt L i).g i := ⟨_, rfl⟩
  rw [← hlz] at HL HZ
  have HLZ := Lib.hid hlz
  clear hlz
  obtain ⟨st, hst⟩ : ∃ z, z = stAt L i := ⟨_, rfl⟩
  rw [← hst] at HZ
  have HST := Lib.hid (show st = evAt L (evAt L i).start.toNat from hst)
  clear hst
  obtain ⟨x, hx⟩ : ∃ x, x = evAt L i := ⟨_, rfl⟩
  rw [← hx] at c0 c1 c2 c3 c4 B_0 K_0 H_0 HZ hok hsh HST
  have HX := Lib.hid hx
  clear h hx
  unfold evC at B_0 K_0 H_0
  obtain ⟨x0, x1, x2, x3, x4⟩ := x
  unfold EvOk I64 at hok
  dsimp only at c0 c1 c2 c3 c4 B_0 K_0 H_0 HZ hok hsh HST
  obtain ⟨e0, he0⟩ : ∃ z, z = w.heap.size := ⟨_, rfl⟩
  obtain ⟨v0, hv0⟩ : ∃ z, z = w.alloc (.cells #[.int .i64 x0, .int .i64 x1, .int .i64 x2, .int .i64 x3, .int .i64 x4] 48) := ⟨_, rfl⟩
  rw [← hv0] at B_0 K_0 H_0
  rw [← he0] at K_0
  have HE0 := Lib.hid he0; have HV0 := Lib.hid hv0
  clear he0 hv0
  go_enter Try.func51, Try.ntmps51
  go_upto_region 2 with (fail)
  rw [← HV0.out, ← HE0.out]
  clear c0 c1 c2 c3 c4
  have HG := Lib.hid (fun W => begins_any x1 W)
  have HO := Lib.hid (fun W => origin_any x1 W)
  by_cases k0 : x1 = 0
  · obtain ⟨k0t1, k0t2⟩ := eq_facts k0
    have HZ1 := Lib.hid (HZ.out.trans (if_pos (.inl k0)))
    subst k0
    obtain ⟨z0, z1, z2, z3, z4⟩ := Bx.cells5 K_0.out
    go_wp2_with fail
    go_ret
    exact ⟨ret_bool HZ1.out.symm, B_0.out⟩
  · obtain ⟨k0f1, k0f2⟩ := ne_facts k0
    cases hbg : beginsZ x1 with
    | false =>
      have HZ1 := Lib.hid (HZ.out.trans (if_pos (.inr hbg)))
      rw [hbg] at HG
      obtain ⟨z0, z1, z2, z3, z4⟩ := Bx.cells5 K_0.out
      go_wp2_with fail
      refine (HG.out _).mono ?_
      rintro e q1 ⟨rfl, rfl⟩
      go_wp2_with fail
      go_ret
      exact ⟨ret_bool HZ1.out.symm, B_0.out⟩
    | true =>
      have HZ1 := Lib.hid (HZ.out.trans (if_neg (by rintro (h | h); exact k0 h; rw [hbg] at h; cases h)))
      rw [hbg] at HG
      obtain ⟨z0, z1, z2, z3, z4⟩ := Bx.cells5 K_0.out
      go_wp2_with fail
      refine (HG.out _).mono ?_
      rintro e q1 ⟨rfl, rfl⟩
      by_cases s0 : x4 < 0
      · skip
        have HZ2 := Lib.hid (HZ1.out.trans (if_pos (.inl s0)))
        go_wp2_with fail
        have hfx0 : decide (x4 < 0) = true := decide_eq_true s0
        refine wp_region_held_drew (S := (fun V => V.cell? ⟨e0, 0, none⟩ = some (.int .i64 x0) ∧ V.cell? ⟨e0, 1, none⟩ = some (.int .i64 x1) ∧ V.cell? ⟨e0, 2, none⟩ = some (.int .i64 x2) ∧ V.cell? ⟨e0, 3, none⟩ = some (.int .i64 x3) ∧ V.cell? ⟨e0, 4, none⟩ = some (.int .i64 x4))) (by kernel_rfl) ⟨z0, z1, z2, z3, z4⟩ (fun hHeld => ?_)
        (try simp only [Act.put, List.getElem_toArray, List.getElem_cons_zero, List.getElem_cons_succ, List.setIfInBounds_toArray, List.set_cons_zero, List.set_cons_succ])
        refine takes [0, 1, 2, 3, 4, 5, 6, 7, 8, 9, 10] (by kernel_rfl) (fun _ _ _ _ _ h => h) (by assumption) ?_
        iterate 11 (first | (refine ally_cons (v := ?_) rfl (Or.inl ⟨?_, fun w hSw => ?_⟩) ?_; rotate_left; rfl; ((try dsimp only at hSw); go_simp; try with_reducible rfl); (try simp only [Act.put, List.getElem_toArray, List.getElem_cons_zero, List.getElem_cons_succ, List.setIfInBounds_toArray, List.set_cons_zero, List.set_cons_succ, hfx0])) | (refine ally_cons (v := undef) rfl (Or.inr ⟨?_, rfl⟩) ?_; kernel_rfl; (try simp only [Act.put, List.getElem_toArray, List.getElem_cons_zero, List.getElem_cons_succ, List.setIfInBounds_toArray, List.set_cons_zero, List.set_cons_succ, hfx0])))
        refine ally_nil ?_
        refine wpAnyH_done (by kernel_rfl) ?_ _
        clear hHeld
        go_wp2_with fail
        go_ret
        exact ⟨ret_bool HZ2.out.symm, (B_0.out).drew⟩
      · skip
        go_wp2_with fail
        have hfx0 : decide (x4 < 0) = false := decide_eq_false (by omega)
        have DR : Below v0.heap.size v0 v0.drew := (Below.refl _ _).drew
        have B_D := Lib.hid (B_0.out.trans (Below.mono DR B_0.out.size)); have H_D := Lib.hid (Evs.below H_0.out DR); have K_D := Lib.hid (Bx.below K_0.out DR)
        clear DR
        have HSS := Lib.hid (fun (V : World) (h : Bx V e0 #[.int .i64 x0, .int .i64 x1, .int .i64 x2, .int .i64 x3, .int .i64 x4] 48) => Bx.cells5 h)
        refine wp_region_held_drew (S := (fun V => V.cell? ⟨e0, 0, none⟩ = some (.int .i64 x0) ∧ V.cell? ⟨e0, 1, none⟩ = some (.int .i64 x1) ∧ V.cell? ⟨e0, 2, none⟩ = some (.int .i64 x2) ∧ V.cell? ⟨e0, 3, none⟩ = some (.int .i64 x3) ∧ V.cell? ⟨e0, 4, none⟩ = some (.int .i64 x4))) (by kernel_rfl) (HSS.out _ K_D.out) (fun hHeld => ?_)
        (try simp only [Act.put, List.getElem_toArray, List.getElem_cons_zero, List.getElem_cons_succ, List.setIfInBounds_toArray, List.set_cons_zero, List.set_cons_succ])
        refine takes [0, 1, 2, 3, 4, 5, 6, 7] (by kernel_rfl) (fun _ _ _ _ _ h => h) (by assumption) ?_
        iterate 8 (refine ally_cons (v := ?_) rfl (Or.inl ⟨?_, fun w hSw => ?_⟩) ?_; rotate_left; rfl; ((try dsimp only at hSw); go_simp; try with_reducible rfl); (try simp only [Act.put, List.getElem_toArray, List.getElem_cons_zero, List.getElem_cons_succ, List.setIfInBounds_toArray, List.set_cons_zero, List.set_cons_succ, hfx0]))
        refine ally_nil ?_
        clear z0 z1 z2 z3 z4
        refine wpAnyH_ready (rs := [8]) (by kernel_rfl) (by simp) ?_
        refine AllReadyH.cons (o := _) rfl (fun K hK => ?_) AllReadyH.nil
        go_simp
        refine (HL.out _ H_D.out).mono ?_
        rintro e y1 ⟨rfl, hb⟩
        have B_1 := Lib.hid (B_D.out.trans (Below.mono hb B_D.out.size))
        have H_1 := Lib.hid (Evs.below H_D.out hb)
        have K_1 := Lib.hid (Bx.below K_D.out hb)
        clear hb B_D H_D K_D
        clear hHeld
        refine hK.out _ _ (HSS.out _ K_1.out) (fun hHeld => ?_)
        clear hK K
        (try simp only [Act.put, List.getElem_toArray, List.getElem_cons_zero, List.getElem_cons_succ, List.setIfInBounds_toArray, List.set_cons_zero, List.set_cons_succ])
        refine takes [9, 10] (by kernel_rfl) (fun _ _ _ _ _ h => h) (by assumption) ?_
        iterate 2 (refine ally_cons (v := ?_) rfl (Or.inl ⟨?_, fun w hSw => ?_⟩) ?_; rotate_left; rfl; ((try dsimp only at hSw); go_simp; try with_reducible rfl); (try simp only [Act.put, List.getElem_toArray, List.getElem_cons_zero, List.getElem_cons_succ, List.setIfInBounds_toArray, List.set_cons_zero, List.set_cons_succ]))
        refine ally_nil ?_
        refine wpAnyH_done (by kernel_rfl) ?_ _
        clear hHeld HSS
        by_cases sl : ¬ x4 = lz
        · obtain ⟨slf1, slf2⟩ := ne_facts sl
          have HZ2 := Lib.hid (HZ1.out.trans (if_pos (.inr sl)))
          go_wp2_with fail
          go_ret
          exact ⟨ret_bool HZ2.out.symm, B_1.out⟩
        · have sl := Classical.not_not.1 sl
          obtain ⟨slt1, slt2⟩ := eq_facts sl
          have HZ2 := Lib.hid (HZ1.out.trans (if_neg (by rintro (h | h); omega; exact h sl)))
          subst sl
          obtain ⟨s, rfl⟩ : ∃ s : Nat, x4 = (s : Int) := ⟨x4.toNat, by omega⟩
          rw [Int.toNat_natCast] at HST
          obtain ⟨b', off', _, he, d0, d1, d2, d3, d4⟩ := (H_1.out).at s (by omega)
          cases he
          rw [← HST.out] at d0 d1 d2 d3 d4
          obtain ⟨s0', s1, s2, s3, s4⟩ := st
          dsimp only at d0 d1 d2 d3 d4 HZ2
          have hsn : (s : Int) < (n : Int) := by omega
          have BS := Lib.hid ((B_1.out).trans (Below.mono (below_alloc y1 (.cells #[.int .i64 s0', .int .i64 s1, .int .i64 s2, .int .i64 s3, .int .i64 s4] 48)) (B_1.out).size))
          have KS := Lib.hid (Bx.new y1 #[.int .i64 s0', .int .i64 s1, .int .i64 s2, .int .i64 s3, .int .i64 s4] 48)
          have KE := Lib.hid (Bx.below K_1.out (below_alloc y1 (.cells #[.int .i64 s0', .int .i64 s1, .int .i64 s2, .int .i64 s3, .int .i64 s4] 48)))
          obtain ⟨e1, he1⟩ : ∃ z, z = y1.heap.size := ⟨_, rfl⟩
          obtain ⟨v1, hv1⟩ : ∃ z, z = y1.alloc (.cells #[.int .i64 s0', .int .i64 s1, .int .i64 s2, .int .i64 s3, .int .i64 s4] 48) := ⟨_, rfl⟩
          rw [← hv1] at BS KS KE
          rw [← he1] at KS
          have HE1 := Lib.hid he1; have HV1 := Lib.hid hv1
          clear he1 hv1
          obtain ⟨z0, z1, z2, z3, z4⟩ := Bx.cells5 K_1.out
          go_upto_region 7 with (fail)
          rw [← HV1.out, ← HE1.out]
          clear z0 z1 z2 z3 z4
          clear d0 d1 d2 d3 d4
          by_cases k6 : x1 ≤ 6
          · skip
            by_cases k8 : s1 = 8
            · obtain ⟨k8t1, k8t2⟩ := eq_facts k8
              have HZ3 := Lib.hid (HZ2.out.trans (if_pos ⟨k6, k8⟩))
              subst k8
              obtain ⟨z0, z1, z2, z3, z4⟩ := Bx.cells5 KE.out
              obtain ⟨t0, t1, t2, t3, t4⟩ := Bx.cells5 KS.out
              go_wp2_with fail
              go_ret
              exact ⟨ret_bool HZ3.out.symm, BS.out⟩
            · obtain ⟨k8f1, k8f2⟩ := ne_facts k8
              have HZ3 := Lib.hid (HZ2.out.trans (if_neg (fun h => k8 h.2)))
              obtain ⟨oz, hoz⟩ : ∃ z, z = originZ x1 := ⟨_, rfl⟩
              rw [← hoz] at HO HZ3
              clear hoz
              by_cases o1 : ¬ s1 = oz
              · obtain ⟨o1f1, o1f2⟩ := ne_facts o1
                have HZ4 := Lib.hid (HZ3.out.trans (decide_eq_true (.inl o1)))
                obtain ⟨z0, z1, z2, z3, z4⟩ := Bx.cells5 KE.out
                obtain ⟨t0, t1, t2, t3, t4⟩ := Bx.cells5 KS.out
                go_wp2_with fail
                have hfx0 : (s1 != oz) = true := by assumption
                refine wp_region_held_drew (S := (fun V => V.cell? ⟨e0, 0, none⟩ = some (.int .i64 x0) ∧ V.cell? ⟨e0, 1, none⟩ = some (.int .i64 x1) ∧ V.cell? ⟨e0, 2, none⟩ = some (.int .i64 x2) ∧ V.cell? ⟨e0, 3, none⟩ = some (.int .i64 x3) ∧ V.cell? ⟨e0, 4, none⟩ = some (.int .i64 (s : Int)) ∧ V.cell? ⟨e1, 0, none⟩ = some (.int .i64 s0') ∧ V.cell? ⟨e1, 1, none⟩ = some (.int .i64 s1) ∧ V.cell? ⟨e1, 2, none⟩ = some (.int .i64 s2) ∧ V.cell? ⟨e1, 3, none⟩ = some (.int .i64 s3) ∧ V.cell? ⟨e1, 4, none⟩ = some (.int .i64 s4))) (by kernel_rfl) ⟨z0, z1, z2, z3, z4, t0, t1, t2, t3, t4⟩ (fun hHeld => ?_)
                (try simp only [Act.put, List.getElem_toArray, List.getElem_cons_zero, List.getElem_cons_succ, List.setIfInBounds_toArray, List.set_cons_zero, List.set_cons_succ])
                refine takes [0, 1, 2, 3] (by kernel_rfl) (fun _ _ _ _ _ h => h) (by assumption) ?_
                iterate 4 (refine ally_cons (v := ?_) rfl (Or.inl ⟨?_, fun w hSw => ?_⟩) ?_; rotate_left; rfl; ((try dsimp only at hSw); go_simp; try with_reducible rfl); (try simp only [Act.put, List.getElem_toArray, List.getElem_cons_zero, List.getElem_cons_succ, List.setIfInBounds_toArray, List.set_cons_zero, List.set_cons_succ]))
                refine ally_nil ?_
                refine wpAnyH_ready (rs := [4]) (by kernel_rfl) (by simp) ?_
                refine AllReadyH.cons (o := _) rfl (fun K hK => ?_) AllReadyH.nil
                go_simp
                refine (HO.out _).mono ?_
                rintro e q3 ⟨rfl, rfl⟩
                clear hHeld
                refine hK.out _ _ ⟨z0, z1, z2, z3, z4, t0, t1, t2, t3, t4⟩ (fun hHeld => ?_)
                clear hK K
                (try simp only [Act.put, List.getElem_toArray, List.getElem_cons_zero, List.getElem_cons_succ, List.setIfInBounds_toArray, List.set_cons_zero, List.set_cons_succ])
                refine takes [5, 6, 7, 8, 9, 10, 11, 12, 13] (by kernel_rfl) (fun _ _ _ _ _ h => h) (by assumption) ?_
                iterate 9 (first | (refine ally_cons (v := ?_) rfl (Or.inl ⟨?_, fun w hSw => ?_⟩) ?_; rotate_left; rfl; ((try dsimp only at hSw); go_simp; try with_reducible rfl); (try simp only [Act.put, List.getElem_toArray, List.getElem_cons_zero, List.getElem_cons_succ, List.setIfInBounds_toArray, List.set_cons_zero, List.set_cons_succ, hfx0])) | (refine ally_cons (v := undef) rfl (Or.inr ⟨?_, rfl⟩) ?_; kernel_rfl; (try simp only [Act.put, List.getElem_toArray, List.getElem_cons_zero, List.getElem_cons_succ, List.setIfInBounds_toArray, List.set_cons_zero, List.set_cons_succ, hfx0])))
                refine ally_nil ?_
                refine wpAnyH_done (by kernel_rfl) ?_ _
                clear hHeld
                go_wp2_with fail
                go_ret
                exact ⟨ret_bool HZ4.out.symm, BS.out.drew⟩
              · have o1 := Classical.not_not.1 o1
                obtain ⟨o1t1, o1t2⟩ := eq_facts o1
                by_cases o2 : ¬ s2 = x2
                · obtain ⟨o2f1, o2f2⟩ := ne_facts o2
                  have HZ4 := Lib.hid (HZ3.out.trans (decide_eq_true (.inr o2)))
                  obtain ⟨z0, z1, z2, z3, z4⟩ := Bx.cells5 KE.out
                  obtain ⟨t0, t1, t2, t3, t4⟩ := Bx.cells5 KS.out
                  go_wp2_with fail
                  have hfx0 : (s1 != oz) = false := by assumption
                  refine wp_region_held_drew (S := (fun V => V.cell? ⟨e0, 0, none⟩ = some (.int .i64 x0) ∧ V.cell? ⟨e0, 1, none⟩ = some (.int .i64 x1) ∧ V.cell? ⟨e0, 2, none⟩ = some (.int .i64 x2) ∧ V.cell? ⟨e0, 3, none⟩ = some (.int .i64 x3) ∧ V.cell? ⟨e0, 4, none⟩ = some (.int .i64 (s : Int)) ∧ V.cell? ⟨e1, 0, none⟩ = some (.int .i64 s0') ∧ V.cell? ⟨e1, 1, none⟩ = some (.int .i64 s1) ∧ V.cell? ⟨e1, 2, none⟩ = some (.int .i64 s2) ∧ V.cell? ⟨e1, 3, none⟩ = some (.int .i64 s3) ∧ V.cell? ⟨e1, 4, none⟩ = some (.int .i64 s4))) (by kernel_rfl) ⟨z0, z1, z2, z3, z4, t0, t1, t2, t3, t4⟩ (fun hHeld => ?_)
                  (try simp only [Act.put, List.getElem_toArray, List.getElem_cons_zero, List.getElem_cons_succ, List.setIfInBounds_toArray, List.set_cons_zero, List.set_cons_succ])
                  refine takes [0, 1, 2, 3] (by kernel_rfl) (fun _ _ _ _ _ h => h) (by assumption) ?_
                  iterate 4 (refine ally_cons (v := ?_) rfl (Or.inl ⟨?_, fun w hSw => ?_⟩) ?_; rotate_left; rfl; ((try dsimp only at hSw); go_simp; try with_reducible rfl); (try simp only [Act.put, List.getElem_toArray, List.getElem_cons_zero, List.getElem_cons_succ, List.setIfInBounds_toArray, List.set_cons_zero, List.set_cons_succ]))
                  refine ally_nil ?_
                  refine wpAnyH_ready (rs := [4]) (by kernel_rfl) (by simp) ?_
                  refine AllReadyH.cons (o := _) rfl (fun K hK => ?_) AllReadyH.nil
                  go_simp
                  refine (HO.out _).mono ?_
                  rintro e q3 ⟨rfl, rfl⟩
                  clear hHeld
                  refine hK.out _ _ ⟨z0, z1, z2, z3, z4, t0, t1, t2, t3, t4⟩ (fun hHeld => ?_)
                  clear hK K
                  (try simp only [Act.put, List.getElem_toArray, List.getElem_cons_zero, List.getElem_cons_succ, List.setIfInBounds_toArray, List.set_cons_zero, List.set_cons_succ])
                  refine takes [5, 6, 7, 8, 9, 10, 11, 12, 13] (by kernel_rfl) (fun _ _ _ _ _ h => h) (by assumption) ?_
                  iterate 9 (refine ally_cons (v := ?_) rfl (Or.inl ⟨?_, fun w hSw => ?_⟩) ?_; rotate_left; rfl; ((try dsimp only at hSw); go_simp; try with_reducible rfl); (try simp only [Act.put, List.getElem_toArray, List.getElem_cons_zero, List.getElem_cons_succ, List.setIfInBounds_toArray, List.set_cons_zero, List.set_cons_succ, hfx0]))
                  refine ally_nil ?_
                  refine wpAnyH_done (by kernel_rfl) ?_ _
                  clear hHeld
                  go_wp2_with fail
                  go_ret
                  exact ⟨ret_bool HZ4.out.symm, BS.out.drew⟩
                · have o2 := Classical.not_not.1 o2
                  obtain ⟨o2t1, o2t2⟩ := eq_facts o2
                  have HZ4 := Lib.hid (HZ3.out.trans (decide_eq_false (by omega)))
                  obtain ⟨z0, z1, z2, z3, z4⟩ := Bx.cells5 KE.out
                  obtain ⟨t0, t1, t2, t3, t4⟩ := Bx.cells5 KS.out
                  go_wp2_with fail
                  have hfx0 : (s1 != oz) = false := by assumption
                  refine wp_region_held_drew (S := (fun V => V.cell? ⟨e0, 0, none⟩ = some (.int .i64 x0) ∧ V.cell? ⟨e0, 1, none⟩ = some (.int .i64 x1) ∧ V.cell? ⟨e0, 2, none⟩ = some (.int .i64 x2) ∧ V.cell? ⟨e0, 3, none⟩ = some (.int .i64 x3) ∧ V.cell? ⟨e0, 4, none⟩ = some (.int .i64 (s : Int)) ∧ V.cell? ⟨e1, 0, none⟩ = some (.int .i64 s0') ∧ V.cell? ⟨e1, 1, none⟩ = some (.int .i64 s1) ∧ V.cell? ⟨e1, 2, none⟩ = some (.int .i64 s2) ∧ V.cell? ⟨e1, 3, none⟩ = some (.int .i64 s3) ∧ V.cell? ⟨e1, 4, none⟩ = some (.int .i64 s4))) (by kernel_rfl) ⟨z0, z1, z2, z3, z4, t0, t1, t2, t3, t4⟩ (fun hHeld => ?_)
                  (try simp only [Act.put, List.getElem_toArray, List.getElem_cons_zero, List.getElem_cons_succ, List.setIfInBounds_toArray, List.set_cons_zero, List.set_cons_succ])
                  refine takes [0, 1, 2, 3] (by kernel_rfl) (fun _ _ _ _ _ h => h) (by assumption) ?_
                  iterate 4 (refine ally_cons (v := ?_) rfl (Or.inl ⟨?_, fun w hSw => ?_⟩) ?_; rotate_left; rfl; ((try dsimp only at hSw); go_simp; try with_reducible rfl); (try simp only [Act.put, List.getElem_toArray, List.getElem_cons_zero, List.getElem_cons_succ, List.setIfInBounds_toArray, List.set_cons_zero, List.set_cons_succ]))
                  refine ally_nil ?_
                  refine wpAnyH_ready (rs := [4]) (by kernel_rfl) (by simp) ?_
                  refine AllReadyH.cons (o := _) rfl (fun K hK => ?_) AllReadyH.nil
                  go_simp
                  refine (HO.out _).mono ?_
                  rintro e q3 ⟨rfl, rfl⟩
                  clear hHeld
                  refine hK.out _ _ ⟨z0, z1, z2, z3, z4, t0, t1, t2, t3, t4⟩ (fun hHeld => ?_)
                  clear hK K
                  (try simp only [Act.put, List.getElem_toArray, List.getElem_cons_zero, List.getElem_cons_succ, List.setIfInBounds_toArray, List.set_cons_zero, List.set_cons_succ])
                  refine takes [5, 6, 7, 8, 9, 10, 11, 12, 13] (by kernel_rfl) (fun _ _ _ _ _ h => h) (by assumption) ?_
                  iterate 9 (refine ally_cons (v := ?_) rfl (Or.inl ⟨?_, fun w hSw => ?_⟩) ?_; rotate_left; rfl; ((try dsimp only at hSw); go_simp; try with_reducible rfl); (try simp only [Act.put, List.getElem_toArray, List.getElem_cons_zero, List.getElem_cons_succ, List.setIfInBounds_toArray, List.set_cons_zero, List.set_cons_succ, hfx0]))
                  refine ally_nil ?_
                  refine wpAnyH_done (by kernel_rfl) ?_ _
                  clear hHeld
                  go_wp2_with fail
                  go_ret
                  exact ⟨ret_bool HZ4.out.symm, BS.out.drew⟩
          · skip
            have HZ3 := Lib.hid (HZ2.out.trans (if_neg (fun h => k6 h.1)))
            obtain ⟨oz, hoz⟩ : ∃ z, z = originZ x1 := ⟨_, rfl⟩
            rw [← hoz] at HO HZ3
            clear hoz
            by_cases o1 : ¬ s1 = oz
            · obtain ⟨o1f1, o1f2⟩ := ne_facts o1
              have HZ4 := Lib.hid (HZ3.out.trans (decide_eq_true (.inl o1)))
              obtain ⟨z0, z1, z2, z3, z4⟩ := Bx.cells5 KE.out
              obtain ⟨t0, t1, t2, t3, t4⟩ := Bx.cells5 KS.out
              go_wp2_with fail
              have hfx0 : (s1 != oz) = true := by assumption
              refine wp_region_held_drew (S := (fun V => V.cell? ⟨e0, 0, none⟩ = some (.int .i64 x0) ∧ V.cell? ⟨e0, 1, none⟩ = some (.int .i64 x1) ∧ V.cell? ⟨e0, 2, none⟩ = some (.int .i64 x2) ∧ V.cell? ⟨e0, 3, none⟩ = some (.int .i64 x3) ∧ V.cell? ⟨e0, 4, none⟩ = some (.int .i64 (s : Int)) ∧ V.cell? ⟨e1, 0, none⟩ = some (.int .i64 s0') ∧ V.cell? ⟨e1, 1, none⟩ = some (.int .i64 s1) ∧ V.cell? ⟨e1, 2, none⟩ = some (.int .i64 s2) ∧ V.cell? ⟨e1, 3, none⟩ = some (.int .i64 s3) ∧ V.cell? ⟨e1, 4, none⟩ = some (.int .i64 s4))) (by kernel_rfl) ⟨z0, z1, z2, z3, z4, t0, t1, t2, t3, t4⟩ (fun hHeld => ?_)
              (try simp only [Act.put, List.getElem_toArray, List.getElem_cons_zero, List.getElem_cons_succ, List.setIfInBounds_toArray, List.set_cons_zero, List.set_cons_succ])
              refine takes [0, 1, 2, 3] (by kernel_rfl) (fun _ _ _ _ _ h => h) (by assumption) ?_
              iterate 4 (refine ally_cons (v := ?_) rfl (Or.inl ⟨?_, fun w hSw => ?_⟩) ?_; rotate_left; rfl; ((try dsimp only at hSw); go_simp; try with_reducible rfl); (try simp only [Act.put, List.getElem_toArray, List.getElem_cons_zero, List.getElem_cons_succ, List.setIfInBounds_toArray, List.set_cons_zero, List.set_cons_succ]))
              refine ally_nil ?_
              refine wpAnyH_ready (rs := [4]) (by kernel_rfl) (by simp) ?_
              refine AllReadyH.cons (o := _) rfl (fun K hK => ?_) AllReadyH.nil
              go_simp
              refine (HO.out _).mono ?_
              rintro e q3 ⟨rfl, rfl⟩
              clear hHeld
              refine hK.out _ _ ⟨z0, z1, z2, z3, z4, t0, t1, t2, t3, t4⟩ (fun hHeld => ?_)
              clear hK K
              (try simp only [Act.put, List.getElem_toArray, List.getElem_cons_zero, List.getElem_cons_succ, List.setIfInBounds_toArray, List.set_cons_zero, List.set_cons_succ])
              refine takes [5, 6, 7, 8, 9, 10, 11, 12, 13] (by kernel_rfl) (fun _ _ _ _ _ h => h) (by assumption) ?_
              iterate 9 (first | (refine ally_cons (v := ?_) rfl (Or.inl ⟨?_, fun w hSw => ?_⟩) ?_; rotate_left; rfl; ((try dsimp only at hSw); go_simp; try with_reducible rfl); (try simp only [Act.put, List.getElem_toArray, List.getElem_cons_zero, List.getElem_cons_succ, List.setIfInBounds_toArray, List.set_cons_zero, List.set_cons_succ, hfx0])) | (refine ally_cons (v := undef) rfl (Or.inr ⟨?_, rfl⟩) ?_; kernel_rfl; (try simp only [Act.put, List.getElem_toArray, List.getElem_cons_zero, List.getElem_cons_succ, List.setIfInBounds_toArray, List.set_cons_zero, List.set_cons_succ, hfx0])))
              refine ally_nil ?_
              refine wpAnyH_done (by kernel_rfl) ?_ _
              clear hHeld
              go_wp2_with fail
              go_ret
              exact ⟨ret_bool HZ4.out.symm, BS.out.drew⟩
            · have o1 := Classical.not_not.1 o1
              obtain ⟨o1t1, o1t2⟩ := eq_facts o1
              by_cases o2 : ¬ s2 = x2
              · obtain ⟨o2f1, o2f2⟩ := ne_facts o2
                have HZ4 := Lib.hid (HZ3.out.trans (decide_eq_true (.inr o2)))
                obtain ⟨z0, z1, z2, z3, z4⟩ := Bx.cells5 KE.out
                obtain ⟨t0, t1, t2, t3, t4⟩ := Bx.cells5 KS.out
                go_wp2_with fail
                have hfx0 : (s1 != oz) = false := by assumption
                refine wp_region_held_drew (S := (fun V => V.cell? ⟨e0, 0, none⟩ = some (.int .i64 x0) ∧ V.cell? ⟨e0, 1, none⟩ = some (.int .i64 x1) ∧ V.cell? ⟨e0, 2, none⟩ = some (.int .i64 x2) ∧ V.cell? ⟨e0, 3, none⟩ = some (.int .i64 x3) ∧ V.cell? ⟨e0, 4, none⟩ = some (.int .i64 (s : Int)) ∧ V.cell? ⟨e1, 0, none⟩ = some (.int .i64 s0') ∧ V.cell? ⟨e1, 1, none⟩ = some (.int .i64 s1) ∧ V.cell? ⟨e1, 2, none⟩ = some (.int .i64 s2) ∧ V.cell? ⟨e1, 3, none⟩ = some (.int .i64 s3) ∧ V.cell? ⟨e1, 4, none⟩ = some (.int .i64 s4))) (by kernel_rfl) ⟨z0, z1, z2, z3, z4, t0, t1, t2, t3, t4⟩ (fun hHeld => ?_)
                (try simp only [Act.put, List.getElem_toArray, List.getElem_cons_zero, List.getElem_cons_succ, List.setIfInBounds_toArray, List.set_cons_zero, List.set_cons_succ])
                refine takes [0, 1, 2, 3] (by kernel_rfl) (fun _ _ _ _ _ h => h) (by assumption) ?_
                iterate 4 (refine ally_cons (v := ?_) rfl (Or.inl ⟨?_, fun w hSw => ?_⟩) ?_; rotate_left; rfl; ((try dsimp only at hSw); go_simp; try with_reducible rfl); (try simp only [Act.put, List.getElem_toArray, List.getElem_cons_zero, List.getElem_cons_succ, List.setIfInBounds_toArray, List.set_cons_zero, List.set_cons_succ]))
                refine ally_nil ?_
                refine wpAnyH_ready (rs := [4]) (by kernel_rfl) (by simp) ?_
                refine AllReadyH.cons (o := _) rfl (fun K hK => ?_) AllReadyH.nil
                go_simp
                refine (HO.out _).mono ?_
                rintro e q3 ⟨rfl, rfl⟩
                clear hHeld
                refine hK.out _ _ ⟨z0, z1, z2, z3, z4, t0, t1, t2, t3, t4⟩ (fun hHeld => ?_)
                clear hK K
                (try simp only [Act.put, List.getElem_toArray, List.getElem_cons_zero, List.getElem_cons_succ, List.setIfInBounds_toArray, List.set_cons_zero, List.set_cons_succ])
                refine takes [5, 6, 7, 8, 9, 10, 11, 12, 13] (by kernel_rfl) (fun _ _ _ _ _ h => h) (by assumption) ?_
                iterate 9 (refine ally_cons (v := ?_) rfl (Or.inl ⟨?_, fun w hSw => ?_⟩) ?_; rotate_left; rfl; ((try dsimp only at hSw); go_simp; try with_reducible rfl); (try simp only [Act.put, List.getElem_toArray, List.getElem_cons_zero, List.getElem_cons_succ, List.setIfInBounds_toArray, List.set_cons_zero, List.set_cons_succ, hfx0]))
                refine ally_nil ?_
                refine wpAnyH_done (by kernel_rfl) ?_ _
                clear hHeld
                go_wp2_with fail
                go_ret
                exact ⟨ret_bool HZ4.out.symm, BS.out.drew⟩
              · have o2 := Classical.not_not.1 o2
                obtain ⟨o2t1, o2t2⟩ := eq_facts o2
                have HZ4 := Lib.hid (HZ3.out.trans (decide_eq_false (by omega)))
                obtain ⟨z0, z1, z2, z3, z4⟩ := Bx.cells5 KE.out
                obtain ⟨t0, t1, t2, t3, t4⟩ := Bx.cells5 KS.out
                go_wp2_with fail
                have hfx0 : (s1 != oz) = false := by assumption
                refine wp_region_held_drew (S := (fun V => V.cell? ⟨e0, 0, none⟩ = some (.int .i64 x0) ∧ V.cell? ⟨e0, 1, none⟩ = some (.int .i64 x1) ∧ V.cell? ⟨e0, 2, none⟩ = some (.int .i64 x2) ∧ V.cell? ⟨e0, 3, none⟩ = some (.int .i64 x3) ∧ V.cell? ⟨e0, 4, none⟩ = some (.int .i64 (s : Int)) ∧ V.cell? ⟨e1, 0, none⟩ = some (.int .i64 s0') ∧ V.cell? ⟨e1, 1, none⟩ = some (.int .i64 s1) ∧ V.cell? ⟨e1, 2, none⟩ = some (.int .i64 s2) ∧ V.cell? ⟨e1, 3, none⟩ = some (.int .i64 s3) ∧ V.cell? ⟨e1, 4, none⟩ = some (.int .i64 s4))) (by kernel_rfl) ⟨z0, z1, z2, z3, z4, t0, t1, t2, t3, t4⟩ (fun hHeld => ?_)
                (try simp only [Act.put, List.getElem_toArray, List.getElem_cons_zero, List.getElem_cons_succ, List.setIfInBounds_toArray, List.set_cons_zero, List.set_cons_succ])
                refine takes [0, 1, 2, 3] (by kernel_rfl) (fun _ _ _ _ _ h => h) (by assumption) ?_
                iterate 4 (refine ally_cons (v := ?_) rfl (Or.inl ⟨?_, fun w hSw => ?_⟩) ?_; rotate_left; rfl; ((try dsimp only at hSw); go_simp; try with_reducible rfl); (try simp only [Act.put, List.getElem_toArray, List.getElem_cons_zero, List.getElem_cons_succ, List.setIfInBounds_toArray, List.set_cons_zero, List.set_cons_succ]))
                refine ally_nil ?_
                refine wpAnyH_ready (rs := [4]) (by kernel_rfl) (by simp) ?_
                refine AllReadyH.cons (o := _) rfl (fun K hK => ?_) AllReadyH.nil
                go_simp
                refine (HO.out _).mono ?_
                rintro e q3 ⟨rfl, rfl⟩
                clear hHeld
                refine hK.out _ _ ⟨z0, z1, z2, z3, z4, t0, t1, t2, t3, t4⟩ (fun hHeld => ?_)
                clear hK K
                (try simp only [Act.put, List.getElem_toArray, List.getElem_cons_zero, List.getElem_cons_succ, List.setIfInBounds_toArray, List.set_cons_zero, List.set_cons_succ])
                refine takes [5, 6, 7, 8, 9, 10, 11, 12, 13] (by kernel_rfl) (fun _ _ _ _ _ h => h) (by assumption) ?_
                iterate 9 (refine ally_cons (v := ?_) rfl (Or.inl ⟨?_, fun w hSw => ?_⟩) ?_; rotate_left; rfl; ((try dsimp only at hSw); go_simp; try with_reducible rfl); (try simp only [Act.put, List.getElem_toArray, List.getElem_cons_zero, List.getElem_cons_succ, List.setIfInBounds_toArray, List.set_cons_zero, List.set_cons_succ, hfx0]))
                refine ally_nil ?_
                refine wpAnyH_done (by kernel_rfl) ?_ _
                clear hHeld
                go_wp2_with fail
                go_ret
                exact ⟨ret_bool HZ4.out.symm, BS.out.drew⟩
end Go.Proofs.Ytjkbmenmpnidhaa
