/- fields: the reference. -/
import Derived.Test.YtjkbmenmpnidhaaR4
namespace Go.Proofs.Ytjkbmenmpnidhaa
open Go.RowKit
set_option linter.unusedSimpArgs false
set_option linter.unusedVariables false
set_option maxRecDepth 100000 in
set_option maxHeartbeats 8000000 in
theorem fields_any (ca : Option Addr) (cn cc : Nat) (caps : List Int) (a : Option Addr) (n c : Nat) (L : List Ev) (i : Nat) (w : World) (hcl : caps.length = cn) (h : Evs w a n c L) (hi : i < n) : Calls Try.prog 50 #[.slice ca cn cc, .slice a n c, .int .i64 (i : Int)] w (BoolTo w (fieldsZ caps L i)) := by
  have hle := h.recs.len_le
  have hlc := h.recs.le_cap
  have H_0 := Lib.hid (h.below (below_alloc w (.cells (evC (evAt L i)) 48)))
  have B_0 := Lib.hid (below_alloc w (.cells (evC (evAt L i)) 48))
  have K_0 := Lib.hid (Bx.new w (evC (evAt L i)) 48)
  obtain ⟨b, off, hok, rfl, c0, c1, c2, c3, c4⟩ := h.at i hi
  have hi2 : (i : Int) < (n : Int) := by omega
  have hi3 : (i : Int) ≤ (n : Int) := by omega
  have hi4 : (i : Int) ≤ (c : Int) := by omega
  have hi0 : ¬ (i : Int) < 0 := by omega
  have HZ := Lib.hid (show fieldsZ caps L i = if (numberedZ (evAt L i).kind = false ∧ (evAt L i).no ≠ 0) ∨ (beginsZ (evAt L i).kind = false ∧ (evAt L i).start ≠ -1) then true else if (evAt L i).kind = 1 then decide ((evAt L i).obj ≠ cnt0 L i) else decide ((evAt L i).kind ≠ 0 ∧ ((evAt L i).obj < 0 ∨ mostZ caps.length (evAt L i).kind ≤ (evAt L i).obj)) from rfl)
  rw [hcl] at HZ
  obtain ⟨x, hx⟩ : ∃ x, x = evAt L i := ⟨_, rfl⟩
  rw [← hx] at c0 c1 c2 c3 c4 B_0 K_0 H_0 HZ hok
  have HX := Lib.hid hx
  clear h hx
  unfold evC at B_0 K_0 H_0
  obtain ⟨x0, x1, x2, x3, x4⟩ := x
  unfold EvOk I64 at hok
  dsimp only at c0 c1 c2 c3 c4 B_0 K_0 H_0 HZ hok
  obtain ⟨e0, he0⟩ : ∃ z, z = w.heap.size := ⟨_, rfl⟩
  obtain ⟨v0, hv0⟩ : ∃ z, z = w.alloc (.cells #[.int .i64 x0, .int .i64 x1, .int .i64 x2, .int .i64 x3, .int .i64 x4] 48) := ⟨_, rfl⟩
  rw [← hv0] at B_0 K_0 H_0
  rw [← he0] at K_0
  have HE0 := Lib.hid he0; have HV0 := Lib.hid hv0
  clear he0 hv0
  go_enter Try.func50, Try.ntmps50
  go_upto_region 2 with (fail)
  rw [← HV0.out, ← HE0.out]
  clear c0 c1 c2 c3 c4
  have HN := Lib.hid (fun W => numbered_any x1 W)
  have HG := Lib.hid (fun W => begins_any x1 W)
  have HM := Lib.hid (fun W => most_any ca cn cc x1 W)
  cases hnb : numberedZ x1 with
  | false =>
    rw [hnb] at HN
    by_cases n0 : ¬ x3 = 0
    · obtain ⟨n0f1, n0f2⟩ := ne_facts n0
      have HZ1 := Lib.hid (HZ.out.trans (if_pos (by exact .inl ⟨hnb, n0⟩)))
      obtain ⟨z0, z1, z2, z3, z4⟩ := Bx.cells5 K_0.out
      go_wp2_with fail
      refine (HN.out _).mono ?_
      rintro e q1 ⟨rfl, rfl⟩
      go_wp2_with fail
      go_ret
      exact ⟨ret_bool HZ1.out.symm, B_0.out⟩
    · have n0 := Classical.not_not.1 n0
      obtain ⟨n0t1, n0t2⟩ := eq_facts n0
      cases hbg : beginsZ x1 with
      | false =>
        rw [hbg] at HG
        by_cases s0 : ¬ x4 = -1
        · obtain ⟨s0f1, s0f2⟩ := ne_facts s0
          have HZ1 := Lib.hid (HZ.out.trans (if_pos (by exact .inr ⟨hbg, s0⟩)))
          obtain ⟨z0, z1, z2, z3, z4⟩ := Bx.cells5 K_0.out
          go_wp2_with fail
          refine (HN.out _).mono ?_
          rintro e q1 ⟨rfl, rfl⟩
          go_wp2_with fail
          refine (HG.out _).mono ?_
          rintro e q2 ⟨rfl, rfl⟩
          go_wp2_with fail
          go_ret
          exact ⟨ret_bool HZ1.out.symm, B_0.out⟩
        · have s0 := Classical.not_not.1 s0
          obtain ⟨s0t1, s0t2⟩ := eq_facts s0
          have HZ1 := Lib.hid (HZ.out.trans (if_neg (by rintro (h | h); exact h.2 n0; exact h.2 s0)))
          by_cases k1 : x1 = 1
          · obtain ⟨k1t1, k1t2⟩ := eq_facts k1
            subst k1
            have HZ2 := Lib.hid (HZ1.out.trans (if_pos rfl))
            obtain ⟨z0, z1, z2, z3, z4⟩ := Bx.cells5 K_0.out
            go_wp2_with fail
            clear z0 z1 z2 z3 z4
            refine (HN.out _).mono ?_
            rintro e q1 ⟨rfl, rfl⟩
            obtain ⟨z0, z1, z2, z3, z4⟩ := Bx.cells5 K_0.out
            go_wp2_with fail
            refine (HG.out _).mono ?_
            rintro e q2 ⟨rfl, rfl⟩
            go_wp2_with fail
            clear z0 z1 z2 z3 z4
            obtain ⟨X, hX⟩ : ∃ X, X = v0 := ⟨_, rfl⟩
            rw [← hX]
            have HXX := Lib.hid hX
            clear hX
            go_loopw [8, 42] (fun v j wr => ∃ k : Nat, k ≤ i ∧ j = .int .i64 k ∧ v = .int .i64 (cnt0 L k) ∧ Below v0.heap.size v0 wr) (fun _ j _ => i - (intOf j).toNat)
            case atStart => exact ⟨0, Nat.zero_le _, rfl, rfl, by rw [HXX.out]; exact Below.refl _ _⟩
            case round =>
              obtain ⟨k, hk, rfl, rfl, hb⟩ := hrel
              have HB := Lib.hid hb
              clear hb
              by_cases hlt : k < i
              · have hlt' : (k : Int) < (i : Int) := by omega
                have hkn : (k : Int) < (n : Int) := by omega
                obtain ⟨b', off', _, he, d0, d1, d2, d3, d4⟩ := (Evs.below H_0.out HB.out).at k (by omega)
                cases he
                have HC := Lib.hid (show cnt0 L (k + 1) = if (evAt L k).kind = 0 then cnt0 L k + 1 else cnt0 L k from rfl)
                have hcl := cnt0_le L k
                have hc0 := hcl.1
                have hc1 := hcl.2
                clear hcl
                have BA := Lib.hid (HB.out.trans (Below.mono (below_alloc wr (.cells (evC (evAt L k)) 48)) HB.out.size))
                obtain ⟨x, hx⟩ : ∃ x, x = evAt L k := ⟨_, rfl⟩
                obtain ⟨z, hz⟩ : ∃ z, z = cnt0 L k := ⟨_, rfl⟩
                rw [← hx] at d0 d1 d2 d3 d4 HC BA
                rw [← hz] at HC hc0 hc1 ⊢
                clear hx hz
                unfold evC at BA
                obtain ⟨u0, u1, u2, u3, u4⟩ := x
                dsimp only at d0 d1 d2 d3 d4 HC BA
                by_cases hu : u1 = 0
                · obtain ⟨e1, e2⟩ := eq_facts hu
                  have HC2 := Lib.hid (HC.out.trans (if_pos hu))
                  subst hu
                  go_wp2_with fail
                  go_roundw
                  case rel => exact ⟨k + 1, by omega, by go_num, by rw [HC2.out], BA.out⟩
                  case measure => simp [intOf]; omega
                · obtain ⟨e1, e2⟩ := ne_facts hu
                  have HC2 := Lib.hid (HC.out.trans (if_neg hu))
                  go_wp2_with fail
                  go_roundw
                  case rel => exact ⟨k + 1, by omega, by go_num, by rw [HC2.out], BA.out⟩
                  case measure => simp [intOf]; omega
              · have hke : k = i := by omega
                subst hke
                have KK := Lib.hid (Bx.below K_0.out HB.out)
                have BB := Lib.hid ((B_0.out).trans (Below.mono HB.out (B_0.out).size))
                obtain ⟨z0, z1, z2, z3, z4⟩ := Bx.cells5 KK.out
                by_cases ho : x2 = cnt0 L k
                · obtain ⟨o1, o2⟩ := eq_facts ho
                  have HZ3 := Lib.hid (HZ2.out.trans (decide_eq_false (fun h => h ho)))
                  go_wp2_with fail
                  go_ret
                  exact ⟨ret_bool HZ3.out.symm, BB.out⟩
                · obtain ⟨o1, o2⟩ := ne_facts ho
                  have HZ3 := Lib.hid (HZ2.out.trans (decide_eq_true ho))
                  go_wp2_with fail
                  go_ret
                  exact ⟨ret_bool HZ3.out.symm, BB.out⟩
          · obtain ⟨k1f1, k1f2⟩ := ne_facts k1
            have HZ2 := Lib.hid (HZ1.out.trans (if_neg k1))
            by_cases k0 : x1 = 0
            · obtain ⟨k0t1, k0t2⟩ := eq_facts k0
              have HZ3 := Lib.hid (HZ2.out.trans (decide_eq_false (by omega)))
              subst k0
              obtain ⟨z0, z1, z2, z3, z4⟩ := Bx.cells5 K_0.out
              go_wp2_with fail
              refine (HN.out _).mono ?_
              rintro e q1 ⟨rfl, rfl⟩
              go_wp2_with fail
              refine (HG.out _).mono ?_
              rintro e q2 ⟨rfl, rfl⟩
              go_wp2_with fail
              refine wp_region_held_drew (S := (fun V => V.cell? ⟨e0, 0, none⟩ = some (.int .i64 x0) ∧ V.cell? ⟨e0, 1, none⟩ = some (.int .i64 0) ∧ V.cell? ⟨e0, 2, none⟩ = some (.int .i64 x2) ∧ V.cell? ⟨e0, 3, none⟩ = some (.int .i64 x3) ∧ V.cell? ⟨e0, 4, none⟩ = some (.int .i64 x4))) (by kernel_rfl) ⟨z0, z1, z2, z3, z4⟩ (fun hHeld => ?_)
              (try simp only [Act.put, List.getElem_toArray, List.getElem_cons_zero, List.getElem_cons_succ, List.setIfInBounds_toArray, List.set_cons_zero, List.set_cons_succ])
              refine takes [0, 1, 2, 3, 4, 5, 6, 7, 8, 9, 10, 11, 12, 13, 14, 15, 16, 17] (by kernel_rfl) (fun _ _ _ _ _ h => h) (by assumption) ?_
              iterate 18 (first | (refine ally_cons (v := ?_) rfl (Or.inl ⟨?_, fun w hSw => ?_⟩) ?_; rotate_left; rfl; ((try dsimp only at hSw); go_simp; try with_reducible rfl); (try simp only [Act.put, List.getElem_toArray, List.getElem_cons_zero, List.getElem_cons_succ, List.setIfInBounds_toArray, List.set_cons_zero, List.set_cons_succ])) | (refine ally_cons (v := undef) rfl (Or.inr ⟨?_, rfl⟩) ?_; kernel_rfl; (try simp only [Act.put, List.getElem_toArray, List.getElem_cons_zero, List.getElem_cons_succ, List.setIfInBounds_toArray, List.set_cons_zero, List.set_cons_succ])))
              refine ally_nil ?_
              refine wpAnyH_done (by kernel_rfl) ?_ _
              clear hHeld
              go_wp2_with fail
              go_ret
              exact ⟨ret_bool HZ3.out.symm, (B_0.out).drew⟩
            · obtain ⟨k0f1, k0f2⟩ := ne_facts k0
              by_cases o0 : x2 < 0
              · skip
                have HZ3 := Lib.hid (HZ2.out.trans (decide_eq_true (by omega)))
                obtain ⟨z0, z1, z2, z3, z4⟩ := Bx.cells5 K_0.out
                go_wp2_with fail
                refine (HN.out _).mono ?_
                rintro e q1 ⟨rfl, rfl⟩
                go_wp2_with fail
                refine (HG.out _).mono ?_
                rintro e q2 ⟨rfl, rfl⟩
                go_wp2_with fail
                have hfx0 : (x1 != 0) = true := by assumption
                have hfx1 : decide (x2 < 0) = true := by simp only [decide_eq_true_eq, decide_eq_false_iff_not]; omega
                refine wp_region_held_drew (S := (fun V => V.cell? ⟨e0, 0, none⟩ = some (.int .i64 x0) ∧ V.cell? ⟨e0, 1, none⟩ = some (.int .i64 x1) ∧ V.cell? ⟨e0, 2, none⟩ = some (.int .i64 x2) ∧ V.cell? ⟨e0, 3, none⟩ = some (.int .i64 x3) ∧ V.cell? ⟨e0, 4, none⟩ = some (.int .i64 x4))) (by kernel_rfl) ⟨z0, z1, z2, z3, z4⟩ (fun hHeld => ?_)
                (try simp only [Act.put, List.getElem_toArray, List.getElem_cons_zero, List.getElem_cons_succ, List.setIfInBounds_toArray, List.set_cons_zero, List.set_cons_succ])
                refine takes [0, 1, 2, 3, 4, 5, 6, 7, 8, 9, 10, 11, 12, 13, 14, 15, 16, 17] (by kernel_rfl) (fun _ _ _ _ _ h => h) (by assumption) ?_
                iterate 18 (first | (refine ally_cons (v := ?_) rfl (Or.inl ⟨?_, fun w hSw => ?_⟩) ?_; rotate_left; rfl; ((try dsimp only at hSw); go_simp; try with_reducible rfl); (try simp only [Act.put, List.getElem_toArray, List.getElem_cons_zero, List.getElem_cons_succ, List.setIfInBounds_toArray, List.set_cons_zero, List.set_cons_succ, hfx0, hfx1])) | (refine ally_cons (v := undef) rfl (Or.inr ⟨?_, rfl⟩) ?_; kernel_rfl; (try simp only [Act.put, List.getElem_toArray, List.getElem_cons_zero, List.getElem_cons_succ, List.setIfInBounds_toArray, List.set_cons_zero, List.set_cons_succ, hfx0, hfx1])))
                refine ally_nil ?_
                refine wpAnyH_done (by kernel_rfl) ?_ _
                clear hHeld
                go_wp2_with fail
                go_ret
                exact ⟨ret_bool HZ3.out.symm, (B_0.out).drew⟩
              · skip
                by_cases om : mostZ cn x1 ≤ x2
                · skip
                  have HZ3 := Lib.hid (HZ2.out.trans (decide_eq_true (by omega)))
                  obtain ⟨z0, z1, z2, z3, z4⟩ := Bx.cells5 K_0.out
                  go_wp2_with fail
                  refine (HN.out _).mono ?_
                  rintro e q1 ⟨rfl, rfl⟩
                  go_wp2_with fail
                  refine (HG.out _).mono ?_
                  rintro e q2 ⟨rfl, rfl⟩
                  go_wp2_with fail
                  have hfx0 : (x1 != 0) = true := by assumption
                  have hfx1 : decide (x2 < 0) = false := by simp only [decide_eq_true_eq, decide_eq_false_iff_not]; omega
                  refine wp_region_held_drew (S := (fun V => V.cell? ⟨e0, 0, none⟩ = some (.int .i64 x0) ∧ V.cell? ⟨e0, 1, none⟩ = some (.int .i64 x1) ∧ V.cell? ⟨e0, 2, none⟩ = some (.int .i64 x2) ∧ V.cell? ⟨e0, 3, none⟩ = some (.int .i64 x3) ∧ V.cell? ⟨e0, 4, none⟩ = some (.int .i64 x4))) (by kernel_rfl) ⟨z0, z1, z2, z3, z4⟩ (fun hHeld => ?_)
                  (try simp only [Act.put, List.getElem_toArray, List.getElem_cons_zero, List.getElem_cons_succ, List.setIfInBounds_toArray, List.set_cons_zero, List.set_cons_succ])
                  refine takes [0, 1, 2, 3, 4, 5, 6, 7, 8, 9, 10, 11, 12] (by kernel_rfl) (fun _ _ _ _ _ h => h) (by assumption) ?_
                  iterate 13 (refine ally_cons (v := ?_) rfl (Or.inl ⟨?_, fun w hSw => ?_⟩) ?_; rotate_left; rfl; ((try dsimp only at hSw); go_simp; try with_reducible rfl); (try simp only [Act.put, List.getElem_toArray, List.getElem_cons_zero, List.getElem_cons_succ, List.setIfInBounds_toArray, List.set_cons_zero, List.set_cons_succ, hfx0, hfx1]))
                  refine ally_nil ?_
                  refine wpAnyH_ready (rs := [13]) (by kernel_rfl) (by simp) ?_
                  refine AllReadyH.cons (o := _) rfl (fun K hK => ?_) AllReadyH.nil
                  go_simp
                  refine (HM.out _).mono ?_
                  rintro e q3 ⟨rfl, rfl⟩
                  clear hHeld
                  refine hK.out _ _ ⟨z0, z1, z2, z3, z4⟩ (fun hHeld => ?_)
                  clear hK K
                  (try simp only [Act.put, List.getElem_toArray, List.getElem_cons_zero, List.getElem_cons_succ, List.setIfInBounds_toArray, List.set_cons_zero, List.set_cons_succ])
                  refine takes [14, 15, 16, 17] (by kernel_rfl) (fun _ _ _ _ _ h => h) (by assumption) ?_
                  iterate 4 (refine ally_cons (v := ?_) rfl (Or.inl ⟨?_, fun w hSw => ?_⟩) ?_; rotate_left; rfl; ((try dsimp only at hSw); go_simp; try with_reducible rfl); (try simp only [Act.put, List.getElem_toArray, List.getElem_cons_zero, List.getElem_cons_succ, List.setIfInBounds_toArray, List.set_cons_zero, List.set_cons_succ]))
                  refine ally_nil ?_
                  refine wpAnyH_done (by kernel_rfl) ?_ _
                  clear hHeld
                  go_wp2_with fail
                  go_ret
                  exact ⟨ret_bool HZ3.out.symm, (B_0.out).drew⟩
                · skip
                  have HZ3 := Lib.hid (HZ2.out.trans (decide_eq_false (by omega)))
                  have HZ4 := Lib.hid (HZ3.out.trans (decide_eq_false om).symm)
                  obtain ⟨z0, z1, z2, z3, z4⟩ := Bx.cells5 K_0.out
                  go_wp2_with fail
                  refine (HN.out _).mono ?_
                  rintro e q1 ⟨rfl, rfl⟩
                  go_wp2_with fail
                  refine (HG.out _).mono ?_
                  rintro e q2 ⟨rfl, rfl⟩
                  go_wp2_with fail
                  have hfx0 : (x1 != 0) = true := by assumption
                  have hfx1 : decide (x2 < 0) = false := by simp only [decide_eq_true_eq, decide_eq_false_iff_not]; omega
                  refine wp_region_held_drew (S := (fun V => V.cell? ⟨e0, 0, none⟩ = some (.int .i64 x0) ∧ V.cell? ⟨e0, 1, none⟩ = some (.int .i64 x1) ∧ V.cell? ⟨e0, 2, none⟩ = some (.int .i64 x2) ∧ V.cell? ⟨e0, 3, none⟩ = some (.int .i64 x3) ∧ V.cell? ⟨e0, 4, none⟩ = some (.int .i64 x4))) (by kernel_rfl) ⟨z0, z1, z2, z3, z4⟩ (fun hHeld => ?_)
                  (try simp only [Act.put, List.getElem_toArray, List.getElem_cons_zero, List.getElem_cons_succ, List.setIfInBounds_toArray, List.set_cons_zero, List.set_cons_succ])
                  refine takes [0, 1, 2, 3, 4, 5, 6, 7, 8, 9, 10, 11, 12] (by kernel_rfl) (fun _ _ _ _ _ h => h) (by assumption) ?_
                  iterate 13 (refine ally_cons (v := ?_) rfl (Or.inl ⟨?_, fun w hSw => ?_⟩) ?_; rotate_left; rfl; ((try dsimp only at hSw); go_simp; try with_reducible rfl); (try simp only [Act.put, List.getElem_toArray, List.getElem_cons_zero, List.getElem_cons_succ, List.setIfInBounds_toArray, List.set_cons_zero, List.set_cons_succ, hfx0, hfx1]))
                  refine ally_nil ?_
                  refine wpAnyH_ready (rs := [13]) (by kernel_rfl) (by simp) ?_
                  refine AllReadyH.cons (o := _) rfl (fun K hK => ?_) AllReadyH.nil
                  go_simp
                  refine (HM.out _).mono ?_
                  rintro e q3 ⟨rfl, rfl⟩
                  clear hHeld
                  refine hK.out _ _ ⟨z0, z1, z2, z3, z4⟩ (fun hHeld => ?_)
                  clear hK K
                  (try simp only [Act.put, List.getElem_toArray, List.getElem_cons_zero, List.getElem_cons_succ, List.setIfInBounds_toArray, List.set_cons_zero, List.set_cons_succ])
                  refine takes [14, 15, 16, 17] (by kernel_rfl) (fun _ _ _ _ _ h => h) (by assumption) ?_
                  iterate 4 (refine ally_cons (v := ?_) rfl (Or.inl ⟨?_, fun w hSw => ?_⟩) ?_; rotate_left; rfl; ((try dsimp only at hSw); go_simp; try with_reducible rfl); (try simp only [Act.put, List.getElem_toArray, List.getElem_cons_zero, List.getElem_cons_succ, List.setIfInBounds_toArray, List.set_cons_zero, List.set_cons_succ]))
                  refine ally_nil ?_
                  refine wpAnyH_done (by kernel_rfl) ?_ _
                  clear hHeld
                  go_wp2_with fail
                  go_ret
                  exact ⟨ret_bool HZ4.out.symm, (B_0.out).drew⟩
      | true =>
        rw [hbg] at HG
        have HZ1 := Lib.hid (HZ.out.trans (if_neg (by rintro (h | h); exact h.2 n0; rw [hbg] at h; cases h.1)))
        by_cases k1 : x1 = 1
        · obtain ⟨k1t1, k1t2⟩ := eq_facts k1
          subst k1
          have HZ2 := Lib.hid (HZ1.out.trans (if_pos rfl))
          obtain ⟨z0, z1, z2, z3, z4⟩ := Bx.cells5 K_0.out
          go_wp2_with fail
          clear z0 z1 z2 z3 z4
          refine (HN.out _).mono ?_
          rintro e q1 ⟨rfl, rfl⟩
          obtain ⟨z0, z1, z2, z3, z4⟩ := Bx.cells5 K_0.out
          go_wp2_with fail
          refine (HG.out _).mono ?_
          rintro e q2 ⟨rfl, rfl⟩
          go_wp2_with fail
          clear z0 z1 z2 z3 z4
          obtain ⟨X, hX⟩ : ∃ X, X = v0 := ⟨_, rfl⟩
          rw [← hX]
          have HXX := Lib.hid hX
          clear hX
          go_loopw [8, 42] (fun v j wr => ∃ k : Nat, k ≤ i ∧ j = .int .i64 k ∧ v = .int .i64 (cnt0 L k) ∧ Below v0.heap.size v0 wr) (fun _ j _ => i - (intOf j).toNat)
          case atStart => exact ⟨0, Nat.zero_le _, rfl, rfl, by rw [HXX.out]; exact Below.refl _ _⟩
          case round =>
            obtain ⟨k, hk, rfl, rfl, hb⟩ := hrel
            have HB := Lib.hid hb
            clear hb
            by_cases hlt : k < i
            · have hlt' : (k : Int) < (i : Int) := by omega
              have hkn : (k : Int) < (n : Int) := by omega
              obtain ⟨b', off', _, he, d0, d1, d2, d3, d4⟩ := (Evs.below H_0.out HB.out).at k (by omega)
              cases he
              have HC := Lib.hid (show cnt0 L (k + 1) = if (evAt L k).kind = 0 then cnt0 L k + 1 else cnt0 L k from rfl)
              have hcl := cnt0_le L k
              have hc0 := hcl.1
              have hc1 := hcl.2
              clear hcl
              have BA := Lib.hid (HB.out.trans (Below.mono (below_alloc wr (.cells (evC (evAt L k)) 48)) HB.out.size))
              obtain ⟨x, hx⟩ : ∃ x, x = evAt L k := ⟨_, rfl⟩
              obtain ⟨z, hz⟩ : ∃ z, z = cnt0 L k := ⟨_, rfl⟩
              rw [← hx] at d0 d1 d2 d3 d4 HC BA
              rw [← hz] at HC hc0 hc1 ⊢
              clear hx hz
              unfold evC at BA
              obtain ⟨u0, u1, u2, u3, u4⟩ := x
              dsimp only at d0 d1 d2 d3 d4 HC BA
              by_cases hu : u1 = 0
              · obtain ⟨e1, e2⟩ := eq_facts hu
                have HC2 := Lib.hid (HC.out.trans (if_pos hu))
                subst hu
                go_wp2_with fail
                go_roundw
                case rel => exact ⟨k + 1, by omega, by go_num, by rw [HC2.out], BA.out⟩
                case measure => simp [intOf]; omega
              · obtain ⟨e1, e2⟩ := ne_facts hu
                have HC2 := Lib.hid (HC.out.trans (if_neg hu))
                go_wp2_with fail
                go_roundw
                case rel => exact ⟨k + 1, by omega, by go_num, by rw [HC2.out], BA.out⟩
                case measure => simp [intOf]; omega
            · have hke : k = i := by omega
              subst hke
              have KK := Lib.hid (Bx.below K_0.out HB.out)
              have BB := Lib.hid ((B_0.out).trans (Below.mono HB.out (B_0.out).size))
              obtain ⟨z0, z1, z2, z3, z4⟩ := Bx.cells5 KK.out
              by_cases ho : x2 = cnt0 L k
              · obtain ⟨o1, o2⟩ := eq_facts ho
                have HZ3 := Lib.hid (HZ2.out.trans (decide_eq_false (fun h => h ho)))
                go_wp2_with fail
                go_ret
                exact ⟨ret_bool HZ3.out.symm, BB.out⟩
              · obtain ⟨o1, o2⟩ := ne_facts ho
                have HZ3 := Lib.hid (HZ2.out.trans (decide_eq_true ho))
                go_wp2_with fail
                go_ret
                exact ⟨ret_bool HZ3.out.symm, BB.out⟩
        · obtain ⟨k1f1, k1f2⟩ := ne_facts k1
          have HZ2 := Lib.hid (HZ1.out.trans (if_neg k1))
          by_cases k0 : x1 = 0
          · obtain ⟨k0t1, k0t2⟩ := eq_facts k0
            have HZ3 := Lib.hid (HZ2.out.trans (decide_eq_false (by omega)))
            subst k0
            obtain ⟨z0, z1, z2, z3, z4⟩ := Bx.cells5 K_0.out
            go_wp2_with fail
            refine (HN.out _).mono ?_
            rintro e q1 ⟨rfl, rfl⟩
            go_wp2_with fail
            refine (HG.out _).mono ?_
            rintro e q2 ⟨rfl, rfl⟩
            go_wp2_with fail
            refine wp_region_held_drew (S := (fun V => V.cell? ⟨e0, 0, none⟩ = some (.int .i64 x0) ∧ V.cell? ⟨e0, 1, none⟩ = some (.int .i64 0) ∧ V.cell? ⟨e0, 2, none⟩ = some (.int .i64 x2) ∧ V.cell? ⟨e0, 3, none⟩ = some (.int .i64 x3) ∧ V.cell? ⟨e0, 4, none⟩ = some (.int .i64 x4))) (by kernel_rfl) ⟨z0, z1, z2, z3, z4⟩ (fun hHeld => ?_)
            (try simp only [Act.put, List.getElem_toArray, List.getElem_cons_zero, List.getElem_cons_succ, List.setIfInBounds_toArray, List.set_cons_zero, List.set_cons_succ])
            refine takes [0, 1, 2, 3, 4, 5, 6, 7, 8, 9, 10, 11, 12, 13, 14, 15, 16, 17] (by kernel_rfl) (fun _ _ _ _ _ h => h) (by assumption) ?_
            iterate 18 (first | (refine ally_cons (v := ?_) rfl (Or.inl ⟨?_, fun w hSw => ?_⟩) ?_; rotate_left; rfl; ((try dsimp only at hSw); go_simp; try with_reducible rfl); (try simp only [Act.put, List.getElem_toArray, List.getElem_cons_zero, List.getElem_cons_succ, List.setIfInBounds_toArray, List.set_cons_zero, List.set_cons_succ])) | (refine ally_cons (v := undef) rfl (Or.inr ⟨?_, rfl⟩) ?_; kernel_rfl; (try simp only [Act.put, List.getElem_toArray, List.getElem_cons_zero, List.getElem_cons_succ, List.setIfInBounds_toArray, List.set_cons_zero, List.set_cons_succ])))
            refine ally_nil ?_
            refine wpAnyH_done (by kernel_rfl) ?_ _
            clear hHeld
            go_wp2_with fail
            go_ret
            exact ⟨ret_bool HZ3.out.symm, (B_0.out).drew⟩
          · obtain ⟨k0f1, k0f2⟩ := ne_facts k0
            by_cases o0 : x2 < 0
            · skip
              have HZ3 := Lib.hid (HZ2.out.trans (decide_eq_true (by omega)))
              obtain ⟨z0, z1, z2, z3, z4⟩ := Bx.cells5 K_0.out
              go_wp2_with fail
              refine (HN.out _).mono ?_
              rintro e q1 ⟨rfl, rfl⟩
              go_wp2_with fail
              refine (HG.out _).mono ?_
              rintro e q2 ⟨rfl, rfl⟩
              go_wp2_with fail
              have hfx0 : (x1 != 0) = true := by assumption
              have hfx1 : decide (x2 < 0) = true := by simp only [decide_eq_true_eq, decide_eq_false_iff_not]; omega
              refine wp_region_held_drew (S := (fun V => V.cell? ⟨e0, 0, none⟩ = some (.int .i64 x0) ∧ V.cell? ⟨e0, 1, none⟩ = some (.int .i64 x1) ∧ V.cell? ⟨e0, 2, none⟩ = some (.int .i64 x2) ∧ V.cell? ⟨e0, 3, none⟩ = some (.int .i64 x3) ∧ V.cell? ⟨e0, 4, none⟩ = some (.int .i64 x4))) (by kernel_rfl) ⟨z0, z1, z2, z3, z4⟩ (fun hHeld => ?_)
              (try simp only [Act.put, List.getElem_toArray, List.getElem_cons_zero, List.getElem_cons_succ, List.setIfInBounds_toArray, List.set_cons_zero, List.set_cons_succ])
              refine takes [0, 1, 2, 3, 4, 5, 6, 7, 8, 9, 10, 11, 12, 13, 14, 15, 16, 17] (by kernel_rfl) (fun _ _ _ _ _ h => h) (by assumption) ?_
              iterate 18 (first | (refine ally_cons (v := ?_) rfl (Or.inl ⟨?_, fun w hSw => ?_⟩) ?_; rotate_left; rfl; ((try dsimp only at hSw); go_simp; try with_reducible rfl); (try simp only [Act.put, List.getElem_toArray, List.getElem_cons_zero, List.getElem_cons_succ, List.setIfInBounds_toArray, List.set_cons_zero, List.set_cons_succ, hfx0, hfx1])) | (refine ally_cons (v := undef) rfl (Or.inr ⟨?_, rfl⟩) ?_; kernel_rfl; (try simp only [Act.put, List.getElem_toArray, List.getElem_cons_zero, List.getElem_cons_succ, List.setIfInBounds_toArray, List.set_cons_zero, List.set_cons_succ, hfx0, hfx1])))
              refine ally_nil ?_
              refine wpAnyH_done (by kernel_rfl) ?_ _
              clear hHeld
              go_wp2_with fail
              go_ret
              exact ⟨ret_bool HZ3.out.symm, (B_0.out).drew⟩
            · skip
              by_cases om : mostZ cn x1 ≤ x2
              · skip
                have HZ3 := Lib.hid (HZ2.out.trans (decide_eq_true (by omega)))
                obtain ⟨z0, z1, z2, z3, z4⟩ := Bx.cells5 K_0.out
                go_wp2_with fail
                refine (HN.out _).mono ?_
                rintro e q1 ⟨rfl, rfl⟩
                go_wp2_with fail
                refine (HG.out _).mono ?_
                rintro e q2 ⟨rfl, rfl⟩
                go_wp2_with fail
                have hfx0 : (x1 != 0) = true := by assumption
                have hfx1 : decide (x2 < 0) = false := by simp only [decide_eq_true_eq, decide_eq_false_iff_not]; omega
                refine wp_region_held_drew (S := (fun V => V.cell? ⟨e0, 0, none⟩ = some (.int .i64 x0) ∧ V.cell? ⟨e0, 1, none⟩ = some (.int .i64 x1) ∧ V.cell? ⟨e0, 2, none⟩ = some (.int .i64 x2) ∧ V.cell? ⟨e0, 3, none⟩ = some (.int .i64 x3) ∧ V.cell? ⟨e0, 4, none⟩ = some (.int .i64 x4))) (by kernel_rfl) ⟨z0, z1, z2, z3, z4⟩ (fun hHeld => ?_)
                (try simp only [Act.put, List.getElem_toArray, List.getElem_cons_zero, List.getElem_cons_succ, List.setIfInBounds_toArray, List.set_cons_zero, List.set_cons_succ])
                refine takes [0, 1, 2, 3, 4, 5, 6, 7, 8, 9, 10, 11, 12] (by kernel_rfl) (fun _ _ _ _ _ h => h) (by assumption) ?_
                iterate 13 (refine ally_cons (v := ?_) rfl (Or.inl ⟨?_, fun w hSw => ?_⟩) ?_; rotate_left; rfl; ((try dsimp only at hSw); go_simp; try with_reducible rfl); (try simp only [Act.put, List.getElem_toArray, List.getElem_cons_zero, List.getElem_cons_succ, List.setIfInBounds_toArray, List.set_cons_zero, List.set_cons_succ, hfx0, hfx1]))
                refine ally_nil ?_
                refine wpAnyH_ready (rs := [13]) (by kernel_rfl) (by simp) ?_
                refine AllReadyH.cons (o := _) rfl (fun K hK => ?_) AllReadyH.nil
                go_simp
                refine (HM.out _).mono ?_
                rintro e q3 ⟨rfl, rfl⟩
                clear hHeld
                refine hK.out _ _ ⟨z0, z1, z2, z3, z4⟩ (fun hHeld => ?_)
                clear hK K
                (try simp only [Act.put, List.getElem_toArray, List.getElem_cons_zero, List.getElem_cons_succ, List.setIfInBounds_toArray, List.set_cons_zero, List.set_cons_succ])
                refine takes [14, 15, 16, 17] (by kernel_rfl) (fun _ _ _ _ _ h => h) (by assumption) ?_
                iterate 4 (refine ally_cons (v := ?_) rfl (Or.inl ⟨?_, fun w hSw => ?_⟩) ?_; rotate_left; rfl; ((try dsimp only at hSw); go_simp; try with_reducible rfl); (try simp only [Act.put, List.getElem_toArray, List.getElem_cons_zero, List.getElem_cons_succ, List.setIfInBounds_toArray, List.set_cons_zero, List.set_cons_succ]))
                refine ally_nil ?_
                refine wpAnyH_done (by kernel_rfl) ?_ _
                clear hHeld
                go_wp2_with fail
                go_ret
                exact ⟨ret_bool HZ3.out.symm, (B_0.out).drew⟩
              · skip
                have HZ3 := Lib.hid (HZ2.out.trans (decide_eq_false (by omega)))
                have HZ4 := Lib.hid (HZ3.out.trans (decide_eq_false om).symm)
                obtain ⟨z0, z1, z2, z3, z4⟩ := Bx.cells5 K_0.out
                go_wp2_with fail
                refine (HN.out _).mono ?_
                rintro e q1 ⟨rfl, rfl⟩
                go_wp2_with fail
                refine (HG.out _).mono ?_
                rintro e q2 ⟨rfl, rfl⟩
                go_wp2_with fail
                have hfx0 : (x1 != 0) = true := by assumption
                have hfx1 : decide (x2 < 0) = false := by simp only [decide_eq_true_eq, decide_eq_false_iff_not]; omega
                refine wp_region_held_drew (S := (fun V => V.cell? ⟨e0, 0, none⟩ = some (.int .i64 x0) ∧ V.cell? ⟨e0, 1, none⟩ = some (.int .i64 x1) ∧ V.cell? ⟨e0, 2, none⟩ = some (.int .i64 x2) ∧ V.cell? ⟨e0, 3, none⟩ = some (.int .i64 x3) ∧ V.cell? ⟨e0, 4, none⟩ = some (.int .i64 x4))) (by kernel_rfl) ⟨z0, z1, z2, z3, z4⟩ (fun hHeld => ?_)
                (try simp only [Act.put, List.getElem_toArray, List.getElem_cons_zero, List.getElem_cons_succ, List.setIfInBounds_toArray, List.set_cons_zero, List.set_cons_succ])
                refine takes [0, 1, 2, 3, 4, 5, 6, 7, 8, 9, 10, 11, 12] (by kernel_rfl) (fun _ _ _ _ _ h => h) (by assumption) ?_
                iterate 13 (refine ally_cons (v := ?_) rfl (Or.inl ⟨?_, fun w hSw => ?_⟩) ?_; rotate_left; rfl; ((try dsimp only at hSw); go_simp; try with_reducible rfl); (try simp only [Act.put, List.getElem_toArray, List.getElem_cons_zero, List.getElem_cons_succ, List.setIfInBounds_toArray, List.set_cons_zero, List.set_cons_succ, hfx0, hfx1]))
                refine ally_nil ?_
                refine wpAnyH_ready (rs := [13]) (by kernel_rfl) (by simp) ?_
                refine AllReadyH.cons (o := _) rfl (fun K hK => ?_) AllReadyH.nil
                go_simp
                refine (HM.out _).mono ?_
                rintro e q3 ⟨rfl, rfl⟩
                clear hHeld
                refine hK.out _ _ ⟨z0, z1, z2, z3, z4⟩ (fun hHeld => ?_)
                clear hK K
                (try simp only [Act.put, List.getElem_toArray, List.getElem_cons_zero, List.getElem_cons_succ, List.setIfInBounds_toArray, List.set_cons_zero, List.set_cons_succ])
                refine takes [14, 15, 16, 17] (by kernel_rfl) (fun _ _ _ _ _ h => h) (by assumption) ?_
                iterate 4 (refine ally_cons (v := ?_) rfl (Or.inl ⟨?_, fun w hSw => ?_⟩) ?_; rotate_left; rfl; ((try dsimp only at hSw); go_simp; try with_reducible rfl); (try simp only [Act.put, List.getElem_toArray, List.getElem_cons_zero, List.getElem_cons_succ, List.setIfInBounds_toArray, List.set_cons_zero, List.set_cons_succ]))
                refine ally_nil ?_
                refine wpAnyH_done (by kernel_rfl) ?_ _
                clear hHeld
                go_wp2_with fail
                go_ret
                exact ⟨ret_bool HZ4.out.symm, (B_0.out).drew⟩
  | true =>
    rw [hnb] at HN
    cases hbg : beginsZ x1 with
    | false =>
      rw [hbg] at HG
      by_cases s0 : ¬ x4 = -1
      · obtain ⟨s0f1, s0f2⟩ := ne_facts s0
        have HZ1 := Lib.hid (HZ.out.trans (if_pos (by exact .inr ⟨hbg, s0⟩)))
        obtain ⟨z0, z1, z2, z3, z4⟩ := Bx.cells5 K_0.out
        go_wp2_with fail
        refine (HN.out _).mono ?_
        rintro e q1 ⟨rfl, rfl⟩
        go_wp2_with fail
        refine (HG.out _).mono ?_
        rintro e q2 ⟨rfl, rfl⟩
        go_wp2_with fail
        go_ret
        exact ⟨ret_bool HZ1.out.symm, B_0.out⟩
      · have s0 := Classical.not_not.1 s0
        obtain ⟨s0t1, s0t2⟩ := eq_facts s0
        have HZ1 := Lib.hid (HZ.out.trans (if_neg (by rintro (h | h); exact (by rw [hnb] at h; cases h.1); exact h.2 s0)))
        by_cases k1 : x1 = 1
        · obtain ⟨k1t1, k1t2⟩ := eq_facts k1
          subst k1
          have HZ2 := Lib.hid (HZ1.out.trans (if_pos rfl))
          obtain ⟨z0, z1, z2, z3, z4⟩ := Bx.cells5 K_0.out
          go_wp2_with fail
          clear z0 z1 z2 z3 z4
          refine (HN.out _).mono ?_
          rintro e q1 ⟨rfl, rfl⟩
          obtain ⟨z0, z1, z2, z3, z4⟩ := Bx.cells5 K_0.out
          go_wp2_with fail
          refine (HG.out _).mono ?_
          rintro e q2 ⟨rfl, rfl⟩
          go_wp2_with fail
          clear z0 z1 z2 z3 z4
          obtain ⟨X, hX⟩ : ∃ X, X = v0 := ⟨_, rfl⟩
          rw [← hX]
          have HXX := Lib.hid hX
          clear hX
          go_loopw [8, 42] (fun v j wr => ∃ k : Nat, k ≤ i ∧ j = .int .i64 k ∧ v = .int .i64 (cnt0 L k) ∧ Below v0.heap.size v0 wr) (fun _ j _ => i - (intOf j).toNat)
          case atStart => exact ⟨0, Nat.zero_le _, rfl, rfl, by rw [HXX.out]; exact Below.refl _ _⟩
          case round =>
            obtain ⟨k, hk, rfl, rfl, hb⟩ := hrel
            have HB := Lib.hid hb
            clear hb
            by_cases hlt : k < i
            · have hlt' : (k : Int) < (i : Int) := by omega
              have hkn : (k : Int) < (n : Int) := by omega
              obtain ⟨b', off', _, he, d0, d1, d2, d3, d4⟩ := (Evs.below H_0.out HB.out).at k (by omega)
              cases he
              have HC := Lib.hid (show cnt0 L (k + 1) = if (evAt L k).kind = 0 then cnt0 L k + 1 else cnt0 L k from rfl)
              have hcl := cnt0_le L k
              have hc0 := hcl.1
              have hc1 := hcl.2
              clear hcl
              have BA := Lib.hid (HB.out.trans (Below.mono (below_alloc wr (.cells (evC (evAt L k)) 48)) HB.out.size))
              obtain ⟨x, hx⟩ : ∃ x, x = evAt L k := ⟨_, rfl⟩
              obtain ⟨z, hz⟩ : ∃ z, z = cnt0 L k := ⟨_, rfl⟩
              rw [← hx] at d0 d1 d2 d3 d4 HC BA
              rw [← hz] at HC hc0 hc1 ⊢
              clear hx hz
              unfold evC at BA
              obtain ⟨u0, u1, u2, u3, u4⟩ := x
              dsimp only at d0 d1 d2 d3 d4 HC BA
              by_cases hu : u1 = 0
              · obtain ⟨e1, e2⟩ := eq_facts hu
                have HC2 := Lib.hid (HC.out.trans (if_pos hu))
                subst hu
                go_wp2_with fail
                go_roundw
                case rel => exact ⟨k + 1, by omega, by go_num, by rw [HC2.out], BA.out⟩
                case measure => simp [intOf]; omega
              · obtain ⟨e1, e2⟩ := ne_facts hu
                have HC2 := Lib.hid (HC.out.trans (if_neg hu))
                go_wp2_with fail
                go_roundw
                case rel => exact ⟨k + 1, by omega, by go_num, by rw [HC2.out], BA.out⟩
                case measure => simp [intOf]; omega
            · have hke : k = i := by omega
              subst hke
              have KK := Lib.hid (Bx.below K_0.out HB.out)
              have BB := Lib.hid ((B_0.out).trans (Below.mono HB.out (B_0.out).size))
              obtain ⟨z0, z1, z2, z3, z4⟩ := Bx.cells5 KK.out
              by_cases ho : x2 = cnt0 L k
              · obtain ⟨o1, o2⟩ := eq_facts ho
                have HZ3 := Lib.hid (HZ2.out.trans (decide_eq_false (fun h => h ho)))
                go_wp2_with fail
                go_ret
                exact ⟨ret_bool HZ3.out.symm, BB.out⟩
              · obtain ⟨o1, o2⟩ := ne_facts ho
                have HZ3 := Lib.hid (HZ2.out.trans (decide_eq_true ho))
                go_wp2_with fail
                go_ret
                exact ⟨ret_bool HZ3.out.symm, BB.out⟩
        · obtain ⟨k1f1, k1f2⟩ := ne_facts k1
          have HZ2 := Lib.hid (HZ1.out.trans (if_neg k1))
          by_cases k0 : x1 = 0
          · obtain ⟨k0t1, k0t2⟩ := eq_facts k0
            have HZ3 := Lib.hid (HZ2.out.trans (decide_eq_false (by omega)))
            subst k0
            obtain ⟨z0, z1, z2, z3, z4⟩ := Bx.cells5 K_0.out
            go_wp2_with fail
            refine (HN.out _).mono ?_
            rintro e q1 ⟨rfl, rfl⟩
            go_wp2_with fail
            refine (HG.out _).mono ?_
            rintro e q2 ⟨rfl, rfl⟩
            go_wp2_with fail
            refine wp_region_held_drew (S := (fun V => V.cell? ⟨e0, 0, none⟩ = some (.int .i64 x0) ∧ V.cell? ⟨e0, 1, none⟩ = some (.int .i64 0) ∧ V.cell? ⟨e0, 2, none⟩ = some (.int .i64 x2) ∧ V.cell? ⟨e0, 3, none⟩ = some (.int .i64 x3) ∧ V.cell? ⟨e0, 4, none⟩ = some (.int .i64 x4))) (by kernel_rfl) ⟨z0, z1, z2, z3, z4⟩ (fun hHeld => ?_)
            (try simp only [Act.put, List.getElem_toArray, List.getElem_cons_zero, List.getElem_cons_succ, List.setIfInBounds_toArray, List.set_cons_zero, List.set_cons_succ])
            refine takes [0, 1, 2, 3, 4, 5, 6, 7, 8, 9, 10, 11, 12, 13, 14, 15, 16, 17] (by kernel_rfl) (fun _ _ _ _ _ h => h) (by assumption) ?_
            iterate 18 (first | (refine ally_cons (v := ?_) rfl (Or.inl ⟨?_, fun w hSw => ?_⟩) ?_; rotate_left; rfl; ((try dsimp only at hSw); go_simp; try with_reducible rfl); (try simp only [Act.put, List.getElem_toArray, List.getElem_cons_zero, List.getElem_cons_succ, List.setIfInBounds_toArray, List.set_cons_zero, List.set_cons_succ])) | (refine ally_cons (v := undef) rfl (Or.inr ⟨?_, rfl⟩) ?_; kernel_rfl; (try simp only [Act.put, List.getElem_toArray, List.getElem_cons_zero, List.getElem_cons_succ, List.setIfInBounds_toArray, List.set_cons_zero, List.set_cons_succ])))
            refine ally_nil ?_
            refine wpAnyH_done (by kernel_rfl) ?_ _
            clear hHeld
            go_wp2_with fail
            go_ret
            exact ⟨ret_bool HZ3.out.symm, (B_0.out).drew⟩
          · obtain ⟨k0f1, k0f2⟩ := ne_facts k0
            by_cases o0 : x2 < 0
            · skip
              have HZ3 := Lib.hid (HZ2.out.trans (decide_eq_true (by omega)))
              obtain ⟨z0, z1, z2, z3, z4⟩ := Bx.cells5 K_0.out
              go_wp2_with fail
              refine (HN.out _).mono ?_
              rintro e q1 ⟨rfl, rfl⟩
              go_wp2_with fail
              refine (HG.out _).mono ?_
              rintro e q2 ⟨rfl, rfl⟩
              go_wp2_with fail
              have hfx0 : (x1 != 0) = true := by assumption
              have hfx1 : decide (x2 < 0) = true := by simp only [decide_eq_true_eq, decide_eq_false_iff_not]; omega
              refine wp_region_held_drew (S := (fun V => V.cell? ⟨e0, 0, none⟩ = some (.int .i64 x0) ∧ V.cell? ⟨e0, 1, none⟩ = some (.int .i64 x1) ∧ V.cell? ⟨e0, 2, none⟩ = some (.int .i64 x2) ∧ V.cell? ⟨e0, 3, none⟩ = some (.int .i64 x3) ∧ V.cell? ⟨e0, 4, none⟩ = some (.int .i64 x4))) (by kernel_rfl) ⟨z0, z1, z2, z3, z4⟩ (fun hHeld => ?_)
              (try simp only [Act.put, List.getElem_toArray, List.getElem_cons_zero, List.getElem_cons_succ, List.setIfInBounds_toArray, List.set_cons_zero, List.set_cons_succ])
              refine takes [0, 1, 2, 3, 4, 5, 6, 7, 8, 9, 10, 11, 12, 13, 14, 15, 16, 17] (by kernel_rfl) (fun _ _ _ _ _ h => h) (by assumption) ?_
              iterate 18 (first | (refine ally_cons (v := ?_) rfl (Or.inl ⟨?_, fun w hSw => ?_⟩) ?_; rotate_left; rfl; ((try dsimp only at hSw); go_simp; try with_reducible rfl); (try simp only [Act.put, List.getElem_toArray, List.getElem_cons_zero, List.getElem_cons_succ, List.setIfInBounds_toArray, List.set_cons_zero, List.set_cons_succ, hfx0, hfx1])) | (refine ally_cons (v := undef) rfl (Or.inr ⟨?_, rfl⟩) ?_; kernel_rfl; (try simp only [Act.put, List.getElem_toArray, List.getElem_cons_zero, List.getElem_cons_succ, List.setIfInBounds_toArray, List.set_cons_zero, List.set_cons_succ, hfx0, hfx1])))
              refine ally_nil ?_
              refine wpAnyH_done (by kernel_rfl) ?_ _
              clear hHeld
              go_wp2_with fail
              go_ret
              exact ⟨ret_bool HZ3.out.symm, (B_0.out).drew⟩
            · skip
              by_cases om : mostZ cn x1 ≤ x2
              · skip
                have HZ3 := Lib.hid (HZ2.out.trans (decide_eq_true (by omega)))
                obtain ⟨z0, z1, z2, z3, z4⟩ := Bx.cells5 K_0.out
                go_wp2_with fail
                refine (HN.out _).mono ?_
                rintro e q1 ⟨rfl, rfl⟩
                go_wp2_with fail
                refine (HG.out _).mono ?_
                rintro e q2 ⟨rfl, rfl⟩
                go_wp2_with fail
                have hfx0 : (x1 != 0) = true := by assumption
                have hfx1 : decide (x2 < 0) = false := by simp only [decide_eq_true_eq, decide_eq_false_iff_not]; omega
                refine wp_region_held_drew (S := (fun V => V.cell? ⟨e0, 0, none⟩ = some (.int .i64 x0) ∧ V.cell? ⟨e0, 1, none⟩ = some (.int .i64 x1) ∧ V.cell? ⟨e0, 2, none⟩ = some (.int .i64 x2) ∧ V.cell? ⟨e0, 3, none⟩ = some (.int .i64 x3) ∧ V.cell? ⟨e0, 4, none⟩ = some (.int .i64 x4))) (by kernel_rfl) ⟨z0, z1, z2, z3, z4⟩ (fun hHeld => ?_)
                (try simp only [Act.put, List.getElem_toArray, List.getElem_cons_zero, List.getElem_cons_succ, List.setIfInBounds_toArray, List.set_cons_zero, List.set_cons_succ])
                refine takes [0, 1, 2, 3, 4, 5, 6, 7, 8, 9, 10, 11, 12] (by kernel_rfl) (fun _ _ _ _ _ h => h) (by assumption) ?_
                iterate 13 (refine ally_cons (v := ?_) rfl (Or.inl ⟨?_, fun w hSw => ?_⟩) ?_; rotate_left; rfl; ((try dsimp only at hSw); go_simp; try with_reducible rfl); (try simp only [Act.put, List.getElem_toArray, List.getElem_cons_zero, List.getElem_cons_succ, List.setIfInBounds_toArray, List.set_cons_zero, List.set_cons_succ, hfx0, hfx1]))
                refine ally_nil ?_
                refine wpAnyH_ready (rs := [13]) (by kernel_rfl) (by simp) ?_
                refine AllReadyH.cons (o := _) rfl (fun K hK => ?_) AllReadyH.nil
                go_simp
                refine (HM.out _).mono ?_
                rintro e q3 ⟨rfl, rfl⟩
                clear hHeld
                refine hK.out _ _ ⟨z0, z1, z2, z3, z4⟩ (fun hHeld => ?_)
                clear hK K
                (try simp only [Act.put, List.getElem_toArray, List.getElem_cons_zero, List.getElem_cons_succ, List.setIfInBounds_toArray, List.set_cons_zero, List.set_cons_succ])
                refine takes [14, 15, 16, 17] (by kernel_rfl) (fun _ _ _ _ _ h => h) (by assumption) ?_
                iterate 4 (refine ally_cons (v := ?_) rfl (Or.inl ⟨?_, fun w hSw => ?_⟩) ?_; rotate_left; rfl; ((try dsimp only at hSw); go_simp; try with_reducible rfl); (try simp only [Act.put, List.getElem_toArray, List.getElem_cons_zero, List.getElem_cons_succ, List.setIfInBounds_toArray, List.set_cons_zero, List.set_cons_succ]))
                refine ally_nil ?_
                refine wpAnyH_done (by kernel_rfl) ?_ _
                clear hHeld
                go_wp2_with fail
                go_ret
                exact ⟨ret_bool HZ3.out.symm, (B_0.out).drew⟩
              · skip
                have HZ3 := Lib.hid (HZ2.out.trans (decide_eq_false (by omega)))
                have HZ4 := Lib.hid (HZ3.out.trans (decide_eq_false om).symm)
                obtain ⟨z0, z1, z2, z3, z4⟩ := Bx.cells5 K_0.out
                go_wp2_with fail
                refine (HN.out _).mono ?_
                rintro e q1 ⟨rfl, rfl⟩
                go_wp2_with fail
                refine (HG.out _).mono ?_
                rintro e q2 ⟨rfl, rfl⟩
                go_wp2_with fail
                have hfx0 : (x1 != 0) = true := by assumption
                have hfx1 : decide (x2 < 0) = false := by simp only [decide_eq_true_eq, decide_eq_false_iff_not]; omega
                refine wp_region_held_drew (S := (fun V => V.cell? ⟨e0, 0, none⟩ = some (.int .i64 x0) ∧ V.cell? ⟨e0, 1, none⟩ = some (.int .i64 x1) ∧ V.cell? ⟨e0, 2, none⟩ = some (.int .i64 x2) ∧ V.cell? ⟨e0, 3, none⟩ = some (.int .i64 x3) ∧ V.cell? ⟨e0, 4, none⟩ = some (.int .i64 x4))) (by kernel_rfl) ⟨z0, z1, z2, z3, z4⟩ (fun hHeld => ?_)
                (try simp only [Act.put, List.getElem_toArray, List.getElem_cons_zero, List.getElem_cons_succ, List.setIfInBounds_toArray, List.set_cons_zero, List.set_cons_succ])
                refine takes [0, 1, 2, 3, 4, 5, 6, 7, 8, 9, 10, 11, 12] (by kernel_rfl) (fun _ _ _ _ _ h => h) (by assumption) ?_
                iterate 13 (refine ally_cons (v := ?_) rfl (Or.inl ⟨?_, fun w hSw => ?_⟩) ?_; rotate_left; rfl; ((try dsimp only at hSw); go_simp; try with_reducible rfl); (try simp only [Act.put, List.getElem_toArray, List.getElem_cons_zero, List.getElem_cons_succ, List.setIfInBounds_toArray, List.set_cons_zero, List.set_cons_succ, hfx0, hfx1]))
                refine ally_nil ?_
                refine wpAnyH_ready (rs := [13]) (by kernel_rfl) (by simp) ?_
                refine AllReadyH.cons (o := _) rfl (fun K hK => ?_) AllReadyH.nil
                go_simp
                refine (HM.out _).mono ?_
                rintro e q3 ⟨rfl, rfl⟩
                clear hHeld
                refine hK.out _ _ ⟨z0, z1, z2, z3, z4⟩ (fun hHeld => ?_)
                clear hK K
                (try simp only [Act.put, List.getElem_toArray, List.getElem_cons_zero, List.getElem_cons_succ, List.setIfInBounds_toArray, List.set_cons_zero, List.set_cons_succ])
                refine takes [14, 15, 16, 17] (by kernel_rfl) (fun _ _ _ _ _ h => h) (by assumption) ?_
                iterate 4 (refine ally_cons (v := ?_) rfl (Or.inl ⟨?_, fun w hSw => ?_⟩) ?_; rotate_left; rfl; ((try dsimp only at hSw); go_simp; try with_reducible rfl); (try simp only [Act.put, List.getElem_toArray, List.getElem_cons_zero, List.getElem_cons_succ, List.setIfInBounds_toArray, List.set_cons_zero, List.set_cons_succ]))
                refine ally_nil ?_
                refine wpAnyH_done (by kernel_rfl) ?_ _
                clear hHeld
                go_wp2_with fail
                go_ret
                exact ⟨ret_bool HZ4.out.symm, (B_0.out).drew⟩
    | true =>
      rw [hbg] at HG
      have HZ1 := Lib.hid (HZ.out.trans (if_neg (by rintro (h | h); exact (by rw [hnb] at h; cases h.1); rw [hbg] at h; cases h.1)))
      by_cases k1 : x1 = 1
      · obtain ⟨k1t1, k1t2⟩ := eq_facts k1
        subst k1
        have HZ2 := Lib.hid (HZ1.out.trans (if_pos rfl))
        obtain ⟨z0, z1, z2, z3, z4⟩ := Bx.cells5 K_0.out
        go_wp2_with fail
        clear z0 z1 z2 z3 z4
        refine (HN.out _).mono ?_
        rintro e q1 ⟨rfl, rfl⟩
        obtain ⟨z0, z1, z2, z3, z4⟩ := Bx.cells5 K_0.out
        go_wp2_with fail
        refine (HG.out _).mono ?_
        rintro e q2 ⟨rfl, rfl⟩
        go_wp2_with fail
        clear z0 z1 z2 z3 z4
        obtain ⟨X, hX⟩ : ∃ X, X = v0 := ⟨_, rfl⟩
        rw [← hX]
        have HXX := Lib.hid hX
        clear hX
        go_loopw [8, 42] (fun v j wr => ∃ k : Nat, k ≤ i ∧ j = .int .i64 k ∧ v = .int .i64 (cnt0 L k) ∧ Below v0.heap.size v0 wr) (fun _ j _ => i - (intOf j).toNat)
        case atStart => exact ⟨0, Nat.zero_le _, rfl, rfl, by rw [HXX.out]; exact Below.refl _ _⟩
        case round =>
          obtain ⟨k, hk, rfl, rfl, hb⟩ := hrel
          have HB := Lib.hid hb
          clear hb
          by_cases hlt : k < i
          · have hlt' : (k : Int) < (i : Int) := by omega
            have hkn : (k : Int) < (n : Int) := by omega
            obtain ⟨b', off', _, he, d0, d1, d2, d3, d4⟩ := (Evs.below H_0.out HB.out).at k (by omega)
            cases he
            have HC := Lib.hid (show cnt0 L (k + 1) = if (evAt L k).kind = 0 then cnt0 L k + 1 else cnt0 L k from rfl)
            have hcl := cnt0_le L k
            have hc0 := hcl.1
            have hc1 := hcl.2
            clear hcl
            have BA := Lib.hid (HB.out.trans (Below.mono (below_alloc wr (.cells (evC (evAt L k)) 48)) HB.out.size))
            obtain ⟨x, hx⟩ : ∃ x, x = evAt L k := ⟨_, rfl⟩
            obtain ⟨z, hz⟩ : ∃ z, z = cnt0 L k := ⟨_, rfl⟩
            rw [← hx] at d0 d1 d2 d3 d4 HC BA
            rw [← hz] at HC hc0 hc1 ⊢
            clear hx hz
            unfold evC at BA
            obtain ⟨u0, u1, u2, u3, u4⟩ := x
            dsimp only at d0 d1 d2 d3 d4 HC BA
            by_cases hu : u1 = 0
            · obtain ⟨e1, e2⟩ := eq_facts hu
              have HC2 := Lib.hid (HC.out.trans (if_pos hu))
              subst hu
              go_wp2_with fail
              go_roundw
              case rel => exact ⟨k + 1, by omega, by go_num, by rw [HC2.out], BA.out⟩
              case measure => simp [intOf]; omega
            · obtain ⟨e1, e2⟩ := ne_facts hu
              have HC2 := Lib.hid (HC.out.trans (if_neg hu))
              go_wp2_with fail
              go_roundw
              case rel => exact ⟨k + 1, by omega, by go_num, by rw [HC2.out], BA.out⟩
              case measure => simp [intOf]; omega
          · have hke : k = i := by omega
            subst hke
            have KK := Lib.hid (Bx.below K_0.out HB.out)
            have BB := Lib.hid ((B_0.out).trans (Below.mono HB.out (B_0.out).size))
            obtain ⟨z0, z1, z2, z3, z4⟩ := Bx.cells5 KK.out
            by_cases ho : x2 = cnt0 L k
            · obtain ⟨o1, o2⟩ := eq_facts ho
              have HZ3 := Lib.hid (HZ2.out.trans (decide_eq_false (fun h => h ho)))
              go_wp2_with fail
              go_ret
              exact ⟨ret_bool HZ3.out.symm, BB.out⟩
            · obtain ⟨o1, o2⟩ := ne_facts ho
              have HZ3 := Lib.hid (HZ2.out.trans (decide_eq_true ho))
              go_wp2_with fail
              go_ret
              exact ⟨ret_bool HZ3.out.symm, BB.out⟩
      · obtain ⟨k1f1, k1f2⟩ := ne_facts k1
        have HZ2 := Lib.hid (HZ1.out.trans (if_neg k1))
        by_cases k0 : x1 = 0
        · obtain ⟨k0t1, k0t2⟩ := eq_facts k0
          have HZ3 := Lib.hid (HZ2.out.trans (decide_eq_false (by omega)))
          subst k0
          obtain ⟨z0, z1, z2, z3, z4⟩ := Bx.cells5 K_0.out
          go_wp2_with fail
          refine (HN.out _).mono ?_
          rintro e q1 ⟨rfl, rfl⟩
          go_wp2_with fail
          refine (HG.out _).mono ?_
          rintro e q2 ⟨rfl, rfl⟩
          go_wp2_with fail
          refine wp_region_held_drew (S := (fun V => V.cell? ⟨e0, 0, none⟩ = some (.int .i64 x0) ∧ V.cell? ⟨e0, 1, none⟩ = some (.int .i64 0) ∧ V.cell? ⟨e0, 2, none⟩ = some (.int .i64 x2) ∧ V.cell? ⟨e0, 3, none⟩ = some (.int .i64 x3) ∧ V.cell? ⟨e0, 4, none⟩ = some (.int .i64 x4))) (by kernel_rfl) ⟨z0, z1, z2, z3, z4⟩ (fun hHeld => ?_)
          (try simp only [Act.put, List.getElem_toArray, List.getElem_cons_zero, List.getElem_cons_succ, List.setIfInBounds_toArray, List.set_cons_zero, List.set_cons_succ])
          refine takes [0, 1, 2, 3, 4, 5, 6, 7, 8, 9, 10, 11, 12, 13, 14, 15, 16, 17] (by kernel_rfl) (fun _ _ _ _ _ h => h) (by assumption) ?_
          iterate 18 (first | (refine ally_cons (v := ?_) rfl (Or.inl ⟨?_, fun w hSw => ?_⟩) ?_; rotate_left; rfl; ((try dsimp only at hSw); go_simp; try with_reducible rfl); (try simp only [Act.put, List.getElem_toArray, List.getElem_cons_zero, List.getElem_cons_succ, List.setIfInBounds_toArray, List.set_cons_zero, List.set_cons_succ])) | (refine ally_cons (v := undef) rfl (Or.inr ⟨?_, rfl⟩) ?_; kernel_rfl; (try simp only [Act.put, List.getElem_toArray, List.getElem_cons_zero, List.getElem_cons_succ, List.setIfInBounds_toArray, List.set_cons_zero, List.set_cons_succ])))
          refine ally_nil ?_
          refine wpAnyH_done (by kernel_rfl) ?_ _
          clear hHeld
          go_wp2_with fail
          go_ret
          exact ⟨ret_bool HZ3.out.symm, (B_0.out).drew⟩
        · obtain ⟨k0f1, k0f2⟩ := ne_facts k0
          by_cases o0 : x2 < 0
          · skip
            have HZ3 := Lib.hid (HZ2.out.trans (decide_eq_true (by omega)))
            obtain ⟨z0, z1, z2, z3, z4⟩ := Bx.cells5 K_0.out
            go_wp2_with fail
            refine (HN.out _).mono ?_
            rintro e q1 ⟨rfl, rfl⟩
            go_wp2_with fail
            refine (HG.out _).mono ?_
            rintro e q2 ⟨rfl, rfl⟩
            go_wp2_with fail
            have hfx0 : (x1 != 0) = true := by assumption
            have hfx1 : decide (x2 < 0) = true := by simp only [decide_eq_true_eq, decide_eq_false_iff_not]; omega
            refine wp_region_held_drew (S := (fun V => V.cell? ⟨e0, 0, none⟩ = some (.int .i64 x0) ∧ V.cell? ⟨e0, 1, none⟩ = some (.int .i64 x1) ∧ V.cell? ⟨e0, 2, none⟩ = some (.int .i64 x2) ∧ V.cell? ⟨e0, 3, none⟩ = some (.int .i64 x3) ∧ V.cell? ⟨e0, 4, none⟩ = some (.int .i64 x4))) (by kernel_rfl) ⟨z0, z1, z2, z3, z4⟩ (fun hHeld => ?_)
            (try simp only [Act.put, List.getElem_toArray, List.getElem_cons_zero, List.getElem_cons_succ, List.setIfInBounds_toArray, List.set_cons_zero, List.set_cons_succ])
            refine takes [0, 1, 2, 3, 4, 5, 6, 7, 8, 9, 10, 11, 12, 13, 14, 15, 16, 17] (by kernel_rfl) (fun _ _ _ _ _ h => h) (by assumption) ?_
            iterate 18 (first | (refine ally_cons (v := ?_) rfl (Or.inl ⟨?_, fun w hSw => ?_⟩) ?_; rotate_left; rfl; ((try dsimp only at hSw); go_simp; try with_reducible rfl); (try simp only [Act.put, List.getElem_toArray, List.getElem_cons_zero, List.getElem_cons_succ, List.setIfInBounds_toArray, List.set_cons_zero, List.set_cons_succ, hfx0, hfx1])) | (refine ally_cons (v := undef) rfl (Or.inr ⟨?_, rfl⟩) ?_; kernel_rfl; (try simp only [Act.put, List.getElem_toArray, List.getElem_cons_zero, List.getElem_cons_succ, List.setIfInBounds_toArray, List.set_cons_zero, List.set_cons_succ, hfx0, hfx1])))
            refine ally_nil ?_
            refine wpAnyH_done (by kernel_rfl) ?_ _
            clear hHeld
            go_wp2_with fail
            go_ret
            exact ⟨ret_bool HZ3.out.symm, (B_0.out).drew⟩
          · skip
            by_cases om : mostZ cn x1 ≤ x2
            · skip
              have HZ3 := Lib.hid (HZ2.out.trans (decide_eq_true (by omega)))
              obtain ⟨z0, z1, z2, z3, z4⟩ := Bx.cells5 K_0.out
              go_wp2_with fail
              refine (HN.out _).mono ?_
              rintro e q1 ⟨rfl, rfl⟩
              go_wp2_with fail
              refine (HG.out _).mono ?_
              rintro e q2 ⟨rfl, rfl⟩
              go_wp2_with fail
              have hfx0 : (x1 != 0) = true := by assumption
              have hfx1 : decide (x2 < 0) = false := by simp only [decide_eq_true_eq, decide_eq_false_iff_not]; omega
              refine wp_region_held_drew (S := (fun V => V.cell? ⟨e0, 0, none⟩ = some (.int .i64 x0) ∧ V.cell? ⟨e0, 1, none⟩ = some (.int .i64 x1) ∧ V.cell? ⟨e0, 2, none⟩ = some (.int .i64 x2) ∧ V.cell? ⟨e0, 3, none⟩ = some (.int .i64 x3) ∧ V.cell? ⟨e0, 4, none⟩ = some (.int .i64 x4))) (by kernel_rfl) ⟨z0, z1, z2, z3, z4⟩ (fun hHeld => ?_)
              (try simp only [Act.put, List.getElem_toArray, List.getElem_cons_zero, List.getElem_cons_succ, List.setIfInBounds_toArray, List.set_cons_zero, List.set_cons_succ])
              refine takes [0, 1, 2, 3, 4, 5, 6, 7, 8, 9, 10, 11, 12] (by kernel_rfl) (fun _ _ _ _ _ h => h) (by assumption) ?_
              iterate 13 (refine ally_cons (v := ?_) rfl (Or.inl ⟨?_, fun w hSw => ?_⟩) ?_; rotate_left; rfl; ((try dsimp only at hSw); go_simp; try with_reducible rfl); (try simp only [Act.put, List.getElem_toArray, List.getElem_cons_zero, List.getElem_cons_succ, List.setIfInBounds_toArray, List.set_cons_zero, List.set_cons_succ, hfx0, hfx1]))
              refine ally_nil ?_
              refine wpAnyH_ready (rs := [13]) (by kernel_rfl) (by simp) ?_
              refine AllReadyH.cons (o := _) rfl (fun K hK => ?_) AllReadyH.nil
              go_simp
              refine (HM.out _).mono ?_
              rintro e q3 ⟨rfl, rfl⟩
              clear hHeld
              refine hK.out _ _ ⟨z0, z1, z2, z3, z4⟩ (fun hHeld => ?_)
              clear hK K
              (try simp only [Act.put, List.getElem_toArray, List.getElem_cons_zero, List.getElem_cons_succ, List.setIfInBounds_toArray, List.set_cons_zero, List.set_cons_succ])
              refine takes [14, 15, 16, 17] (by kernel_rfl) (fun _ _ _ _ _ h => h) (by assumption) ?_
              iterate 4 (refine ally_cons (v := ?_) rfl (Or.inl ⟨?_, fun w hSw => ?_⟩) ?_; rotate_left; rfl; ((try dsimp only at hSw); go_simp; try with_reducible rfl); (try simp only [Act.put, List.getElem_toArray, List.getElem_cons_zero, List.getElem_cons_succ, List.setIfInBounds_toArray, List.set_cons_zero, List.set_cons_succ]))
              refine ally_nil ?_
              refine wpAnyH_done (by kernel_rfl) ?_ _
              clear hHeld
              go_wp2_with fail
              go_ret
              exact ⟨ret_bool HZ3.out.symm, (B_0.out).drew⟩
            · skip
              have HZ3 := Lib.hid (HZ2.out.trans (decide_eq_false (by omega)))
              have HZ4 := Lib.hid (HZ3.out.trans (decide_eq_false om).symm)
              obtain ⟨z0, z1, z2, z3, z4⟩ := Bx.cells5 K_0.out
              go_wp2_with fail
              refine (HN.out _).mono ?_
              rintro e q1 ⟨rfl, rfl⟩
              go_wp2_with fail
              refine (HG.out _).mono ?_
              rintro e q2 ⟨rfl, rfl⟩
              go_wp2_with fail
              have hfx0 : (x1 != 0) = true := by assumption
              have hfx1 : decide (x2 < 0) = false := by simp only [decide_eq_true_eq, decide_eq_false_iff_not]; omega
              refine wp_region_held_drew (S := (fun V => V.cell? ⟨e0, 0, none⟩ = some (.int .i64 x0) ∧ V.cell? ⟨e0, 1, none⟩ = some (.int .i64 x1) ∧ V.cell? ⟨e0, 2, none⟩ = some (.int .i64 x2) ∧ V.cell? ⟨e0, 3, none⟩ = some (.int .i64 x3) ∧ V.cell? ⟨e0, 4, none⟩ = some (.int .i64 x4))) (by kernel_rfl) ⟨z0, z1, z2, z3, z4⟩ (fun hHeld => ?_)
              (try simp only [Act.put, List.getElem_toArray, List.getElem_cons_zero, List.getElem_cons_succ, List.setIfInBounds_toArray, List.set_cons_zero, List.set_cons_succ])
              refine takes [0, 1, 2, 3, 4, 5, 6, 7, 8, 9, 10, 11, 12] (by kernel_rfl) (fun _ _ _ _ _ h => h) (by assumption) ?_
              iterate 13 (refine ally_cons (v := ?_) rfl (Or.inl ⟨?_, fun w hSw => ?_⟩) ?_; rotate_left; rfl; ((try dsimp only at hSw); go_simp; try with_reducible rfl); (try simp only [Act.put, List.getElem_toArray, List.getElem_cons_zero, List.getElem_cons_succ, List.setIfInBounds_toArray, List.set_cons_zero, List.set_cons_succ, hfx0, hfx1]))
              refine ally_nil ?_
              refine wpAnyH_ready (rs := [13]) (by kernel_rfl) (by simp) ?_
              refine AllReadyH.cons (o := _) rfl (fun K hK => ?_) AllReadyH.nil
              go_simp
              refine (HM.out _).mono ?_
              rintro e q3 ⟨rfl, rfl⟩
              clear hHeld
              refine hK.out _ _ ⟨z0, z1, z2, z3, z4⟩ (fun hHeld => ?_)
              clear hK K
              (try simp only [Act.put, List.getElem_toArray, List.getElem_cons_zero, List.getElem_cons_succ, List.setIfInBounds_toArray, List.set_cons_zero, List.set_cons_succ])
              refine takes [14, 15, 16, 17] (by kernel_rfl) (fun _ _ _ _ _ h => h) (by assumption) ?_
              iterate 4 (refine ally_cons (v := ?_) rfl (Or.inl ⟨?_, fun w hSw => ?_⟩) ?_; rotate_left; rfl; ((try dsimp only at hSw); go_simp; try with_reducible rfl); (try simp only [Act.put, List.getElem_toArray, List.getElem_cons_zero, List.getElem_cons_succ, List.setIfInBounds_toArray, List.set_cons_zero, List.set_cons_succ]))
              refine ally_nil ?_
              refine wpAnyH_done (by kernel_rfl) ?_ _
              clear hHeld
              go_wp2_with fail
              go_ret
              exact ⟨ret_bool HZ4.out.symm, (B_0.out).drew⟩
end Go.Proofs.Ytjkbmenmpnidhaa
