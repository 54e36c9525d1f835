/- begun: the reference. -/
import Derived.Test.YtjkbmenmpnidhaaR3
namespace Go.Proofs.Ytjkbmenmpnidhaa
open Go.RowKit
set_option linter.unusedSimpArgs false
set_option linter.unusedVariables false
set_option maxRecDepth 100000 in
set_option maxHeartbeats 8000000 in
theorem begun_any (a : Option Addr) (n c : Nat) (L : List Ev) (i : Nat) (w : World) (h : Evs w a n c L) (hi : i < n) (hsh : -1 ≤ (evAt L i).start ∧ (evAt L i).start < (i : Int)) : Calls Try.prog 49 #[.slice a n c, .int .i64 (i : Int)] w (BoolTo w (begunZ L i)) := by
  have hle := h.recs.len_le
  have hlc := h.recs.le_cap
  have H_0 := Lib.hid (h.below (below_alloc w (.cells (evC (evAt L i)) 48)))
  have B_0 := Lib.hid (below_alloc w (.cells (evC (evAt L i)) 48))
  have K_0 := Lib.hid (Bx.new w (evC (evAt L i)) 48)
  obtain ⟨b, off, hok, rfl, c0, c1, c2, c3, c4⟩ := h.at i hi
  have hi2 : (i : Int) < (n : Int) := by omega
  have hi3 : (i : Int) ≤ (n : Int) := by omega
  have hi4 : (i : Int) ≤ (c : Int) := by omega
  have hi0 : ¬ (i : Int) < 0 := by omega
  have HZ := Lib.hid (show begunZ L i = if (evAt L i).kind = 0 then decide ((0 ≤ lastZ L (evAt L i).g i ∨ (evAt L i).obj ≠ 0 ∨ (evAt L i).no ≠ 0 ∨ ((evAt L i).g = 0 ∧ (evAt L i).start ≠ -1)) ∨ (0 < (evAt L i).g ∧ ((evAt L i).start < 0 ∨ (stAt L i).kind ≠ 1 ∨ (stAt L i).obj ≠ (evAt L i).g))) else decide (lastZ L (evAt L i).g i < 0) from rfl)
  have HL := Lib.hid (fun W (h : Evs W (some ⟨b, off, none⟩) n c L) => refLast_any _ n c L i W h hi)
  unfold IntTo at HL
  obtain ⟨lz, hlz⟩ : ∃ z, z = lastZ L (evAt L i).g i := ⟨_, rfl⟩
  rw [← hlz] at HL HZ
  have HLZ := Lib.hid hlz
  clear hlz
  obtain ⟨st, hst⟩ : ∃ z, z = stAt L i := ⟨_, rfl⟩
  rw [← hst] at HZ
  have HST := Lib.hid (show st = evAt L (evAt L i).start.toNat from hst)
  clear hst
  obtain ⟨x, hx⟩ : ∃ x, x = evAt L i := ⟨_, rfl⟩
  rw [← hx] at c0 c1 c2 c3 c4 B_0 K_0 H_0 HZ hok hsh HST
  have HX := Lib.hid hx
  clear h hx
  unfold evC at B_0 K_0 H_0
  obtain ⟨x0, x1, x2, x3, x4⟩ := x
  unfold EvOk I64 at hok
  dsimp only at c0 c1 c2 c3 c4 B_0 K_0 H_0 HZ hok hsh HST
  obtain ⟨e0, he0⟩ : ∃ z, z = w.heap.size := ⟨_, rfl⟩
  obtain ⟨v0, hv0⟩ : ∃ z, z = w.alloc (.cells #[.int .i64 x0, .int .i64 x1, .int .i64 x2, .int .i64 x3, .int .i64 x4] 48) := ⟨_, rfl⟩
  rw [← hv0] at B_0 K_0 H_0
  rw [← he0] at K_0
  have HE0 := Lib.hid he0; have HV0 := Lib.hid hv0
  clear he0 hv0
  go_enter Try.func49, Try.ntmps49
  go_upto_region 2 with (fail)
  rw [← HV0.out, ← HE0.out]
  clear c0 c1 c2 c3 c4
  have HLc := Lib.hid (HL.out)
  by_cases h0 : x1 = 0
  · obtain ⟨h0t1, h0t2⟩ := eq_facts h0
    subst h0
    have HZ1 := Lib.hid (HZ.out.trans (if_pos rfl))
    obtain ⟨z0, z1, z2, z3, z4⟩ := Bx.cells5 K_0.out
    go_wp2_with fail
    clear z0 z1 z2 z3 z4
    refine (HL.out _ H_0.out).mono ?_
    rintro e y1 ⟨rfl, hb⟩
    have B_1 := Lib.hid (B_0.out.trans (Below.mono hb B_0.out.size))
    have H_1 := Lib.hid (Evs.below H_0.out hb)
    have K_1 := Lib.hid (Bx.below K_0.out hb)
    clear hb B_0 H_0 K_0
    by_cases hl : 0 ≤ lz
    · skip
      have HZ2 := Lib.hid (HZ1.out.trans (decide_eq_true (by omega)))
      obtain ⟨z0, z1, z2, z3, z4⟩ := Bx.cells5 K_1.out
      go_wp2_with fail
      go_ret
      exact ⟨ret_bool HZ2.out.symm, B_1.out⟩
    · skip
      by_cases ho : ¬ x2 = 0
      · obtain ⟨hof1, hof2⟩ := ne_facts ho
        have HZ2 := Lib.hid (HZ1.out.trans (decide_eq_true (by omega)))
        obtain ⟨z0, z1, z2, z3, z4⟩ := Bx.cells5 K_1.out
        go_wp2_with fail
        go_ret
        exact ⟨ret_bool HZ2.out.symm, B_1.out⟩
      · have ho := Classical.not_not.1 ho
        obtain ⟨hot1, hot2⟩ := eq_facts ho
        by_cases hn : ¬ x3 = 0
        · obtain ⟨hnf1, hnf2⟩ := ne_facts hn
          have HZ2 := Lib.hid (HZ1.out.trans (decide_eq_true (by omega)))
          obtain ⟨z0, z1, z2, z3, z4⟩ := Bx.cells5 K_1.out
          go_wp2_with fail
          go_ret
          exact ⟨ret_bool HZ2.out.symm, B_1.out⟩
        · have hn := Classical.not_not.1 hn
          obtain ⟨hnt1, hnt2⟩ := eq_facts hn
          by_cases hg0 : x0 = 0
          · obtain ⟨hg0t1, hg0t2⟩ := eq_facts hg0
            by_cases hs0 : x4 = -1
            · obtain ⟨hs0t1, hs0t2⟩ := eq_facts hs0
              have HZ2 := Lib.hid (HZ1.out.trans (decide_eq_false (by omega)))
              subst hg0
              subst hs0
              obtain ⟨z0, z1, z2, z3, z4⟩ := Bx.cells5 K_1.out
              go_wp2_with fail
              refine wp_region_held_drew (S := (fun V => V.cell? ⟨e0, 0, none⟩ = some (.int .i64 0) ∧ V.cell? ⟨e0, 1, none⟩ = some (.int .i64 0) ∧ V.cell? ⟨e0, 2, none⟩ = some (.int .i64 x2) ∧ V.cell? ⟨e0, 3, none⟩ = some (.int .i64 x3) ∧ V.cell? ⟨e0, 4, none⟩ = some (.int .i64 (-1)))) (by kernel_rfl) ⟨z0, z1, z2, z3, z4⟩ (fun hHeld => ?_)
              (try simp only [Act.put, List.getElem_toArray, List.getElem_cons_zero, List.getElem_cons_succ, List.setIfInBounds_toArray, List.set_cons_zero, List.set_cons_succ])
              refine takes [0, 1, 2, 3, 4, 5, 6, 7, 8, 9, 10, 11, 12, 13, 14, 15, 16, 17, 18, 19, 20, 21, 22, 23, 24, 25, 26, 27, 28] (by kernel_rfl) (fun _ _ _ _ _ h => h) (by assumption) ?_
              iterate 29 (first | (refine ally_cons (v := ?_) rfl (Or.inl ⟨?_, fun w hSw => ?_⟩) ?_; rotate_left; rfl; ((try dsimp only at hSw); go_simp; try with_reducible rfl); (try simp only [Act.put, List.getElem_toArray, List.getElem_cons_zero, List.getElem_cons_succ, List.setIfInBounds_toArray, List.set_cons_zero, List.set_cons_succ])) | (refine ally_cons (v := undef) rfl (Or.inr ⟨?_, rfl⟩) ?_; kernel_rfl; (try simp only [Act.put, List.getElem_toArray, List.getElem_cons_zero, List.getElem_cons_succ, List.setIfInBounds_toArray, List.set_cons_zero, List.set_cons_succ])))
              refine ally_nil ?_
              refine wpAnyH_done (by kernel_rfl) ?_ _
              clear hHeld
              go_wp2_with fail
              go_ret
              exact ⟨ret_bool HZ2.out.symm, (B_1.out).drew⟩
            · obtain ⟨hs0f1, hs0f2⟩ := ne_facts hs0
              have HZ2 := Lib.hid (HZ1.out.trans (decide_eq_true (by omega)))
              subst hg0
              obtain ⟨z0, z1, z2, z3, z4⟩ := Bx.cells5 K_1.out
              go_wp2_with fail
              go_ret
              exact ⟨ret_bool HZ2.out.symm, B_1.out⟩
          · obtain ⟨hg0f1, hg0f2⟩ := ne_facts hg0
            by_cases hg1 : x0 < 0
            · skip
              have HZ2 := Lib.hid (HZ1.out.trans (decide_eq_false (by omega)))
              have hg2 : ¬ 0 < x0 := by omega
              obtain ⟨z0, z1, z2, z3, z4⟩ := Bx.cells5 K_1.out
              go_wp2_with fail
              have hfx0 : decide (0 < x0) = false := by simp only [decide_eq_true_eq, decide_eq_false_iff_not]; omega
              refine wp_region_held_drew (S := (fun V => V.cell? ⟨e0, 0, none⟩ = some (.int .i64 x0) ∧ V.cell? ⟨e0, 1, none⟩ = some (.int .i64 0) ∧ V.cell? ⟨e0, 2, none⟩ = some (.int .i64 x2) ∧ V.cell? ⟨e0, 3, none⟩ = some (.int .i64 x3) ∧ V.cell? ⟨e0, 4, none⟩ = some (.int .i64 x4))) (by kernel_rfl) ⟨z0, z1, z2, z3, z4⟩ (fun hHeld => ?_)
              (try simp only [Act.put, List.getElem_toArray, List.getElem_cons_zero, List.getElem_cons_succ, List.setIfInBounds_toArray, List.set_cons_zero, List.set_cons_succ])
              refine takes [0, 1, 2, 3, 4, 5, 6, 7, 8, 9, 10, 11, 12, 13, 14, 15, 16, 17, 18, 19, 20, 21, 22, 23, 24, 25, 26, 27, 28] (by kernel_rfl) (fun _ _ _ _ _ h => h) (by assumption) ?_
              iterate 29 (first | (refine ally_cons (v := ?_) rfl (Or.inl ⟨?_, fun w hSw => ?_⟩) ?_; rotate_left; rfl; ((try dsimp only at hSw); go_simp; try with_reducible rfl); (try simp only [Act.put, List.getElem_toArray, List.getElem_cons_zero, List.getElem_cons_succ, List.setIfInBounds_toArray, List.set_cons_zero, List.set_cons_succ, hfx0])) | (refine ally_cons (v := undef) rfl (Or.inr ⟨?_, rfl⟩) ?_; kernel_rfl; (try simp only [Act.put, List.getElem_toArray, List.getElem_cons_zero, List.getElem_cons_succ, List.setIfInBounds_toArray, List.set_cons_zero, List.set_cons_succ, hfx0])))
              refine ally_nil ?_
              refine wpAnyH_done (by kernel_rfl) ?_ _
              clear hHeld
              go_wp2_with fail
              go_ret
              exact ⟨ret_bool HZ2.out.symm, (B_1.out).drew⟩
            · skip
              by_cases hs1 : x4 < 0
              · skip
                have HZ2 := Lib.hid (HZ1.out.trans (decide_eq_true (by omega)))
                have hg2 : 0 < x0 := by omega
                obtain ⟨z0, z1, z2, z3, z4⟩ := Bx.cells5 K_1.out
                go_wp2_with fail
                have hfx0 : decide (0 < x0) = true := by simp only [decide_eq_true_eq, decide_eq_false_iff_not]; omega
                have hfx1 : decide (x4 < 0) = true := by simp only [decide_eq_true_eq, decide_eq_false_iff_not]; omega
                refine wp_region_held_drew (S := (fun V => V.cell? ⟨e0, 0, none⟩ = some (.int .i64 x0) ∧ V.cell? ⟨e0, 1, none⟩ = some (.int .i64 0) ∧ V.cell? ⟨e0, 2, none⟩ = some (.int .i64 x2) ∧ V.cell? ⟨e0, 3, none⟩ = some (.int .i64 x3) ∧ V.cell? ⟨e0, 4, none⟩ = some (.int .i64 x4))) (by kernel_rfl) ⟨z0, z1, z2, z3, z4⟩ (fun hHeld => ?_)
                (try simp only [Act.put, List.getElem_toArray, List.getElem_cons_zero, List.getElem_cons_succ, List.setIfInBounds_toArray, List.set_cons_zero, List.set_cons_succ])
                refine takes [0, 1, 2, 3, 4, 5, 6, 7, 8, 9, 10, 11, 12, 13, 14, 15, 16, 17, 18, 19, 20, 21, 22, 23, 24, 25, 26, 27, 28] (by kernel_rfl) (fun _ _ _ _ _ h => h) (by assumption) ?_
                iterate 29 (first | (refine ally_cons (v := ?_) rfl (Or.inl ⟨?_, fun w hSw => ?_⟩) ?_; rotate_left; rfl; ((try dsimp only at hSw); go_simp; try with_reducible rfl); (try simp only [Act.put, List.getElem_toArray, List.getElem_cons_zero, List.getElem_cons_succ, List.setIfInBounds_toArray, List.set_cons_zero, List.set_cons_succ, hfx0, hfx1])) | (refine ally_cons (v := undef) rfl (Or.inr ⟨?_, rfl⟩) ?_; kernel_rfl; (try simp only [Act.put, List.getElem_toArray, List.getElem_cons_zero, List.getElem_cons_succ, List.setIfInBounds_toArray, List.set_cons_zero, List.set_cons_succ, hfx0, hfx1])))
                refine ally_nil ?_
                refine wpAnyH_done (by kernel_rfl) ?_ _
                clear hHeld
                go_wp2_with fail
                go_ret
                exact ⟨ret_bool HZ2.out.symm, (B_1.out).drew⟩
              · skip
                have hg2 : 0 < x0 := by omega
                obtain ⟨s, rfl⟩ : ∃ s : Nat, x4 = (s : Int) := ⟨x4.toNat, by omega⟩
                rw [Int.toNat_natCast] at HST
                obtain ⟨b', off', _, he, d0, d1, d2, d3, d4⟩ := (H_1.out).at s (by omega)
                cases he
                rw [← HST.out] at d0 d1 d2 d3 d4
                obtain ⟨s0, s1, s2, s3, s4⟩ := st
                dsimp only at d0 d1 d2 d3 d4 HZ1
                clear d0 d3 d4
                have hsn : (s : Int) < (n : Int) := by omega
                by_cases hk1 : s1 = 1
                · obtain ⟨hk1t1, hk1t2⟩ := eq_facts hk1
                  subst hk1
                  by_cases ho1 : s2 = x0
                  · obtain ⟨ho1t1, ho1t2⟩ := eq_facts ho1
                    have HZ2 := Lib.hid (HZ1.out.trans (decide_eq_false (by omega)))
                    subst ho1
                    obtain ⟨z0, z1, z2, z3, z4⟩ := Bx.cells5 K_1.out
                    go_wp2_with fail
                    have hfx0 : decide (0 < s2) = true := by simp only [decide_eq_true_eq, decide_eq_false_iff_not]; omega
                    refine wp_region_held_drew (S := (fun V => V.cell? ⟨e0, 0, none⟩ = some (.int .i64 s2) ∧ V.cell? ⟨e0, 1, none⟩ = some (.int .i64 0) ∧ V.cell? ⟨e0, 2, none⟩ = some (.int .i64 x2) ∧ V.cell? ⟨e0, 3, none⟩ = some (.int .i64 x3) ∧ V.cell? ⟨e0, 4, none⟩ = some (.int .i64 (s : Int)) ∧ V.cell? ⟨b, off + s * 5 + 1, none⟩ = some (.int .i64 1) ∧ V.cell? ⟨b, off + s * 5 + 2, none⟩ = some (.int .i64 s2))) (by kernel_rfl) ⟨z0, z1, z2, z3, z4, d1, d2⟩ (fun hHeld => ?_)
                    (try simp only [Act.put, List.getElem_toArray, List.getElem_cons_zero, List.getElem_cons_succ, List.setIfInBounds_toArray, List.set_cons_zero, List.set_cons_succ])
                    refine takes [0, 1, 2, 3, 4, 5, 6, 7, 8, 9, 10, 11, 12, 13, 14, 15, 16, 17, 18, 19, 20, 21, 22, 23, 24, 25, 26, 27, 28] (by kernel_rfl) (fun _ _ _ _ _ h => h) (by assumption) ?_
                    iterate 29 (refine ally_cons (v := ?_) rfl (Or.inl ⟨?_, fun w hSw => ?_⟩) ?_; rotate_left; rfl; ((try dsimp only at hSw); go_simp; try with_reducible rfl); (try simp only [Act.put, List.getElem_toArray, List.getElem_cons_zero, List.getElem_cons_succ, List.setIfInBounds_toArray, List.set_cons_zero, List.set_cons_succ, hfx0]))
                    refine ally_nil ?_
                    refine wpAnyH_done (by kernel_rfl) ?_ _
                    clear hHeld
                    go_wp2_with fail
                    go_ret
                    exact ⟨ret_bool HZ2.out.symm, (B_1.out).drew⟩
                  · obtain ⟨ho1f1, ho1f2⟩ := ne_facts ho1
                    have HZ2 := Lib.hid (HZ1.out.trans (decide_eq_true (by omega)))
                    obtain ⟨z0, z1, z2, z3, z4⟩ := Bx.cells5 K_1.out
                    go_wp2_with fail
                    have hfx0 : decide (0 < x0) = true := by simp only [decide_eq_true_eq, decide_eq_false_iff_not]; omega
                    refine wp_region_held_drew (S := (fun V => V.cell? ⟨e0, 0, none⟩ = some (.int .i64 x0) ∧ V.cell? ⟨e0, 1, none⟩ = some (.int .i64 0) ∧ V.cell? ⟨e0, 2, none⟩ = some (.int .i64 x2) ∧ V.cell? ⟨e0, 3, none⟩ = some (.int .i64 x3) ∧ V.cell? ⟨e0, 4, none⟩ = some (.int .i64 (s : Int)) ∧ V.cell? ⟨b, off + s * 5 + 1, none⟩ = some (.int .i64 1) ∧ V.cell? ⟨b, off + s * 5 + 2, none⟩ = some (.int .i64 s2))) (by kernel_rfl) ⟨z0, z1, z2, z3, z4, d1, d2⟩ (fun hHeld => ?_)
                    (try simp only [Act.put, List.getElem_toArray, List.getElem_cons_zero, List.getElem_cons_succ, List.setIfInBounds_toArray, List.set_cons_zero, List.set_cons_succ])
                    refine takes [0, 1, 2, 3, 4, 5, 6, 7, 8, 9, 10, 11, 12, 13, 14, 15, 16, 17, 18, 19, 20, 21, 22, 23, 24, 25, 26, 27, 28] (by kernel_rfl) (fun _ _ _ _ _ h => h) (by assumption) ?_
                    iterate 29 (refine ally_cons (v := ?_) rfl (Or.inl ⟨?_, fun w hSw => ?_⟩) ?_; rotate_left; rfl; ((try dsimp only at hSw); go_simp; try with_reducible rfl); (try simp only [Act.put, List.getElem_toArray, List.getElem_cons_zero, List.getElem_cons_succ, List.setIfInBounds_toArray, List.set_cons_zero, List.set_cons_succ, hfx0]))
                    refine ally_nil ?_
                    refine wpAnyH_done (by kernel_rfl) ?_ _
                    clear hHeld
                    go_wp2_with fail
                    go_ret
                    exact ⟨ret_bool HZ2.out.symm, (B_1.out).drew⟩
                · obtain ⟨hk1f1, hk1f2⟩ := ne_facts hk1
                  have HZ2 := Lib.hid (HZ1.out.trans (decide_eq_true (by omega)))
                  obtain ⟨z0, z1, z2, z3, z4⟩ := Bx.cells5 K_1.out
                  go_wp2_with fail
                  have hfx0 : decide (0 < x0) = true := by simp only [decide_eq_true_eq, decide_eq_false_iff_not]; omega
                  have hfx1 : (s1 != 1) = true := by assumption
                  refine wp_region_held_drew (S := (fun V => V.cell? ⟨e0, 0, none⟩ = some (.int .i64 x0) ∧ V.cell? ⟨e0, 1, none⟩ = some (.int .i64 0) ∧ V.cell? ⟨e0, 2, none⟩ = some (.int .i64 x2) ∧ V.cell? ⟨e0, 3, none⟩ = some (.int .i64 x3) ∧ V.cell? ⟨e0, 4, none⟩ = some (.int .i64 (s : Int)) ∧ V.cell? ⟨b, off + s * 5 + 1, none⟩ = some (.int .i64 s1) ∧ V.cell? ⟨b, off + s * 5 + 2, none⟩ = some (.int .i64 s2))) (by kernel_rfl) ⟨z0, z1, z2, z3, z4, d1, d2⟩ (fun hHeld => ?_)
                  (try simp only [Act.put, List.getElem_toArray, List.getElem_cons_zero, List.getElem_cons_succ, List.setIfInBounds_toArray, List.set_cons_zero, List.set_cons_succ])
                  refine takes [0, 1, 2, 3, 4, 5, 6, 7, 8, 9, 10, 11, 12, 13, 14, 15, 16, 17, 18, 19, 20, 21, 22, 23, 24, 25, 26, 27, 28] (by kernel_rfl) (fun _ _ _ _ _ h => h) (by assumption) ?_
                  iterate 29 (first | (refine ally_cons (v := ?_) rfl (Or.inl ⟨?_, fun w hSw => ?_⟩) ?_; rotate_left; rfl; ((try dsimp only at hSw); go_simp; try with_reducible rfl); (try simp only [Act.put, List.getElem_toArray, List.getElem_cons_zero, List.getElem_cons_succ, List.setIfInBounds_toArray, List.set_cons_zero, List.set_cons_succ, hfx0, hfx1])) | (refine ally_cons (v := undef) rfl (Or.inr ⟨?_, rfl⟩) ?_; kernel_rfl; (try simp only [Act.put, List.getElem_toArray, List.getElem_cons_zero, List.getElem_cons_succ, List.setIfInBounds_toArray, List.set_cons_zero, List.set_cons_succ, hfx0, hfx1])))
                  refine ally_nil ?_
                  refine wpAnyH_done (by kernel_rfl) ?_ _
                  clear hHeld
                  go_wp2_with fail
                  go_ret
                  exact ⟨ret_bool HZ2.out.symm, (B_1.out).drew⟩
  · obtain ⟨h0f1, h0f2⟩ := ne_facts h0
    have HZ1 := Lib.hid (HZ.out.trans (if_neg h0))
    obtain ⟨z0, z1, z2, z3, z4⟩ := Bx.cells5 K_0.out
    go_wp2_with fail
    clear z0 z1 z2 z3 z4
    refine (HL.out _ H_0.out).mono ?_
    rintro e y1 ⟨rfl, hb⟩
    have B_1 := Lib.hid (B_0.out.trans (Below.mono hb B_0.out.size))
    have H_1 := Lib.hid (Evs.below H_0.out hb)
    have K_1 := Lib.hid (Bx.below K_0.out hb)
    clear hb B_0 H_0 K_0
    go_wp2_with fail
    go_ret
    exact ⟨ret_bool HZ1.out.symm, B_1.out⟩
end Go.Proofs.Ytjkbmenmpnidhaa
