/- channel: the reference. -/
import Derived.Test.YtjkbmenmpnidhaaR4
namespace Go.Proofs.Ytjkbmenmpnidhaa
open Go.RowKit
set_option linter.unusedSimpArgs false
set_option linter.unusedVariables false
set_option maxRecDepth 100000 in
set_option maxHeartbeats 8000000 in
theorem channel_any (ca : Option Addr) (cn cc : Nat) (caps : List Int) (a : Option Addr) (n c : Nat) (L : List Ev) (i : Nat) (w : World) (hcp : Ints w ca cn cc caps) (hcp64 : ∀ q, I64 (en caps q)) (hc3 : ∀ q, en caps q ≤ 3) (h : Evs w a n c L) (hi : i < n) (hn : n ≤ 1000) (hob : ((evAt L i).kind = 3 ∨ (5 ≤ (evAt L i).kind ∧ (evAt L i).kind ≤ 7)) → 0 ≤ (evAt L i).obj ∧ (evAt L i).obj < (cn : Int)) : Calls Try.prog 52 #[.slice ca cn cc, .slice a n c, .int .i64 (i : Int)] w (BoolTo w (channelZ caps L i)) := by
  have hle := h.recs.len_le
  have hlc := h.recs.le_cap
  have H_0 := Lib.hid (h.below (below_alloc w (.cells (evC (evAt L i)) 48)))
  have B_0 := Lib.hid (below_alloc w (.cells (evC (evAt L i)) 48))
  have K_0 := Lib.hid (Bx.new w (evC (evAt L i)) 48)
  obtain ⟨b, off, hok, rfl, c0, c1, c2, c3, c4⟩ := h.at i hi
  have hi2 : (i : Int) < (n : Int) := by omega
  have hi3 : (i : Int) ≤ (n : Int) := by omega
  have hi4 : (i : Int) ≤ (c : Int) := by omega
  have hi0 : ¬ (i : Int) < 0 := by omega
  have HZ := Lib.hid (show channelZ caps L i = if (evAt L i).kind ≠ 3 ∧ ((evAt L i).kind < 5 ∨ 7 < (evAt L i).kind) then false else if capAt caps (evAt L i).obj < 0 then true else if (evAt L i).kind = 3 then decide (0 < cntZ L 7 (evAt L i).obj i ∨ (evAt L i).no ≠ cntZ L 3 (evAt L i).obj i ∨ cntZ L 5 (evAt L i).obj i + capAt caps (evAt L i).obj < (evAt L i).no) else if (evAt L i).kind = 5 then decide ((evAt L i).no ≠ cntZ L 5 (evAt L i).obj i ∨ cntZ L 3 (evAt L i).obj i < (evAt L i).no) else if (evAt L i).kind = 6 then decide (¬ 0 < cntZ L 7 (evAt L i).obj i ∨ cntZ L 3 (evAt L i).obj i ≠ cntZ L 5 (evAt L i).obj i) else decide (0 < cntZ L 7 (evAt L i).obj i) from rfl)
  have HC3 := Lib.hid (fun W (h : Evs W (some ⟨b, off, none⟩) n c L) => refCount_any _ n c L i 3 (evAt L i).obj W h hi)
  have HC5 := Lib.hid (fun W (h : Evs W (some ⟨b, off, none⟩) n c L) => refCount_any _ n c L i 5 (evAt L i).obj W h hi)
  have HC7 := Lib.hid (fun W (h : Evs W (some ⟨b, off, none⟩) n c L) => refCount_any _ n c L i 7 (evAt L i).obj W h hi)
  unfold IntTo at HC3 HC5 HC7
  have hb3 := cntZ_le L 3 (evAt L i).obj i
  have hb5 := cntZ_le L 5 (evAt L i).obj i
  have hb7 := cntZ_le L 7 (evAt L i).obj i
  obtain ⟨s3, hs3⟩ : ∃ z, z = cntZ L 3 (evAt L i).obj i := ⟨_, rfl⟩
  obtain ⟨s5, hs5⟩ : ∃ z, z = cntZ L 5 (evAt L i).obj i := ⟨_, rfl⟩
  obtain ⟨s7, hs7⟩ : ∃ z, z = cntZ L 7 (evAt L i).obj i := ⟨_, rfl⟩
  rw [← hs3] at HZ HC3 hb3
  rw [← hs5] at HZ HC5 hb5
  rw [← hs7] at HZ HC7 hb7
  clear hs3 hs5 hs7
  have C_0 := Lib.hid (hcp.below (below_alloc w (.cells (evC (evAt L i)) 48)))
  obtain ⟨x, hx⟩ : ∃ x, x = evAt L i := ⟨_, rfl⟩
  rw [← hx] at c0 c1 c2 c3 c4 B_0 K_0 H_0 HZ hok hob HC3 HC5 HC7 C_0
  have HX := Lib.hid hx
  clear h hx
  unfold evC at B_0 K_0 H_0 C_0
  obtain ⟨x0, x1, x2, x3, x4⟩ := x
  unfold EvOk I64 at hok
  dsimp only at c0 c1 c2 c3 c4 B_0 K_0 H_0 HZ hok hob HC3 HC5 HC7 C_0
  obtain ⟨e0, he0⟩ : ∃ z, z = w.heap.size := ⟨_, rfl⟩
  obtain ⟨v0, hv0⟩ : ∃ z, z = w.alloc (.cells #[.int .i64 x0, .int .i64 x1, .int .i64 x2, .int .i64 x3, .int .i64 x4] 48) := ⟨_, rfl⟩
  rw [← hv0] at B_0 K_0 H_0 C_0
  rw [← he0] at K_0
  have HE0 := Lib.hid he0; have HV0 := Lib.hid hv0
  clear he0 hv0
  go_enter Try.func52, Try.ntmps52
  go_upto_region 2 with (fail)
  rw [← HV0.out, ← HE0.out]
  clear c0 c1 c2 c3 c4
  by_cases k3 : x1 = 3
  · obtain ⟨k3t1, k3t2⟩ := eq_facts k3
    subst k3
    obtain ⟨q, rfl⟩ : ∃ q : Nat, x2 = (q : Int) := ⟨x2.toNat, by have := hob (by omega); omega⟩
    have hq : q < cn := by have := hob (by omega); omega
    have hqn : (q : Int) < (cn : Int) := by omega
    have hqa : capAt caps (q : Int) = en caps q := by unfold capAt; rw [Int.toNat_natCast]
    rw [hqa] at HZ
    have hcb := hcp64 q
    unfold I64 at hcb
    have hcb3 := hc3 q
    obtain ⟨z0, z1, z2, z3, z4⟩ := Bx.cells5 K_0.out
    go_wp2_with fail
    clear z0 z1 z2 z3 z4
    refine (HC3.out _ H_0.out).mono ?_
    rintro e y1 ⟨rfl, hb⟩
    have B_1 := Lib.hid (B_0.out.trans (Below.mono hb B_0.out.size))
    have H_1 := Lib.hid (Evs.below H_0.out hb)
    have K_1 := Lib.hid (Bx.below K_0.out hb)
    have C_1 := Lib.hid (Ints.below C_0.out hb)
    clear hb B_0 H_0 K_0 C_0
    obtain ⟨z0, z1, z2, z3, z4⟩ := Bx.cells5 K_1.out
    go_wp2_with fail
    clear z0 z1 z2 z3 z4
    refine (HC5.out _ H_1.out).mono ?_
    rintro e y2 ⟨rfl, hb⟩
    have B_2 := Lib.hid (B_1.out.trans (Below.mono hb B_1.out.size))
    have H_2 := Lib.hid (Evs.below H_1.out hb)
    have K_2 := Lib.hid (Bx.below K_1.out hb)
    have C_2 := Lib.hid (Ints.below C_1.out hb)
    clear hb B_1 H_1 K_1 C_1
    obtain ⟨z0, z1, z2, z3, z4⟩ := Bx.cells5 K_2.out
    go_wp2_with fail
    clear z0 z1 z2 z3 z4
    refine (HC7.out _ H_2.out).mono ?_
    rintro e y3 ⟨rfl, hb⟩
    have B_3 := Lib.hid (B_2.out.trans (Below.mono hb B_2.out.size))
    have H_3 := Lib.hid (Evs.below H_2.out hb)
    have K_3 := Lib.hid (Bx.below K_2.out hb)
    have C_3 := Lib.hid (Ints.below C_2.out hb)
    clear hb B_2 H_2 K_2 C_2
    obtain ⟨cb, co, rfl, hcc⟩ := (C_3.out).cell q hq
    obtain ⟨cp, hcpe⟩ : ∃ z, z = en caps q := ⟨_, rfl⟩
    rw [← hcpe] at hcc HZ hcb hcb3
    clear hcpe hqa
    have HZ1 := Lib.hid (HZ.out.trans (if_neg (by omega)))
    by_cases p0 : cp < 0
    · skip
      have HZ2 := Lib.hid (HZ1.out.trans (if_pos p0))
      obtain ⟨z0, z1, z2, z3, z4⟩ := Bx.cells5 K_3.out
      go_wp2_with fail
      go_ret
      exact ⟨ret_bool HZ2.out.symm, B_3.out⟩
    · skip
      have HZ2 := Lib.hid (HZ1.out.trans (if_neg p0))
      have HZ3 := Lib.hid (HZ2.out.trans (if_pos (by first | trivial | rfl)))
      by_cases p7 : 0 < s7
      · skip
        have HZ4 := Lib.hid (HZ3.out.trans (decide_eq_true (by omega)))
        obtain ⟨z0, z1, z2, z3, z4⟩ := Bx.cells5 K_3.out
        go_wp2_with fail
        have hfx0 : decide (0 < s7) = true := by simp only [decide_eq_true_eq, decide_eq_false_iff_not]; omega
        refine wp_region_held_drew (S := (fun V => V.cell? ⟨e0, 0, none⟩ = some (.int .i64 x0) ∧ V.cell? ⟨e0, 1, none⟩ = some (.int .i64 3) ∧ V.cell? ⟨e0, 2, none⟩ = some (.int .i64 (q : Int)) ∧ V.cell? ⟨e0, 3, none⟩ = some (.int .i64 x3) ∧ V.cell? ⟨e0, 4, none⟩ = some (.int .i64 x4) ∧ V.cell? ⟨cb, co + q, none⟩ = some (.int .i64 cp))) (by kernel_rfl) ⟨z0, z1, z2, z3, z4, hcc⟩ (fun hHeld => ?_)
        (try simp only [Act.put, List.getElem_toArray, List.getElem_cons_zero, List.getElem_cons_succ, List.setIfInBounds_toArray, List.set_cons_zero, List.set_cons_succ])
        refine takes [0, 1, 2, 3, 4, 5, 6, 7, 8, 9, 10, 11, 12, 13, 14, 15, 16, 17, 18, 19] (by kernel_rfl) (fun _ _ _ _ _ h => h) (by assumption) ?_
        iterate 20 (first | (refine ally_cons (v := ?_) rfl (Or.inl ⟨?_, fun w hSw => ?_⟩) ?_; rotate_left; rfl; ((try dsimp only at hSw); go_simp; try with_reducible rfl); (try simp only [Act.put, List.getElem_toArray, List.getElem_cons_zero, List.getElem_cons_succ, List.setIfInBounds_toArray, List.set_cons_zero, List.set_cons_succ, hfx0])) | (refine ally_cons (v := undef) rfl (Or.inr ⟨?_, rfl⟩) ?_; kernel_rfl; (try simp only [Act.put, List.getElem_toArray, List.getElem_cons_zero, List.getElem_cons_succ, List.setIfInBounds_toArray, List.set_cons_zero, List.set_cons_succ, hfx0])))
        refine ally_nil ?_
        refine wpAnyH_done (by kernel_rfl) ?_ _
        clear hHeld
        go_wp2_with fail
        go_ret
        exact ⟨ret_bool HZ4.out.symm, (B_3.out).drew⟩
      · skip
        by_cases pn : ¬ x3 = s3
        · obtain ⟨pnf1, pnf2⟩ := ne_facts pn
          have HZ4 := Lib.hid (HZ3.out.trans (decide_eq_true (by omega)))
          obtain ⟨z0, z1, z2, z3, z4⟩ := Bx.cells5 K_3.out
          go_wp2_with fail
          have hfx0 : decide (0 < s7) = false := by simp only [decide_eq_true_eq, decide_eq_false_iff_not]; omega
          have hfx1 : (x3 != s3) = true := by assumption
          refine wp_region_held_drew (S := (fun V => V.cell? ⟨e0, 0, none⟩ = some (.int .i64 x0) ∧ V.cell? ⟨e0, 1, none⟩ = some (.int .i64 3) ∧ V.cell? ⟨e0, 2, none⟩ = some (.int .i64 (q : Int)) ∧ V.cell? ⟨e0, 3, none⟩ = some (.int .i64 x3) ∧ V.cell? ⟨e0, 4, none⟩ = some (.int .i64 x4) ∧ V.cell? ⟨cb, co + q, none⟩ = some (.int .i64 cp))) (by kernel_rfl) ⟨z0, z1, z2, z3, z4, hcc⟩ (fun hHeld => ?_)
          (try simp only [Act.put, List.getElem_toArray, List.getElem_cons_zero, List.getElem_cons_succ, List.setIfInBounds_toArray, List.set_cons_zero, List.set_cons_succ])
          refine takes [0, 1, 2, 3, 4, 5, 6, 7, 8, 9, 10, 11, 12, 13, 14, 15, 16, 17, 18, 19] (by kernel_rfl) (fun _ _ _ _ _ h => h) (by assumption) ?_
          iterate 20 (first | (refine ally_cons (v := ?_) rfl (Or.inl ⟨?_, fun w hSw => ?_⟩) ?_; rotate_left; rfl; ((try dsimp only at hSw); go_simp; try with_reducible rfl); (try simp only [Act.put, List.getElem_toArray, List.getElem_cons_zero, List.getElem_cons_succ, List.setIfInBounds_toArray, List.set_cons_zero, List.set_cons_succ, hfx0, hfx1])) | (refine ally_cons (v := undef) rfl (Or.inr ⟨?_, rfl⟩) ?_; kernel_rfl; (try simp only [Act.put, List.getElem_toArray, List.getElem_cons_zero, List.getElem_cons_succ, List.setIfInBounds_toArray, List.set_cons_zero, List.set_cons_succ, hfx0, hfx1])))
          refine ally_nil ?_
          refine wpAnyH_done (by kernel_rfl) ?_ _
          clear hHeld
          go_wp2_with fail
          go_ret
          exact ⟨ret_bool HZ4.out.symm, (B_3.out).drew⟩
        · have pn := Classical.not_not.1 pn
          obtain ⟨pnt1, pnt2⟩ := eq_facts pn
          by_cases pg : s5 + cp < x3
          · skip
            have HZ4 := Lib.hid (HZ3.out.trans (decide_eq_true (by omega)))
            subst pn
            obtain ⟨z0, z1, z2, z3, z4⟩ := Bx.cells5 K_3.out
            go_wp2_with fail
            have hfx0 : decide (0 < s7) = false := by simp only [decide_eq_true_eq, decide_eq_false_iff_not]; omega
            have hfx1 : (x3 != x3) = false := by simp
            have hfx2 : IntKind.i64.wrap (s5 + cp) = s5 + cp := by rw [IntKind.wrap_i64]; omega
            have hfx3 : decide (s5 + cp < x3) = true := by simp only [decide_eq_true_eq, decide_eq_false_iff_not]; omega
            refine wp_region_held_drew (S := (fun V => V.cell? ⟨e0, 0, none⟩ = some (.int .i64 x0) ∧ V.cell? ⟨e0, 1, none⟩ = some (.int .i64 3) ∧ V.cell? ⟨e0, 2, none⟩ = some (.int .i64 (q : Int)) ∧ V.cell? ⟨e0, 3, none⟩ = some (.int .i64 x3) ∧ V.cell? ⟨e0, 4, none⟩ = some (.int .i64 x4) ∧ V.cell? ⟨cb, co + q, none⟩ = some (.int .i64 cp))) (by kernel_rfl) ⟨z0, z1, z2, z3, z4, hcc⟩ (fun hHeld => ?_)
            (try simp only [Act.put, List.getElem_toArray, List.getElem_cons_zero, List.getElem_cons_succ, List.setIfInBounds_toArray, List.set_cons_zero, List.set_cons_succ])
            refine takes [0, 1, 2, 3, 4, 5, 6, 7, 8, 9, 10, 11, 12, 13, 14, 15, 16, 17, 18, 19] (by kernel_rfl) (fun _ _ _ _ _ h => h) (by assumption) ?_
            iterate 20 (refine ally_cons (v := ?_) rfl (Or.inl ⟨?_, fun w hSw => ?_⟩) ?_; rotate_left; rfl; ((try dsimp only at hSw); go_simp; try with_reducible rfl); (try simp only [Act.put, List.getElem_toArray, List.getElem_cons_zero, List.getElem_cons_succ, List.setIfInBounds_toArray, List.set_cons_zero, List.set_cons_succ, hfx0, hfx1, hfx2, hfx3]))
            refine ally_nil ?_
            refine wpAnyH_done (by kernel_rfl) ?_ _
            clear hHeld
            go_wp2_with fail
            go_ret
            exact ⟨ret_bool HZ4.out.symm, (B_3.out).drew⟩
          · skip
            have HZ4 := Lib.hid (HZ3.out.trans (decide_eq_false (by omega)))
            subst pn
            obtain ⟨z0, z1, z2, z3, z4⟩ := Bx.cells5 K_3.out
            go_wp2_with fail
            have hfx0 : decide (0 < s7) = false := by simp only [decide_eq_true_eq, decide_eq_false_iff_not]; omega
            have hfx1 : (x3 != x3) = false := by simp
            have hfx2 : IntKind.i64.wrap (s5 + cp) = s5 + cp := by rw [IntKind.wrap_i64]; omega
            have hfx3 : decide (s5 + cp < x3) = false := by simp only [decide_eq_true_eq, decide_eq_false_iff_not]; omega
            refine wp_region_held_drew (S := (fun V => V.cell? ⟨e0, 0, none⟩ = some (.int .i64 x0) ∧ V.cell? ⟨e0, 1, none⟩ = some (.int .i64 3) ∧ V.cell? ⟨e0, 2, none⟩ = some (.int .i64 (q : Int)) ∧ V.cell? ⟨e0, 3, none⟩ = some (.int .i64 x3) ∧ V.cell? ⟨e0, 4, none⟩ = some (.int .i64 x4) ∧ V.cell? ⟨cb, co + q, none⟩ = some (.int .i64 cp))) (by kernel_rfl) ⟨z0, z1, z2, z3, z4, hcc⟩ (fun hHeld => ?_)
            (try simp only [Act.put, List.getElem_toArray, List.getElem_cons_zero, List.getElem_cons_succ, List.setIfInBounds_toArray, List.set_cons_zero, List.set_cons_succ])
            refine takes [0, 1, 2, 3, 4, 5, 6, 7, 8, 9, 10, 11, 12, 13, 14, 15, 16, 17, 18, 19] (by kernel_rfl) (fun _ _ _ _ _ h => h) (by assumption) ?_
            iterate 20 (refine ally_cons (v := ?_) rfl (Or.inl ⟨?_, fun w hSw => ?_⟩) ?_; rotate_left; rfl; ((try dsimp only at hSw); go_simp; try with_reducible rfl); (try simp only [Act.put, List.getElem_toArray, List.getElem_cons_zero, List.getElem_cons_succ, List.setIfInBounds_toArray, List.set_cons_zero, List.set_cons_succ, hfx0, hfx1, hfx2, hfx3]))
            refine ally_nil ?_
            refine wpAnyH_done (by kernel_rfl) ?_ _
            clear hHeld
            go_wp2_with fail
            go_ret
            exact ⟨ret_bool HZ4.out.symm, (B_3.out).drew⟩
  · obtain ⟨k3f1, k3f2⟩ := ne_facts k3
    by_cases k5 : x1 = 5
    · obtain ⟨k5t1, k5t2⟩ := eq_facts k5
      subst k5
      obtain ⟨q, rfl⟩ : ∃ q : Nat, x2 = (q : Int) := ⟨x2.toNat, by have := hob (by omega); omega⟩
      have hq : q < cn := by have := hob (by omega); omega
      have hqn : (q : Int) < (cn : Int) := by omega
      have hqa : capAt caps (q : Int) = en caps q := by unfold capAt; rw [Int.toNat_natCast]
      rw [hqa] at HZ
      have hcb := hcp64 q
      unfold I64 at hcb
      have hcb3 := hc3 q
      obtain ⟨z0, z1, z2, z3, z4⟩ := Bx.cells5 K_0.out
      go_wp2_with fail
      clear z0 z1 z2 z3 z4
      refine (HC3.out _ H_0.out).mono ?_
      rintro e y1 ⟨rfl, hb⟩
      have B_1 := Lib.hid (B_0.out.trans (Below.mono hb B_0.out.size))
      have H_1 := Lib.hid (Evs.below H_0.out hb)
      have K_1 := Lib.hid (Bx.below K_0.out hb)
      have C_1 := Lib.hid (Ints.below C_0.out hb)
      clear hb B_0 H_0 K_0 C_0
      obtain ⟨z0, z1, z2, z3, z4⟩ := Bx.cells5 K_1.out
      go_wp2_with fail
      clear z0 z1 z2 z3 z4
      refine (HC5.out _ H_1.out).mono ?_
      rintro e y2 ⟨rfl, hb⟩
      have B_2 := Lib.hid (B_1.out.trans (Below.mono hb B_1.out.size))
      have H_2 := Lib.hid (Evs.below H_1.out hb)
      have K_2 := Lib.hid (Bx.below K_1.out hb)
      have C_2 := Lib.hid (Ints.below C_1.out hb)
      clear hb B_1 H_1 K_1 C_1
      obtain ⟨z0, z1, z2, z3, z4⟩ := Bx.cells5 K_2.out
      go_wp2_with fail
      clear z0 z1 z2 z3 z4
      refine (HC7.out _ H_2.out).mono ?_
      rintro e y3 ⟨rfl, hb⟩
      have B_3 := Lib.hid (B_2.out.trans (Below.mono hb B_2.out.size))
      have H_3 := Lib.hid (Evs.below H_2.out hb)
      have K_3 := Lib.hid (Bx.below K_2.out hb)
      have C_3 := Lib.hid (Ints.below C_2.out hb)
      clear hb B_2 H_2 K_2 C_2
      obtain ⟨cb, co, rfl, hcc⟩ := (C_3.out).cell q hq
      obtain ⟨cp, hcpe⟩ : ∃ z, z = en caps q := ⟨_, rfl⟩
      rw [← hcpe] at hcc HZ hcb hcb3
      clear hcpe hqa
      have HZ1 := Lib.hid (HZ.out.trans (if_neg (by omega)))
      by_cases p0 : cp < 0
      · skip
        have HZ2 := Lib.hid (HZ1.out.trans (if_pos p0))
        obtain ⟨z0, z1, z2, z3, z4⟩ := Bx.cells5 K_3.out
        go_wp2_with fail
        go_ret
        exact ⟨ret_bool HZ2.out.symm, B_3.out⟩
      · skip
        have HZ2 := Lib.hid (HZ1.out.trans (if_neg p0))
        have HZ3 := Lib.hid (HZ2.out.trans ((if_neg (by decide)).trans (if_pos (by first | trivial | rfl))))
        by_cases pn : ¬ x3 = s5
        · obtain ⟨pnf1, pnf2⟩ := ne_facts pn
          have HZ4 := Lib.hid (HZ3.out.trans (decide_eq_true (by omega)))
          obtain ⟨z0, z1, z2, z3, z4⟩ := Bx.cells5 K_3.out
          go_wp2_with fail
          go_ret
          first
            | exact ⟨ret_bool HZ4.out.symm, B_3.out⟩
        · have pn := Classical.not_not.1 pn
          obtain ⟨pnt1, pnt2⟩ := eq_facts pn
          by_cases pg : s3 < x3
          · skip
            have HZ4 := Lib.hid (HZ3.out.trans (decide_eq_true (by omega)))
            subst pn
            obtain ⟨z0, z1, z2, z3, z4⟩ := Bx.cells5 K_3.out
            go_wp2_with fail
            go_ret
            first
              | exact ⟨ret_bool HZ4.out.symm, B_3.out⟩
          · skip
            have HZ4 := Lib.hid (HZ3.out.trans (decide_eq_false (by omega)))
            have HZ5 := Lib.hid (HZ4.out.trans (decide_eq_false pg).symm)
            subst pn
            obtain ⟨z0, z1, z2, z3, z4⟩ := Bx.cells5 K_3.out
            go_wp2_with fail
            go_ret
            first
              | exact ⟨ret_bool HZ4.out.symm, B_3.out⟩
              | exact ⟨ret_bool HZ5.out.symm, B_3.out⟩
    · obtain ⟨k5f1, k5f2⟩ := ne_facts k5
      by_cases k6 : x1 = 6
      · obtain ⟨k6t1, k6t2⟩ := eq_facts k6
        subst k6
        obtain ⟨q, rfl⟩ : ∃ q : Nat, x2 = (q : Int) := ⟨x2.toNat, by have := hob (by omega); omega⟩
        have hq : q < cn := by have := hob (by omega); omega
        have hqn : (q : Int) < (cn : Int) := by omega
        have hqa : capAt caps (q : Int) = en caps q := by unfold capAt; rw [Int.toNat_natCast]
        rw [hqa] at HZ
        have hcb := hcp64 q
        unfold I64 at hcb
        have hcb3 := hc3 q
        obtain ⟨z0, z1, z2, z3, z4⟩ := Bx.cells5 K_0.out
        go_wp2_with fail
        clear z0 z1 z2 z3 z4
        refine (HC3.out _ H_0.out).mono ?_
        rintro e y1 ⟨rfl, hb⟩
        have B_1 := Lib.hid (B_0.out.trans (Below.mono hb B_0.out.size))
        have H_1 := Lib.hid (Evs.below H_0.out hb)
        have K_1 := Lib.hid (Bx.below K_0.out hb)
        have C_1 := Lib.hid (Ints.below C_0.out hb)
        clear hb B_0 H_0 K_0 C_0
        obtain ⟨z0, z1, z2, z3, z4⟩ := Bx.cells5 K_1.out
        go_wp2_with fail
        clear z0 z1 z2 z3 z4
        refine (HC5.out _ H_1.out).mono ?_
        rintro e y2 ⟨rfl, hb⟩
        have B_2 := Lib.hid (B_1.out.trans (Below.mono hb B_1.out.size))
        have H_2 := Lib.hid (Evs.below H_1.out hb)
        have K_2 := Lib.hid (Bx.below K_1.out hb)
        have C_2 := Lib.hid (Ints.below C_1.out hb)
        clear hb B_1 H_1 K_1 C_1
        obtain ⟨z0, z1, z2, z3, z4⟩ := Bx.cells5 K_2.out
        go_wp2_with fail
        clear z0 z1 z2 z3 z4
        refine (HC7.out _ H_2.out).mono ?_
        rintro e y3 ⟨rfl, hb⟩
        have B_3 := Lib.hid (B_2.out.trans (Below.mono hb B_2.out.size))
        have H_3 := Lib.hid (Evs.below H_2.out hb)
        have K_3 := Lib.hid (Bx.below K_2.out hb)
        have C_3 := Lib.hid (Ints.below C_2.out hb)
        clear hb B_2 H_2 K_2 C_2
        obtain ⟨cb, co, rfl, hcc⟩ := (C_3.out).cell q hq
        obtain ⟨cp, hcpe⟩ : ∃ z, z = en caps q := ⟨_, rfl⟩
        rw [← hcpe] at hcc HZ hcb hcb3
        clear hcpe hqa
        have HZ1 := Lib.hid (HZ.out.trans (if_neg (by omega)))
        by_cases p0 : cp < 0
        · skip
          have HZ2 := Lib.hid (HZ1.out.trans (if_pos p0))
          obtain ⟨z0, z1, z2, z3, z4⟩ := Bx.cells5 K_3.out
          go_wp2_with fail
          go_ret
          exact ⟨ret_bool HZ2.out.symm, B_3.out⟩
        · skip
          have HZ2 := Lib.hid (HZ1.out.trans (if_neg p0))
          have HZ3 := Lib.hid (HZ2.out.trans ((if_neg (by decide)).trans ((if_neg (by decide)).trans (if_pos (by first | trivial | rfl)))))
          by_cases p7 : ¬ 0 < s7
          · skip
            have HZ4 := Lib.hid (HZ3.out.trans (decide_eq_true (by omega)))
            obtain ⟨z0, z1, z2, z3, z4⟩ := Bx.cells5 K_3.out
            go_wp2_with fail
            go_ret
            exact ⟨ret_bool HZ4.out.symm, B_3.out⟩
          · skip
            by_cases pn : ¬ s3 = s5
            · obtain ⟨pnf1, pnf2⟩ := ne_facts pn
              have HZ4 := Lib.hid (HZ3.out.trans (decide_eq_true (by omega)))
              have pp : 0 < s7 := by omega
              obtain ⟨z0, z1, z2, z3, z4⟩ := Bx.cells5 K_3.out
              go_wp2_with fail
              go_ret
              exact ⟨ret_bool HZ4.out.symm, B_3.out⟩
            · have pn := Classical.not_not.1 pn
              obtain ⟨pnt1, pnt2⟩ := eq_facts pn
              have HZ4 := Lib.hid (HZ3.out.trans (decide_eq_false (by omega)))
              have pp : 0 < s7 := by omega
              obtain ⟨z0, z1, z2, z3, z4⟩ := Bx.cells5 K_3.out
              go_wp2_with fail
              go_ret
              exact ⟨ret_bool HZ4.out.symm, B_3.out⟩
      · obtain ⟨k6f1, k6f2⟩ := ne_facts k6
        by_cases k7 : x1 = 7
        · obtain ⟨k7t1, k7t2⟩ := eq_facts k7
          subst k7
          obtain ⟨q, rfl⟩ : ∃ q : Nat, x2 = (q : Int) := ⟨x2.toNat, by have := hob (by omega); omega⟩
          have hq : q < cn := by have := hob (by omega); omega
          have hqn : (q : Int) < (cn : Int) := by omega
          have hqa : capAt caps (q : Int) = en caps q := by unfold capAt; rw [Int.toNat_natCast]
          rw [hqa] at HZ
          have hcb := hcp64 q
          unfold I64 at hcb
          have hcb3 := hc3 q
          obtain ⟨z0, z1, z2, z3, z4⟩ := Bx.cells5 K_0.out
          go_wp2_with fail
          clear z0 z1 z2 z3 z4
          refine (HC3.out _ H_0.out).mono ?_
          rintro e y1 ⟨rfl, hb⟩
          have B_1 := Lib.hid (B_0.out.trans (Below.mono hb B_0.out.size))
          have H_1 := Lib.hid (Evs.below H_0.out hb)
          have K_1 := Lib.hid (Bx.below K_0.out hb)
          have C_1 := Lib.hid (Ints.below C_0.out hb)
          clear hb B_0 H_0 K_0 C_0
          obtain ⟨z0, z1, z2, z3, z4⟩ := Bx.cells5 K_1.out
          go_wp2_with fail
          clear z0 z1 z2 z3 z4
          refine (HC5.out _ H_1.out).mono ?_
          rintro e y2 ⟨rfl, hb⟩
          have B_2 := Lib.hid (B_1.out.trans (Below.mono hb B_1.out.size))
          have H_2 := Lib.hid (Evs.below H_1.out hb)
          have K_2 := Lib.hid (Bx.below K_1.out hb)
          have C_2 := Lib.hid (Ints.below C_1.out hb)
          clear hb B_1 H_1 K_1 C_1
          obtain ⟨z0, z1, z2, z3, z4⟩ := Bx.cells5 K_2.out
          go_wp2_with fail
          clear z0 z1 z2 z3 z4
          refine (HC7.out _ H_2.out).mono ?_
          rintro e y3 ⟨rfl, hb⟩
          have B_3 := Lib.hid (B_2.out.trans (Below.mono hb B_2.out.size))
          have H_3 := Lib.hid (Evs.below H_2.out hb)
          have K_3 := Lib.hid (Bx.below K_2.out hb)
          have C_3 := Lib.hid (Ints.below C_2.out hb)
          clear hb B_2 H_2 K_2 C_2
          obtain ⟨cb, co, rfl, hcc⟩ := (C_3.out).cell q hq
          obtain ⟨cp, hcpe⟩ : ∃ z, z = en caps q := ⟨_, rfl⟩
          rw [← hcpe] at hcc HZ hcb hcb3
          clear hcpe hqa
          have HZ1 := Lib.hid (HZ.out.trans (if_neg (by omega)))
          by_cases p0 : cp < 0
          · skip
            have HZ2 := Lib.hid (HZ1.out.trans (if_pos p0))
            obtain ⟨z0, z1, z2, z3, z4⟩ := Bx.cells5 K_3.out
            go_wp2_with fail
            go_ret
            exact ⟨ret_bool HZ2.out.symm, B_3.out⟩
          · skip
            have HZ2 := Lib.hid (HZ1.out.trans (if_neg p0))
            have HZ3 := Lib.hid (HZ2.out.trans ((if_neg (by decide)).trans ((if_neg (by decide)).trans (if_neg (by decide)))))
            obtain ⟨z0, z1, z2, z3, z4⟩ := Bx.cells5 K_3.out
            go_wp2_with fail
            go_ret
            exact ⟨ret_bool HZ3.out.symm, B_3.out⟩
        · obtain ⟨k7f1, k7f2⟩ := ne_facts k7
          by_cases kl : x1 < 5
          · skip
            have HZ1 := Lib.hid (HZ.out.trans (if_pos ⟨k3, .inl kl⟩))
            obtain ⟨z0, z1, z2, z3, z4⟩ := Bx.cells5 K_0.out
            go_wp2_with fail
            go_ret
            exact ⟨ret_bool HZ1.out.symm, B_0.out⟩
          · skip
            have kg : 7 < x1 := by omega
            have HZ1 := Lib.hid (HZ.out.trans (if_pos ⟨k3, .inr kg⟩))
            obtain ⟨z0, z1, z2, z3, z4⟩ := Bx.cells5 K_0.out
            go_wp2_with fail
            go_ret
            exact ⟨ret_bool HZ1.out.symm, B_0.out⟩
end Go.Proofs.Ytjkbmenmpnidhaa
