/- ender, sync: the reference. -/
import Derived.Test.YtjkbmenmpnidhaaR7
namespace Go.Proofs.Ytjkbmenmpnidhaa
open Go.RowKit
set_option linter.unusedSimpArgs false
set_option linter.unusedVariables false
theorem doer_at {L : List Ev} {o : Int} {k : Nat} (h0 : doerZ L o k = none) (h1 : (evAt L k).kind = 13 ∧ (evAt L k).obj = o) : ∀ d, doerZ L o (k + 1 + d) = some (evAt L k).g
  | 0 => by show (match doerZ L o k with | some g => some g | none => if (evAt L k).kind = 13 ∧ (evAt L k).obj = o then some (evAt L k).g else none) = _; rw [h0]; simp only; rw [if_pos h1]
  | d + 1 => by
    have ih := doer_at h0 h1 d
    show (match doerZ L o (k + 1 + d) with | some g => some g | none => _) = _
    rw [ih]
theorem doer_step {L : List Ev} {o : Int} {k : Nat} (h0 : doerZ L o k = none) (h1 : ¬ ((evAt L k).kind = 13 ∧ (evAt L k).obj = o)) : doerZ L o (k + 1) = none := by
  show (match doerZ L o k with | some g => some g | none => if (evAt L k).kind = 13 ∧ (evAt L k).obj = o then some (evAt L k).g else none) = _
  rw [h0]; simp only; rw [if_neg h1]
set_option maxRecDepth 100000 in
set_option maxHeartbeats 8000000 in
theorem ender_any (a : Option Addr) (n c : Nat) (L : List Ev) (i : Nat) (w : World) (h : Evs w a n c L) (hi : i < n) : Calls Try.prog 96 #[.slice a n c, .int .i64 (i : Int)] w (BoolTo w (enderZ L i)) := by
  have hle := h.recs.len_le
  have hlc := h.recs.le_cap
  have H_0 := Lib.hid (h.below (below_alloc w (.cells (evC (evAt L i)) 48)))
  have B_0 := Lib.hid (below_alloc w (.cells (evC (evAt L i)) 48))
  have K_0 := Lib.hid (Bx.new w (evC (evAt L i)) 48)
  obtain ⟨b, off, hok, rfl, c0, c1, c2, c3, c4⟩ := h.at i hi
  have hi2 : (i : Int) < (n : Int) := by omega
  have hi3 : (i : Int) ≤ (n : Int) := by omega
  have hi4 : (i : Int) ≤ (c : Int) := by omega
  have hi0 : ¬ (i : Int) < 0 := by omega
  have HZ := Lib.hid (show enderZ L i = if (evAt L i).kind = 15 then decide (cntZ L 14 (evAt L i).obj i = 0) else match doerZ L (evAt L i).obj i with | none => true | some g => decide (g ≠ (evAt L i).g ∨ 0 < cntZ L 14 (evAt L i).obj i) from rfl)
  have HC := Lib.hid (fun W (h : Evs W (some ⟨b, off, none⟩) n c L) => refCount_any _ n c L i 14 (evAt L i).obj W h hi)
  unfold IntTo at HC
  obtain ⟨s4, hs4⟩ : ∃ z, z = cntZ L 14 (evAt L i).obj i := ⟨_, rfl⟩
  rw [← hs4] at HZ HC
  clear hs4
  have HDA := Lib.hid (fun (k d : Nat) h0 h1 => doer_at (L := L) (o := (evAt L i).obj) (k := k) h0 h1 d)
  have HDS := Lib.hid (fun (k : Nat) h0 h1 => doer_step (L := L) (o := (evAt L i).obj) (k := k) h0 h1)
  obtain ⟨x, hx⟩ : ∃ x, x = evAt L i := ⟨_, rfl⟩
  rw [← hx] at c0 c1 c2 c3 c4 B_0 K_0 H_0 HZ hok HC HDA HDS
  have HX := Lib.hid hx
  clear h hx
  unfold evC at B_0 K_0 H_0
  obtain ⟨x0, x1, x2, x3, x4⟩ := x
  unfold EvOk I64 at hok
  dsimp only at c0 c1 c2 c3 c4 B_0 K_0 H_0 HZ hok HC HDA HDS
  obtain ⟨e0, he0⟩ : ∃ z, z = w.heap.size := ⟨_, rfl⟩
  obtain ⟨v0, hv0⟩ : ∃ z, z = w.alloc (.cells #[.int .i64 x0, .int .i64 x1, .int .i64 x2, .int .i64 x3, .int .i64 x4] 48) := ⟨_, rfl⟩
  rw [← hv0] at B_0 K_0 H_0
  rw [← he0] at K_0
  have HE0 := Lib.hid he0; have HV0 := Lib.hid hv0
  clear he0 hv0
  go_enter Try.func96, Try.ntmps96
  go_upto_region 2 with (fail)
  rw [← HV0.out, ← HE0.out]
  clear c0 c1 c2 c3 c4
  by_cases k15 : x1 = 15
  · obtain ⟨k15t1, k15t2⟩ := eq_facts k15
    have HZ1 := Lib.hid (HZ.out.trans (if_pos k15))
    subst k15
    obtain ⟨z0, z1, z2, z3, z4⟩ := Bx.cells5 K_0.out
    go_wp2_with fail
    clear z0 z1 z2 z3 z4
    refine (HC.out _ H_0.out).mono ?_
    rintro e y1 ⟨rfl, hb⟩
    have B_1 := Lib.hid (B_0.out.trans (Below.mono hb B_0.out.size))
    have H_1 := Lib.hid (Evs.below H_0.out hb)
    have K_1 := Lib.hid (Bx.below K_0.out hb)
    clear hb B_0 H_0 K_0
    by_cases q0 : s4 = 0
    · obtain ⟨q0t1, q0t2⟩ := eq_facts q0
      have HZ2 := Lib.hid (HZ1.out.trans (decide_eq_true q0))
      go_wp2_with fail
      go_ret
      exact ⟨ret_bool HZ2.out.symm, B_1.out⟩
    · obtain ⟨q0f1, q0f2⟩ := ne_facts q0
      have HZ2 := Lib.hid (HZ1.out.trans (decide_eq_false q0))
      go_wp2_with fail
      go_ret
      exact ⟨ret_bool HZ2.out.symm, B_1.out⟩
  · obtain ⟨k15f1, k15f2⟩ := ne_facts k15
    have HZ1 := Lib.hid (HZ.out.trans (if_neg k15))
    obtain ⟨z0, z1, z2, z3, z4⟩ := Bx.cells5 K_0.out
    go_wp2_with fail
    clear z0 z1 z2 z3 z4
    obtain ⟨X, hX⟩ : ∃ X, X = v0 := ⟨_, rfl⟩
    rw [← hX]
    have HXX := Lib.hid hX
    clear hX
    go_loopw [25] (fun j wr => ∃ k : Nat, k ≤ i ∧ j = .int .i64 k ∧ doerZ L x2 k = none ∧ Below v0.heap.size v0 wr) (fun j _ => i - (intOf j).toNat)
    case atStart => exact ⟨0, Nat.zero_le _, rfl, rfl, by rw [HXX.out]; exact Below.refl _ _⟩
    case round =>
      obtain ⟨k, hk, rfl, hno, hb⟩ := hrel
      have HNO := Lib.hid hno
      have BW := Lib.hid ((B_0.out).trans (Below.mono hb (B_0.out).size)); have HW := Lib.hid (Evs.below H_0.out hb); have KW := Lib.hid (Bx.below K_0.out hb)
      have HB := Lib.hid hb
      clear hb hno
      by_cases hlt : k < i
      · have hlt' : (k : Int) < (i : Int) := by omega
        have hkn : (k : Int) < (n : Int) := by omega
        obtain ⟨b', off', _, he, d0, d1, d2, d3, d4⟩ := HW.out.at k (by omega)
        cases he
        have HA1 := Lib.hid (HDA.out k (i - (k + 1)) HNO.out)
        rw [show k + 1 + (i - (k + 1)) = i by omega] at HA1
        have HA2 := Lib.hid (HDS.out k HNO.out)
        have BS := Lib.hid (BW.out.trans (Below.mono (below_alloc wr (.cells (evC (evAt L k)) 48)) BW.out.size)); have HBS := Lib.hid (HB.out.trans (Below.mono (below_alloc wr (.cells (evC (evAt L k)) 48)) HB.out.size))
        have KS := Lib.hid (Bx.new wr (evC (evAt L k)) 48)
        have KE := Lib.hid (Bx.below KW.out (below_alloc wr (.cells (evC (evAt L k)) 48)))
        have HE := Lib.hid (Evs.below HW.out (below_alloc wr (.cells (evC (evAt L k)) 48)))
        obtain ⟨x, hx⟩ : ∃ x, x = evAt L k := ⟨_, rfl⟩
        rw [← hx] at d0 d1 d2 d3 d4 HA1 HA2 BS KS KE HE HBS
        unfold evC at BS KS KE HE HBS
        clear hx
        obtain ⟨u0, u1, u2, u3, u4⟩ := x
        dsimp only at d0 d1 d2 d3 d4 HA1 HA2 BS KS KE HE HBS
        obtain ⟨e1, he1⟩ : ∃ z, z = wr.heap.size := ⟨_, rfl⟩
        obtain ⟨v1, hv1⟩ : ∃ z, z = wr.alloc (.cells #[.int .i64 u0, .int .i64 u1, .int .i64 u2, .int .i64 u3, .int .i64 u4] 48) := ⟨_, rfl⟩
        rw [← hv1] at BS KS KE HE HBS
        rw [← he1] at KS
        have HE1 := Lib.hid he1; have HV1 := Lib.hid hv1
        clear he1 hv1
        go_upto_region 7 with (fail)
        rw [← HV1.out, ← HE1.out]
        clear d0 d1 d2 d3 d4
        by_cases g13 : ¬ u1 = 13
        · obtain ⟨g13f1, g13f2⟩ := ne_facts g13
          have HN2 := Lib.hid (HA2.out (fun h => g13 h.1))
          obtain ⟨z0, z1, z2, z3, z4⟩ := Bx.cells5 KE.out
          obtain ⟨t0, t1, t2, t3, t4⟩ := Bx.cells5 KS.out
          go_wp2_with fail
          go_roundw
          case rel => exact ⟨k + 1, by omega, by go_num, HN2.out, HBS.out⟩
          case measure => simp [intOf]; omega
        · have g13 := Classical.not_not.1 g13
          obtain ⟨g13t1, g13t2⟩ := eq_facts g13
          by_cases gob : ¬ u2 = x2
          · obtain ⟨gobf1, gobf2⟩ := ne_facts gob
            have HN2 := Lib.hid (HA2.out (fun h => gob h.2))
            obtain ⟨z0, z1, z2, z3, z4⟩ := Bx.cells5 KE.out
            obtain ⟨t0, t1, t2, t3, t4⟩ := Bx.cells5 KS.out
            go_wp2_with fail
            go_roundw
            case rel => exact ⟨k + 1, by omega, by go_num, HN2.out, HBS.out⟩
            case measure => simp [intOf]; omega
          · have gob := Classical.not_not.1 gob
            obtain ⟨gobt1, gobt2⟩ := eq_facts gob
            have HD := Lib.hid (HA1.out ⟨g13, gob⟩)
            have HZ2 := Lib.hid (show enderZ L i = decide (u0 ≠ x0 ∨ 0 < s4) by rw [HZ1.out, HD.out])
            subst g13
            subst gob
            by_cases gg : ¬ u0 = x0
            · obtain ⟨ggf1, ggf2⟩ := ne_facts gg
              have HZ3 := Lib.hid (HZ2.out.trans (decide_eq_true (.inl gg)))
              obtain ⟨z0, z1, z2, z3, z4⟩ := Bx.cells5 KE.out
              obtain ⟨t0, t1, t2, t3, t4⟩ := Bx.cells5 KS.out
              go_wp2_with fail
              go_ret
              exact ⟨ret_bool HZ3.out.symm, BS.out⟩
            · have gg := Classical.not_not.1 gg
              obtain ⟨ggt1, ggt2⟩ := eq_facts gg
              have HZ3 := Lib.hid (HZ2.out.trans (show decide (u0 ≠ x0 ∨ 0 < s4) = decide (0 < s4) by apply decide_eq_decide.2; constructor; rintro (h | h); exact absurd gg h; exact h; exact .inr))
              obtain ⟨z0, z1, z2, z3, z4⟩ := Bx.cells5 KE.out
              obtain ⟨t0, t1, t2, t3, t4⟩ := Bx.cells5 KS.out
              go_wp2_with fail
              clear z0 z1 z2 z3 z4 t0 t1 t2 t3 t4
              refine (HC.out _ HE.out).mono ?_
              rintro e y1 ⟨rfl, hb⟩
              have BY := Lib.hid (BS.out.trans (Below.mono hb BS.out.size))
              clear hb
              go_wp2_with fail
              go_ret
              exact ⟨ret_bool HZ3.out.symm, BY.out⟩
      · have hke : k = i := by omega
        have HZ2 := Lib.hid (show enderZ L i = true by rw [HZ1.out, ← hke, HNO.out])
        subst hke
        go_wp2_with fail
        go_ret
        exact ⟨ret_bool HZ2.out.symm, BW.out⟩
set_option maxRecDepth 100000 in
set_option maxHeartbeats 8000000 in
theorem sync_any (a : Option Addr) (n c : Nat) (L : List Ev) (i : Nat) (w : World) (h : Evs w a n c L) (hi : i < n) (hn : n ≤ 1000) : Calls Try.prog 53 #[.slice a n c, .int .i64 (i : Int)] w (BoolTo w (syncZ L i)) := by
  have hle := h.recs.len_le
  have hlc := h.recs.le_cap
  have H_0 := Lib.hid (h.below (below_alloc w (.cells (evC (evAt L i)) 48)))
  have B_0 := Lib.hid (below_alloc w (.cells (evC (evAt L i)) 48))
  have K_0 := Lib.hid (Bx.new w (evC (evAt L i)) 48)
  obtain ⟨b, off, hok, rfl, c0, c1, c2, c3, c4⟩ := h.at i hi
  have hi2 : (i : Int) < (n : Int) := by omega
  have hi3 : (i : Int) ≤ (n : Int) := by omega
  have hi4 : (i : Int) ≤ (c : Int) := by omega
  have hi0 : ¬ (i : Int) < 0 := by omega
  have HZ := Lib.hid (show syncZ L i = if (evAt L i).kind = 11 then decide (cntZ L 11 (evAt L i).obj i - cntZ L 12 (evAt L i).obj i ≠ 0) else if (evAt L i).kind = 12 then decide (cntZ L 11 (evAt L i).obj i - cntZ L 12 (evAt L i).obj i ≠ 1) else if (evAt L i).kind = 14 ∨ (evAt L i).kind = 15 then enderZ L i else false from rfl)
  have HC := Lib.hid (fun W (h : Evs W (some ⟨b, off, none⟩) n c L) => refCount_any _ n c L i 11 (evAt L i).obj W h hi)
  have HD := Lib.hid (fun W (h : Evs W (some ⟨b, off, none⟩) n c L) => refCount_any _ n c L i 12 (evAt L i).obj W h hi)
  have HN := Lib.hid (fun W (h : Evs W (some ⟨b, off, none⟩) n c L) => ender_any _ n c L i W h hi)
  unfold IntTo at HC HD
  unfold BoolTo at HN
  have hb1 := cntZ_le L 11 (evAt L i).obj i
  have hb2 := cntZ_le L 12 (evAt L i).obj i
  obtain ⟨s1, hs1⟩ : ∃ z, z = cntZ L 11 (evAt L i).obj i := ⟨_, rfl⟩
  obtain ⟨s2, hs2⟩ : ∃ z, z = cntZ L 12 (evAt L i).obj i := ⟨_, rfl⟩
  rw [← hs1] at HZ HC hb1
  rw [← hs2] at HZ HD hb2
  clear hs1 hs2
  obtain ⟨x, hx⟩ : ∃ x, x = evAt L i := ⟨_, rfl⟩
  rw [← hx] at c0 c1 c2 c3 c4 B_0 K_0 H_0 HZ hok HC HD
  have HX := Lib.hid hx
  clear h hx
  unfold evC at B_0 K_0 H_0
  obtain ⟨x0, x1, x2, x3, x4⟩ := x
  unfold EvOk I64 at hok
  dsimp only at c0 c1 c2 c3 c4 B_0 K_0 H_0 HZ hok HC HD
  obtain ⟨e0, he0⟩ : ∃ z, z = w.heap.size := ⟨_, rfl⟩
  obtain ⟨v0, hv0⟩ : ∃ z, z = w.alloc (.cells #[.int .i64 x0, .int .i64 x1, .int .i64 x2, .int .i64 x3, .int .i64 x4] 48) := ⟨_, rfl⟩
  rw [← hv0] at B_0 K_0 H_0
  rw [← he0] at K_0
  have HE0 := Lib.hid he0; have HV0 := Lib.hid hv0
  clear he0 hv0
  go_enter Try.func53, Try.ntmps53
  go_upto_region 2 with (fail)
  rw [← HV0.out, ← HE0.out]
  clear c0 c1 c2 c3 c4
  obtain ⟨ez, hez⟩ : ∃ z, z = enderZ L i := ⟨_, rfl⟩
  rw [← hez] at HN HZ
  clear hez
  have hwr : IntKind.i64.wrap (s1 - s2) = s1 - s2 := by rw [IntKind.wrap_i64]; omega
  have DR : Below v0.heap.size v0 v0.drew := (Below.refl _ _).drew
  have B_D := Lib.hid (B_0.out.trans (Below.mono DR B_0.out.size)); have H_D := Lib.hid (Evs.below H_0.out DR); have K_D := Lib.hid (Bx.below K_0.out DR)
  clear DR
  have HSS := Lib.hid (fun (V : World) (h : Bx V e0 #[.int .i64 x0, .int .i64 x1, .int .i64 x2, .int .i64 x3, .int .i64 x4] 48) => Bx.cells5 h)
  refine wp_region_held_drew (S := (fun V => V.cell? ⟨e0, 0, none⟩ = some (.int .i64 x0) ∧ V.cell? ⟨e0, 1, none⟩ = some (.int .i64 x1) ∧ V.cell? ⟨e0, 2, none⟩ = some (.int .i64 x2) ∧ V.cell? ⟨e0, 3, none⟩ = some (.int .i64 x3) ∧ V.cell? ⟨e0, 4, none⟩ = some (.int .i64 x4))) (by kernel_rfl) (HSS.out _ K_D.out) (fun hHeld => ?_)
  (try simp only [Act.put, List.getElem_toArray, List.getElem_cons_zero, List.getElem_cons_succ, List.setIfInBounds_toArray, List.set_cons_zero, List.set_cons_succ])
  refine takes [0, 1, 2, 3, 5, 6, 7, 8] (by kernel_rfl) (fun _ _ _ _ _ h => h) (by assumption) ?_
  iterate 8 (refine ally_cons (v := ?_) rfl (Or.inl ⟨?_, fun w hSw => ?_⟩) ?_; rotate_left; rfl; ((try dsimp only at hSw); go_simp; try with_reducible rfl); (try simp only [Act.put, List.getElem_toArray, List.getElem_cons_zero, List.getElem_cons_succ, List.setIfInBounds_toArray, List.set_cons_zero, List.set_cons_succ]))
  refine ally_nil ?_
  refine wpAnyH_ready (rs := [4]) (by kernel_rfl) (by simp) ?_
  refine AllReadyH.cons (o := _) rfl (fun K hK => ?_) AllReadyH.nil
  go_simp
  refine (HC.out _ H_D.out).mono ?_
  rintro e y1 ⟨rfl, hb⟩
  have B_1 := Lib.hid (B_D.out.trans (Below.mono hb B_D.out.size))
  have H_1 := Lib.hid (Evs.below H_D.out hb)
  have K_1 := Lib.hid (Bx.below K_D.out hb)
  clear hb B_D H_D K_D
  clear hHeld
  refine hK.out _ _ (HSS.out _ K_1.out) (fun hHeld => ?_)
  clear hK K
  (try simp only [Act.put, List.getElem_toArray, List.getElem_cons_zero, List.getElem_cons_succ, List.setIfInBounds_toArray, List.set_cons_zero, List.set_cons_succ])
  refine wpAnyH_ready (rs := [9]) (by kernel_rfl) (by simp) ?_
  refine AllReadyH.cons (o := _) rfl (fun K hK => ?_) AllReadyH.nil
  go_simp
  refine (HD.out _ H_1.out).mono ?_
  rintro e y2 ⟨rfl, hb⟩
  have B_2 := Lib.hid (B_1.out.trans (Below.mono hb B_1.out.size))
  have H_2 := Lib.hid (Evs.below H_1.out hb)
  have K_2 := Lib.hid (Bx.below K_1.out hb)
  clear hb B_1 H_1 K_1
  clear hHeld
  refine hK.out _ _ (HSS.out _ K_2.out) (fun hHeld => ?_)
  clear hK K
  (try simp only [Act.put, List.getElem_toArray, List.getElem_cons_zero, List.getElem_cons_succ, List.setIfInBounds_toArray, List.set_cons_zero, List.set_cons_succ])
  refine takes [10, 11] (by kernel_rfl) (fun _ _ _ _ _ h => h) (by assumption) ?_
  iterate 2 (refine ally_cons (v := ?_) rfl (Or.inl ⟨?_, fun w hSw => ?_⟩) ?_; rotate_left; rfl; ((try dsimp only at hSw); go_simp; try with_reducible rfl); (try simp only [Act.put, List.getElem_toArray, List.getElem_cons_zero, List.getElem_cons_succ, List.setIfInBounds_toArray, List.set_cons_zero, List.set_cons_succ, hwr]))
  refine ally_nil ?_
  refine wpAnyH_done (by kernel_rfl) ?_ _
  clear hHeld HSS
  by_cases k11 : x1 = 11
  · obtain ⟨k11t1, k11t2⟩ := eq_facts k11
    have HZ1 := Lib.hid (HZ.out.trans (if_pos k11))
    subst k11
    by_cases d0 : ¬ s1 - s2 = 0
    · obtain ⟨d0f1, d0f2⟩ := ne_facts d0
      have HZ2 := Lib.hid (HZ1.out.trans (decide_eq_true d0))
      obtain ⟨z0, z1, z2, z3, z4⟩ := Bx.cells5 K_2.out
      go_wp2_with fail
      go_ret
      exact ⟨ret_bool HZ2.out.symm, B_2.out⟩
    · have d0 := Classical.not_not.1 d0
      obtain ⟨d0t1, d0t2⟩ := eq_facts d0
      have HZ2 := Lib.hid (HZ1.out.trans (decide_eq_false (fun h => h d0)))
      obtain ⟨z0, z1, z2, z3, z4⟩ := Bx.cells5 K_2.out
      go_wp2_with fail
      go_ret
      exact ⟨ret_bool HZ2.out.symm, B_2.out⟩
  · obtain ⟨k11f1, k11f2⟩ := ne_facts k11
    by_cases k12 : x1 = 12
    · obtain ⟨k12t1, k12t2⟩ := eq_facts k12
      have HZ1 := Lib.hid (HZ.out.trans ((if_neg k11).trans (if_pos k12)))
      subst k12
      by_cases d0 : ¬ s1 - s2 = 1
      · obtain ⟨d0f1, d0f2⟩ := ne_facts d0
        have HZ2 := Lib.hid (HZ1.out.trans (decide_eq_true d0))
        obtain ⟨z0, z1, z2, z3, z4⟩ := Bx.cells5 K_2.out
        go_wp2_with fail
        go_ret
        exact ⟨ret_bool HZ2.out.symm, B_2.out⟩
      · have d0 := Classical.not_not.1 d0
        obtain ⟨d0t1, d0t2⟩ := eq_facts d0
        have HZ2 := Lib.hid (HZ1.out.trans (decide_eq_false (fun h => h d0)))
        obtain ⟨z0, z1, z2, z3, z4⟩ := Bx.cells5 K_2.out
        go_wp2_with fail
        go_ret
        exact ⟨ret_bool HZ2.out.symm, B_2.out⟩
    · obtain ⟨k12f1, k12f2⟩ := ne_facts k12
      by_cases k14 : x1 = 14
      · obtain ⟨k14t1, k14t2⟩ := eq_facts k14
        have HZ1 := Lib.hid (HZ.out.trans ((if_neg k11).trans ((if_neg k12).trans (if_pos (.inl k14)))))
        subst k14
        obtain ⟨z0, z1, z2, z3, z4⟩ := Bx.cells5 K_2.out
        go_wp2_with fail
        clear z0 z1 z2 z3 z4
        refine (HN.out _ H_2.out).mono ?_
        rintro e y3 ⟨rfl, hb⟩
        have B_3 := Lib.hid (B_2.out.trans (Below.mono hb B_2.out.size))
        have H_3 := Lib.hid (Evs.below H_2.out hb)
        have K_3 := Lib.hid (Bx.below K_2.out hb)
        clear hb B_2 H_2 K_2
        go_wp2_with fail
        go_ret
        exact ⟨ret_bool HZ1.out.symm, B_3.out⟩
      · obtain ⟨k14f1, k14f2⟩ := ne_facts k14
        by_cases k15 : x1 = 15
        · obtain ⟨k15t1, k15t2⟩ := eq_facts k15
          have HZ1 := Lib.hid (HZ.out.trans ((if_neg k11).trans ((if_neg k12).trans (if_pos (.inr k15)))))
          subst k15
          obtain ⟨z0, z1, z2, z3, z4⟩ := Bx.cells5 K_2.out
          go_wp2_with fail
          clear z0 z1 z2 z3 z4
          refine (HN.out _ H_2.out).mono ?_
          rintro e y3 ⟨rfl, hb⟩
          have B_3 := Lib.hid (B_2.out.trans (Below.mono hb B_2.out.size))
          have H_3 := Lib.hid (Evs.below H_2.out hb)
          have K_3 := Lib.hid (Bx.below K_2.out hb)
          clear hb B_2 H_2 K_2
          go_wp2_with fail
          go_ret
          exact ⟨ret_bool HZ1.out.symm, B_3.out⟩
        · obtain ⟨k15f1, k15f2⟩ := ne_facts k15
          have HZ1 := Lib.hid (HZ.out.trans ((if_neg k11).trans ((if_neg k12).trans (if_neg (by rintro (h | h); exact k14 h; exact k15 h)))))
          obtain ⟨z0, z1, z2, z3, z4⟩ := Bx.cells5 K_2.out
          go_wp2_with fail
          go_ret
          exact ⟨ret_bool HZ1.out.symm, B_2.out⟩
end Go.Proofs.Ytjkbmenmpnidhaa
