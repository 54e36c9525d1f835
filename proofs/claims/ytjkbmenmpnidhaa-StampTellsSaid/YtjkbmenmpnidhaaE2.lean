/- The reference: is. -/
import Derived.Test.YtjkbmenmpnidhaaE1
namespace Go.Proofs.Ytjkbmenmpnidhaa
open Go.RowKit
set_option linter.unusedSimpArgs false
set_option linter.unusedVariables false
/-- a cell -/
def Cl (W : World) (A : Addr) (v : Value) : Prop := W.cell? A = some v
theorem Cl.below {W W' : World} {A : Addr} {v : Value} (h : Cl W A v) (hb : Below W.heap.size W W') : Cl W' A v := (hb.cell (World.block_lt_of_cell? W _ h)).trans h
theorem isZ_eq {caps : List Int} {L : List Ev} {k i : Nat} {e x : Ev} (he : e = evAt L i) (hx : x = evAt L k) : isZ caps L k i = if (k : Int) = lastZ L e.g i ∨ (e.kind = 0 ∧ (k : Int) = e.start) then true
  else if e.kind = 5 then decide ((k : Int) = numberZ L 3 e.obj e.no)
  else if e.kind = 3 then decide (capAt caps e.obj ≤ e.no ∧ (k : Int) = numberZ L 5 e.obj (e.no - capAt caps e.obj))
  else if e.kind = 6 then decide (x.kind = 7 ∧ x.obj = e.obj)
  else if e.kind = 11 then decide (x.kind = 12 ∧ x.obj = e.obj)
  else decide (e.kind = 15 ∧ x.kind = 14 ∧ x.obj = e.obj) := by subst he; subst hx; rfl
theorem dec_beq (a b : Int) : decide (a = b) = (a == b) := rfl
set_option maxRecDepth 100000 in
set_option maxHeartbeats 8000000 in
theorem is_any (ca : Option Addr) (cn cc : Nat) (caps : List Int) (a : Option Addr) (n c : Nat) (L : List Ev) (k i : Nat) (w : World) (hcp : Ints w ca cn cc caps) (h : Evs w a n c L) (hi : i < n) (hk : k < n)
    (hcx : (evAt L i).kind = 3 → 0 ≤ (evAt L i).obj ∧ (evAt L i).obj < (cn : Int) ∧ -9223372036854775808 ≤ (evAt L i).no - capAt caps (evAt L i).obj ∧ (evAt L i).no - capAt caps (evAt L i).obj ≤ 9223372036854775807) :
    Calls Try.prog 23 #[.slice ca cn cc, .slice a n c, .int .i64 (k : Int), .int .i64 (i : Int)] w (BoolTo w (isZ caps L k i)) := by
  have hle := h.recs.len_le
  have hlc := h.recs.le_cap
  obtain ⟨b, off, hok, rfl, c0, c1, c2, c3, c4⟩ := h.at i hi
  obtain ⟨_, _, hokk, hbe, d0, d1, d2, d3, d4⟩ := h.at k hk
  cases hbe
  have d0 := (show Cl w _ _ from d0).below (below_alloc w (.cells (evC (evAt L i)) 48))
  have d1 := (show Cl w _ _ from d1).below (below_alloc w (.cells (evC (evAt L i)) 48))
  have d2 := (show Cl w _ _ from d2).below (below_alloc w (.cells (evC (evAt L i)) 48))
  have d3 := (show Cl w _ _ from d3).below (below_alloc w (.cells (evC (evAt L i)) 48))
  have d4 := (show Cl w _ _ from d4).below (below_alloc w (.cells (evC (evAt L i)) 48))
  unfold Cl at d0 d1 d2 d3 d4
  have hi2 : (i : Int) < (n : Int) := by omega
  have hk2 : (k : Int) < (n : Int) := by omega
  have hi0 : ¬ (i : Int) < 0 := by omega
  have hk0 : ¬ (k : Int) < 0 := by omega
  have HL := Lib.hid (fun W (h : Evs W (some ⟨b, off, none⟩) n c L) => refLast_any _ n c L i W h hi)
  have hcap := hcx
  have E_0 := Lib.hid (h.below ((below_alloc w (.cells (evC (evAt L i)) 48)).alloc (by simp) (.cells (evC (evAt L k)) 48)))
  have C_0 := Lib.hid (hcp.below ((below_alloc w (.cells (evC (evAt L i)) 48)).alloc (by simp) (.cells (evC (evAt L k)) 48)))
  have B_0 := Lib.hid ((below_alloc w (.cells (evC (evAt L i)) 48)).alloc (by simp) (.cells (evC (evAt L k)) 48))
  have K_0 := Lib.hid ((Bx.new w (evC (evAt L i)) 48).below (below_alloc _ (.cells (evC (evAt L k)) 48)))
  have Y_0 := Lib.hid (Bx.new2 w (.cells (evC (evAt L i)) 48) (evC (evAt L k)) 48)
  obtain ⟨x, hx⟩ : ∃ x, x = evAt L i := ⟨_, rfl⟩
  obtain ⟨y, hy⟩ : ∃ x, x = evAt L k := ⟨_, rfl⟩
  have HZ := Lib.hid (isZ_eq (caps := caps) hx hy)
  rw [← hx] at c0 c1 c2 c3 c4 d0 d1 d2 d3 d4 E_0 C_0 B_0 K_0 Y_0 HL hok hcap
  rw [← hy] at d0 d1 d2 d3 d4 E_0 C_0 B_0 K_0 Y_0 hokk
  clear h hcp hx hy hcx
  unfold evC at d0 d1 d2 d3 d4 B_0 C_0 E_0 K_0 Y_0
  obtain ⟨x0, x1, x2, x3, x4⟩ := x
  obtain ⟨m0, m1, m2, m3, m4⟩ := y
  unfold EvOk I64 at hok hokk
  unfold IntTo at HL
  dsimp only at c0 c1 c2 c3 c4 d0 d1 d2 d3 d4 B_0 C_0 E_0 K_0 Y_0 HL HZ hok hokk hcap
  obtain ⟨la, hla⟩ : ∃ z, z = lastZ L x0 i := ⟨_, rfl⟩
  rw [← hla] at HL HZ
  clear hla
  obtain ⟨e0, he0⟩ : ∃ z, z = w.heap.size := ⟨_, rfl⟩
  obtain ⟨e1, he1⟩ : ∃ z, z = w.heap.size + 1 := ⟨_, rfl⟩
  obtain ⟨v0, hv0⟩ : ∃ z, z = (w.alloc (.cells #[.int .i64 x0, .int .i64 x1, .int .i64 x2, .int .i64 x3, .int .i64 x4] 48)).alloc (.cells #[.int .i64 m0, .int .i64 m1, .int .i64 m2, .int .i64 m3, .int .i64 m4] 48) := ⟨_, rfl⟩
  rw [← hv0] at B_0 C_0 E_0 K_0 Y_0
  rw [← he0] at K_0
  rw [← he1] at Y_0
  have HE0 := Lib.hid he0; have HE1 := Lib.hid he1; have HV0 := Lib.hid hv0
  clear he0 he1 hv0
  go_enter Try.func23, Try.ntmps23
  go_upto_region 3 with (fail)
  rw [← HV0.out, ← HE1.out, ← HE0.out]
  clear c0 c1 c2 c3 c4 d0 d1 d2 d3 d4
  obtain ⟨z0, z1, z2, z3, z4⟩ := Bx.cells5 K_0.out
  obtain ⟨u0, u1, u2, u3, u4⟩ := Bx.cells5 Y_0.out
  go_wp2_with fail
  clear z0 z1 z2 z3 z4 u0 u1 u2 u3 u4
  refine (HL.out _ E_0.out).mono ?_
  rintro e y1 ⟨rfl, hb⟩
  have B_1 := Lib.hid (B_0.out.trans (Below.mono hb B_0.out.size))
  have E_1 := Lib.hid (Evs.below E_0.out hb)
  have C_1 := Lib.hid (Ints.below C_0.out hb)
  have K_1 := Lib.hid (Bx.below K_0.out hb)
  have Y_1 := Lib.hid (Bx.below Y_0.out hb)
  clear hb B_0 E_0 C_0 K_0 Y_0
  by_cases pl : (k : Int) = la
  · obtain ⟨plt1, plt2⟩ := eq_facts pl
    have HZ1 := Lib.hid (HZ.out.trans (if_pos (.inl pl)))
    subst pl
    obtain ⟨z0, z1, z2, z3, z4⟩ := Bx.cells5 K_1.out
    obtain ⟨u0, u1, u2, u3, u4⟩ := Bx.cells5 Y_1.out
    go_wp2_with fail
    go_ret
    exact ⟨ret_bool HZ1.out.symm, B_1.out⟩
  · obtain ⟨plf1, plf2⟩ := ne_facts pl
    by_cases k0 : x1 = 0
    · obtain ⟨k0t1, k0t2⟩ := eq_facts k0
      by_cases ps : (k : Int) = x4
      · obtain ⟨pst1, pst2⟩ := eq_facts ps
        have HZ1 := Lib.hid (HZ.out.trans (if_pos (.inr ⟨k0, ps⟩)))
        subst k0; subst ps
        obtain ⟨z0, z1, z2, z3, z4⟩ := Bx.cells5 K_1.out
        obtain ⟨u0, u1, u2, u3, u4⟩ := Bx.cells5 Y_1.out
        go_wp2_with fail
        go_ret
        exact ⟨ret_bool HZ1.out.symm, B_1.out⟩
      · obtain ⟨psf1, psf2⟩ := ne_facts ps
        have pz : ¬ ((k : Int) = la ∨ (x1 = 0 ∧ (k : Int) = x4)) := fun h => h.elim pl (fun h => ps h.2)
        have HZ1 := Lib.hid (HZ.out.trans ((if_neg pz).trans ((if_neg (by omega)).trans ((if_neg (by omega)).trans ((if_neg (by omega)).trans ((if_neg (by omega)).trans (decide_eq_false (fun h => by have := h.1; omega))))))))
        clear pz
        subst k0
        obtain ⟨z0, z1, z2, z3, z4⟩ := Bx.cells5 K_1.out
        obtain ⟨u0, u1, u2, u3, u4⟩ := Bx.cells5 Y_1.out
        go_wp2_with fail
        go_ret
        exact ⟨ret_bool HZ1.out.symm, B_1.out⟩
    · obtain ⟨k0f1, k0f2⟩ := ne_facts k0
      have pz : ¬ ((k : Int) = la ∨ (x1 = 0 ∧ (k : Int) = x4)) := fun h => h.elim pl (fun h => k0 h.1)
      have HZ2 := Lib.hid (HZ.out.trans (if_neg pz))
      by_cases k5 : x1 = 5
      · obtain ⟨k5t1, k5t2⟩ := eq_facts k5
        have HZ3 := Lib.hid (HZ2.out.trans (if_pos k5))
        have HN := Lib.hid (fun W (h : Evs W (some ⟨b, off, none⟩) n c L) => number_any _ n c L 3 x2 x3 W h)
        obtain ⟨nu, hnu⟩ : ∃ z, z = numberZ L 3 x2 x3 := ⟨_, rfl⟩
        rw [← hnu] at HZ3 HN
        clear hnu
        unfold IntTo at HN
        subst k5
        obtain ⟨z0, z1, z2, z3, z4⟩ := Bx.cells5 K_1.out
        obtain ⟨u0, u1, u2, u3, u4⟩ := Bx.cells5 Y_1.out
        go_wp2_with fail
        clear z0 z1 z2 z3 z4 u0 u1 u2 u3 u4
        refine (HN.out _ E_1.out).mono ?_
        rintro e y2 ⟨rfl, hb⟩
        have B_2 := Lib.hid (B_1.out.trans (Below.mono hb B_1.out.size))
        have E_2 := Lib.hid (Evs.below E_1.out hb)
        have C_2 := Lib.hid (Ints.below C_1.out hb)
        have K_2 := Lib.hid (Bx.below K_1.out hb)
        have Y_2 := Lib.hid (Bx.below Y_1.out hb)
        clear hb B_1 E_1 C_1 K_1 Y_1
        obtain ⟨z0, z1, z2, z3, z4⟩ := Bx.cells5 K_2.out
        obtain ⟨u0, u1, u2, u3, u4⟩ := Bx.cells5 Y_2.out
        go_wp2_with fail
        go_ret
        exact ⟨ret_bool (by rw [HZ3.out, dec_beq]), B_2.out⟩
      · obtain ⟨k5f1, k5f2⟩ := ne_facts k5
        by_cases k3 : x1 = 3
        · obtain ⟨k3t1, k3t2⟩ := eq_facts k3
          have HZ3 := Lib.hid (HZ2.out.trans ((if_neg k5).trans (if_pos k3)))
          obtain ⟨q, rfl⟩ : ∃ q : Nat, x2 = (q : Int) := ⟨x2.toNat, by have := (hcap k3).1; omega⟩
          have hq : q < cn := by have := (hcap k3).2.1; omega
          have hqn : (q : Int) < (cn : Int) := by omega
          have hqa : capAt caps (q : Int) = en caps q := by unfold capAt; rw [Int.toNat_natCast]
          have hcb := (hcap k3).2.2
          rw [hqa] at HZ3 hcb
          obtain ⟨cb, co, rfl, hcc⟩ := (C_1.out).cell q hq
          obtain ⟨cp, hcpe⟩ : ∃ z, z = en caps q := ⟨_, rfl⟩
          rw [← hcpe] at hcc HZ3 hcb
          clear hcpe hqa hcap
          have Q_0 := Lib.hid (show Cl _ _ _ from hcc)
          clear hcc
          have hsub : IntKind.i64.wrap (x3 - cp) = x3 - cp := by rw [IntKind.wrap_i64]; omega
          have HN := Lib.hid (fun W (h : Evs W (some ⟨b, off, none⟩) n c L) => number_any _ n c L 5 (q : Int) (x3 - cp) W h)
          obtain ⟨nu, hnu⟩ : ∃ z, z = numberZ L 5 (q : Int) (x3 - cp) := ⟨_, rfl⟩
          rw [← hnu] at HZ3 HN
          clear hnu
          unfold IntTo at HN
          subst k3
          obtain ⟨z0, z1, z2, z3, z4⟩ := Bx.cells5 K_1.out
          obtain ⟨u0, u1, u2, u3, u4⟩ := Bx.cells5 Y_1.out
          go_upto_region 8 with (fail)
          clear z0 z1 z2 z3 z4 u0 u1 u2 u3 u4
          by_cases pc : cp ≤ x3
          · skip
            have hfx : decide (cp ≤ x3) = true := by simp only [decide_eq_true_eq, decide_eq_false_iff_not]; omega
            have hb : Below y1.heap.size y1 y1.drew := (Below.refl _ _).drew
            have B_2 := Lib.hid (B_1.out.trans (Below.mono hb B_1.out.size))
            have E_2 := Lib.hid (Evs.below E_1.out hb)
            have C_2 := Lib.hid (Ints.below C_1.out hb)
            have K_2 := Lib.hid (Bx.below K_1.out hb)
            have Y_2 := Lib.hid (Bx.below Y_1.out hb)
            have Q_2 := Lib.hid (Cl.below Q_0.out hb)
            clear hb B_1 E_1 C_1 K_1 Y_1 Q_0
            refine wp_region_held_drew (S := (fun V => V.cell? ⟨e0, 0, none⟩ = some (.int .i64 x0) ∧ V.cell? ⟨e0, 1, none⟩ = some (.int .i64 3) ∧ V.cell? ⟨e0, 2, none⟩ = some (.int .i64 (q : Int)) ∧ V.cell? ⟨e0, 3, none⟩ = some (.int .i64 x3) ∧ V.cell? ⟨e0, 4, none⟩ = some (.int .i64 x4) ∧ V.cell? ⟨cb, co + q, none⟩ = some (.int .i64 cp))) (by kernel_rfl) ⟨Bx.cell K_2.out 0 rfl, Bx.cell K_2.out 1 rfl, Bx.cell K_2.out 2 rfl, Bx.cell K_2.out 3 rfl, Bx.cell K_2.out 4 rfl, Q_2.out⟩ (fun hHeld => ?_)
            (try simp only [Act.put, List.getElem_toArray, List.getElem_cons_zero, List.getElem_cons_succ, List.setIfInBounds_toArray, List.set_cons_zero, List.set_cons_succ])
            refine takes [0, 1, 2, 3, 4, 5, 6, 7, 8, 9, 10, 11, 12, 13, 14, 15, 16, 17, 18, 19, 20] (by kernel_rfl) (fun _ _ _ _ _ h => h) (by assumption) ?_
            iterate 21 (refine ally_cons (v := ?_) rfl (Or.inl ⟨?_, fun w hSw => ?_⟩) ?_; rotate_left; rfl; ((try dsimp only at hSw); go_simp; try with_reducible rfl); (try simp only [Act.put, List.getElem_toArray, List.getElem_cons_zero, List.getElem_cons_succ, List.setIfInBounds_toArray, List.set_cons_zero, List.set_cons_succ, hfx, hsub]))
            refine ally_nil ?_
            refine wpAnyH_ready (rs := [21]) (by kernel_rfl) (by simp) ?_
            refine AllReadyH.cons (o := _) rfl (fun K hK => ?_) AllReadyH.nil
            go_simp
            refine (HN.out _ E_2.out).mono ?_
            rintro e y2 ⟨rfl, hb⟩
            have B_3 := Lib.hid (B_2.out.trans (Below.mono hb B_2.out.size))
            have E_3 := Lib.hid (Evs.below E_2.out hb)
            have C_3 := Lib.hid (Ints.below C_2.out hb)
            have K_3 := Lib.hid (Bx.below K_2.out hb)
            have Y_3 := Lib.hid (Bx.below Y_2.out hb)
            have Q_3 := Lib.hid (Cl.below Q_2.out hb)
            clear hb B_2 E_2 C_2 K_2 Y_2 Q_2
            clear hHeld
            refine hK.out _ _ ⟨Bx.cell K_3.out 0 rfl, Bx.cell K_3.out 1 rfl, Bx.cell K_3.out 2 rfl, Bx.cell K_3.out 3 rfl, Bx.cell K_3.out 4 rfl, Q_3.out⟩ (fun hHeld => ?_)
            clear hK K
            (try simp only [Act.put, List.getElem_toArray, List.getElem_cons_zero, List.getElem_cons_succ, List.setIfInBounds_toArray, List.set_cons_zero, List.set_cons_succ])
            refine takes [22, 23, 24] (by kernel_rfl) (fun _ _ _ _ _ h => h) (by assumption) ?_
            iterate 3 (refine ally_cons (v := ?_) rfl (Or.inl ⟨?_, fun w hSw => ?_⟩) ?_; rotate_left; rfl; ((try dsimp only at hSw); go_simp; try with_reducible rfl); (try simp only [Act.put, List.getElem_toArray, List.getElem_cons_zero, List.getElem_cons_succ, List.setIfInBounds_toArray, List.set_cons_zero, List.set_cons_succ, hfx, hsub]))
            refine ally_nil ?_
            refine wpAnyH_done (by kernel_rfl) ?_ _
            clear hHeld
            go_wp2_with fail
            go_ret
            exact ⟨ret_bool (by rw [HZ3.out]; simp [pc]; rw [dec_beq]), B_3.out⟩
          · skip
            have hfx : decide (cp ≤ x3) = false := by simp only [decide_eq_true_eq, decide_eq_false_iff_not]; omega
            have hb : Below y1.heap.size y1 y1.drew := (Below.refl _ _).drew
            have B_2 := Lib.hid (B_1.out.trans (Below.mono hb B_1.out.size))
            have E_2 := Lib.hid (Evs.below E_1.out hb)
            have C_2 := Lib.hid (Ints.below C_1.out hb)
            have K_2 := Lib.hid (Bx.below K_1.out hb)
            have Y_2 := Lib.hid (Bx.below Y_1.out hb)
            have Q_2 := Lib.hid (Cl.below Q_0.out hb)
            clear hb B_1 E_1 C_1 K_1 Y_1 Q_0
            refine wp_region_held_drew (S := (fun V => V.cell? ⟨e0, 0, none⟩ = some (.int .i64 x0) ∧ V.cell? ⟨e0, 1, none⟩ = some (.int .i64 3) ∧ V.cell? ⟨e0, 2, none⟩ = some (.int .i64 (q : Int)) ∧ V.cell? ⟨e0, 3, none⟩ = some (.int .i64 x3) ∧ V.cell? ⟨e0, 4, none⟩ = some (.int .i64 x4) ∧ V.cell? ⟨cb, co + q, none⟩ = some (.int .i64 cp))) (by kernel_rfl) ⟨Bx.cell K_2.out 0 rfl, Bx.cell K_2.out 1 rfl, Bx.cell K_2.out 2 rfl, Bx.cell K_2.out 3 rfl, Bx.cell K_2.out 4 rfl, Q_2.out⟩ (fun hHeld => ?_)
            (try simp only [Act.put, List.getElem_toArray, List.getElem_cons_zero, List.getElem_cons_succ, List.setIfInBounds_toArray, List.set_cons_zero, List.set_cons_succ])
            refine takes [0, 1, 2, 3, 4, 5, 6, 7, 8, 9, 10, 11, 12, 13, 14, 15, 16, 17, 18, 19, 20, 21, 22, 23, 24] (by kernel_rfl) (fun _ _ _ _ _ h => h) (by assumption) ?_
            iterate 25 (first | (refine ally_cons (v := ?_) rfl (Or.inl ⟨?_, fun w hSw => ?_⟩) ?_; rotate_left; rfl; ((try dsimp only at hSw); go_simp; try with_reducible rfl); (try simp only [Act.put, List.getElem_toArray, List.getElem_cons_zero, List.getElem_cons_succ, List.setIfInBounds_toArray, List.set_cons_zero, List.set_cons_succ, hfx, hsub])) | (refine ally_cons (v := undef) rfl (Or.inr ⟨?_, rfl⟩) ?_; kernel_rfl; (try simp only [Act.put, List.getElem_toArray, List.getElem_cons_zero, List.getElem_cons_succ, List.setIfInBounds_toArray, List.set_cons_zero, List.set_cons_succ, hfx, hsub])))
            refine ally_nil ?_
            refine wpAnyH_done (by kernel_rfl) ?_ _
            clear hHeld
            go_wp2_with fail
            go_ret
            exact ⟨ret_bool (by rw [HZ3.out, decide_eq_false (fun h => by have := h.1; omega)]), B_2.out⟩
        · obtain ⟨k3f1, k3f2⟩ := ne_facts k3
          by_cases k6 : x1 = 6
          · obtain ⟨k6t1, k6t2⟩ := eq_facts k6
            have HZ3 := Lib.hid (HZ2.out.trans ((if_neg k5).trans ((if_neg k3).trans (if_pos k6))))
            subst k6
            by_cases q1 : ¬ m1 = 7
            · obtain ⟨q1f1, q1f2⟩ := ne_facts q1
              obtain ⟨z0, z1, z2, z3, z4⟩ := Bx.cells5 K_1.out
              obtain ⟨u0, u1, u2, u3, u4⟩ := Bx.cells5 Y_1.out
              go_wp2_with fail
              go_ret
              exact ⟨ret_bool (by rw [HZ3.out]; simp [q1]), B_1.out⟩
            · have q1 := Classical.not_not.1 q1
              obtain ⟨q1t1, q1t2⟩ := eq_facts q1
              by_cases q2 : ¬ m2 = x2
              · obtain ⟨q2f1, q2f2⟩ := ne_facts q2
                subst q1
                obtain ⟨z0, z1, z2, z3, z4⟩ := Bx.cells5 K_1.out
                obtain ⟨u0, u1, u2, u3, u4⟩ := Bx.cells5 Y_1.out
                go_wp2_with fail
                go_ret
                exact ⟨ret_bool (by rw [HZ3.out]; simp [q2]), B_1.out⟩
              · have q2 := Classical.not_not.1 q2
                obtain ⟨q2t1, q2t2⟩ := eq_facts q2
                subst q1; subst q2
                obtain ⟨z0, z1, z2, z3, z4⟩ := Bx.cells5 K_1.out
                obtain ⟨u0, u1, u2, u3, u4⟩ := Bx.cells5 Y_1.out
                go_wp2_with fail
                go_ret
                exact ⟨ret_bool (by rw [HZ3.out]; simp), B_1.out⟩
          · obtain ⟨k6f1, k6f2⟩ := ne_facts k6
            by_cases k11 : x1 = 11
            · obtain ⟨k11t1, k11t2⟩ := eq_facts k11
              have HZ3 := Lib.hid (HZ2.out.trans ((if_neg k5).trans ((if_neg k3).trans ((if_neg k6).trans (if_pos k11)))))
              subst k11
              by_cases q1 : ¬ m1 = 12
              · obtain ⟨q1f1, q1f2⟩ := ne_facts q1
                obtain ⟨z0, z1, z2, z3, z4⟩ := Bx.cells5 K_1.out
                obtain ⟨u0, u1, u2, u3, u4⟩ := Bx.cells5 Y_1.out
                go_wp2_with fail
                go_ret
                exact ⟨ret_bool (by rw [HZ3.out]; simp [q1]), B_1.out⟩
              · have q1 := Classical.not_not.1 q1
                obtain ⟨q1t1, q1t2⟩ := eq_facts q1
                by_cases q2 : ¬ m2 = x2
                · obtain ⟨q2f1, q2f2⟩ := ne_facts q2
                  subst q1
                  obtain ⟨z0, z1, z2, z3, z4⟩ := Bx.cells5 K_1.out
                  obtain ⟨u0, u1, u2, u3, u4⟩ := Bx.cells5 Y_1.out
                  go_wp2_with fail
                  go_ret
                  exact ⟨ret_bool (by rw [HZ3.out]; simp [q2]), B_1.out⟩
                · have q2 := Classical.not_not.1 q2
                  obtain ⟨q2t1, q2t2⟩ := eq_facts q2
                  subst q1; subst q2
                  obtain ⟨z0, z1, z2, z3, z4⟩ := Bx.cells5 K_1.out
                  obtain ⟨u0, u1, u2, u3, u4⟩ := Bx.cells5 Y_1.out
                  go_wp2_with fail
                  go_ret
                  exact ⟨ret_bool (by rw [HZ3.out]; simp), B_1.out⟩
            · obtain ⟨k11f1, k11f2⟩ := ne_facts k11
              by_cases k15 : x1 = 15
              · obtain ⟨k15t1, k15t2⟩ := eq_facts k15
                have HZ3 := Lib.hid (HZ2.out.trans ((if_neg k5).trans ((if_neg k3).trans ((if_neg k6).trans (if_neg k11)))))
                subst k15
                by_cases q1 : ¬ m1 = 14
                · obtain ⟨q1f1, q1f2⟩ := ne_facts q1
                  obtain ⟨z0, z1, z2, z3, z4⟩ := Bx.cells5 K_1.out
                  obtain ⟨u0, u1, u2, u3, u4⟩ := Bx.cells5 Y_1.out
                  go_wp2_with fail
                  go_ret
                  exact ⟨ret_bool (by rw [HZ3.out]; simp [q1]), B_1.out⟩
                · have q1 := Classical.not_not.1 q1
                  obtain ⟨q1t1, q1t2⟩ := eq_facts q1
                  by_cases q2 : ¬ m2 = x2
                  · obtain ⟨q2f1, q2f2⟩ := ne_facts q2
                    subst q1
                    obtain ⟨z0, z1, z2, z3, z4⟩ := Bx.cells5 K_1.out
                    obtain ⟨u0, u1, u2, u3, u4⟩ := Bx.cells5 Y_1.out
                    go_wp2_with fail
                    go_ret
                    exact ⟨ret_bool (by rw [HZ3.out]; simp [q2]), B_1.out⟩
                  · have q2 := Classical.not_not.1 q2
                    obtain ⟨q2t1, q2t2⟩ := eq_facts q2
                    subst q1; subst q2
                    obtain ⟨z0, z1, z2, z3, z4⟩ := Bx.cells5 K_1.out
                    obtain ⟨u0, u1, u2, u3, u4⟩ := Bx.cells5 Y_1.out
                    go_wp2_with fail
                    go_ret
                    exact ⟨ret_bool (by rw [HZ3.out]; simp), B_1.out⟩
              · obtain ⟨k15f1, k15f2⟩ := ne_facts k15
                have HZ3 := Lib.hid (HZ2.out.trans ((if_neg k5).trans ((if_neg k3).trans ((if_neg k6).trans ((if_neg k11).trans (decide_eq_false (fun h => k15 h.1)))))))
                obtain ⟨z0, z1, z2, z3, z4⟩ := Bx.cells5 K_1.out
                obtain ⟨u0, u1, u2, u3, u4⟩ := Bx.cells5 Y_1.out
                go_wp2_with fail
                go_ret
                exact ⟨ret_bool HZ3.out.symm, B_1.out⟩
end Go.Proofs.Ytjkbmenmpnidhaa
