/- what is asked of an event: the program. -/
import Derived.Test.YtjkbmenmpnidhaaJ4
namespace Go.Proofs.Ytjkbmenmpnidhaa
open Go.RowKit
set_option linter.unusedSimpArgs false
set_option linter.unusedVariables false
set_option maxRecDepth 100000 in
set_option maxHeartbeats 8000000 in
theorem end_any (J : Nat) (p : JPlace) (caps : List Int) (L : List Ev) (k : Nat) (x : Ev) (w : World) (h : Jd w J p caps L k) (hok : EvOk x) : Calls Try.prog 73 #[.pointer (some ⟨J, 0, none⟩), evV x] w (BoolTo w (bareB x && inB x 2 && decide (¬ 0 < cntZ L 14 x.obj k) && decide (0 < cntZ L 13 x.obj k) && decide ((doerZ L x.obj k).getD 0 = x.g))) := by
  have J_0 := Lib.hid (h.below (below_alloc w (.cells (evC x) 48)))
  have B_0 := Lib.hid (below_alloc w (.cells (evC x) 48))
  have K_0 := Lib.hid (Bx.new w (evC x) 48)
  clear h
  have hok' := hok
  have HB := Lib.hid (fun W => bare_any x W)
  unfold BoolTo evV evC at HB
  obtain ⟨bb, hbb⟩ : ∃ z, z = bareB x := ⟨_, rfl⟩
  rw [show decide (x.start = -1 ∧ x.no = 0) = bb from hbb.symm] at HB
  have HI := Lib.hid (fun W => below_any x.obj 2 W)
  obtain ⟨ib, hib⟩ : ∃ z, z = inB x 2 := ⟨_, rfl⟩
  rw [show decide (0 ≤ x.obj ∧ x.obj < 2) = ib from hib.symm] at HI
  have HIN := Lib.hid (show ib = true → 0 ≤ x.obj ∧ x.obj < 2 from fun e => of_decide_eq_true (hib.symm.trans e))
  have HC14 := Lib.hid (fun W (h : Jd W J p caps L k) => counted_any J p caps L k 14 x.obj W h ⟨by decide, by decide⟩ hok.2.2.1)
  have hcb14 := cntZ_le L 14 x.obj k
  obtain ⟨c14, hc14⟩ : ∃ z, z = cntZ L 14 x.obj k := ⟨_, rfl⟩
  rw [← hc14] at HC14 hcb14
  obtain ⟨hcl14, hcu14⟩ := hcb14
  have HC13 := Lib.hid (fun W (h : Jd W J p caps L k) => counted_any J p caps L k 13 x.obj W h ⟨by decide, by decide⟩ hok.2.2.1)
  have hcb13 := cntZ_le L 13 x.obj k
  obtain ⟨c13, hc13⟩ : ∃ z, z = cntZ L 13 x.obj k := ⟨_, rfl⟩
  rw [← hc13] at HC13 hcb13
  obtain ⟨hcl13, hcu13⟩ := hcb13
  rw [← hbb, ← hib, ← hc14, ← hc13]
  clear hbb hib hc14 hc13 hok'
  unfold evC at B_0 K_0 J_0
  unfold evV evC
  obtain ⟨x0, x1, x2, x3, x4⟩ := x
  unfold EvOk I64 at hok
  dsimp only at B_0 K_0 J_0 hok HB HI HIN HC14 HC13
  dsimp only
  obtain ⟨hok0, hok1, hok2, hok3, hok4⟩ := hok
  obtain ⟨e0, he0⟩ : ∃ z, z = w.heap.size := ⟨_, rfl⟩
  obtain ⟨v0, hv0⟩ : ∃ z, z = w.alloc (.cells #[.int .i64 x0, .int .i64 x1, .int .i64 x2, .int .i64 x3, .int .i64 x4] 48) := ⟨_, rfl⟩
  rw [← hv0] at B_0 K_0 J_0
  rw [← he0] at K_0
  have HE0 := Lib.hid he0; have HV0 := Lib.hid hv0
  clear he0 hv0
  go_enter Try.func73, Try.ntmps73
  go_upto_region 1 with (fail)
  rw [← HV0.out, ← HE0.out]
  obtain ⟨z0, z1, z2, z3, z4⟩ := Bx.cells5 K_0.out
  go_wp2_with fail
  clear z0 z1 z2 z3 z4
  refine (HB.out _).mono ?_
  rintro e y1 ⟨rfl, hb⟩
  have B_1 := Lib.hid (B_0.out.trans (Below.mono hb B_0.out.size))
  have J_1 := Lib.hid (Jd.below J_0.out hb)
  have K_1 := Lib.hid (Bx.below K_0.out hb)
  clear hb B_0 J_0 K_0
  cases bb with
  | false =>
    obtain ⟨z0, z1, z2, z3, z4⟩ := Bx.cells5 K_1.out
    go_wp2_with fail
    go_ret
    exact ⟨ret_bool (rfl), B_1.out⟩
  | true =>
    obtain ⟨z0, z1, z2, z3, z4⟩ := Bx.cells5 K_1.out
    go_wp2_with fail
    refine (HI.out _).mono ?_
    rintro e q1 ⟨rfl, rfl⟩
    cases ib with
    | false =>
      go_wp2_with fail
      go_ret
      exact ⟨ret_bool (rfl), B_1.out⟩
    | true =>
      go_wp2_with fail
      refine (HC14.out _ J_1.out).mono ?_
      rintro e q2 ⟨rfl, rfl⟩
      by_cases z4 : 0 < c14
      · skip
        have HD := Lib.hid z4
        go_wp2_with fail
        go_ret
        exact ⟨ret_bool (by have d := HD.out; simp [show ¬ c14 ≤ 0 from by omega]), B_1.out⟩
      · skip
        have HD4 := Lib.hid z4
        go_wp2_with fail
        clear z0 z1 z2 z3 z4
        clear z4
        obtain ⟨q, hq⟩ : ∃ q : Nat, x2 = (q : Int) := ⟨x2.toNat, by have := HIN.out trivial; omega⟩
        have hqn : q < 2 := by have := HIN.out trivial; omega
        subst hq
        have hqn' : (q : Int) < 2 := by omega
        have hq0 : (0 : Int) ≤ (q : Int) := by omega
        obtain ⟨dz, hdz⟩ : ∃ z, z = (doerZ L (q : Int) k).getD 0 := ⟨_, rfl⟩
        have HDZ := Lib.hid hdz
        clear hdz
        have DC : ∀ {W : World}, Jd W J p caps L k → W.cell? ⟨J, 11 + q, none⟩ = some (.int .i64 dz) := fun {W} h => by rw [HDZ.out]; exact h.doerCell q hqn
        by_cases z13 : ¬ 0 < c13
        · skip
          have hfx0 : decide (0 < c13) = false := decide_eq_false (by omega)
          have HD := Lib.hid (show ¬ 0 < c13 from by omega)
          clear z13
          have hb : Below y1.heap.size y1 y1.drew := (Below.refl _ _).drew
          have B_2 := Lib.hid (B_1.out.trans (Below.mono hb B_1.out.size))
          have J_2 := Lib.hid (Jd.below J_1.out hb)
          have K_2 := Lib.hid (Bx.below K_1.out hb)
          clear hb B_1 J_1 K_1
          refine wp_region_held_drew (S := (fun V => V.cell? ⟨e0, 0, none⟩ = some (.int .i64 x0) ∧ V.cell? ⟨e0, 1, none⟩ = some (.int .i64 x1) ∧ V.cell? ⟨e0, 2, none⟩ = some (.int .i64 (q : Int)) ∧ V.cell? ⟨e0, 3, none⟩ = some (.int .i64 x3) ∧ V.cell? ⟨e0, 4, none⟩ = some (.int .i64 x4) ∧ V.cell? ⟨J, 11 + q, none⟩ = some (.int .i64 dz))) (by kernel_rfl) ⟨Bx.cell K_2.out 0 rfl, Bx.cell K_2.out 1 rfl, Bx.cell K_2.out 2 rfl, Bx.cell K_2.out 3 rfl, Bx.cell K_2.out 4 rfl, (DC J_2.out)⟩ (fun hHeld => ?_)
          (try simp only [Act.put, List.getElem_toArray, List.getElem_cons_zero, List.getElem_cons_succ, List.setIfInBounds_toArray, List.set_cons_zero, List.set_cons_succ])
          refine takes [0, 1, 2] (by kernel_rfl) (fun _ _ _ _ _ h => h) (by assumption) ?_
          iterate 3 (refine ally_cons (v := ?_) rfl (Or.inl ⟨?_, fun w hSw => ?_⟩) ?_; rotate_left; rfl; ((try dsimp only at hSw); go_simp; try with_reducible rfl); (try simp only [Act.put, List.getElem_toArray, List.getElem_cons_zero, List.getElem_cons_succ, List.setIfInBounds_toArray, List.set_cons_zero, List.set_cons_succ]))
          refine ally_nil ?_
          refine wpAnyH_ready (rs := [3]) (by kernel_rfl) (by simp) ?_
          refine AllReadyH.cons (o := _) rfl (fun K hK => ?_) AllReadyH.nil
          go_simp
          refine (HC13.out _ J_2.out).mono ?_
          rintro e y2 ⟨rfl, rfl⟩
          clear hHeld
          refine hK.out _ _ ⟨Bx.cell K_2.out 0 rfl, Bx.cell K_2.out 1 rfl, Bx.cell K_2.out 2 rfl, Bx.cell K_2.out 3 rfl, Bx.cell K_2.out 4 rfl, (DC J_2.out)⟩ (fun hHeld => ?_)
          clear hK K
          (try simp only [Act.put, List.getElem_toArray, List.getElem_cons_zero, List.getElem_cons_succ, List.setIfInBounds_toArray, List.set_cons_zero, List.set_cons_succ])
          refine takes [4, 5, 6, 7, 8, 9, 10, 11, 12, 13, 14, 15, 16, 17] (by kernel_rfl) (fun _ _ _ _ _ h => h) (by assumption) ?_
          iterate 14 (first | (refine ally_cons (v := ?_) rfl (Or.inl ⟨?_, fun w hSw => ?_⟩) ?_; rotate_left; rfl; ((try dsimp only at hSw); go_simp; try with_reducible rfl); (try simp only [Act.put, List.getElem_toArray, List.getElem_cons_zero, List.getElem_cons_succ, List.setIfInBounds_toArray, List.set_cons_zero, List.set_cons_succ, hfx0])) | (refine ally_cons (v := undef) rfl (Or.inr ⟨?_, rfl⟩) ?_; kernel_rfl; (try simp only [Act.put, List.getElem_toArray, List.getElem_cons_zero, List.getElem_cons_succ, List.setIfInBounds_toArray, List.set_cons_zero, List.set_cons_succ, hfx0])))
          refine ally_nil ?_
          refine wpAnyH_done (by kernel_rfl) ?_ _
          clear hHeld
          go_wp2_with fail
          go_ret
          exact ⟨ret_bool (by have d := HD.out; simp [d]), B_2.out⟩
        · skip
          have hfx0 : decide (0 < c13) = true := decide_eq_true (by omega)
          have HD := Lib.hid (show 0 < c13 from by omega)
          clear z13
          by_cases gd : dz = x0
          · obtain ⟨gdt1, gdt2⟩ := eq_facts gd
            have HG := Lib.hid gd
            clear gd
            have hb : Below y1.heap.size y1 y1.drew := (Below.refl _ _).drew
            have B_2 := Lib.hid (B_1.out.trans (Below.mono hb B_1.out.size))
            have J_2 := Lib.hid (Jd.below J_1.out hb)
            have K_2 := Lib.hid (Bx.below K_1.out hb)
            clear hb B_1 J_1 K_1
            refine wp_region_held_drew (S := (fun V => V.cell? ⟨e0, 0, none⟩ = some (.int .i64 x0) ∧ V.cell? ⟨e0, 1, none⟩ = some (.int .i64 x1) ∧ V.cell? ⟨e0, 2, none⟩ = some (.int .i64 (q : Int)) ∧ V.cell? ⟨e0, 3, none⟩ = some (.int .i64 x3) ∧ V.cell? ⟨e0, 4, none⟩ = some (.int .i64 x4) ∧ V.cell? ⟨J, 11 + q, none⟩ = some (.int .i64 dz))) (by kernel_rfl) ⟨Bx.cell K_2.out 0 rfl, Bx.cell K_2.out 1 rfl, Bx.cell K_2.out 2 rfl, Bx.cell K_2.out 3 rfl, Bx.cell K_2.out 4 rfl, (DC J_2.out)⟩ (fun hHeld => ?_)
            (try simp only [Act.put, List.getElem_toArray, List.getElem_cons_zero, List.getElem_cons_succ, List.setIfInBounds_toArray, List.set_cons_zero, List.set_cons_succ])
            refine takes [0, 1, 2] (by kernel_rfl) (fun _ _ _ _ _ h => h) (by assumption) ?_
            iterate 3 (refine ally_cons (v := ?_) rfl (Or.inl ⟨?_, fun w hSw => ?_⟩) ?_; rotate_left; rfl; ((try dsimp only at hSw); go_simp; try with_reducible rfl); (try simp only [Act.put, List.getElem_toArray, List.getElem_cons_zero, List.getElem_cons_succ, List.setIfInBounds_toArray, List.set_cons_zero, List.set_cons_succ]))
            refine ally_nil ?_
            refine wpAnyH_ready (rs := [3]) (by kernel_rfl) (by simp) ?_
            refine AllReadyH.cons (o := _) rfl (fun K hK => ?_) AllReadyH.nil
            go_simp
            refine (HC13.out _ J_2.out).mono ?_
            rintro e y2 ⟨rfl, rfl⟩
            clear hHeld
            refine hK.out _ _ ⟨Bx.cell K_2.out 0 rfl, Bx.cell K_2.out 1 rfl, Bx.cell K_2.out 2 rfl, Bx.cell K_2.out 3 rfl, Bx.cell K_2.out 4 rfl, (DC J_2.out)⟩ (fun hHeld => ?_)
            clear hK K
            (try simp only [Act.put, List.getElem_toArray, List.getElem_cons_zero, List.getElem_cons_succ, List.setIfInBounds_toArray, List.set_cons_zero, List.set_cons_succ])
            refine takes [4, 5, 6, 7, 8, 9, 10, 11, 12, 13, 14, 15, 16, 17] (by kernel_rfl) (fun _ _ _ _ _ h => h) (by assumption) ?_
            iterate 14 (refine ally_cons (v := ?_) rfl (Or.inl ⟨?_, fun w hSw => ?_⟩) ?_; rotate_left; rfl; ((try dsimp only at hSw); go_simp; try with_reducible rfl); (try simp only [Act.put, List.getElem_toArray, List.getElem_cons_zero, List.getElem_cons_succ, List.setIfInBounds_toArray, List.set_cons_zero, List.set_cons_succ, hfx0]))
            refine ally_nil ?_
            refine wpAnyH_done (by kernel_rfl) ?_ _
            clear hHeld
            (try simp only [gdt1, gdf1])
            go_wp2_with fail
            go_ret
            exact ⟨ret_bool (by have d := HD.out; have d4 := HD4.out; have dg := HG.out; have dd := HDZ.out; simp [d, ← dd, dg]; try omega), B_2.out⟩
          · obtain ⟨gdf1, gdf2⟩ := ne_facts gd
            have HG := Lib.hid gd
            clear gd
            have hb : Below y1.heap.size y1 y1.drew := (Below.refl _ _).drew
            have B_2 := Lib.hid (B_1.out.trans (Below.mono hb B_1.out.size))
            have J_2 := Lib.hid (Jd.below J_1.out hb)
            have K_2 := Lib.hid (Bx.below K_1.out hb)
            clear hb B_1 J_1 K_1
            refine wp_region_held_drew (S := (fun V => V.cell? ⟨e0, 0, none⟩ = some (.int .i64 x0) ∧ V.cell? ⟨e0, 1, none⟩ = some (.int .i64 x1) ∧ V.cell? ⟨e0, 2, none⟩ = some (.int .i64 (q : Int)) ∧ V.cell? ⟨e0, 3, none⟩ = some (.int .i64 x3) ∧ V.cell? ⟨e0, 4, none⟩ = some (.int .i64 x4) ∧ V.cell? ⟨J, 11 + q, none⟩ = some (.int .i64 dz))) (by kernel_rfl) ⟨Bx.cell K_2.out 0 rfl, Bx.cell K_2.out 1 rfl, Bx.cell K_2.out 2 rfl, Bx.cell K_2.out 3 rfl, Bx.cell K_2.out 4 rfl, (DC J_2.out)⟩ (fun hHeld => ?_)
            (try simp only [Act.put, List.getElem_toArray, List.getElem_cons_zero, List.getElem_cons_succ, List.setIfInBounds_toArray, List.set_cons_zero, List.set_cons_succ])
            refine takes [0, 1, 2] (by kernel_rfl) (fun _ _ _ _ _ h => h) (by assumption) ?_
            iterate 3 (refine ally_cons (v := ?_) rfl (Or.inl ⟨?_, fun w hSw => ?_⟩) ?_; rotate_left; rfl; ((try dsimp only at hSw); go_simp; try with_reducible rfl); (try simp only [Act.put, List.getElem_toArray, List.getElem_cons_zero, List.getElem_cons_succ, List.setIfInBounds_toArray, List.set_cons_zero, List.set_cons_succ]))
            refine ally_nil ?_
            refine wpAnyH_ready (rs := [3]) (by kernel_rfl) (by simp) ?_
            refine AllReadyH.cons (o := _) rfl (fun K hK => ?_) AllReadyH.nil
            go_simp
            refine (HC13.out _ J_2.out).mono ?_
            rintro e y2 ⟨rfl, rfl⟩
            clear hHeld
            refine hK.out _ _ ⟨Bx.cell K_2.out 0 rfl, Bx.cell K_2.out 1 rfl, Bx.cell K_2.out 2 rfl, Bx.cell K_2.out 3 rfl, Bx.cell K_2.out 4 rfl, (DC J_2.out)⟩ (fun hHeld => ?_)
            clear hK K
            (try simp only [Act.put, List.getElem_toArray, List.getElem_cons_zero, List.getElem_cons_succ, List.setIfInBounds_toArray, List.set_cons_zero, List.set_cons_succ])
            refine takes [4, 5, 6, 7, 8, 9, 10, 11, 12, 13, 14, 15, 16, 17] (by kernel_rfl) (fun _ _ _ _ _ h => h) (by assumption) ?_
            iterate 14 (refine ally_cons (v := ?_) rfl (Or.inl ⟨?_, fun w hSw => ?_⟩) ?_; rotate_left; rfl; ((try dsimp only at hSw); go_simp; try with_reducible rfl); (try simp only [Act.put, List.getElem_toArray, List.getElem_cons_zero, List.getElem_cons_succ, List.setIfInBounds_toArray, List.set_cons_zero, List.set_cons_succ, hfx0]))
            refine ally_nil ?_
            refine wpAnyH_done (by kernel_rfl) ?_ _
            clear hHeld
            (try simp only [gdt1, gdf1])
            go_wp2_with fail
            go_ret
            exact ⟨ret_bool (by have d := HD.out; have d4 := HD4.out; have dg := HG.out; have dd := HDZ.out; simp [d, ← dd, dg]; try omega), B_2.out⟩
end Go.Proofs.Ytjkbmenmpnidhaa
