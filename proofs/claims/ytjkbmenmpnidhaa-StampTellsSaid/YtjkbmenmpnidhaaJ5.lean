/- what is asked of an event: the program. -/
import Derived.Test.YtjkbmenmpnidhaaJ4
namespace Go.Proofs.Ytjkbmenmpnidhaa
open Go.RowKit
set_option linter.unusedSimpArgs false
set_option linter.unusedVariables false
set_option maxRecDepth 100000 in
set_option maxHeartbeats 8000000 in
theorem come_any (J : Nat) (p : JPlace) (caps : List Int) (L : List Ev) (k : Nat) (x : Ev) (w : World) (h : Jd w J p caps L k) (hok : EvOk x) : Calls Try.prog 59 #[.pointer (some ⟨J, 0, none⟩), evV x] w (BoolTo w (bareB x && inB x (caps.length : Int))) := by
  have J_0 := Lib.hid (h.below (below_alloc w (.cells (evC x) 48)))
  have B_0 := Lib.hid (below_alloc w (.cells (evC x) 48))
  have K_0 := Lib.hid (Bx.new w (evC x) 48)
  clear h
  have hok' := hok
  have HB := Lib.hid (fun W => bare_any x W)
  unfold BoolTo evV evC at HB
  obtain ⟨bb, hbb⟩ : ∃ z, z = bareB x := ⟨_, rfl⟩
  rw [show decide (x.start = -1 ∧ x.no = 0) = bb from hbb.symm] at HB
  have HI := Lib.hid (fun W => below_any x.obj (p.cn : Int) W)
  have hcn := J_0.out.caps.len_eq
  obtain ⟨ib, hib⟩ : ∃ z, z = inB x (caps.length : Int) := ⟨_, rfl⟩
  rw [hcn] at hib
  rw [show decide (0 ≤ x.obj ∧ x.obj < (p.cn : Int)) = ib from hib.symm] at HI
  rw [hcn]
  rw [← hbb, ← hib]
  clear hbb hib hok'
  unfold evC at B_0 K_0 J_0
  unfold evV evC
  obtain ⟨x0, x1, x2, x3, x4⟩ := x
  unfold EvOk I64 at hok
  dsimp only at B_0 K_0 J_0 hok HB HI
  dsimp only
  obtain ⟨hok0, hok1, hok2, hok3, hok4⟩ := hok
  obtain ⟨e0, he0⟩ : ∃ z, z = w.heap.size := ⟨_, rfl⟩
  obtain ⟨v0, hv0⟩ : ∃ z, z = w.alloc (.cells #[.int .i64 x0, .int .i64 x1, .int .i64 x2, .int .i64 x3, .int .i64 x4] 48) := ⟨_, rfl⟩
  rw [← hv0] at B_0 K_0 J_0
  rw [← he0] at K_0
  have HE0 := Lib.hid he0; have HV0 := Lib.hid hv0
  clear he0 hv0
  go_enter Try.func59, Try.ntmps59
  go_upto_region 1 with (fail)
  rw [← HV0.out, ← HE0.out]
  cases bb with
  | false =>
    have hb : Below v0.heap.size v0 v0.drew := (Below.refl _ _).drew
    have B_1 := Lib.hid (B_0.out.trans (Below.mono hb B_0.out.size))
    have J_1 := Lib.hid (Jd.below J_0.out hb)
    have K_1 := Lib.hid (Bx.below K_0.out hb)
    clear hb B_0 J_0 K_0
    refine wp_region_held_drew (S := (fun V => V.cell? ⟨e0, 0, none⟩ = some (.int .i64 x0) ∧ V.cell? ⟨e0, 1, none⟩ = some (.int .i64 x1) ∧ V.cell? ⟨e0, 2, none⟩ = some (.int .i64 x2) ∧ V.cell? ⟨e0, 3, none⟩ = some (.int .i64 x3) ∧ V.cell? ⟨e0, 4, none⟩ = some (.int .i64 x4) ∧ V.cell? ⟨J, 0, none⟩ = some (.slice p.ca p.cn p.cc))) (by kernel_rfl) ⟨Bx.cell K_1.out 0 rfl, Bx.cell K_1.out 1 rfl, Bx.cell K_1.out 2 rfl, Bx.cell K_1.out 3 rfl, Bx.cell K_1.out 4 rfl, (J_1.out).capsCell⟩ (fun hHeld => ?_)
    (try simp only [Act.put, List.getElem_toArray, List.getElem_cons_zero, List.getElem_cons_succ, List.setIfInBounds_toArray, List.set_cons_zero, List.set_cons_succ])
    refine takes [0] (by kernel_rfl) (fun _ _ _ _ _ h => h) (by assumption) ?_
    iterate 1 (refine ally_cons (v := ?_) rfl (Or.inl ⟨?_, fun w hSw => ?_⟩) ?_; rotate_left; rfl; ((try dsimp only at hSw); go_simp; try with_reducible rfl); (try simp only [Act.put, List.getElem_toArray, List.getElem_cons_zero, List.getElem_cons_succ, List.setIfInBounds_toArray, List.set_cons_zero, List.set_cons_succ]))
    refine ally_nil ?_
    refine wpAnyH_ready (rs := [1]) (by kernel_rfl) (by simp) ?_
    refine AllReadyH.cons (o := _) rfl (fun K hK => ?_) AllReadyH.nil
    go_simp
    refine (HB.out _).mono ?_
    rintro e y1 ⟨rfl, hb⟩
    have B_2 := Lib.hid (B_1.out.trans (Below.mono hb B_1.out.size))
    have J_2 := Lib.hid (Jd.below J_1.out hb)
    have K_2 := Lib.hid (Bx.below K_1.out hb)
    clear hb B_1 J_1 K_1
    clear hHeld
    refine hK.out _ _ ⟨Bx.cell K_2.out 0 rfl, Bx.cell K_2.out 1 rfl, Bx.cell K_2.out 2 rfl, Bx.cell K_2.out 3 rfl, Bx.cell K_2.out 4 rfl, (J_2.out).capsCell⟩ (fun hHeld => ?_)
    clear hK K
    (try simp only [Act.put, List.getElem_toArray, List.getElem_cons_zero, List.getElem_cons_succ, List.setIfInBounds_toArray, List.set_cons_zero, List.set_cons_succ])
    refine takes [2, 3, 4, 5, 6, 7, 8, 9, 10, 11, 12] (by kernel_rfl) (fun _ _ _ _ _ h => h) (by assumption) ?_
    iterate 11 (first | (refine ally_cons (v := ?_) rfl (Or.inl ⟨?_, fun w hSw => ?_⟩) ?_; rotate_left; rfl; ((try dsimp only at hSw); go_simp; try with_reducible rfl); (try simp only [Act.put, List.getElem_toArray, List.getElem_cons_zero, List.getElem_cons_succ, List.setIfInBounds_toArray, List.set_cons_zero, List.set_cons_succ])) | (refine ally_cons (v := undef) rfl (Or.inr ⟨?_, rfl⟩) ?_; kernel_rfl; (try simp only [Act.put, List.getElem_toArray, List.getElem_cons_zero, List.getElem_cons_succ, List.setIfInBounds_toArray, List.set_cons_zero, List.set_cons_succ])))
    refine ally_nil ?_
    refine wpAnyH_done (by kernel_rfl) ?_ _
    clear hHeld
    go_wp2_with fail
    go_ret
    exact ⟨ret_bool (rfl), B_2.out⟩
  | true =>
    have hb : Below v0.heap.size v0 v0.drew := (Below.refl _ _).drew
    have B_1 := Lib.hid (B_0.out.trans (Below.mono hb B_0.out.size))
    have J_1 := Lib.hid (Jd.below J_0.out hb)
    have K_1 := Lib.hid (Bx.below K_0.out hb)
    clear hb B_0 J_0 K_0
    refine wp_region_held_drew (S := (fun V => V.cell? ⟨e0, 0, none⟩ = some (.int .i64 x0) ∧ V.cell? ⟨e0, 1, none⟩ = some (.int .i64 x1) ∧ V.cell? ⟨e0, 2, none⟩ = some (.int .i64 x2) ∧ V.cell? ⟨e0, 3, none⟩ = some (.int .i64 x3) ∧ V.cell? ⟨e0, 4, none⟩ = some (.int .i64 x4) ∧ V.cell? ⟨J, 0, none⟩ = some (.slice p.ca p.cn p.cc))) (by kernel_rfl) ⟨Bx.cell K_1.out 0 rfl, Bx.cell K_1.out 1 rfl, Bx.cell K_1.out 2 rfl, Bx.cell K_1.out 3 rfl, Bx.cell K_1.out 4 rfl, (J_1.out).capsCell⟩ (fun hHeld => ?_)
    (try simp only [Act.put, List.getElem_toArray, List.getElem_cons_zero, List.getElem_cons_succ, List.setIfInBounds_toArray, List.set_cons_zero, List.set_cons_succ])
    refine takes [0] (by kernel_rfl) (fun _ _ _ _ _ h => h) (by assumption) ?_
    iterate 1 (refine ally_cons (v := ?_) rfl (Or.inl ⟨?_, fun w hSw => ?_⟩) ?_; rotate_left; rfl; ((try dsimp only at hSw); go_simp; try with_reducible rfl); (try simp only [Act.put, List.getElem_toArray, List.getElem_cons_zero, List.getElem_cons_succ, List.setIfInBounds_toArray, List.set_cons_zero, List.set_cons_succ]))
    refine ally_nil ?_
    refine wpAnyH_ready (rs := [1]) (by kernel_rfl) (by simp) ?_
    refine AllReadyH.cons (o := _) rfl (fun K hK => ?_) AllReadyH.nil
    go_simp
    refine (HB.out _).mono ?_
    rintro e y1 ⟨rfl, hb⟩
    have B_2 := Lib.hid (B_1.out.trans (Below.mono hb B_1.out.size))
    have J_2 := Lib.hid (Jd.below J_1.out hb)
    have K_2 := Lib.hid (Bx.below K_1.out hb)
    clear hb B_1 J_1 K_1
    clear hHeld
    refine hK.out _ _ ⟨Bx.cell K_2.out 0 rfl, Bx.cell K_2.out 1 rfl, Bx.cell K_2.out 2 rfl, Bx.cell K_2.out 3 rfl, Bx.cell K_2.out 4 rfl, (J_2.out).capsCell⟩ (fun hHeld => ?_)
    clear hK K
    (try simp only [Act.put, List.getElem_toArray, List.getElem_cons_zero, List.getElem_cons_succ, List.setIfInBounds_toArray, List.set_cons_zero, List.set_cons_succ])
    refine takes [2, 3, 4, 5, 6, 7, 8, 9] (by kernel_rfl) (fun _ _ _ _ _ h => h) (by assumption) ?_
    iterate 8 (refine ally_cons (v := ?_) rfl (Or.inl ⟨?_, fun w hSw => ?_⟩) ?_; rotate_left; rfl; ((try dsimp only at hSw); go_simp; try with_reducible rfl); (try simp only [Act.put, List.getElem_toArray, List.getElem_cons_zero, List.getElem_cons_succ, List.setIfInBounds_toArray, List.set_cons_zero, List.set_cons_succ]))
    refine ally_nil ?_
    refine wpAnyH_ready (rs := [10]) (by kernel_rfl) (by simp) ?_
    refine AllReadyH.cons (o := _) rfl (fun K hK => ?_) AllReadyH.nil
    go_simp
    refine (HI.out _).mono ?_
    rintro e y2 ⟨rfl, rfl⟩
    clear hHeld
    refine hK.out _ _ ⟨Bx.cell K_2.out 0 rfl, Bx.cell K_2.out 1 rfl, Bx.cell K_2.out 2 rfl, Bx.cell K_2.out 3 rfl, Bx.cell K_2.out 4 rfl, (J_2.out).capsCell⟩ (fun hHeld => ?_)
    clear hK K
    (try simp only [Act.put, List.getElem_toArray, List.getElem_cons_zero, List.getElem_cons_succ, List.setIfInBounds_toArray, List.set_cons_zero, List.set_cons_succ])
    refine takes [11, 12] (by kernel_rfl) (fun _ _ _ _ _ h => h) (by assumption) ?_
    iterate 2 (refine ally_cons (v := ?_) rfl (Or.inl ⟨?_, fun w hSw => ?_⟩) ?_; rotate_left; rfl; ((try dsimp only at hSw); go_simp; try with_reducible rfl); (try simp only [Act.put, List.getElem_toArray, List.getElem_cons_zero, List.getElem_cons_succ, List.setIfInBounds_toArray, List.set_cons_zero, List.set_cons_succ]))
    refine ally_nil ?_
    refine wpAnyH_done (by kernel_rfl) ?_ _
    clear hHeld
    go_wp2_with fail
    go_ret
    exact ⟨ret_bool (by cases ib <;> rfl), B_2.out⟩
set_option maxRecDepth 100000 in
set_option maxHeartbeats 8000000 in
theorem unlock_any (J : Nat) (p : JPlace) (caps : List Int) (L : List Ev) (k : Nat) (x : Ev) (w : World) (h : Jd w J p caps L k) (hok : EvOk x) (hk : k ≤ 1000) : Calls Try.prog 71 #[.pointer (some ⟨J, 0, none⟩), evV x] w (BoolTo w (bareB x && inB x 2 && decide (cntZ L 11 x.obj k = cntZ L 12 x.obj k + 1))) := by
  have J_0 := Lib.hid (h.below (below_alloc w (.cells (evC x) 48)))
  have B_0 := Lib.hid (below_alloc w (.cells (evC x) 48))
  have K_0 := Lib.hid (Bx.new w (evC x) 48)
  clear h
  have hok' := hok
  have HB := Lib.hid (fun W => bare_any x W)
  unfold BoolTo evV evC at HB
  obtain ⟨bb, hbb⟩ : ∃ z, z = bareB x := ⟨_, rfl⟩
  rw [show decide (x.start = -1 ∧ x.no = 0) = bb from hbb.symm] at HB
  have HI := Lib.hid (fun W => below_any x.obj 2 W)
  obtain ⟨ib, hib⟩ : ∃ z, z = inB x 2 := ⟨_, rfl⟩
  rw [show decide (0 ≤ x.obj ∧ x.obj < 2) = ib from hib.symm] at HI
  have HC11 := Lib.hid (fun W (h : Jd W J p caps L k) => counted_any J p caps L k 11 x.obj W h ⟨by decide, by decide⟩ hok.2.2.1)
  have hcb11 := cntZ_le L 11 x.obj k
  obtain ⟨c11, hc11⟩ : ∃ z, z = cntZ L 11 x.obj k := ⟨_, rfl⟩
  rw [← hc11] at HC11 hcb11
  obtain ⟨hcl11, hcu11⟩ := hcb11
  have HC12 := Lib.hid (fun W (h : Jd W J p caps L k) => counted_any J p caps L k 12 x.obj W h ⟨by decide, by decide⟩ hok.2.2.1)
  have hcb12 := cntZ_le L 12 x.obj k
  obtain ⟨c12, hc12⟩ : ∃ z, z = cntZ L 12 x.obj k := ⟨_, rfl⟩
  rw [← hc12] at HC12 hcb12
  obtain ⟨hcl12, hcu12⟩ := hcb12
  rw [← hbb, ← hib, ← hc11, ← hc12]
  clear hbb hib hc11 hc12 hok'
  unfold evC at B_0 K_0 J_0
  unfold evV evC
  obtain ⟨x0, x1, x2, x3, x4⟩ := x
  unfold EvOk I64 at hok
  dsimp only at B_0 K_0 J_0 hok HB HI HC11 HC12
  dsimp only
  obtain ⟨hok0, hok1, hok2, hok3, hok4⟩ := hok
  obtain ⟨e0, he0⟩ : ∃ z, z = w.heap.size := ⟨_, rfl⟩
  obtain ⟨v0, hv0⟩ : ∃ z, z = w.alloc (.cells #[.int .i64 x0, .int .i64 x1, .int .i64 x2, .int .i64 x3, .int .i64 x4] 48) := ⟨_, rfl⟩
  rw [← hv0] at B_0 K_0 J_0
  rw [← he0] at K_0
  have HE0 := Lib.hid he0; have HV0 := Lib.hid hv0
  clear he0 hv0
  go_enter Try.func71, Try.ntmps71
  go_upto_region 1 with (fail)
  rw [← HV0.out, ← HE0.out]
  cases bb with
  | false =>
    have hb : Below v0.heap.size v0 v0.drew := (Below.refl _ _).drew
    have B_1 := Lib.hid (B_0.out.trans (Below.mono hb B_0.out.size))
    have J_1 := Lib.hid (Jd.below J_0.out hb)
    have K_1 := Lib.hid (Bx.below K_0.out hb)
    clear hb B_0 J_0 K_0
    refine wp_region_held_drew (S := (fun V => V.cell? ⟨e0, 0, none⟩ = some (.int .i64 x0) ∧ V.cell? ⟨e0, 1, none⟩ = some (.int .i64 x1) ∧ V.cell? ⟨e0, 2, none⟩ = some (.int .i64 x2) ∧ V.cell? ⟨e0, 3, none⟩ = some (.int .i64 x3) ∧ V.cell? ⟨e0, 4, none⟩ = some (.int .i64 x4))) (by kernel_rfl) ⟨Bx.cell K_1.out 0 rfl, Bx.cell K_1.out 1 rfl, Bx.cell K_1.out 2 rfl, Bx.cell K_1.out 3 rfl, Bx.cell K_1.out 4 rfl⟩ (fun hHeld => ?_)
    (try simp only [Act.put, List.getElem_toArray, List.getElem_cons_zero, List.getElem_cons_succ, List.setIfInBounds_toArray, List.set_cons_zero, List.set_cons_succ])
    refine takes [0] (by kernel_rfl) (fun _ _ _ _ _ h => h) (by assumption) ?_
    iterate 1 (refine ally_cons (v := ?_) rfl (Or.inl ⟨?_, fun w hSw => ?_⟩) ?_; rotate_left; rfl; ((try dsimp only at hSw); go_simp; try with_reducible rfl); (try simp only [Act.put, List.getElem_toArray, List.getElem_cons_zero, List.getElem_cons_succ, List.setIfInBounds_toArray, List.set_cons_zero, List.set_cons_succ]))
    refine ally_nil ?_
    refine wpAnyH_ready (rs := [1]) (by kernel_rfl) (by simp) ?_
    refine AllReadyH.cons (o := _) rfl (fun K hK => ?_) AllReadyH.nil
    go_simp
    refine (HB.out _).mono ?_
    rintro e y1 ⟨rfl, hb⟩
    have B_2 := Lib.hid (B_1.out.trans (Below.mono hb B_1.out.size))
    have J_2 := Lib.hid (Jd.below J_1.out hb)
    have K_2 := Lib.hid (Bx.below K_1.out hb)
    clear hb B_1 J_1 K_1
    clear hHeld
    refine hK.out _ _ ⟨Bx.cell K_2.out 0 rfl, Bx.cell K_2.out 1 rfl, Bx.cell K_2.out 2 rfl, Bx.cell K_2.out 3 rfl, Bx.cell K_2.out 4 rfl⟩ (fun hHeld => ?_)
    clear hK K
    (try simp only [Act.put, List.getElem_toArray, List.getElem_cons_zero, List.getElem_cons_succ, List.setIfInBounds_toArray, List.set_cons_zero, List.set_cons_succ])
    refine takes [2, 3, 4, 5, 6, 7, 8, 9, 10, 11, 12, 13, 14, 15, 16, 17, 18, 19] (by kernel_rfl) (fun _ _ _ _ _ h => h) (by assumption) ?_
    iterate 18 (first | (refine ally_cons (v := ?_) rfl (Or.inl ⟨?_, fun w hSw => ?_⟩) ?_; rotate_left; rfl; ((try dsimp only at hSw); go_simp; try with_reducible rfl); (try simp only [Act.put, List.getElem_toArray, List.getElem_cons_zero, List.getElem_cons_succ, List.setIfInBounds_toArray, List.set_cons_zero, List.set_cons_succ])) | (refine ally_cons (v := undef) rfl (Or.inr ⟨?_, rfl⟩) ?_; kernel_rfl; (try simp only [Act.put, List.getElem_toArray, List.getElem_cons_zero, List.getElem_cons_succ, List.setIfInBounds_toArray, List.set_cons_zero, List.set_cons_succ])))
    refine ally_nil ?_
    refine wpAnyH_done (by kernel_rfl) ?_ _
    clear hHeld
    go_wp2_with fail
    go_ret
    exact ⟨ret_bool (rfl), B_2.out⟩
  | true =>
    cases ib with
    | false =>
      have hb : Below v0.heap.size v0 v0.drew := (Below.refl _ _).drew
      have B_1 := Lib.hid (B_0.out.trans (Below.mono hb B_0.out.size))
      have J_1 := Lib.hid (Jd.below J_0.out hb)
      have K_1 := Lib.hid (Bx.below K_0.out hb)
      clear hb B_0 J_0 K_0
      refine wp_region_held_drew (S := (fun V => V.cell? ⟨e0, 0, none⟩ = some (.int .i64 x0) ∧ V.cell? ⟨e0, 1, none⟩ = some (.int .i64 x1) ∧ V.cell? ⟨e0, 2, none⟩ = some (.int .i64 x2) ∧ V.cell? ⟨e0, 3, none⟩ = some (.int .i64 x3) ∧ V.cell? ⟨e0, 4, none⟩ = some (.int .i64 x4))) (by kernel_rfl) ⟨Bx.cell K_1.out 0 rfl, Bx.cell K_1.out 1 rfl, Bx.cell K_1.out 2 rfl, Bx.cell K_1.out 3 rfl, Bx.cell K_1.out 4 rfl⟩ (fun hHeld => ?_)
      (try simp only [Act.put, List.getElem_toArray, List.getElem_cons_zero, List.getElem_cons_succ, List.setIfInBounds_toArray, List.set_cons_zero, List.set_cons_succ])
      refine takes [0] (by kernel_rfl) (fun _ _ _ _ _ h => h) (by assumption) ?_
      iterate 1 (refine ally_cons (v := ?_) rfl (Or.inl ⟨?_, fun w hSw => ?_⟩) ?_; rotate_left; rfl; ((try dsimp only at hSw); go_simp; try with_reducible rfl); (try simp only [Act.put, List.getElem_toArray, List.getElem_cons_zero, List.getElem_cons_succ, List.setIfInBounds_toArray, List.set_cons_zero, List.set_cons_succ]))
      refine ally_nil ?_
      refine wpAnyH_ready (rs := [1]) (by kernel_rfl) (by simp) ?_
      refine AllReadyH.cons (o := _) rfl (fun K hK => ?_) AllReadyH.nil
      go_simp
      refine (HB.out _).mono ?_
      rintro e y1 ⟨rfl, hb⟩
      have B_2 := Lib.hid (B_1.out.trans (Below.mono hb B_1.out.size))
      have J_2 := Lib.hid (Jd.below J_1.out hb)
      have K_2 := Lib.hid (Bx.below K_1.out hb)
      clear hb B_1 J_1 K_1
      clear hHeld
      refine hK.out _ _ ⟨Bx.cell K_2.out 0 rfl, Bx.cell K_2.out 1 rfl, Bx.cell K_2.out 2 rfl, Bx.cell K_2.out 3 rfl, Bx.cell K_2.out 4 rfl⟩ (fun hHeld => ?_)
      clear hK K
      (try simp only [Act.put, List.getElem_toArray, List.getElem_cons_zero, List.getElem_cons_succ, List.setIfInBounds_toArray, List.set_cons_zero, List.set_cons_succ])
      refine takes [2, 3, 4] (by kernel_rfl) (fun _ _ _ _ _ h => h) (by assumption) ?_
      iterate 3 (refine ally_cons (v := ?_) rfl (Or.inl ⟨?_, fun w hSw => ?_⟩) ?_; rotate_left; rfl; ((try dsimp only at hSw); go_simp; try with_reducible rfl); (try simp only [Act.put, List.getElem_toArray, List.getElem_cons_zero, List.getElem_cons_succ, List.setIfInBounds_toArray, List.set_cons_zero, List.set_cons_succ]))
      refine ally_nil ?_
      refine wpAnyH_ready (rs := [5]) (by kernel_rfl) (by simp) ?_
      refine AllReadyH.cons (o := _) rfl (fun K hK => ?_) AllReadyH.nil
      go_simp
      refine (HI.out _).mono ?_
      rintro e y2 ⟨rfl, rfl⟩
      clear hHeld
      refine hK.out _ _ ⟨Bx.cell K_2.out 0 rfl, Bx.cell K_2.out 1 rfl, Bx.cell K_2.out 2 rfl, Bx.cell K_2.out 3 rfl, Bx.cell K_2.out 4 rfl⟩ (fun hHeld => ?_)
      clear hK K
      (try simp only [Act.put, List.getElem_toArray, List.getElem_cons_zero, List.getElem_cons_succ, List.setIfInBounds_toArray, List.set_cons_zero, List.set_cons_succ])
      refine takes [6, 7, 8, 9, 10, 11, 12, 13, 14, 15, 16, 17, 18, 19] (by kernel_rfl) (fun _ _ _ _ _ h => h) (by assumption) ?_
      iterate 14 (first | (refine ally_cons (v := ?_) rfl (Or.inl ⟨?_, fun w hSw => ?_⟩) ?_; rotate_left; rfl; ((try dsimp only at hSw); go_simp; try with_reducible rfl); (try simp only [Act.put, List.getElem_toArray, List.getElem_cons_zero, List.getElem_cons_succ, List.setIfInBounds_toArray, List.set_cons_zero, List.set_cons_succ])) | (refine ally_cons (v := undef) rfl (Or.inr ⟨?_, rfl⟩) ?_; kernel_rfl; (try simp only [Act.put, List.getElem_toArray, List.getElem_cons_zero, List.getElem_cons_succ, List.setIfInBounds_toArray, List.set_cons_zero, List.set_cons_succ])))
      refine ally_nil ?_
      refine wpAnyH_done (by kernel_rfl) ?_ _
      clear hHeld
      go_wp2_with fail
      go_ret
      exact ⟨ret_bool (rfl), B_2.out⟩
    | true =>
      by_cases d0 : c11 = c12 + 1
      · skip
        have hfx0 : IntKind.i64.wrap (c12 + 1) = c12 + 1 := by rw [IntKind.wrap_i64]; omega
        have hfx1 : (c11 == c12 + 1) = true := by rw [beq_iff_eq]; exact d0
        have HD := Lib.hid d0
        clear d0
        have hb : Below v0.heap.size v0 v0.drew := (Below.refl _ _).drew
        have B_1 := Lib.hid (B_0.out.trans (Below.mono hb B_0.out.size))
        have J_1 := Lib.hid (Jd.below J_0.out hb)
        have K_1 := Lib.hid (Bx.below K_0.out hb)
        clear hb B_0 J_0 K_0
        refine wp_region_held_drew (S := (fun V => V.cell? ⟨e0, 0, none⟩ = some (.int .i64 x0) ∧ V.cell? ⟨e0, 1, none⟩ = some (.int .i64 x1) ∧ V.cell? ⟨e0, 2, none⟩ = some (.int .i64 x2) ∧ V.cell? ⟨e0, 3, none⟩ = some (.int .i64 x3) ∧ V.cell? ⟨e0, 4, none⟩ = some (.int .i64 x4))) (by kernel_rfl) ⟨Bx.cell K_1.out 0 rfl, Bx.cell K_1.out 1 rfl, Bx.cell K_1.out 2 rfl, Bx.cell K_1.out 3 rfl, Bx.cell K_1.out 4 rfl⟩ (fun hHeld => ?_)
        (try simp only [Act.put, List.getElem_toArray, List.getElem_cons_zero, List.getElem_cons_succ, List.setIfInBounds_toArray, List.set_cons_zero, List.set_cons_succ])
        refine takes [0] (by kernel_rfl) (fun _ _ _ _ _ h => h) (by assumption) ?_
        iterate 1 (refine ally_cons (v := ?_) rfl (Or.inl ⟨?_, fun w hSw => ?_⟩) ?_; rotate_left; rfl; ((try dsimp only at hSw); go_simp; try with_reducible rfl); (try simp only [Act.put, List.getElem_toArray, List.getElem_cons_zero, List.getElem_cons_succ, List.setIfInBounds_toArray, List.set_cons_zero, List.set_cons_succ]))
        refine ally_nil ?_
        refine wpAnyH_ready (rs := [1]) (by kernel_rfl) (by simp) ?_
        refine AllReadyH.cons (o := _) rfl (fun K hK => ?_) AllReadyH.nil
        go_simp
        refine (HB.out _).mono ?_
        rintro e y1 ⟨rfl, hb⟩
        have B_2 := Lib.hid (B_1.out.trans (Below.mono hb B_1.out.size))
        have J_2 := Lib.hid (Jd.below J_1.out hb)
        have K_2 := Lib.hid (Bx.below K_1.out hb)
        clear hb B_1 J_1 K_1
        clear hHeld
        refine hK.out _ _ ⟨Bx.cell K_2.out 0 rfl, Bx.cell K_2.out 1 rfl, Bx.cell K_2.out 2 rfl, Bx.cell K_2.out 3 rfl, Bx.cell K_2.out 4 rfl⟩ (fun hHeld => ?_)
        clear hK K
        (try simp only [Act.put, List.getElem_toArray, List.getElem_cons_zero, List.getElem_cons_succ, List.setIfInBounds_toArray, List.set_cons_zero, List.set_cons_succ])
        refine takes [2, 3, 4] (by kernel_rfl) (fun _ _ _ _ _ h => h) (by assumption) ?_
        iterate 3 (refine ally_cons (v := ?_) rfl (Or.inl ⟨?_, fun w hSw => ?_⟩) ?_; rotate_left; rfl; ((try dsimp only at hSw); go_simp; try with_reducible rfl); (try simp only [Act.put, List.getElem_toArray, List.getElem_cons_zero, List.getElem_cons_succ, List.setIfInBounds_toArray, List.set_cons_zero, List.set_cons_succ, hfx0, hfx1]))
        refine ally_nil ?_
        refine wpAnyH_ready (rs := [5]) (by kernel_rfl) (by simp) ?_
        refine AllReadyH.cons (o := _) rfl (fun K hK => ?_) AllReadyH.nil
        go_simp
        refine (HI.out _).mono ?_
        rintro e y2 ⟨rfl, rfl⟩
        clear hHeld
        refine hK.out _ _ ⟨Bx.cell K_2.out 0 rfl, Bx.cell K_2.out 1 rfl, Bx.cell K_2.out 2 rfl, Bx.cell K_2.out 3 rfl, Bx.cell K_2.out 4 rfl⟩ (fun hHeld => ?_)
        clear hK K
        (try simp only [Act.put, List.getElem_toArray, List.getElem_cons_zero, List.getElem_cons_succ, List.setIfInBounds_toArray, List.set_cons_zero, List.set_cons_succ])
        refine takes [6, 7, 8, 9, 10, 12, 13, 14] (by kernel_rfl) (fun _ _ _ _ _ h => h) (by assumption) ?_
        iterate 8 (refine ally_cons (v := ?_) rfl (Or.inl ⟨?_, fun w hSw => ?_⟩) ?_; rotate_left; rfl; ((try dsimp only at hSw); go_simp; try with_reducible rfl); (try simp only [Act.put, List.getElem_toArray, List.getElem_cons_zero, List.getElem_cons_succ, List.setIfInBounds_toArray, List.set_cons_zero, List.set_cons_succ, hfx0, hfx1]))
        refine ally_nil ?_
        refine wpAnyH_ready (rs := [11]) (by kernel_rfl) (by simp) ?_
        refine AllReadyH.cons (o := _) rfl (fun K hK => ?_) AllReadyH.nil
        go_simp
        refine (HC11.out _ J_2.out).mono ?_
        rintro e y3 ⟨rfl, rfl⟩
        clear hHeld
        refine hK.out _ _ ⟨Bx.cell K_2.out 0 rfl, Bx.cell K_2.out 1 rfl, Bx.cell K_2.out 2 rfl, Bx.cell K_2.out 3 rfl, Bx.cell K_2.out 4 rfl⟩ (fun hHeld => ?_)
        clear hK K
        (try simp only [Act.put, List.getElem_toArray, List.getElem_cons_zero, List.getElem_cons_succ, List.setIfInBounds_toArray, List.set_cons_zero, List.set_cons_succ])
        refine wpAnyH_ready (rs := [15]) (by kernel_rfl) (by simp) ?_
        refine AllReadyH.cons (o := _) rfl (fun K hK => ?_) AllReadyH.nil
        go_simp
        refine (HC12.out _ J_2.out).mono ?_
        rintro e y4 ⟨rfl, rfl⟩
        clear hHeld
        refine hK.out _ _ ⟨Bx.cell K_2.out 0 rfl, Bx.cell K_2.out 1 rfl, Bx.cell K_2.out 2 rfl, Bx.cell K_2.out 3 rfl, Bx.cell K_2.out 4 rfl⟩ (fun hHeld => ?_)
        clear hK K
        (try simp only [Act.put, List.getElem_toArray, List.getElem_cons_zero, List.getElem_cons_succ, List.setIfInBounds_toArray, List.set_cons_zero, List.set_cons_succ])
        refine takes [16, 17, 18, 19] (by kernel_rfl) (fun _ _ _ _ _ h => h) (by assumption) ?_
        iterate 4 (refine ally_cons (v := ?_) rfl (Or.inl ⟨?_, fun w hSw => ?_⟩) ?_; rotate_left; rfl; ((try dsimp only at hSw); go_simp; try with_reducible rfl); (try simp only [Act.put, List.getElem_toArray, List.getElem_cons_zero, List.getElem_cons_succ, List.setIfInBounds_toArray, List.set_cons_zero, List.set_cons_succ, hfx0, hfx1]))
        refine ally_nil ?_
        refine wpAnyH_done (by kernel_rfl) ?_ _
        clear hHeld
        go_wp2_with fail
        go_ret
        exact ⟨ret_bool (by have d := HD.out; simp [d]), B_2.out⟩
      · skip
        have hfx0 : IntKind.i64.wrap (c12 + 1) = c12 + 1 := by rw [IntKind.wrap_i64]; omega
        have hfx1 : (c11 == c12 + 1) = false := by rw [beq_eq_false_iff_ne]; exact d0
        have HD := Lib.hid d0
        clear d0
        have hb : Below v0.heap.size v0 v0.drew := (Below.refl _ _).drew
        have B_1 := Lib.hid (B_0.out.trans (Below.mono hb B_0.out.size))
        have J_1 := Lib.hid (Jd.below J_0.out hb)
        have K_1 := Lib.hid (Bx.below K_0.out hb)
        clear hb B_0 J_0 K_0
        refine wp_region_held_drew (S := (fun V => V.cell? ⟨e0, 0, none⟩ = some (.int .i64 x0) ∧ V.cell? ⟨e0, 1, none⟩ = some (.int .i64 x1) ∧ V.cell? ⟨e0, 2, none⟩ = some (.int .i64 x2) ∧ V.cell? ⟨e0, 3, none⟩ = some (.int .i64 x3) ∧ V.cell? ⟨e0, 4, none⟩ = some (.int .i64 x4))) (by kernel_rfl) ⟨Bx.cell K_1.out 0 rfl, Bx.cell K_1.out 1 rfl, Bx.cell K_1.out 2 rfl, Bx.cell K_1.out 3 rfl, Bx.cell K_1.out 4 rfl⟩ (fun hHeld => ?_)
        (try simp only [Act.put, List.getElem_toArray, List.getElem_cons_zero, List.getElem_cons_succ, List.setIfInBounds_toArray, List.set_cons_zero, List.set_cons_succ])
        refine takes [0] (by kernel_rfl) (fun _ _ _ _ _ h => h) (by assumption) ?_
        iterate 1 (refine ally_cons (v := ?_) rfl (Or.inl ⟨?_, fun w hSw => ?_⟩) ?_; rotate_left; rfl; ((try dsimp only at hSw); go_simp; try with_reducible rfl); (try simp only [Act.put, List.getElem_toArray, List.getElem_cons_zero, List.getElem_cons_succ, List.setIfInBounds_toArray, List.set_cons_zero, List.set_cons_succ]))
        refine ally_nil ?_
        refine wpAnyH_ready (rs := [1]) (by kernel_rfl) (by simp) ?_
        refine AllReadyH.cons (o := _) rfl (fun K hK => ?_) AllReadyH.nil
        go_simp
        refine (HB.out _).mono ?_
        rintro e y1 ⟨rfl, hb⟩
        have B_2 := Lib.hid (B_1.out.trans (Below.mono hb B_1.out.size))
        have J_2 := Lib.hid (Jd.below J_1.out hb)
        have K_2 := Lib.hid (Bx.below K_1.out hb)
        clear hb B_1 J_1 K_1
        clear hHeld
        refine hK.out _ _ ⟨Bx.cell K_2.out 0 rfl, Bx.cell K_2.out 1 rfl, Bx.cell K_2.out 2 rfl, Bx.cell K_2.out 3 rfl, Bx.cell K_2.out 4 rfl⟩ (fun hHeld => ?_)
        clear hK K
        (try simp only [Act.put, List.getElem_toArray, List.getElem_cons_zero, List.getElem_cons_succ, List.setIfInBounds_toArray, List.set_cons_zero, List.set_cons_succ])
        refine takes [2, 3, 4] (by kernel_rfl) (fun _ _ _ _ _ h => h) (by assumption) ?_
        iterate 3 (refine ally_cons (v := ?_) rfl (Or.inl ⟨?_, fun w hSw => ?_⟩) ?_; rotate_left; rfl; ((try dsimp only at hSw); go_simp; try with_reducible rfl); (try simp only [Act.put, List.getElem_toArray, List.getElem_cons_zero, List.getElem_cons_succ, List.setIfInBounds_toArray, List.set_cons_zero, List.set_cons_succ, hfx0, hfx1]))
        refine ally_nil ?_
        refine wpAnyH_ready (rs := [5]) (by kernel_rfl) (by simp) ?_
        refine AllReadyH.cons (o := _) rfl (fun K hK => ?_) AllReadyH.nil
        go_simp
        refine (HI.out _).mono ?_
        rintro e y2 ⟨rfl, rfl⟩
        clear hHeld
        refine hK.out _ _ ⟨Bx.cell K_2.out 0 rfl, Bx.cell K_2.out 1 rfl, Bx.cell K_2.out 2 rfl, Bx.cell K_2.out 3 rfl, Bx.cell K_2.out 4 rfl⟩ (fun hHeld => ?_)
        clear hK K
        (try simp only [Act.put, List.getElem_toArray, List.getElem_cons_zero, List.getElem_cons_succ, List.setIfInBounds_toArray, List.set_cons_zero, List.set_cons_succ])
        refine takes [6, 7, 8, 9, 10, 12, 13, 14] (by kernel_rfl) (fun _ _ _ _ _ h => h) (by assumption) ?_
        iterate 8 (refine ally_cons (v := ?_) rfl (Or.inl ⟨?_, fun w hSw => ?_⟩) ?_; rotate_left; rfl; ((try dsimp only at hSw); go_simp; try with_reducible rfl); (try simp only [Act.put, List.getElem_toArray, List.getElem_cons_zero, List.getElem_cons_succ, List.setIfInBounds_toArray, List.set_cons_zero, List.set_cons_succ, hfx0, hfx1]))
        refine ally_nil ?_
        refine wpAnyH_ready (rs := [11]) (by kernel_rfl) (by simp) ?_
        refine AllReadyH.cons (o := _) rfl (fun K hK => ?_) AllReadyH.nil
        go_simp
        refine (HC11.out _ J_2.out).mono ?_
        rintro e y3 ⟨rfl, rfl⟩
        clear hHeld
        refine hK.out _ _ ⟨Bx.cell K_2.out 0 rfl, Bx.cell K_2.out 1 rfl, Bx.cell K_2.out 2 rfl, Bx.cell K_2.out 3 rfl, Bx.cell K_2.out 4 rfl⟩ (fun hHeld => ?_)
        clear hK K
        (try simp only [Act.put, List.getElem_toArray, List.getElem_cons_zero, List.getElem_cons_succ, List.setIfInBounds_toArray, List.set_cons_zero, List.set_cons_succ])
        refine wpAnyH_ready (rs := [15]) (by kernel_rfl) (by simp) ?_
        refine AllReadyH.cons (o := _) rfl (fun K hK => ?_) AllReadyH.nil
        go_simp
        refine (HC12.out _ J_2.out).mono ?_
        rintro e y4 ⟨rfl, rfl⟩
        clear hHeld
        refine hK.out _ _ ⟨Bx.cell K_2.out 0 rfl, Bx.cell K_2.out 1 rfl, Bx.cell K_2.out 2 rfl, Bx.cell K_2.out 3 rfl, Bx.cell K_2.out 4 rfl⟩ (fun hHeld => ?_)
        clear hK K
        (try simp only [Act.put, List.getElem_toArray, List.getElem_cons_zero, List.getElem_cons_succ, List.setIfInBounds_toArray, List.set_cons_zero, List.set_cons_succ])
        refine takes [16, 17, 18, 19] (by kernel_rfl) (fun _ _ _ _ _ h => h) (by assumption) ?_
        iterate 4 (refine ally_cons (v := ?_) rfl (Or.inl ⟨?_, fun w hSw => ?_⟩) ?_; rotate_left; rfl; ((try dsimp only at hSw); go_simp; try with_reducible rfl); (try simp only [Act.put, List.getElem_toArray, List.getElem_cons_zero, List.getElem_cons_succ, List.setIfInBounds_toArray, List.set_cons_zero, List.set_cons_succ, hfx0, hfx1]))
        refine ally_nil ?_
        refine wpAnyH_done (by kernel_rfl) ?_ _
        clear hHeld
        go_wp2_with fail
        go_ret
        exact ⟨ret_bool (by have d := HD.out; simp [d]), B_2.out⟩
set_option maxRecDepth 100000 in
set_option maxHeartbeats 8000000 in
theorem got_any (J : Nat) (p : JPlace) (caps : List Int) (L : List Ev) (k : Nat) (x : Ev) (w : World) (h : Jd w J p caps L k) (hok : EvOk x) (hpl : 0 ≤ x.g ∧ x.g < 8 ∧ x.start < (k : Int)) : Calls Try.prog 61 #[.pointer (some ⟨J, 0, none⟩), evV x] w (BoolTo w (passesB caps L k x 4 && decide (x.no = cntZ L 5 x.obj k) && decide (x.no ≤ cntZ L 3 x.obj k))) := by
  have J_0 := Lib.hid (h.below (below_alloc w (.cells (evC x) 48)))
  have B_0 := Lib.hid (below_alloc w (.cells (evC x) 48))
  have K_0 := Lib.hid (Bx.new w (evC x) 48)
  clear h
  have hok' := hok
  have HA := Lib.hid (fun W (h : Jd W J p caps L k) => passes_any J p caps L k x 4 W h hok hpl)
  unfold BoolTo evV evC at HA
  obtain ⟨pb, hpb⟩ : ∃ z, z = passesB caps L k x 4 := ⟨_, rfl⟩
  rw [← hpb] at HA
  have HC5 := Lib.hid (fun W (h : Jd W J p caps L k) => counted_any J p caps L k 5 x.obj W h ⟨by decide, by decide⟩ hok.2.2.1)
  have hcb5 := cntZ_le L 5 x.obj k
  obtain ⟨c5, hc5⟩ : ∃ z, z = cntZ L 5 x.obj k := ⟨_, rfl⟩
  rw [← hc5] at HC5 hcb5
  obtain ⟨hcl5, hcu5⟩ := hcb5
  have HC3 := Lib.hid (fun W (h : Jd W J p caps L k) => counted_any J p caps L k 3 x.obj W h ⟨by decide, by decide⟩ hok.2.2.1)
  have hcb3 := cntZ_le L 3 x.obj k
  obtain ⟨c3, hc3⟩ : ∃ z, z = cntZ L 3 x.obj k := ⟨_, rfl⟩
  rw [← hc3] at HC3 hcb3
  obtain ⟨hcl3, hcu3⟩ := hcb3
  rw [← hpb, ← hc5, ← hc3]
  clear hpb hc5 hc3 hok'
  unfold evC at B_0 K_0 J_0
  unfold evV evC
  obtain ⟨x0, x1, x2, x3, x4⟩ := x
  unfold EvOk I64 at hok
  dsimp only at B_0 K_0 J_0 hok HA hpl HC5 HC3
  dsimp only
  obtain ⟨hok0, hok1, hok2, hok3, hok4⟩ := hok
  obtain ⟨e0, he0⟩ : ∃ z, z = w.heap.size := ⟨_, rfl⟩
  obtain ⟨v0, hv0⟩ : ∃ z, z = w.alloc (.cells #[.int .i64 x0, .int .i64 x1, .int .i64 x2, .int .i64 x3, .int .i64 x4] 48) := ⟨_, rfl⟩
  rw [← hv0] at B_0 K_0 J_0
  rw [← he0] at K_0
  have HE0 := Lib.hid he0; have HV0 := Lib.hid hv0
  clear he0 hv0
  go_enter Try.func61, Try.ntmps61
  go_upto_region 1 with (fail)
  rw [← HV0.out, ← HE0.out]
  cases pb with
  | false =>
    have hb : Below v0.heap.size v0 v0.drew := (Below.refl _ _).drew
    have B_1 := Lib.hid (B_0.out.trans (Below.mono hb B_0.out.size))
    have J_1 := Lib.hid (Jd.below J_0.out hb)
    have K_1 := Lib.hid (Bx.below K_0.out hb)
    clear hb B_0 J_0 K_0
    refine wp_region_held_drew (S := (fun V => V.cell? ⟨e0, 0, none⟩ = some (.int .i64 x0) ∧ V.cell? ⟨e0, 1, none⟩ = some (.int .i64 x1) ∧ V.cell? ⟨e0, 2, none⟩ = some (.int .i64 x2) ∧ V.cell? ⟨e0, 3, none⟩ = some (.int .i64 x3) ∧ V.cell? ⟨e0, 4, none⟩ = some (.int .i64 x4))) (by kernel_rfl) ⟨Bx.cell K_1.out 0 rfl, Bx.cell K_1.out 1 rfl, Bx.cell K_1.out 2 rfl, Bx.cell K_1.out 3 rfl, Bx.cell K_1.out 4 rfl⟩ (fun hHeld => ?_)
    (try simp only [Act.put, List.getElem_toArray, List.getElem_cons_zero, List.getElem_cons_succ, List.setIfInBounds_toArray, List.set_cons_zero, List.set_cons_succ])
    refine takes [0, 1] (by kernel_rfl) (fun _ _ _ _ _ h => h) (by assumption) ?_
    iterate 2 (refine ally_cons (v := ?_) rfl (Or.inl ⟨?_, fun w hSw => ?_⟩) ?_; rotate_left; rfl; ((try dsimp only at hSw); go_simp; try with_reducible rfl); (try simp only [Act.put, List.getElem_toArray, List.getElem_cons_zero, List.getElem_cons_succ, List.setIfInBounds_toArray, List.set_cons_zero, List.set_cons_succ]))
    refine ally_nil ?_
    refine wpAnyH_ready (rs := [2]) (by kernel_rfl) (by simp) ?_
    refine AllReadyH.cons (o := _) rfl (fun K hK => ?_) AllReadyH.nil
    go_simp
    refine (HA.out _ J_1.out).mono ?_
    rintro e y1 ⟨rfl, hb⟩
    have B_2 := Lib.hid (B_1.out.trans (Below.mono hb B_1.out.size))
    have J_2 := Lib.hid (Jd.below J_1.out hb)
    have K_2 := Lib.hid (Bx.below K_1.out hb)
    clear hb B_1 J_1 K_1
    clear hHeld
    refine hK.out _ _ ⟨Bx.cell K_2.out 0 rfl, Bx.cell K_2.out 1 rfl, Bx.cell K_2.out 2 rfl, Bx.cell K_2.out 3 rfl, Bx.cell K_2.out 4 rfl⟩ (fun hHeld => ?_)
    clear hK K
    (try simp only [Act.put, List.getElem_toArray, List.getElem_cons_zero, List.getElem_cons_succ, List.setIfInBounds_toArray, List.set_cons_zero, List.set_cons_succ])
    refine takes [3, 4, 5, 6, 7, 8, 9, 10, 11, 12, 13, 14, 15, 16, 17, 18, 19, 20, 21] (by kernel_rfl) (fun _ _ _ _ _ h => h) (by assumption) ?_
    iterate 19 (first | (refine ally_cons (v := ?_) rfl (Or.inl ⟨?_, fun w hSw => ?_⟩) ?_; rotate_left; rfl; ((try dsimp only at hSw); go_simp; try with_reducible rfl); (try simp only [Act.put, List.getElem_toArray, List.getElem_cons_zero, List.getElem_cons_succ, List.setIfInBounds_toArray, List.set_cons_zero, List.set_cons_succ])) | (refine ally_cons (v := undef) rfl (Or.inr ⟨?_, rfl⟩) ?_; kernel_rfl; (try simp only [Act.put, List.getElem_toArray, List.getElem_cons_zero, List.getElem_cons_succ, List.setIfInBounds_toArray, List.set_cons_zero, List.set_cons_succ])))
    refine ally_nil ?_
    refine wpAnyH_done (by kernel_rfl) ?_ _
    clear hHeld
    go_wp2_with fail
    go_ret
    exact ⟨ret_bool (rfl), B_2.out⟩
  | true =>
    by_cases n0 : ¬ x3 = c5
    · obtain ⟨n0f1, n0f2⟩ := ne_facts n0
      have hfx0 : (x3 == c5) = false := n0f1
      have HD := Lib.hid n0
      clear n0
      have hb : Below v0.heap.size v0 v0.drew := (Below.refl _ _).drew
      have B_1 := Lib.hid (B_0.out.trans (Below.mono hb B_0.out.size))
      have J_1 := Lib.hid (Jd.below J_0.out hb)
      have K_1 := Lib.hid (Bx.below K_0.out hb)
      clear hb B_0 J_0 K_0
      refine wp_region_held_drew (S := (fun V => V.cell? ⟨e0, 0, none⟩ = some (.int .i64 x0) ∧ V.cell? ⟨e0, 1, none⟩ = some (.int .i64 x1) ∧ V.cell? ⟨e0, 2, none⟩ = some (.int .i64 x2) ∧ V.cell? ⟨e0, 3, none⟩ = some (.int .i64 x3) ∧ V.cell? ⟨e0, 4, none⟩ = some (.int .i64 x4))) (by kernel_rfl) ⟨Bx.cell K_1.out 0 rfl, Bx.cell K_1.out 1 rfl, Bx.cell K_1.out 2 rfl, Bx.cell K_1.out 3 rfl, Bx.cell K_1.out 4 rfl⟩ (fun hHeld => ?_)
      (try simp only [Act.put, List.getElem_toArray, List.getElem_cons_zero, List.getElem_cons_succ, List.setIfInBounds_toArray, List.set_cons_zero, List.set_cons_succ])
      refine takes [0, 1] (by kernel_rfl) (fun _ _ _ _ _ h => h) (by assumption) ?_
      iterate 2 (refine ally_cons (v := ?_) rfl (Or.inl ⟨?_, fun w hSw => ?_⟩) ?_; rotate_left; rfl; ((try dsimp only at hSw); go_simp; try with_reducible rfl); (try simp only [Act.put, List.getElem_toArray, List.getElem_cons_zero, List.getElem_cons_succ, List.setIfInBounds_toArray, List.set_cons_zero, List.set_cons_succ]))
      refine ally_nil ?_
      refine wpAnyH_ready (rs := [2]) (by kernel_rfl) (by simp) ?_
      refine AllReadyH.cons (o := _) rfl (fun K hK => ?_) AllReadyH.nil
      go_simp
      refine (HA.out _ J_1.out).mono ?_
      rintro e y1 ⟨rfl, hb⟩
      have B_2 := Lib.hid (B_1.out.trans (Below.mono hb B_1.out.size))
      have J_2 := Lib.hid (Jd.below J_1.out hb)
      have K_2 := Lib.hid (Bx.below K_1.out hb)
      clear hb B_1 J_1 K_1
      clear hHeld
      refine hK.out _ _ ⟨Bx.cell K_2.out 0 rfl, Bx.cell K_2.out 1 rfl, Bx.cell K_2.out 2 rfl, Bx.cell K_2.out 3 rfl, Bx.cell K_2.out 4 rfl⟩ (fun hHeld => ?_)
      clear hK K
      (try simp only [Act.put, List.getElem_toArray, List.getElem_cons_zero, List.getElem_cons_succ, List.setIfInBounds_toArray, List.set_cons_zero, List.set_cons_succ])
      refine takes [3, 4, 5, 6, 7, 8] (by kernel_rfl) (fun _ _ _ _ _ h => h) (by assumption) ?_
      iterate 6 (refine ally_cons (v := ?_) rfl (Or.inl ⟨?_, fun w hSw => ?_⟩) ?_; rotate_left; rfl; ((try dsimp only at hSw); go_simp; try with_reducible rfl); (try simp only [Act.put, List.getElem_toArray, List.getElem_cons_zero, List.getElem_cons_succ, List.setIfInBounds_toArray, List.set_cons_zero, List.set_cons_succ, hfx0]))
      refine ally_nil ?_
      refine wpAnyH_ready (rs := [9]) (by kernel_rfl) (by simp) ?_
      refine AllReadyH.cons (o := _) rfl (fun K hK => ?_) AllReadyH.nil
      go_simp
      refine (HC5.out _ J_2.out).mono ?_
      rintro e y2 ⟨rfl, rfl⟩
      clear hHeld
      refine hK.out _ _ ⟨Bx.cell K_2.out 0 rfl, Bx.cell K_2.out 1 rfl, Bx.cell K_2.out 2 rfl, Bx.cell K_2.out 3 rfl, Bx.cell K_2.out 4 rfl⟩ (fun hHeld => ?_)
      clear hK K
      (try simp only [Act.put, List.getElem_toArray, List.getElem_cons_zero, List.getElem_cons_succ, List.setIfInBounds_toArray, List.set_cons_zero, List.set_cons_succ])
      refine takes [10, 11, 12, 13, 14, 15, 16, 17, 18, 19, 20, 21] (by kernel_rfl) (fun _ _ _ _ _ h => h) (by assumption) ?_
      iterate 12 (first | (refine ally_cons (v := ?_) rfl (Or.inl ⟨?_, fun w hSw => ?_⟩) ?_; rotate_left; rfl; ((try dsimp only at hSw); go_simp; try with_reducible rfl); (try simp only [Act.put, List.getElem_toArray, List.getElem_cons_zero, List.getElem_cons_succ, List.setIfInBounds_toArray, List.set_cons_zero, List.set_cons_succ, hfx0])) | (refine ally_cons (v := undef) rfl (Or.inr ⟨?_, rfl⟩) ?_; kernel_rfl; (try simp only [Act.put, List.getElem_toArray, List.getElem_cons_zero, List.getElem_cons_succ, List.setIfInBounds_toArray, List.set_cons_zero, List.set_cons_succ, hfx0])))
      refine ally_nil ?_
      refine wpAnyH_done (by kernel_rfl) ?_ _
      clear hHeld
      go_wp2_with fail
      go_ret
      exact ⟨ret_bool (by have d := HD.out; simp [d]), B_2.out⟩
    · have n0 := Classical.not_not.1 n0
      obtain ⟨n0t1, n0t2⟩ := eq_facts n0
      subst n0
      have hfx0 : (x3 == x3) = true := by simp
      have hb : Below v0.heap.size v0 v0.drew := (Below.refl _ _).drew
      have B_1 := Lib.hid (B_0.out.trans (Below.mono hb B_0.out.size))
      have J_1 := Lib.hid (Jd.below J_0.out hb)
      have K_1 := Lib.hid (Bx.below K_0.out hb)
      clear hb B_0 J_0 K_0
      refine wp_region_held_drew (S := (fun V => V.cell? ⟨e0, 0, none⟩ = some (.int .i64 x0) ∧ V.cell? ⟨e0, 1, none⟩ = some (.int .i64 x1) ∧ V.cell? ⟨e0, 2, none⟩ = some (.int .i64 x2) ∧ V.cell? ⟨e0, 3, none⟩ = some (.int .i64 x3) ∧ V.cell? ⟨e0, 4, none⟩ = some (.int .i64 x4))) (by kernel_rfl) ⟨Bx.cell K_1.out 0 rfl, Bx.cell K_1.out 1 rfl, Bx.cell K_1.out 2 rfl, Bx.cell K_1.out 3 rfl, Bx.cell K_1.out 4 rfl⟩ (fun hHeld => ?_)
      (try simp only [Act.put, List.getElem_toArray, List.getElem_cons_zero, List.getElem_cons_succ, List.setIfInBounds_toArray, List.set_cons_zero, List.set_cons_succ])
      refine takes [0, 1] (by kernel_rfl) (fun _ _ _ _ _ h => h) (by assumption) ?_
      iterate 2 (refine ally_cons (v := ?_) rfl (Or.inl ⟨?_, fun w hSw => ?_⟩) ?_; rotate_left; rfl; ((try dsimp only at hSw); go_simp; try with_reducible rfl); (try simp only [Act.put, List.getElem_toArray, List.getElem_cons_zero, List.getElem_cons_succ, List.setIfInBounds_toArray, List.set_cons_zero, List.set_cons_succ]))
      refine ally_nil ?_
      refine wpAnyH_ready (rs := [2]) (by kernel_rfl) (by simp) ?_
      refine AllReadyH.cons (o := _) rfl (fun K hK => ?_) AllReadyH.nil
      go_simp
      refine (HA.out _ J_1.out).mono ?_
      rintro e y1 ⟨rfl, hb⟩
      have B_2 := Lib.hid (B_1.out.trans (Below.mono hb B_1.out.size))
      have J_2 := Lib.hid (Jd.below J_1.out hb)
      have K_2 := Lib.hid (Bx.below K_1.out hb)
      clear hb B_1 J_1 K_1
      clear hHeld
      refine hK.out _ _ ⟨Bx.cell K_2.out 0 rfl, Bx.cell K_2.out 1 rfl, Bx.cell K_2.out 2 rfl, Bx.cell K_2.out 3 rfl, Bx.cell K_2.out 4 rfl⟩ (fun hHeld => ?_)
      clear hK K
      (try simp only [Act.put, List.getElem_toArray, List.getElem_cons_zero, List.getElem_cons_succ, List.setIfInBounds_toArray, List.set_cons_zero, List.set_cons_succ])
      refine takes [3, 4, 5, 6, 7, 8] (by kernel_rfl) (fun _ _ _ _ _ h => h) (by assumption) ?_
      iterate 6 (refine ally_cons (v := ?_) rfl (Or.inl ⟨?_, fun w hSw => ?_⟩) ?_; rotate_left; rfl; ((try dsimp only at hSw); go_simp; try with_reducible rfl); (try simp only [Act.put, List.getElem_toArray, List.getElem_cons_zero, List.getElem_cons_succ, List.setIfInBounds_toArray, List.set_cons_zero, List.set_cons_succ, hfx0]))
      refine ally_nil ?_
      refine wpAnyH_ready (rs := [9]) (by kernel_rfl) (by simp) ?_
      refine AllReadyH.cons (o := _) rfl (fun K hK => ?_) AllReadyH.nil
      go_simp
      refine (HC5.out _ J_2.out).mono ?_
      rintro e y2 ⟨rfl, rfl⟩
      clear hHeld
      refine hK.out _ _ ⟨Bx.cell K_2.out 0 rfl, Bx.cell K_2.out 1 rfl, Bx.cell K_2.out 2 rfl, Bx.cell K_2.out 3 rfl, Bx.cell K_2.out 4 rfl⟩ (fun hHeld => ?_)
      clear hK K
      (try simp only [Act.put, List.getElem_toArray, List.getElem_cons_zero, List.getElem_cons_succ, List.setIfInBounds_toArray, List.set_cons_zero, List.set_cons_succ])
      refine takes [10, 11, 12, 13, 14, 15, 16, 17] (by kernel_rfl) (fun _ _ _ _ _ h => h) (by assumption) ?_
      iterate 8 (refine ally_cons (v := ?_) rfl (Or.inl ⟨?_, fun w hSw => ?_⟩) ?_; rotate_left; rfl; ((try dsimp only at hSw); go_simp; try with_reducible rfl); (try simp only [Act.put, List.getElem_toArray, List.getElem_cons_zero, List.getElem_cons_succ, List.setIfInBounds_toArray, List.set_cons_zero, List.set_cons_succ, hfx0]))
      refine ally_nil ?_
      refine wpAnyH_ready (rs := [18]) (by kernel_rfl) (by simp) ?_
      refine AllReadyH.cons (o := _) rfl (fun K hK => ?_) AllReadyH.nil
      go_simp
      refine (HC3.out _ J_2.out).mono ?_
      rintro e y3 ⟨rfl, rfl⟩
      clear hHeld
      refine hK.out _ _ ⟨Bx.cell K_2.out 0 rfl, Bx.cell K_2.out 1 rfl, Bx.cell K_2.out 2 rfl, Bx.cell K_2.out 3 rfl, Bx.cell K_2.out 4 rfl⟩ (fun hHeld => ?_)
      clear hK K
      (try simp only [Act.put, List.getElem_toArray, List.getElem_cons_zero, List.getElem_cons_succ, List.setIfInBounds_toArray, List.set_cons_zero, List.set_cons_succ])
      refine takes [19, 20, 21] (by kernel_rfl) (fun _ _ _ _ _ h => h) (by assumption) ?_
      iterate 3 (refine ally_cons (v := ?_) rfl (Or.inl ⟨?_, fun w hSw => ?_⟩) ?_; rotate_left; rfl; ((try dsimp only at hSw); go_simp; try with_reducible rfl); (try simp only [Act.put, List.getElem_toArray, List.getElem_cons_zero, List.getElem_cons_succ, List.setIfInBounds_toArray, List.set_cons_zero, List.set_cons_succ]))
      refine ally_nil ?_
      refine wpAnyH_done (by kernel_rfl) ?_ _
      clear hHeld
      go_wp2_with fail
      go_ret
      exact ⟨ret_bool (by simp), B_2.out⟩
set_option maxRecDepth 100000 in
set_option maxHeartbeats 8000000 in
theorem locked_any (J : Nat) (p : JPlace) (caps : List Int) (L : List Ev) (k : Nat) (x : Ev) (w : World) (h : Jd w J p caps L k) (hok : EvOk x) (hpl : 0 ≤ x.g ∧ x.g < 8 ∧ x.start < (k : Int)) : Calls Try.prog 70 #[.pointer (some ⟨J, 0, none⟩), evV x] w (BoolTo w (decide (x.no = 0) && inB x 2 && endsB L k x 10 && decide (cntZ L 12 x.obj k = cntZ L 11 x.obj k))) := by
  have J_0 := Lib.hid (h.below (below_alloc w (.cells (evC x) 48)))
  have B_0 := Lib.hid (below_alloc w (.cells (evC x) 48))
  have K_0 := Lib.hid (Bx.new w (evC x) 48)
  clear h
  have hok' := hok
  have HI := Lib.hid (fun W => below_any x.obj 2 W)
  obtain ⟨ib, hib⟩ : ∃ z, z = inB x 2 := ⟨_, rfl⟩
  rw [show decide (0 ≤ x.obj ∧ x.obj < 2) = ib from hib.symm] at HI
  have HN := Lib.hid (fun W (h : Jd W J p caps L k) => ends_any J p caps L k x 10 W h hok hpl)
  unfold BoolTo evV evC at HN
  obtain ⟨eb, heb⟩ : ∃ z, z = endsB L k x 10 := ⟨_, rfl⟩
  rw [← heb] at HN
  have HC12 := Lib.hid (fun W (h : Jd W J p caps L k) => counted_any J p caps L k 12 x.obj W h ⟨by decide, by decide⟩ hok.2.2.1)
  have hcb12 := cntZ_le L 12 x.obj k
  obtain ⟨c12, hc12⟩ : ∃ z, z = cntZ L 12 x.obj k := ⟨_, rfl⟩
  rw [← hc12] at HC12 hcb12
  obtain ⟨hcl12, hcu12⟩ := hcb12
  have HC11 := Lib.hid (fun W (h : Jd W J p caps L k) => counted_any J p caps L k 11 x.obj W h ⟨by decide, by decide⟩ hok.2.2.1)
  have hcb11 := cntZ_le L 11 x.obj k
  obtain ⟨c11, hc11⟩ : ∃ z, z = cntZ L 11 x.obj k := ⟨_, rfl⟩
  rw [← hc11] at HC11 hcb11
  obtain ⟨hcl11, hcu11⟩ := hcb11
  rw [← hib, ← heb, ← hc12, ← hc11]
  clear hib heb hc12 hc11 hok'
  unfold evC at B_0 K_0 J_0
  unfold evV evC
  obtain ⟨x0, x1, x2, x3, x4⟩ := x
  unfold EvOk I64 at hok
  dsimp only at B_0 K_0 J_0 hok HI HN hpl HC12 HC11
  dsimp only
  obtain ⟨hok0, hok1, hok2, hok3, hok4⟩ := hok
  obtain ⟨e0, he0⟩ : ∃ z, z = w.heap.size := ⟨_, rfl⟩
  obtain ⟨v0, hv0⟩ : ∃ z, z = w.alloc (.cells #[.int .i64 x0, .int .i64 x1, .int .i64 x2, .int .i64 x3, .int .i64 x4] 48) := ⟨_, rfl⟩
  rw [← hv0] at B_0 K_0 J_0
  rw [← he0] at K_0
  have HE0 := Lib.hid he0; have HV0 := Lib.hid hv0
  clear he0 hv0
  go_enter Try.func70, Try.ntmps70
  go_upto_region 1 with (fail)
  rw [← HV0.out, ← HE0.out]
  by_cases n0 : ¬ x3 = 0
  · obtain ⟨n0f1, n0f2⟩ := ne_facts n0
    have HD := Lib.hid n0
    clear n0
    obtain ⟨z0, z1, z2, z3, z4⟩ := Bx.cells5 K_0.out
    go_wp2_with fail
    go_ret
    exact ⟨ret_bool (by have d := HD.out; simp [d]), B_0.out⟩
  · have n0 := Classical.not_not.1 n0
    obtain ⟨n0t1, n0t2⟩ := eq_facts n0
    subst n0
    obtain ⟨z0, z1, z2, z3, z4⟩ := Bx.cells5 K_0.out
    go_wp2_with fail
    refine (HI.out _).mono ?_
    rintro e q1 ⟨rfl, rfl⟩
    cases ib with
    | false =>
      go_wp2_with fail
      go_ret
      exact ⟨ret_bool (rfl), B_0.out⟩
    | true =>
      go_wp2_with fail
      clear z0 z1 z2 z3 z4
      refine (HN.out _ J_0.out).mono ?_
      rintro e y1 ⟨rfl, hb⟩
      have B_1 := Lib.hid (B_0.out.trans (Below.mono hb B_0.out.size))
      have J_1 := Lib.hid (Jd.below J_0.out hb)
      have K_1 := Lib.hid (Bx.below K_0.out hb)
      clear hb B_0 J_0 K_0
      cases eb with
      | false =>
        obtain ⟨z0, z1, z2, z3, z4⟩ := Bx.cells5 K_1.out
        go_wp2_with fail
        go_ret
        exact ⟨ret_bool (rfl), B_1.out⟩
      | true =>
        by_cases d0 : c12 = c11
        · obtain ⟨d0t1, d0t2⟩ := eq_facts d0
          have HD := Lib.hid d0
          clear d0
          obtain ⟨z0, z1, z2, z3, z4⟩ := Bx.cells5 K_1.out
          go_wp2_with fail
          clear z0 z1 z2 z3 z4
          have hb : Below y1.heap.size y1 y1.drew := (Below.refl _ _).drew
          have B_2 := Lib.hid (B_1.out.trans (Below.mono hb B_1.out.size))
          have J_2 := Lib.hid (Jd.below J_1.out hb)
          have K_2 := Lib.hid (Bx.below K_1.out hb)
          clear hb B_1 J_1 K_1
          refine wp_region_held_drew (S := (fun V => V.cell? ⟨e0, 0, none⟩ = some (.int .i64 x0) ∧ V.cell? ⟨e0, 1, none⟩ = some (.int .i64 x1) ∧ V.cell? ⟨e0, 2, none⟩ = some (.int .i64 x2) ∧ V.cell? ⟨e0, 3, none⟩ = some (.int .i64 0) ∧ V.cell? ⟨e0, 4, none⟩ = some (.int .i64 x4))) (by kernel_rfl) ⟨Bx.cell K_2.out 0 rfl, Bx.cell K_2.out 1 rfl, Bx.cell K_2.out 2 rfl, Bx.cell K_2.out 3 rfl, Bx.cell K_2.out 4 rfl⟩ (fun hHeld => ?_)
          (try simp only [Act.put, List.getElem_toArray, List.getElem_cons_zero, List.getElem_cons_succ, List.setIfInBounds_toArray, List.set_cons_zero, List.set_cons_succ])
          refine takes [0, 1, 2, 4, 5, 6] (by kernel_rfl) (fun _ _ _ _ _ h => h) (by assumption) ?_
          iterate 6 (refine ally_cons (v := ?_) rfl (Or.inl ⟨?_, fun w hSw => ?_⟩) ?_; rotate_left; rfl; ((try dsimp only at hSw); go_simp; try with_reducible rfl); (try simp only [Act.put, List.getElem_toArray, List.getElem_cons_zero, List.getElem_cons_succ, List.setIfInBounds_toArray, List.set_cons_zero, List.set_cons_succ]))
          refine ally_nil ?_
          refine wpAnyH_ready (rs := [3]) (by kernel_rfl) (by simp) ?_
          refine AllReadyH.cons (o := _) rfl (fun K hK => ?_) AllReadyH.nil
          go_simp
          refine (HC12.out _ J_2.out).mono ?_
          rintro e y2 ⟨rfl, rfl⟩
          clear hHeld
          refine hK.out _ _ ⟨Bx.cell K_2.out 0 rfl, Bx.cell K_2.out 1 rfl, Bx.cell K_2.out 2 rfl, Bx.cell K_2.out 3 rfl, Bx.cell K_2.out 4 rfl⟩ (fun hHeld => ?_)
          clear hK K
          (try simp only [Act.put, List.getElem_toArray, List.getElem_cons_zero, List.getElem_cons_succ, List.setIfInBounds_toArray, List.set_cons_zero, List.set_cons_succ])
          refine wpAnyH_ready (rs := [7]) (by kernel_rfl) (by simp) ?_
          refine AllReadyH.cons (o := _) rfl (fun K hK => ?_) AllReadyH.nil
          go_simp
          refine (HC11.out _ J_2.out).mono ?_
          rintro e y3 ⟨rfl, rfl⟩
          clear hHeld
          refine hK.out _ _ ⟨Bx.cell K_2.out 0 rfl, Bx.cell K_2.out 1 rfl, Bx.cell K_2.out 2 rfl, Bx.cell K_2.out 3 rfl, Bx.cell K_2.out 4 rfl⟩ (fun hHeld => ?_)
          clear hK K
          (try simp only [Act.put, List.getElem_toArray, List.getElem_cons_zero, List.getElem_cons_succ, List.setIfInBounds_toArray, List.set_cons_zero, List.set_cons_succ])
          refine takes [8, 9] (by kernel_rfl) (fun _ _ _ _ _ h => h) (by assumption) ?_
          iterate 2 (refine ally_cons (v := ?_) rfl (Or.inl ⟨?_, fun w hSw => ?_⟩) ?_; rotate_left; rfl; ((try dsimp only at hSw); go_simp; try with_reducible rfl); (try simp only [Act.put, List.getElem_toArray, List.getElem_cons_zero, List.getElem_cons_succ, List.setIfInBounds_toArray, List.set_cons_zero, List.set_cons_succ]))
          refine ally_nil ?_
          refine wpAnyH_done (by kernel_rfl) ?_ _
          clear hHeld
          (try simp only [d0t1, d0f1])
          go_wp2_with fail
          go_ret
          exact ⟨ret_bool (by have d := HD.out; simp [d]), B_2.out⟩
        · obtain ⟨d0f1, d0f2⟩ := ne_facts d0
          have HD := Lib.hid d0
          clear d0
          obtain ⟨z0, z1, z2, z3, z4⟩ := Bx.cells5 K_1.out
          go_wp2_with fail
          clear z0 z1 z2 z3 z4
          have hb : Below y1.heap.size y1 y1.drew := (Below.refl _ _).drew
          have B_2 := Lib.hid (B_1.out.trans (Below.mono hb B_1.out.size))
          have J_2 := Lib.hid (Jd.below J_1.out hb)
          have K_2 := Lib.hid (Bx.below K_1.out hb)
          clear hb B_1 J_1 K_1
          refine wp_region_held_drew (S := (fun V => V.cell? ⟨e0, 0, none⟩ = some (.int .i64 x0) ∧ V.cell? ⟨e0, 1, none⟩ = some (.int .i64 x1) ∧ V.cell? ⟨e0, 2, none⟩ = some (.int .i64 x2) ∧ V.cell? ⟨e0, 3, none⟩ = some (.int .i64 0) ∧ V.cell? ⟨e0, 4, none⟩ = some (.int .i64 x4))) (by kernel_rfl) ⟨Bx.cell K_2.out 0 rfl, Bx.cell K_2.out 1 rfl, Bx.cell K_2.out 2 rfl, Bx.cell K_2.out 3 rfl, Bx.cell K_2.out 4 rfl⟩ (fun hHeld => ?_)
          (try simp only [Act.put, List.getElem_toArray, List.getElem_cons_zero, List.getElem_cons_succ, List.setIfInBounds_toArray, List.set_cons_zero, List.set_cons_succ])
          refine takes [0, 1, 2, 4, 5, 6] (by kernel_rfl) (fun _ _ _ _ _ h => h) (by assumption) ?_
          iterate 6 (refine ally_cons (v := ?_) rfl (Or.inl ⟨?_, fun w hSw => ?_⟩) ?_; rotate_left; rfl; ((try dsimp only at hSw); go_simp; try with_reducible rfl); (try simp only [Act.put, List.getElem_toArray, List.getElem_cons_zero, List.getElem_cons_succ, List.setIfInBounds_toArray, List.set_cons_zero, List.set_cons_succ]))
          refine ally_nil ?_
          refine wpAnyH_ready (rs := [3]) (by kernel_rfl) (by simp) ?_
          refine AllReadyH.cons (o := _) rfl (fun K hK => ?_) AllReadyH.nil
          go_simp
          refine (HC12.out _ J_2.out).mono ?_
          rintro e y2 ⟨rfl, rfl⟩
          clear hHeld
          refine hK.out _ _ ⟨Bx.cell K_2.out 0 rfl, Bx.cell K_2.out 1 rfl, Bx.cell K_2.out 2 rfl, Bx.cell K_2.out 3 rfl, Bx.cell K_2.out 4 rfl⟩ (fun hHeld => ?_)
          clear hK K
          (try simp only [Act.put, List.getElem_toArray, List.getElem_cons_zero, List.getElem_cons_succ, List.setIfInBounds_toArray, List.set_cons_zero, List.set_cons_succ])
          refine wpAnyH_ready (rs := [7]) (by kernel_rfl) (by simp) ?_
          refine AllReadyH.cons (o := _) rfl (fun K hK => ?_) AllReadyH.nil
          go_simp
          refine (HC11.out _ J_2.out).mono ?_
          rintro e y3 ⟨rfl, rfl⟩
          clear hHeld
          refine hK.out _ _ ⟨Bx.cell K_2.out 0 rfl, Bx.cell K_2.out 1 rfl, Bx.cell K_2.out 2 rfl, Bx.cell K_2.out 3 rfl, Bx.cell K_2.out 4 rfl⟩ (fun hHeld => ?_)
          clear hK K
          (try simp only [Act.put, List.getElem_toArray, List.getElem_cons_zero, List.getElem_cons_succ, List.setIfInBounds_toArray, List.set_cons_zero, List.set_cons_succ])
          refine takes [8, 9] (by kernel_rfl) (fun _ _ _ _ _ h => h) (by assumption) ?_
          iterate 2 (refine ally_cons (v := ?_) rfl (Or.inl ⟨?_, fun w hSw => ?_⟩) ?_; rotate_left; rfl; ((try dsimp only at hSw); go_simp; try with_reducible rfl); (try simp only [Act.put, List.getElem_toArray, List.getElem_cons_zero, List.getElem_cons_succ, List.setIfInBounds_toArray, List.set_cons_zero, List.set_cons_succ]))
          refine ally_nil ?_
          refine wpAnyH_done (by kernel_rfl) ?_ _
          clear hHeld
          (try simp only [d0t1, d0f1])
          go_wp2_with fail
          go_ret
          exact ⟨ret_bool (by have d := HD.out; simp [d]), B_2.out⟩
set_option maxRecDepth 100000 in
set_option maxHeartbeats 8000000 in
theorem none_any (J : Nat) (p : JPlace) (caps : List Int) (L : List Ev) (k : Nat) (x : Ev) (w : World) (h : Jd w J p caps L k) (hok : EvOk x) (hpl : 0 ≤ x.g ∧ x.g < 8 ∧ x.start < (k : Int)) : Calls Try.prog 62 #[.pointer (some ⟨J, 0, none⟩), evV x] w (BoolTo w (passesB caps L k x 4 && decide (x.no = 0) && decide (¬ cntZ L 7 x.obj k = 0) && decide (cntZ L 5 x.obj k = cntZ L 3 x.obj k))) := by
  have J_0 := Lib.hid (h.below (below_alloc w (.cells (evC x) 48)))
  have B_0 := Lib.hid (below_alloc w (.cells (evC x) 48))
  have K_0 := Lib.hid (Bx.new w (evC x) 48)
  clear h
  have hok' := hok
  have HA := Lib.hid (fun W (h : Jd W J p caps L k) => passes_any J p caps L k x 4 W h hok hpl)
  unfold BoolTo evV evC at HA
  obtain ⟨pb, hpb⟩ : ∃ z, z = passesB caps L k x 4 := ⟨_, rfl⟩
  rw [← hpb] at HA
  have HC7 := Lib.hid (fun W (h : Jd W J p caps L k) => counted_any J p caps L k 7 x.obj W h ⟨by decide, by decide⟩ hok.2.2.1)
  have hcb7 := cntZ_le L 7 x.obj k
  obtain ⟨c7, hc7⟩ : ∃ z, z = cntZ L 7 x.obj k := ⟨_, rfl⟩
  rw [← hc7] at HC7 hcb7
  obtain ⟨hcl7, hcu7⟩ := hcb7
  have HC5 := Lib.hid (fun W (h : Jd W J p caps L k) => counted_any J p caps L k 5 x.obj W h ⟨by decide, by decide⟩ hok.2.2.1)
  have hcb5 := cntZ_le L 5 x.obj k
  obtain ⟨c5, hc5⟩ : ∃ z, z = cntZ L 5 x.obj k := ⟨_, rfl⟩
  rw [← hc5] at HC5 hcb5
  obtain ⟨hcl5, hcu5⟩ := hcb5
  have HC3 := Lib.hid (fun W (h : Jd W J p caps L k) => counted_any J p caps L k 3 x.obj W h ⟨by decide, by decide⟩ hok.2.2.1)
  have hcb3 := cntZ_le L 3 x.obj k
  obtain ⟨c3, hc3⟩ : ∃ z, z = cntZ L 3 x.obj k := ⟨_, rfl⟩
  rw [← hc3] at HC3 hcb3
  obtain ⟨hcl3, hcu3⟩ := hcb3
  rw [← hpb, ← hc7, ← hc5, ← hc3]
  clear hpb hc7 hc5 hc3 hok'
  unfold evC at B_0 K_0 J_0
  unfold evV evC
  obtain ⟨x0, x1, x2, x3, x4⟩ := x
  unfold EvOk I64 at hok
  dsimp only at B_0 K_0 J_0 hok HA hpl HC7 HC5 HC3
  dsimp only
  obtain ⟨hok0, hok1, hok2, hok3, hok4⟩ := hok
  obtain ⟨e0, he0⟩ : ∃ z, z = w.heap.size := ⟨_, rfl⟩
  obtain ⟨v0, hv0⟩ : ∃ z, z = w.alloc (.cells #[.int .i64 x0, .int .i64 x1, .int .i64 x2, .int .i64 x3, .int .i64 x4] 48) := ⟨_, rfl⟩
  rw [← hv0] at B_0 K_0 J_0
  rw [← he0] at K_0
  have HE0 := Lib.hid he0; have HV0 := Lib.hid hv0
  clear he0 hv0
  go_enter Try.func62, Try.ntmps62
  go_upto_region 1 with (fail)
  rw [← HV0.out, ← HE0.out]
  obtain ⟨z0, z1, z2, z3, z4⟩ := Bx.cells5 K_0.out
  go_wp2_with fail
  clear z0 z1 z2 z3 z4
  refine (HA.out _ J_0.out).mono ?_
  rintro e y1 ⟨rfl, hb⟩
  have B_1 := Lib.hid (B_0.out.trans (Below.mono hb B_0.out.size))
  have J_1 := Lib.hid (Jd.below J_0.out hb)
  have K_1 := Lib.hid (Bx.below K_0.out hb)
  clear hb B_0 J_0 K_0
  cases pb with
  | false =>
    obtain ⟨z0, z1, z2, z3, z4⟩ := Bx.cells5 K_1.out
    go_wp2_with fail
    go_ret
    exact ⟨ret_bool (rfl), B_1.out⟩
  | true =>
    by_cases n0 : ¬ x3 = 0
    · obtain ⟨n0f1, n0f2⟩ := ne_facts n0
      have HD := Lib.hid n0
      clear n0
      obtain ⟨z0, z1, z2, z3, z4⟩ := Bx.cells5 K_1.out
      go_wp2_with fail
      go_ret
      exact ⟨ret_bool (by have d := HD.out; simp [d]), B_1.out⟩
    · have n0 := Classical.not_not.1 n0
      obtain ⟨n0t1, n0t2⟩ := eq_facts n0
      subst n0
      obtain ⟨z0, z1, z2, z3, z4⟩ := Bx.cells5 K_1.out
      go_wp2_with fail
      refine (HC7.out _ J_1.out).mono ?_
      rintro e q1 ⟨rfl, rfl⟩
      clear z0 z1 z2 z3 z4
      by_cases z7 : c7 = 0
      · obtain ⟨z7t1, z7t2⟩ := eq_facts z7
        have HD := Lib.hid z7
        clear z7
        obtain ⟨z0, z1, z2, z3, z4⟩ := Bx.cells5 K_1.out
        go_wp2_with fail
        go_ret
        exact ⟨ret_bool (by have d := HD.out; simp [d]), B_1.out⟩
      · obtain ⟨z7f1, z7f2⟩ := ne_facts z7
        have HD7 := Lib.hid z7
        clear z7
        by_cases d0 : c5 = c3
        · obtain ⟨d0t1, d0t2⟩ := eq_facts d0
          have HD := Lib.hid d0
          clear d0
          obtain ⟨z0, z1, z2, z3, z4⟩ := Bx.cells5 K_1.out
          go_wp2_with fail
          clear z0 z1 z2 z3 z4
          have hb : Below y1.heap.size y1 y1.drew := (Below.refl _ _).drew
          have B_2 := Lib.hid (B_1.out.trans (Below.mono hb B_1.out.size))
          have J_2 := Lib.hid (Jd.below J_1.out hb)
          have K_2 := Lib.hid (Bx.below K_1.out hb)
          clear hb B_1 J_1 K_1
          refine wp_region_held_drew (S := (fun V => V.cell? ⟨e0, 0, none⟩ = some (.int .i64 x0) ∧ V.cell? ⟨e0, 1, none⟩ = some (.int .i64 x1) ∧ V.cell? ⟨e0, 2, none⟩ = some (.int .i64 x2) ∧ V.cell? ⟨e0, 3, none⟩ = some (.int .i64 0) ∧ V.cell? ⟨e0, 4, none⟩ = some (.int .i64 x4))) (by kernel_rfl) ⟨Bx.cell K_2.out 0 rfl, Bx.cell K_2.out 1 rfl, Bx.cell K_2.out 2 rfl, Bx.cell K_2.out 3 rfl, Bx.cell K_2.out 4 rfl⟩ (fun hHeld => ?_)
          (try simp only [Act.put, List.getElem_toArray, List.getElem_cons_zero, List.getElem_cons_succ, List.setIfInBounds_toArray, List.set_cons_zero, List.set_cons_succ])
          refine takes [0, 1, 2, 4, 5, 6] (by kernel_rfl) (fun _ _ _ _ _ h => h) (by assumption) ?_
          iterate 6 (refine ally_cons (v := ?_) rfl (Or.inl ⟨?_, fun w hSw => ?_⟩) ?_; rotate_left; rfl; ((try dsimp only at hSw); go_simp; try with_reducible rfl); (try simp only [Act.put, List.getElem_toArray, List.getElem_cons_zero, List.getElem_cons_succ, List.setIfInBounds_toArray, List.set_cons_zero, List.set_cons_succ]))
          refine ally_nil ?_
          refine wpAnyH_ready (rs := [3]) (by kernel_rfl) (by simp) ?_
          refine AllReadyH.cons (o := _) rfl (fun K hK => ?_) AllReadyH.nil
          go_simp
          refine (HC5.out _ J_2.out).mono ?_
          rintro e y2 ⟨rfl, rfl⟩
          clear hHeld
          refine hK.out _ _ ⟨Bx.cell K_2.out 0 rfl, Bx.cell K_2.out 1 rfl, Bx.cell K_2.out 2 rfl, Bx.cell K_2.out 3 rfl, Bx.cell K_2.out 4 rfl⟩ (fun hHeld => ?_)
          clear hK K
          (try simp only [Act.put, List.getElem_toArray, List.getElem_cons_zero, List.getElem_cons_succ, List.setIfInBounds_toArray, List.set_cons_zero, List.set_cons_succ])
          refine wpAnyH_ready (rs := [7]) (by kernel_rfl) (by simp) ?_
          refine AllReadyH.cons (o := _) rfl (fun K hK => ?_) AllReadyH.nil
          go_simp
          refine (HC3.out _ J_2.out).mono ?_
          rintro e y3 ⟨rfl, rfl⟩
          clear hHeld
          refine hK.out _ _ ⟨Bx.cell K_2.out 0 rfl, Bx.cell K_2.out 1 rfl, Bx.cell K_2.out 2 rfl, Bx.cell K_2.out 3 rfl, Bx.cell K_2.out 4 rfl⟩ (fun hHeld => ?_)
          clear hK K
          (try simp only [Act.put, List.getElem_toArray, List.getElem_cons_zero, List.getElem_cons_succ, List.setIfInBounds_toArray, List.set_cons_zero, List.set_cons_succ])
          refine takes [8, 9] (by kernel_rfl) (fun _ _ _ _ _ h => h) (by assumption) ?_
          iterate 2 (refine ally_cons (v := ?_) rfl (Or.inl ⟨?_, fun w hSw => ?_⟩) ?_; rotate_left; rfl; ((try dsimp only at hSw); go_simp; try with_reducible rfl); (try simp only [Act.put, List.getElem_toArray, List.getElem_cons_zero, List.getElem_cons_succ, List.setIfInBounds_toArray, List.set_cons_zero, List.set_cons_succ]))
          refine ally_nil ?_
          refine wpAnyH_done (by kernel_rfl) ?_ _
          clear hHeld
          (try simp only [d0t1, d0f1])
          go_wp2_with fail
          go_ret
          exact ⟨ret_bool (by have d := HD.out; have d7 := HD7.out; simp [d, d7]), B_2.out⟩
        · obtain ⟨d0f1, d0f2⟩ := ne_facts d0
          have HD := Lib.hid d0
          clear d0
          obtain ⟨z0, z1, z2, z3, z4⟩ := Bx.cells5 K_1.out
          go_wp2_with fail
          clear z0 z1 z2 z3 z4
          have hb : Below y1.heap.size y1 y1.drew := (Below.refl _ _).drew
          have B_2 := Lib.hid (B_1.out.trans (Below.mono hb B_1.out.size))
          have J_2 := Lib.hid (Jd.below J_1.out hb)
          have K_2 := Lib.hid (Bx.below K_1.out hb)
          clear hb B_1 J_1 K_1
          refine wp_region_held_drew (S := (fun V => V.cell? ⟨e0, 0, none⟩ = some (.int .i64 x0) ∧ V.cell? ⟨e0, 1, none⟩ = some (.int .i64 x1) ∧ V.cell? ⟨e0, 2, none⟩ = some (.int .i64 x2) ∧ V.cell? ⟨e0, 3, none⟩ = some (.int .i64 0) ∧ V.cell? ⟨e0, 4, none⟩ = some (.int .i64 x4))) (by kernel_rfl) ⟨Bx.cell K_2.out 0 rfl, Bx.cell K_2.out 1 rfl, Bx.cell K_2.out 2 rfl, Bx.cell K_2.out 3 rfl, Bx.cell K_2.out 4 rfl⟩ (fun hHeld => ?_)
          (try simp only [Act.put, List.getElem_toArray, List.getElem_cons_zero, List.getElem_cons_succ, List.setIfInBounds_toArray, List.set_cons_zero, List.set_cons_succ])
          refine takes [0, 1, 2, 4, 5, 6] (by kernel_rfl) (fun _ _ _ _ _ h => h) (by assumption) ?_
          iterate 6 (refine ally_cons (v := ?_) rfl (Or.inl ⟨?_, fun w hSw => ?_⟩) ?_; rotate_left; rfl; ((try dsimp only at hSw); go_simp; try with_reducible rfl); (try simp only [Act.put, List.getElem_toArray, List.getElem_cons_zero, List.getElem_cons_succ, List.setIfInBounds_toArray, List.set_cons_zero, List.set_cons_succ]))
          refine ally_nil ?_
          refine wpAnyH_ready (rs := [3]) (by kernel_rfl) (by simp) ?_
          refine AllReadyH.cons (o := _) rfl (fun K hK => ?_) AllReadyH.nil
          go_simp
          refine (HC5.out _ J_2.out).mono ?_
          rintro e y2 ⟨rfl, rfl⟩
          clear hHeld
          refine hK.out _ _ ⟨Bx.cell K_2.out 0 rfl, Bx.cell K_2.out 1 rfl, Bx.cell K_2.out 2 rfl, Bx.cell K_2.out 3 rfl, Bx.cell K_2.out 4 rfl⟩ (fun hHeld => ?_)
          clear hK K
          (try simp only [Act.put, List.getElem_toArray, List.getElem_cons_zero, List.getElem_cons_succ, List.setIfInBounds_toArray, List.set_cons_zero, List.set_cons_succ])
          refine wpAnyH_ready (rs := [7]) (by kernel_rfl) (by simp) ?_
          refine AllReadyH.cons (o := _) rfl (fun K hK => ?_) AllReadyH.nil
          go_simp
          refine (HC3.out _ J_2.out).mono ?_
          rintro e y3 ⟨rfl, rfl⟩
          clear hHeld
          refine hK.out _ _ ⟨Bx.cell K_2.out 0 rfl, Bx.cell K_2.out 1 rfl, Bx.cell K_2.out 2 rfl, Bx.cell K_2.out 3 rfl, Bx.cell K_2.out 4 rfl⟩ (fun hHeld => ?_)
          clear hK K
          (try simp only [Act.put, List.getElem_toArray, List.getElem_cons_zero, List.getElem_cons_succ, List.setIfInBounds_toArray, List.set_cons_zero, List.set_cons_succ])
          refine takes [8, 9] (by kernel_rfl) (fun _ _ _ _ _ h => h) (by assumption) ?_
          iterate 2 (refine ally_cons (v := ?_) rfl (Or.inl ⟨?_, fun w hSw => ?_⟩) ?_; rotate_left; rfl; ((try dsimp only at hSw); go_simp; try with_reducible rfl); (try simp only [Act.put, List.getElem_toArray, List.getElem_cons_zero, List.getElem_cons_succ, List.setIfInBounds_toArray, List.set_cons_zero, List.set_cons_succ]))
          refine ally_nil ?_
          refine wpAnyH_done (by kernel_rfl) ?_ _
          clear hHeld
          (try simp only [d0t1, d0f1])
          go_wp2_with fail
          go_ret
          exact ⟨ret_bool (by have d := HD.out; have d7 := HD7.out; simp [d, d7]), B_2.out⟩
end Go.Proofs.Ytjkbmenmpnidhaa
