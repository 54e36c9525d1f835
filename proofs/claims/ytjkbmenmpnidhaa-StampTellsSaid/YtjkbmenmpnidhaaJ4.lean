/- what is asked of an event: the program. -/
import Derived.Test.YtjkbmenmpnidhaaJ3
namespace Go.Proofs.Ytjkbmenmpnidhaa
open Go.RowKit
set_option linter.unusedSimpArgs false
set_option linter.unusedVariables false
set_option maxRecDepth 100000 in
set_option maxHeartbeats 8000000 in
theorem close_any (J : Nat) (p : JPlace) (caps : List Int) (L : List Ev) (k : Nat) (x : Ev) (w : World) (h : Jd w J p caps L k) (hok : EvOk x) : Calls Try.prog 63 #[.pointer (some ⟨J, 0, none⟩), evV x] w (BoolTo w (bareB x && openB caps x && decide (cntZ L 7 x.obj k = 0))) := by
  have J_0 := Lib.hid (h.below (below_alloc w (.cells (evC x) 48)))
  have B_0 := Lib.hid (below_alloc w (.cells (evC x) 48))
  have K_0 := Lib.hid (Bx.new w (evC x) 48)
  clear h
  rw [show (bareB x && openB caps x && decide (cntZ L 7 x.obj k = 0)) = (bareB x && openB caps x && decide (cntZ L 7 x.obj k = 0)) from rfl]
  have hok' := hok
  have HB := Lib.hid (fun W => bare_any x W)
  unfold BoolTo evV evC at HB
  obtain ⟨bb, hbb⟩ : ∃ z, z = bareB x := ⟨_, rfl⟩
  rw [show decide (x.start = -1 ∧ x.no = 0) = bb from hbb.symm] at HB
  have HO := Lib.hid (fun W (h : Jd W J p caps L k) => open_any J p caps L k x W h hok)
  unfold BoolTo evV evC at HO
  obtain ⟨ob, hob⟩ : ∃ z, z = openB caps x := ⟨_, rfl⟩
  rw [← hob] at HO
  have HC7 := Lib.hid (fun W (h : Jd W J p caps L k) => counted_any J p caps L k 7 x.obj W h ⟨by decide, by decide⟩ hok.2.2.1)
  have hcb7 := cntZ_le L 7 x.obj k
  obtain ⟨c7, hc7⟩ : ∃ z, z = cntZ L 7 x.obj k := ⟨_, rfl⟩
  rw [← hc7] at HC7 hcb7
  obtain ⟨hcl7, hcu7⟩ := hcb7
  rw [← hbb, ← hob, ← hc7]
  clear hbb hob hc7 hok'
  unfold evC at B_0 K_0 J_0
  unfold evV evC
  obtain ⟨x0, x1, x2, x3, x4⟩ := x
  unfold EvOk I64 at hok
  dsimp only at B_0 K_0 J_0 hok HB HO HC7
  dsimp only
  obtain ⟨hok0, hok1, hok2, hok3, hok4⟩ := hok
  obtain ⟨e0, he0⟩ : ∃ z, z = w.heap.size := ⟨_, rfl⟩
  obtain ⟨v0, hv0⟩ : ∃ z, z = w.alloc (.cells #[.int .i64 x0, .int .i64 x1, .int .i64 x2, .int .i64 x3, .int .i64 x4] 48) := ⟨_, rfl⟩
  rw [← hv0] at B_0 K_0 J_0
  rw [← he0] at K_0
  have HE0 := Lib.hid he0; have HV0 := Lib.hid hv0
  clear he0 hv0
  go_enter Try.func63, Try.ntmps63
  go_upto_region 1 with (fail)
  rw [← HV0.out, ← HE0.out]
  obtain ⟨z0, z1, z2, z3, z4⟩ := Bx.cells5 K_0.out
  go_wp2_with fail
  clear z0 z1 z2 z3 z4
  refine (HB.out _).mono ?_
  rintro e y1 ⟨rfl, hb⟩
  have B_1 := Lib.hid (B_0.out.trans (Below.mono hb B_0.out.size))
  have J_1 := Lib.hid (Jd.below J_0.out hb)
  have K_1 := Lib.hid (Bx.below K_0.out hb)
  clear hb B_0 J_0 K_0
  cases bb with
  | false =>
    obtain ⟨z0, z1, z2, z3, z4⟩ := Bx.cells5 K_1.out
    go_wp2_with fail
    go_ret
    exact ⟨ret_bool (rfl), B_1.out⟩
  | true =>
    obtain ⟨z0, z1, z2, z3, z4⟩ := Bx.cells5 K_1.out
    go_wp2_with fail
    clear z0 z1 z2 z3 z4
    refine (HO.out _ J_1.out).mono ?_
    rintro e y2 ⟨rfl, hb⟩
    have B_2 := Lib.hid (B_1.out.trans (Below.mono hb B_1.out.size))
    have J_2 := Lib.hid (Jd.below J_1.out hb)
    have K_2 := Lib.hid (Bx.below K_1.out hb)
    clear hb B_1 J_1 K_1
    cases ob with
    | false =>
      obtain ⟨z0, z1, z2, z3, z4⟩ := Bx.cells5 K_2.out
      go_wp2_with fail
      go_ret
      exact ⟨ret_bool (rfl), B_2.out⟩
    | true =>
      obtain ⟨z0, z1, z2, z3, z4⟩ := Bx.cells5 K_2.out
      go_wp2_with fail
      refine (HC7.out _ J_2.out).mono ?_
      rintro e q1 ⟨rfl, rfl⟩
      by_cases d0 : c7 = 0
      · obtain ⟨d0t1, d0t2⟩ := eq_facts d0
        go_wp2_with fail
        go_ret
        exact ⟨ret_bool (by rw [decide_eq_true d0]; rfl), B_2.out⟩
      · obtain ⟨d0f1, d0f2⟩ := ne_facts d0
        go_wp2_with fail
        go_ret
        exact ⟨ret_bool (by rw [decide_eq_false d0]; rfl), B_2.out⟩
set_option maxRecDepth 100000 in
set_option maxHeartbeats 8000000 in
theorem default_any (J : Nat) (p : JPlace) (caps : List Int) (L : List Ev) (k : Nat) (x : Ev) (w : World) (h : Jd w J p caps L k) (hok : EvOk x) (hpl : 0 ≤ x.g ∧ x.g < 8 ∧ x.start < (k : Int)) : Calls Try.prog 67 #[.pointer (some ⟨J, 0, none⟩), evV x] w (BoolTo w (decide (x.no = 0) && inB x 4 && endsB L k x 8)) := by
  have J_0 := Lib.hid (h.below (below_alloc w (.cells (evC x) 48)))
  have B_0 := Lib.hid (below_alloc w (.cells (evC x) 48))
  have K_0 := Lib.hid (Bx.new w (evC x) 48)
  clear h
  have hok' := hok
  have HI := Lib.hid (fun W => below_any x.obj 4 W)
  obtain ⟨ib, hib⟩ : ∃ z, z = inB x 4 := ⟨_, rfl⟩
  rw [show decide (0 ≤ x.obj ∧ x.obj < 4) = ib from hib.symm] at HI
  have HN := Lib.hid (fun W (h : Jd W J p caps L k) => ends_any J p caps L k x 8 W h hok hpl)
  unfold BoolTo evV evC at HN
  obtain ⟨eb, heb⟩ : ∃ z, z = endsB L k x 8 := ⟨_, rfl⟩
  rw [← heb] at HN
  rw [← hib, ← heb]
  clear hib heb hok'
  unfold evC at B_0 K_0 J_0
  unfold evV evC
  obtain ⟨x0, x1, x2, x3, x4⟩ := x
  unfold EvOk I64 at hok
  dsimp only at B_0 K_0 J_0 hok HI HN
  dsimp only
  obtain ⟨hok0, hok1, hok2, hok3, hok4⟩ := hok
  obtain ⟨e0, he0⟩ : ∃ z, z = w.heap.size := ⟨_, rfl⟩
  obtain ⟨v0, hv0⟩ : ∃ z, z = w.alloc (.cells #[.int .i64 x0, .int .i64 x1, .int .i64 x2, .int .i64 x3, .int .i64 x4] 48) := ⟨_, rfl⟩
  rw [← hv0] at B_0 K_0 J_0
  rw [← he0] at K_0
  have HE0 := Lib.hid he0; have HV0 := Lib.hid hv0
  clear he0 hv0
  go_enter Try.func67, Try.ntmps67
  go_upto_region 1 with (fail)
  rw [← HV0.out, ← HE0.out]
  by_cases n0 : ¬ x3 = 0
  · obtain ⟨n0f1, n0f2⟩ := ne_facts n0
    rw [decide_eq_false n0]
    obtain ⟨z0, z1, z2, z3, z4⟩ := Bx.cells5 K_0.out
    go_wp2_with fail
    go_ret
    exact ⟨ret_bool (rfl), B_0.out⟩
  · have n0 := Classical.not_not.1 n0
    obtain ⟨n0t1, n0t2⟩ := eq_facts n0
    rw [decide_eq_true n0]
    subst n0
    obtain ⟨z0, z1, z2, z3, z4⟩ := Bx.cells5 K_0.out
    go_wp2_with fail
    refine (HI.out _).mono ?_
    rintro e q1 ⟨rfl, rfl⟩
    cases ib with
    | false =>
      go_wp2_with fail
      go_ret
      exact ⟨ret_bool (rfl), B_0.out⟩
    | true =>
      go_wp2_with fail
      clear z0 z1 z2 z3 z4
      refine (HN.out _ J_0.out).mono ?_
      rintro e y1 ⟨rfl, hb⟩
      have B_1 := Lib.hid (B_0.out.trans (Below.mono hb B_0.out.size))
      have J_1 := Lib.hid (Jd.below J_0.out hb)
      have K_1 := Lib.hid (Bx.below K_0.out hb)
      clear hb B_0 J_0 K_0
      go_wp2_with fail
      go_ret
      exact ⟨ret_bool (by cases eb <;> rfl), B_1.out⟩
set_option maxRecDepth 100000 in
set_option maxHeartbeats 8000000 in
theorem skip_any (J : Nat) (p : JPlace) (caps : List Int) (L : List Ev) (k : Nat) (x : Ev) (w : World) (h : Jd w J p caps L k) (hok : EvOk x) (hpl : 0 ≤ x.g ∧ x.g < 8 ∧ x.start < (k : Int)) : Calls Try.prog 74 #[.pointer (some ⟨J, 0, none⟩), evV x] w (BoolTo w (decide (x.no = 0) && inB x 2 && endsB L k x 13 && decide (0 < cntZ L 14 x.obj k))) := by
  have J_0 := Lib.hid (h.below (below_alloc w (.cells (evC x) 48)))
  have B_0 := Lib.hid (below_alloc w (.cells (evC x) 48))
  have K_0 := Lib.hid (Bx.new w (evC x) 48)
  clear h
  have hok' := hok
  have HI := Lib.hid (fun W => below_any x.obj 2 W)
  obtain ⟨ib, hib⟩ : ∃ z, z = inB x 2 := ⟨_, rfl⟩
  rw [show decide (0 ≤ x.obj ∧ x.obj < 2) = ib from hib.symm] at HI
  have HN := Lib.hid (fun W (h : Jd W J p caps L k) => ends_any J p caps L k x 13 W h hok hpl)
  unfold BoolTo evV evC at HN
  obtain ⟨eb, heb⟩ : ∃ z, z = endsB L k x 13 := ⟨_, rfl⟩
  rw [← heb] at HN
  have HC14 := Lib.hid (fun W (h : Jd W J p caps L k) => counted_any J p caps L k 14 x.obj W h ⟨by decide, by decide⟩ hok.2.2.1)
  have hcb14 := cntZ_le L 14 x.obj k
  obtain ⟨c14, hc14⟩ : ∃ z, z = cntZ L 14 x.obj k := ⟨_, rfl⟩
  rw [← hc14] at HC14 hcb14
  obtain ⟨hcl14, hcu14⟩ := hcb14
  rw [← hib, ← heb, ← hc14]
  clear hib heb hc14 hok'
  unfold evC at B_0 K_0 J_0
  unfold evV evC
  obtain ⟨x0, x1, x2, x3, x4⟩ := x
  unfold EvOk I64 at hok
  dsimp only at B_0 K_0 J_0 hok HI HN HC14
  dsimp only
  obtain ⟨hok0, hok1, hok2, hok3, hok4⟩ := hok
  obtain ⟨e0, he0⟩ : ∃ z, z = w.heap.size := ⟨_, rfl⟩
  obtain ⟨v0, hv0⟩ : ∃ z, z = w.alloc (.cells #[.int .i64 x0, .int .i64 x1, .int .i64 x2, .int .i64 x3, .int .i64 x4] 48) := ⟨_, rfl⟩
  rw [← hv0] at B_0 K_0 J_0
  rw [← he0] at K_0
  have HE0 := Lib.hid he0; have HV0 := Lib.hid hv0
  clear he0 hv0
  go_enter Try.func74, Try.ntmps74
  go_upto_region 1 with (fail)
  rw [← HV0.out, ← HE0.out]
  by_cases n0 : ¬ x3 = 0
  · obtain ⟨n0f1, n0f2⟩ := ne_facts n0
    rw [decide_eq_false n0]
    obtain ⟨z0, z1, z2, z3, z4⟩ := Bx.cells5 K_0.out
    go_wp2_with fail
    go_ret
    exact ⟨ret_bool (rfl), B_0.out⟩
  · have n0 := Classical.not_not.1 n0
    obtain ⟨n0t1, n0t2⟩ := eq_facts n0
    rw [decide_eq_true n0]
    subst n0
    obtain ⟨z0, z1, z2, z3, z4⟩ := Bx.cells5 K_0.out
    go_wp2_with fail
    refine (HI.out _).mono ?_
    rintro e q1 ⟨rfl, rfl⟩
    cases ib with
    | false =>
      go_wp2_with fail
      go_ret
      exact ⟨ret_bool (rfl), B_0.out⟩
    | true =>
      go_wp2_with fail
      clear z0 z1 z2 z3 z4
      refine (HN.out _ J_0.out).mono ?_
      rintro e y1 ⟨rfl, hb⟩
      have B_1 := Lib.hid (B_0.out.trans (Below.mono hb B_0.out.size))
      have J_1 := Lib.hid (Jd.below J_0.out hb)
      have K_1 := Lib.hid (Bx.below K_0.out hb)
      clear hb B_0 J_0 K_0
      cases eb with
      | false =>
        obtain ⟨z0, z1, z2, z3, z4⟩ := Bx.cells5 K_1.out
        go_wp2_with fail
        go_ret
        exact ⟨ret_bool (rfl), B_1.out⟩
      | true =>
        obtain ⟨z0, z1, z2, z3, z4⟩ := Bx.cells5 K_1.out
        go_wp2_with fail
        refine (HC14.out _ J_1.out).mono ?_
        rintro e q2 ⟨rfl, rfl⟩
        go_wp2_with fail
        go_ret
        exact ⟨ret_bool (rfl), B_1.out⟩
set_option maxRecDepth 100000 in
set_option maxHeartbeats 8000000 in
theorem go_any (J : Nat) (p : JPlace) (caps : List Int) (L : List Ev) (k : Nat) (x : Ev) (w : World) (h : Jd w J p caps L k) (hok : EvOk x) : Calls Try.prog 58 #[.pointer (some ⟨J, 0, none⟩), evV x] w (BoolTo w (bareB x && decide (x.obj = cntZ L 0 0 k))) := by
  have J_0 := Lib.hid (h.below (below_alloc w (.cells (evC x) 48)))
  have B_0 := Lib.hid (below_alloc w (.cells (evC x) 48))
  have K_0 := Lib.hid (Bx.new w (evC x) 48)
  clear h
  have hok' := hok
  have HB := Lib.hid (fun W => bare_any x W)
  unfold BoolTo evV evC at HB
  obtain ⟨bb, hbb⟩ : ∃ z, z = bareB x := ⟨_, rfl⟩
  rw [show decide (x.start = -1 ∧ x.no = 0) = bb from hbb.symm] at HB
  have HC0 := Lib.hid (fun W (h : Jd W J p caps L k) => counted_any J p caps L k 0 0 W h ⟨by decide, by decide⟩ ⟨by decide, by decide⟩)
  obtain ⟨c0, hc0⟩ : ∃ z, z = cntZ L 0 0 k := ⟨_, rfl⟩
  rw [← hc0] at HC0
  rw [← hbb, ← hc0]
  clear hbb hc0 hok'
  unfold evC at B_0 K_0 J_0
  unfold evV evC
  obtain ⟨x0, x1, x2, x3, x4⟩ := x
  unfold EvOk I64 at hok
  dsimp only at B_0 K_0 J_0 hok HB
  dsimp only
  obtain ⟨hok0, hok1, hok2, hok3, hok4⟩ := hok
  obtain ⟨e0, he0⟩ : ∃ z, z = w.heap.size := ⟨_, rfl⟩
  obtain ⟨v0, hv0⟩ : ∃ z, z = w.alloc (.cells #[.int .i64 x0, .int .i64 x1, .int .i64 x2, .int .i64 x3, .int .i64 x4] 48) := ⟨_, rfl⟩
  rw [← hv0] at B_0 K_0 J_0
  rw [← he0] at K_0
  have HE0 := Lib.hid he0; have HV0 := Lib.hid hv0
  clear he0 hv0
  go_enter Try.func58, Try.ntmps58
  go_upto_region 1 with (fail)
  rw [← HV0.out, ← HE0.out]
  cases bb with
  | false =>
    have hb : Below v0.heap.size v0 v0.drew := (Below.refl _ _).drew
    have B_1 := Lib.hid (B_0.out.trans (Below.mono hb B_0.out.size))
    have J_1 := Lib.hid (Jd.below J_0.out hb)
    have K_1 := Lib.hid (Bx.below K_0.out hb)
    clear hb B_0 J_0 K_0
    refine wp_region_held_drew (S := (fun V => V.cell? ⟨e0, 0, none⟩ = some (.int .i64 x0) ∧ V.cell? ⟨e0, 1, none⟩ = some (.int .i64 x1) ∧ V.cell? ⟨e0, 2, none⟩ = some (.int .i64 x2) ∧ V.cell? ⟨e0, 3, none⟩ = some (.int .i64 x3) ∧ V.cell? ⟨e0, 4, none⟩ = some (.int .i64 x4))) (by kernel_rfl) ⟨Bx.cell K_1.out 0 rfl, Bx.cell K_1.out 1 rfl, Bx.cell K_1.out 2 rfl, Bx.cell K_1.out 3 rfl, Bx.cell K_1.out 4 rfl⟩ (fun hHeld => ?_)
    (try simp only [Act.put, List.getElem_toArray, List.getElem_cons_zero, List.getElem_cons_succ, List.setIfInBounds_toArray, List.set_cons_zero, List.set_cons_succ])
    refine takes [0] (by kernel_rfl) (fun _ _ _ _ _ h => h) (by assumption) ?_
    iterate 1 (refine ally_cons (v := ?_) rfl (Or.inl ⟨?_, fun w hSw => ?_⟩) ?_; rotate_left; rfl; ((try dsimp only at hSw); go_simp; try with_reducible rfl); (try simp only [Act.put, List.getElem_toArray, List.getElem_cons_zero, List.getElem_cons_succ, List.setIfInBounds_toArray, List.set_cons_zero, List.set_cons_succ]))
    refine ally_nil ?_
    refine wpAnyH_ready (rs := [1]) (by kernel_rfl) (by simp) ?_
    refine AllReadyH.cons (o := _) rfl (fun K hK => ?_) AllReadyH.nil
    go_simp
    refine (HB.out _).mono ?_
    rintro e y1 ⟨rfl, hb⟩
    have B_2 := Lib.hid (B_1.out.trans (Below.mono hb B_1.out.size))
    have J_2 := Lib.hid (Jd.below J_1.out hb)
    have K_2 := Lib.hid (Bx.below K_1.out hb)
    clear hb B_1 J_1 K_1
    clear hHeld
    refine hK.out _ _ ⟨Bx.cell K_2.out 0 rfl, Bx.cell K_2.out 1 rfl, Bx.cell K_2.out 2 rfl, Bx.cell K_2.out 3 rfl, Bx.cell K_2.out 4 rfl⟩ (fun hHeld => ?_)
    clear hK K
    (try simp only [Act.put, List.getElem_toArray, List.getElem_cons_zero, List.getElem_cons_succ, List.setIfInBounds_toArray, List.set_cons_zero, List.set_cons_succ])
    refine takes [2, 3, 4, 5, 6, 7, 8, 9] (by kernel_rfl) (fun _ _ _ _ _ h => h) (by assumption) ?_
    iterate 8 (first | (refine ally_cons (v := ?_) rfl (Or.inl ⟨?_, fun w hSw => ?_⟩) ?_; rotate_left; rfl; ((try dsimp only at hSw); go_simp; try with_reducible rfl); (try simp only [Act.put, List.getElem_toArray, List.getElem_cons_zero, List.getElem_cons_succ, List.setIfInBounds_toArray, List.set_cons_zero, List.set_cons_succ])) | (refine ally_cons (v := undef) rfl (Or.inr ⟨?_, rfl⟩) ?_; kernel_rfl; (try simp only [Act.put, List.getElem_toArray, List.getElem_cons_zero, List.getElem_cons_succ, List.setIfInBounds_toArray, List.set_cons_zero, List.set_cons_succ])))
    refine ally_nil ?_
    refine wpAnyH_done (by kernel_rfl) ?_ _
    clear hHeld
    go_wp2_with fail
    go_ret
    exact ⟨ret_bool (rfl), B_2.out⟩
  | true =>
    have hb : Below v0.heap.size v0 v0.drew := (Below.refl _ _).drew
    have B_1 := Lib.hid (B_0.out.trans (Below.mono hb B_0.out.size))
    have J_1 := Lib.hid (Jd.below J_0.out hb)
    have K_1 := Lib.hid (Bx.below K_0.out hb)
    clear hb B_0 J_0 K_0
    refine wp_region_held_drew (S := (fun V => V.cell? ⟨e0, 0, none⟩ = some (.int .i64 x0) ∧ V.cell? ⟨e0, 1, none⟩ = some (.int .i64 x1) ∧ V.cell? ⟨e0, 2, none⟩ = some (.int .i64 x2) ∧ V.cell? ⟨e0, 3, none⟩ = some (.int .i64 x3) ∧ V.cell? ⟨e0, 4, none⟩ = some (.int .i64 x4))) (by kernel_rfl) ⟨Bx.cell K_1.out 0 rfl, Bx.cell K_1.out 1 rfl, Bx.cell K_1.out 2 rfl, Bx.cell K_1.out 3 rfl, Bx.cell K_1.out 4 rfl⟩ (fun hHeld => ?_)
    (try simp only [Act.put, List.getElem_toArray, List.getElem_cons_zero, List.getElem_cons_succ, List.setIfInBounds_toArray, List.set_cons_zero, List.set_cons_succ])
    refine takes [0] (by kernel_rfl) (fun _ _ _ _ _ h => h) (by assumption) ?_
    iterate 1 (refine ally_cons (v := ?_) rfl (Or.inl ⟨?_, fun w hSw => ?_⟩) ?_; rotate_left; rfl; ((try dsimp only at hSw); go_simp; try with_reducible rfl); (try simp only [Act.put, List.getElem_toArray, List.getElem_cons_zero, List.getElem_cons_succ, List.setIfInBounds_toArray, List.set_cons_zero, List.set_cons_succ]))
    refine ally_nil ?_
    refine wpAnyH_ready (rs := [1]) (by kernel_rfl) (by simp) ?_
    refine AllReadyH.cons (o := _) rfl (fun K hK => ?_) AllReadyH.nil
    go_simp
    refine (HB.out _).mono ?_
    rintro e y1 ⟨rfl, hb⟩
    have B_2 := Lib.hid (B_1.out.trans (Below.mono hb B_1.out.size))
    have J_2 := Lib.hid (Jd.below J_1.out hb)
    have K_2 := Lib.hid (Bx.below K_1.out hb)
    clear hb B_1 J_1 K_1
    clear hHeld
    refine hK.out _ _ ⟨Bx.cell K_2.out 0 rfl, Bx.cell K_2.out 1 rfl, Bx.cell K_2.out 2 rfl, Bx.cell K_2.out 3 rfl, Bx.cell K_2.out 4 rfl⟩ (fun hHeld => ?_)
    clear hK K
    (try simp only [Act.put, List.getElem_toArray, List.getElem_cons_zero, List.getElem_cons_succ, List.setIfInBounds_toArray, List.set_cons_zero, List.set_cons_succ])
    refine takes [2, 3, 4, 5] (by kernel_rfl) (fun _ _ _ _ _ h => h) (by assumption) ?_
    iterate 4 (refine ally_cons (v := ?_) rfl (Or.inl ⟨?_, fun w hSw => ?_⟩) ?_; rotate_left; rfl; ((try dsimp only at hSw); go_simp; try with_reducible rfl); (try simp only [Act.put, List.getElem_toArray, List.getElem_cons_zero, List.getElem_cons_succ, List.setIfInBounds_toArray, List.set_cons_zero, List.set_cons_succ]))
    refine ally_nil ?_
    refine wpAnyH_ready (rs := [6]) (by kernel_rfl) (by simp) ?_
    refine AllReadyH.cons (o := _) rfl (fun K hK => ?_) AllReadyH.nil
    go_simp
    refine (HC0.out _ J_2.out).mono ?_
    rintro e y2 ⟨rfl, rfl⟩
    clear hHeld
    refine hK.out _ _ ⟨Bx.cell K_2.out 0 rfl, Bx.cell K_2.out 1 rfl, Bx.cell K_2.out 2 rfl, Bx.cell K_2.out 3 rfl, Bx.cell K_2.out 4 rfl⟩ (fun hHeld => ?_)
    clear hK K
    (try simp only [Act.put, List.getElem_toArray, List.getElem_cons_zero, List.getElem_cons_succ, List.setIfInBounds_toArray, List.set_cons_zero, List.set_cons_succ])
    refine takes [7, 8, 9] (by kernel_rfl) (fun _ _ _ _ _ h => h) (by assumption) ?_
    iterate 3 (refine ally_cons (v := ?_) rfl (Or.inl ⟨?_, fun w hSw => ?_⟩) ?_; rotate_left; rfl; ((try dsimp only at hSw); go_simp; try with_reducible rfl); (try simp only [Act.put, List.getElem_toArray, List.getElem_cons_zero, List.getElem_cons_succ, List.setIfInBounds_toArray, List.set_cons_zero, List.set_cons_succ]))
    refine ally_nil ?_
    refine wpAnyH_done (by kernel_rfl) ?_ _
    clear hHeld
    go_wp2_with fail
    go_ret
    exact ⟨ret_bool (rfl), B_2.out⟩
end Go.Proofs.Ytjkbmenmpnidhaa
