/- open, passes: the program. -/
import Derived.Test.YtjkbmenmpnidhaaJ1
namespace Go.Proofs.Ytjkbmenmpnidhaa
open Go.RowKit
set_option linter.unusedSimpArgs false
set_option linter.unusedVariables false
def openB (caps : List Int) (x : Ev) : Bool := decide (0 ≤ x.obj ∧ x.obj < (caps.length : Int) ∧ 0 ≤ capAt caps x.obj)
def passesB (caps : List Int) (L : List Ev) (k : Nat) (x : Ev) (kd : Int) : Bool := openB caps x && (endsB L k x kd || decide (0 ≤ x.start ∧ x.start = lastZ L x.g k ∧ (evAt L x.start.toNat).kind = 8))
set_option maxRecDepth 100000 in
set_option maxHeartbeats 8000000 in
theorem open_any (J : Nat) (p : JPlace) (caps : List Int) (L : List Ev) (k : Nat) (x : Ev) (w : World) (h : Jd w J p caps L k) (hok : EvOk x) : Calls Try.prog 100 #[.pointer (some ⟨J, 0, none⟩), evV x] w (BoolTo w (openB caps x)) := by
  have J_0 := Lib.hid (h.below (below_alloc w (.cells (evC x) 48)))
  have B_0 := Lib.hid (below_alloc w (.cells (evC x) 48))
  have K_0 := Lib.hid (Bx.new w (evC x) 48)
  clear h
  have HZ := Lib.hid (show openB caps x = decide (0 ≤ x.obj ∧ x.obj < (caps.length : Int) ∧ 0 ≤ capAt caps x.obj) from rfl)
  rw [J_0.out.caps.len_eq] at HZ
  unfold evC at B_0 K_0 J_0
  unfold evV evC
  obtain ⟨x0, x1, x2, x3, x4⟩ := x
  unfold EvOk I64 at hok
  dsimp only at B_0 K_0 J_0 hok HZ
  dsimp only
  obtain ⟨hok0, hok1, hok2, hok3, hok4⟩ := hok
  obtain ⟨e0, he0⟩ : ∃ z, z = w.heap.size := ⟨_, rfl⟩
  obtain ⟨v0, hv0⟩ : ∃ z, z = w.alloc (.cells #[.int .i64 x0, .int .i64 x1, .int .i64 x2, .int .i64 x3, .int .i64 x4] 48) := ⟨_, rfl⟩
  rw [← hv0] at B_0 K_0 J_0
  rw [← he0] at K_0
  have HE0 := Lib.hid he0; have HV0 := Lib.hid hv0
  clear he0 hv0
  go_enter Try.func100, Try.ntmps100
  go_upto_region 1 with (fail)
  rw [← HV0.out, ← HE0.out]
  by_cases o0 : x2 < 0
  · skip
    have HZ2 := Lib.hid (HZ.out.trans (decide_eq_false (by omega)))
    have HC := Lib.hid (fun W => below_no x2 p.cn W (by omega))
    have hcc := J_0.out.capsCell
    obtain ⟨z0, z1, z2, z3, z4⟩ := Bx.cells5 K_0.out
    refine wp_region_held_drew (S := (fun V => V.cell? ⟨e0, 0, none⟩ = some (.int .i64 x0) ∧ V.cell? ⟨e0, 1, none⟩ = some (.int .i64 x1) ∧ V.cell? ⟨e0, 2, none⟩ = some (.int .i64 x2) ∧ V.cell? ⟨e0, 3, none⟩ = some (.int .i64 x3) ∧ V.cell? ⟨e0, 4, none⟩ = some (.int .i64 x4) ∧ V.cell? ⟨J, 0, none⟩ = some (.slice p.ca p.cn p.cc))) (by kernel_rfl) ⟨z0, z1, z2, z3, z4, hcc⟩ (fun hHeld => ?_)
    (try simp only [Act.put, List.getElem_toArray, List.getElem_cons_zero, List.getElem_cons_succ, List.setIfInBounds_toArray, List.set_cons_zero, List.set_cons_succ])
    refine takes [0, 1, 2, 3, 4, 5, 6] (by kernel_rfl) (fun _ _ _ _ _ h => h) (by assumption) ?_
    iterate 7 (refine ally_cons (v := ?_) rfl (Or.inl ⟨?_, fun w hSw => ?_⟩) ?_; rotate_left; rfl; ((try dsimp only at hSw); go_simp; try with_reducible rfl); (try simp only [Act.put, List.getElem_toArray, List.getElem_cons_zero, List.getElem_cons_succ, List.setIfInBounds_toArray, List.set_cons_zero, List.set_cons_succ]))
    refine ally_nil ?_
    refine wpAnyH_ready (rs := [7]) (by kernel_rfl) (by simp) ?_
    refine AllReadyH.cons (o := _) rfl (fun K hK => ?_) AllReadyH.nil
    go_simp
    refine (HC.out _).mono ?_
    rintro e q1 ⟨rfl, rfl⟩
    clear hHeld
    refine hK.out _ _ ⟨z0, z1, z2, z3, z4, hcc⟩ (fun hHeld => ?_)
    clear hK K
    (try simp only [Act.put, List.getElem_toArray, List.getElem_cons_zero, List.getElem_cons_succ, List.setIfInBounds_toArray, List.set_cons_zero, List.set_cons_succ])
    refine takes [8, 9, 10, 11, 12, 13, 14, 15, 16, 17, 18, 19] (by kernel_rfl) (fun _ _ _ _ _ h => h) (by assumption) ?_
    iterate 12 (first | (refine ally_cons (v := ?_) rfl (Or.inl ⟨?_, fun w hSw => ?_⟩) ?_; rotate_left; rfl; ((try dsimp only at hSw); go_simp; try with_reducible rfl); (try simp only [Act.put, List.getElem_toArray, List.getElem_cons_zero, List.getElem_cons_succ, List.setIfInBounds_toArray, List.set_cons_zero, List.set_cons_succ])) | (refine ally_cons (v := undef) rfl (Or.inr ⟨?_, rfl⟩) ?_; kernel_rfl; (try simp only [Act.put, List.getElem_toArray, List.getElem_cons_zero, List.getElem_cons_succ, List.setIfInBounds_toArray, List.set_cons_zero, List.set_cons_succ])))
    refine ally_nil ?_
    refine wpAnyH_done (by kernel_rfl) ?_ _
    clear hHeld
    go_wp2_with fail
    go_ret
    exact ⟨ret_bool HZ2.out.symm, (B_0.out).drew⟩
  · skip
    by_cases o1 : (p.cn : Int) ≤ x2
    · skip
      have HZ2 := Lib.hid (HZ.out.trans (decide_eq_false (by omega)))
      have HC := Lib.hid (fun W => below_no x2 p.cn W (by omega))
      have hcc := J_0.out.capsCell
      obtain ⟨z0, z1, z2, z3, z4⟩ := Bx.cells5 K_0.out
      refine wp_region_held_drew (S := (fun V => V.cell? ⟨e0, 0, none⟩ = some (.int .i64 x0) ∧ V.cell? ⟨e0, 1, none⟩ = some (.int .i64 x1) ∧ V.cell? ⟨e0, 2, none⟩ = some (.int .i64 x2) ∧ V.cell? ⟨e0, 3, none⟩ = some (.int .i64 x3) ∧ V.cell? ⟨e0, 4, none⟩ = some (.int .i64 x4) ∧ V.cell? ⟨J, 0, none⟩ = some (.slice p.ca p.cn p.cc))) (by kernel_rfl) ⟨z0, z1, z2, z3, z4, hcc⟩ (fun hHeld => ?_)
      (try simp only [Act.put, List.getElem_toArray, List.getElem_cons_zero, List.getElem_cons_succ, List.setIfInBounds_toArray, List.set_cons_zero, List.set_cons_succ])
      refine takes [0, 1, 2, 3, 4, 5, 6] (by kernel_rfl) (fun _ _ _ _ _ h => h) (by assumption) ?_
      iterate 7 (refine ally_cons (v := ?_) rfl (Or.inl ⟨?_, fun w hSw => ?_⟩) ?_; rotate_left; rfl; ((try dsimp only at hSw); go_simp; try with_reducible rfl); (try simp only [Act.put, List.getElem_toArray, List.getElem_cons_zero, List.getElem_cons_succ, List.setIfInBounds_toArray, List.set_cons_zero, List.set_cons_succ]))
      refine ally_nil ?_
      refine wpAnyH_ready (rs := [7]) (by kernel_rfl) (by simp) ?_
      refine AllReadyH.cons (o := _) rfl (fun K hK => ?_) AllReadyH.nil
      go_simp
      refine (HC.out _).mono ?_
      rintro e q1 ⟨rfl, rfl⟩
      clear hHeld
      refine hK.out _ _ ⟨z0, z1, z2, z3, z4, hcc⟩ (fun hHeld => ?_)
      clear hK K
      (try simp only [Act.put, List.getElem_toArray, List.getElem_cons_zero, List.getElem_cons_succ, List.setIfInBounds_toArray, List.set_cons_zero, List.set_cons_succ])
      refine takes [8, 9, 10, 11, 12, 13, 14, 15, 16, 17, 18, 19] (by kernel_rfl) (fun _ _ _ _ _ h => h) (by assumption) ?_
      iterate 12 (first | (refine ally_cons (v := ?_) rfl (Or.inl ⟨?_, fun w hSw => ?_⟩) ?_; rotate_left; rfl; ((try dsimp only at hSw); go_simp; try with_reducible rfl); (try simp only [Act.put, List.getElem_toArray, List.getElem_cons_zero, List.getElem_cons_succ, List.setIfInBounds_toArray, List.set_cons_zero, List.set_cons_succ])) | (refine ally_cons (v := undef) rfl (Or.inr ⟨?_, rfl⟩) ?_; kernel_rfl; (try simp only [Act.put, List.getElem_toArray, List.getElem_cons_zero, List.getElem_cons_succ, List.setIfInBounds_toArray, List.set_cons_zero, List.set_cons_succ])))
      refine ally_nil ?_
      refine wpAnyH_done (by kernel_rfl) ?_ _
      clear hHeld
      go_wp2_with fail
      go_ret
      exact ⟨ret_bool HZ2.out.symm, (B_0.out).drew⟩
    · skip
      obtain ⟨q, rfl⟩ : ∃ q : Nat, x2 = (q : Int) := ⟨x2.toNat, by omega⟩
      have hq : q < p.cn := by omega
      have hqn : (q : Int) < (p.cn : Int) := by omega
      have hqa : capAt caps (q : Int) = en caps q := by unfold capAt; rw [Int.toNat_natCast]
      rw [hqa] at HZ
      have HC := Lib.hid (fun W => below_yes (q : Int) p.cn W (by omega) hqn)
      have HAC := Lib.hid J_0.out.capsCell
      obtain ⟨cb, co, hcae, hcv⟩ := J_0.out.caps.cell q hq
      rw [hcae] at HAC
      have hcc := HAC.out
      obtain ⟨cp, hcpe⟩ : ∃ z, z = en caps q := ⟨_, rfl⟩
      rw [← hcpe] at hcv HZ
      clear hcpe hqa hcae HAC
      by_cases c0 : cp < 0
      · skip
        have HZ2 := Lib.hid (HZ.out.trans (decide_eq_false (by omega)))
        obtain ⟨z0, z1, z2, z3, z4⟩ := Bx.cells5 K_0.out
        have hfx0 : decide (0 ≤ cp) = false := by simp only [decide_eq_true_eq, decide_eq_false_iff_not]; omega
        refine wp_region_held_drew (S := (fun V => V.cell? ⟨e0, 0, none⟩ = some (.int .i64 x0) ∧ V.cell? ⟨e0, 1, none⟩ = some (.int .i64 x1) ∧ V.cell? ⟨e0, 2, none⟩ = some (.int .i64 (q : Int)) ∧ V.cell? ⟨e0, 3, none⟩ = some (.int .i64 x3) ∧ V.cell? ⟨e0, 4, none⟩ = some (.int .i64 x4) ∧ V.cell? ⟨J, 0, none⟩ = some (.slice (some ⟨cb, co, none⟩) p.cn p.cc) ∧ V.cell? ⟨cb, co + q, none⟩ = some (.int .i64 cp))) (by kernel_rfl) ⟨z0, z1, z2, z3, z4, hcc, hcv⟩ (fun hHeld => ?_)
        (try simp only [Act.put, List.getElem_toArray, List.getElem_cons_zero, List.getElem_cons_succ, List.setIfInBounds_toArray, List.set_cons_zero, List.set_cons_succ])
        refine takes [0, 1, 2, 3, 4, 5, 6] (by kernel_rfl) (fun _ _ _ _ _ h => h) (by assumption) ?_
        iterate 7 (refine ally_cons (v := ?_) rfl (Or.inl ⟨?_, fun w hSw => ?_⟩) ?_; rotate_left; rfl; ((try dsimp only at hSw); go_simp; try with_reducible rfl); (try simp only [Act.put, List.getElem_toArray, List.getElem_cons_zero, List.getElem_cons_succ, List.setIfInBounds_toArray, List.set_cons_zero, List.set_cons_succ]))
        refine ally_nil ?_
        refine wpAnyH_ready (rs := [7]) (by kernel_rfl) (by simp) ?_
        refine AllReadyH.cons (o := _) rfl (fun K hK => ?_) AllReadyH.nil
        go_simp
        refine (HC.out _).mono ?_
        rintro e q1 ⟨rfl, rfl⟩
        clear hHeld
        refine hK.out _ _ ⟨z0, z1, z2, z3, z4, hcc, hcv⟩ (fun hHeld => ?_)
        clear hK K
        (try simp only [Act.put, List.getElem_toArray, List.getElem_cons_zero, List.getElem_cons_succ, List.setIfInBounds_toArray, List.set_cons_zero, List.set_cons_succ])
        refine takes [8, 9, 10, 11, 12, 13, 14, 15, 16, 17, 18, 19] (by kernel_rfl) (fun _ _ _ _ _ h => h) (by assumption) ?_
        iterate 12 (refine ally_cons (v := ?_) rfl (Or.inl ⟨?_, fun w hSw => ?_⟩) ?_; rotate_left; rfl; ((try dsimp only at hSw); go_simp; try with_reducible rfl); (try simp only [Act.put, List.getElem_toArray, List.getElem_cons_zero, List.getElem_cons_succ, List.setIfInBounds_toArray, List.set_cons_zero, List.set_cons_succ, hfx0]))
        refine ally_nil ?_
        refine wpAnyH_done (by kernel_rfl) ?_ _
        clear hHeld
        go_wp2_with fail
        go_ret
        exact ⟨ret_bool HZ2.out.symm, (B_0.out).drew⟩
      · skip
        have HZ2 := Lib.hid (HZ.out.trans (decide_eq_true (by omega)))
        obtain ⟨z0, z1, z2, z3, z4⟩ := Bx.cells5 K_0.out
        have hfx0 : decide (0 ≤ cp) = true := by simp only [decide_eq_true_eq, decide_eq_false_iff_not]; omega
        refine wp_region_held_drew (S := (fun V => V.cell? ⟨e0, 0, none⟩ = some (.int .i64 x0) ∧ V.cell? ⟨e0, 1, none⟩ = some (.int .i64 x1) ∧ V.cell? ⟨e0, 2, none⟩ = some (.int .i64 (q : Int)) ∧ V.cell? ⟨e0, 3, none⟩ = some (.int .i64 x3) ∧ V.cell? ⟨e0, 4, none⟩ = some (.int .i64 x4) ∧ V.cell? ⟨J, 0, none⟩ = some (.slice (some ⟨cb, co, none⟩) p.cn p.cc) ∧ V.cell? ⟨cb, co + q, none⟩ = some (.int .i64 cp))) (by kernel_rfl) ⟨z0, z1, z2, z3, z4, hcc, hcv⟩ (fun hHeld => ?_)
        (try simp only [Act.put, List.getElem_toArray, List.getElem_cons_zero, List.getElem_cons_succ, List.setIfInBounds_toArray, List.set_cons_zero, List.set_cons_succ])
        refine takes [0, 1, 2, 3, 4, 5, 6] (by kernel_rfl) (fun _ _ _ _ _ h => h) (by assumption) ?_
        iterate 7 (refine ally_cons (v := ?_) rfl (Or.inl ⟨?_, fun w hSw => ?_⟩) ?_; rotate_left; rfl; ((try dsimp only at hSw); go_simp; try with_reducible rfl); (try simp only [Act.put, List.getElem_toArray, List.getElem_cons_zero, List.getElem_cons_succ, List.setIfInBounds_toArray, List.set_cons_zero, List.set_cons_succ]))
        refine ally_nil ?_
        refine wpAnyH_ready (rs := [7]) (by kernel_rfl) (by simp) ?_
        refine AllReadyH.cons (o := _) rfl (fun K hK => ?_) AllReadyH.nil
        go_simp
        refine (HC.out _).mono ?_
        rintro e q1 ⟨rfl, rfl⟩
        clear hHeld
        refine hK.out _ _ ⟨z0, z1, z2, z3, z4, hcc, hcv⟩ (fun hHeld => ?_)
        clear hK K
        (try simp only [Act.put, List.getElem_toArray, List.getElem_cons_zero, List.getElem_cons_succ, List.setIfInBounds_toArray, List.set_cons_zero, List.set_cons_succ])
        refine takes [8, 9, 10, 11, 12, 13, 14, 15, 16, 17, 18, 19] (by kernel_rfl) (fun _ _ _ _ _ h => h) (by assumption) ?_
        iterate 12 (refine ally_cons (v := ?_) rfl (Or.inl ⟨?_, fun w hSw => ?_⟩) ?_; rotate_left; rfl; ((try dsimp only at hSw); go_simp; try with_reducible rfl); (try simp only [Act.put, List.getElem_toArray, List.getElem_cons_zero, List.getElem_cons_succ, List.setIfInBounds_toArray, List.set_cons_zero, List.set_cons_succ, hfx0]))
        refine ally_nil ?_
        refine wpAnyH_done (by kernel_rfl) ?_ _
        clear hHeld
        go_wp2_with fail
        go_ret
        exact ⟨ret_bool HZ2.out.symm, (B_0.out).drew⟩
set_option maxRecDepth 100000 in
set_option maxHeartbeats 8000000 in
theorem passes_any (J : Nat) (p : JPlace) (caps : List Int) (L : List Ev) (k : Nat) (x : Ev) (kd : Int) (w : World) (h : Jd w J p caps L k) (hok : EvOk x) (hpl : 0 ≤ x.g ∧ x.g < 8 ∧ x.start < (k : Int)) : Calls Try.prog 99 #[.pointer (some ⟨J, 0, none⟩), evV x, .int .i64 kd] w (BoolTo w (passesB caps L k x kd)) := by
  have J_0 := Lib.hid (h.below (below_alloc w (.cells (evC x) 48)))
  have B_0 := Lib.hid (below_alloc w (.cells (evC x) 48))
  have K_0 := Lib.hid (Bx.new w (evC x) 48)
  clear h
  have HZ := Lib.hid (show passesB caps L k x kd = (openB caps x && (endsB L k x kd || decide (0 ≤ x.start ∧ x.start = lastZ L x.g k ∧ (evAt L x.start.toNat).kind = 8))) from rfl)
  have HO := Lib.hid (fun W (h : Jd W J p caps L k) => open_any J p caps L k x W h hok)
  have HN := Lib.hid (fun W (h : Jd W J p caps L k) => ends_any J p caps L k x kd W h hok hpl)
  unfold BoolTo at HO HN
  unfold evV evC at HO HN
  have hlz := lastZ_lt L x.g k
  obtain ⟨ob, hob⟩ : ∃ z, z = openB caps x := ⟨_, rfl⟩
  obtain ⟨eb, heb⟩ : ∃ z, z = endsB L k x kd := ⟨_, rfl⟩
  rw [← hob] at HZ HO
  rw [← heb] at HZ HN
  clear hob heb
  unfold evC at B_0 K_0 J_0
  unfold evV evC
  obtain ⟨x0, x1, x2, x3, x4⟩ := x
  unfold EvOk I64 at hok
  dsimp only at B_0 K_0 J_0 hok HZ hlz hpl HO HN
  dsimp only
  obtain ⟨hok0, hok1, hok2, hok3, hok4⟩ := hok
  obtain ⟨e0, he0⟩ : ∃ z, z = w.heap.size := ⟨_, rfl⟩
  obtain ⟨v0, hv0⟩ : ∃ z, z = w.alloc (.cells #[.int .i64 x0, .int .i64 x1, .int .i64 x2, .int .i64 x3, .int .i64 x4] 48) := ⟨_, rfl⟩
  rw [← hv0] at B_0 K_0 J_0
  rw [← he0] at K_0
  have HE0 := Lib.hid he0; have HV0 := Lib.hid hv0
  clear he0 hv0
  go_enter Try.func99, Try.ntmps99
  go_upto_region 1 with (fail)
  rw [← HV0.out, ← HE0.out]
  obtain ⟨z0, z1, z2, z3, z4⟩ := Bx.cells5 K_0.out
  go_wp2_with fail
  clear z0 z1 z2 z3 z4
  refine (HO.out _ J_0.out).mono ?_
  rintro e y1 ⟨rfl, hb⟩
  have B_1 := Lib.hid (B_0.out.trans (Below.mono hb B_0.out.size))
  have J_1 := Lib.hid (Jd.below J_0.out hb)
  have K_1 := Lib.hid (Bx.below K_0.out hb)
  clear hb B_0 J_0 K_0
  cases ob with
  | false =>
    have HZ1 := Lib.hid (HZ.out.trans (Bool.false_and _))
    go_wp2_with fail
    go_ret
    exact ⟨ret_bool HZ1.out.symm, B_1.out⟩
  | true =>
    have HZ1 := Lib.hid (HZ.out.trans (Bool.true_and _))
    obtain ⟨gg, hgg⟩ : ∃ gg : Nat, x0 = (gg : Int) := ⟨x0.toNat, by omega⟩
    have hg8 : gg < 8 := by omega
    subst hgg
    have hg8' : (gg : Int) < 8 := by omega
    obtain ⟨lz, hlzz⟩ : ∃ z, z = lastZ L (gg : Int) k := ⟨_, rfl⟩
    have hLC := (J_1.out).lastCell gg hg8
    rw [← hlzz] at hLC HZ1 hlz
    have HLZ := Lib.hid hlzz
    clear hlzz hpl
    obtain ⟨z0, z1, z2, z3, z4⟩ := Bx.cells5 K_1.out
    go_wp2_with fail
    refine wp_region_held_drew (S := (fun V => V.cell? ⟨e0, 0, none⟩ = some (.int .i64 (gg : Int)) ∧ V.cell? ⟨e0, 1, none⟩ = some (.int .i64 x1) ∧ V.cell? ⟨e0, 2, none⟩ = some (.int .i64 x2) ∧ V.cell? ⟨e0, 3, none⟩ = some (.int .i64 x3) ∧ V.cell? ⟨e0, 4, none⟩ = some (.int .i64 x4) ∧ V.cell? ⟨J, 2 + gg, none⟩ = some (.int .i64 lz))) (by kernel_rfl) ⟨z0, z1, z2, z3, z4, hLC⟩ (fun hHeld => ?_)
    (try simp only [Act.put, List.getElem_toArray, List.getElem_cons_zero, List.getElem_cons_succ, List.setIfInBounds_toArray, List.set_cons_zero, List.set_cons_succ])
    refine takes [0, 1, 2, 3, 4, 5, 6, 7] (by kernel_rfl) (fun _ _ _ _ _ h => h) (by assumption) ?_
    iterate 8 (refine ally_cons (v := ?_) rfl (Or.inl ⟨?_, fun w hSw => ?_⟩) ?_; rotate_left; rfl; ((try dsimp only at hSw); go_simp; try with_reducible rfl); (try simp only [Act.put, List.getElem_toArray, List.getElem_cons_zero, List.getElem_cons_succ, List.setIfInBounds_toArray, List.set_cons_zero, List.set_cons_succ]))
    refine ally_nil ?_
    refine wpAnyH_done (by kernel_rfl) ?_ _
    clear hHeld
    clear z0 z1 z2 z3 z4
    clear hLC
    have hb : Below y1.heap.size y1 y1.drew := (Below.refl _ _).drew
    have B_2 := Lib.hid (B_1.out.trans (Below.mono hb B_1.out.size))
    have J_2 := Lib.hid (Jd.below J_1.out hb)
    have K_2 := Lib.hid (Bx.below K_1.out hb)
    clear hb B_1 J_1 K_1
    obtain ⟨v2, hv2⟩ : ∃ z, z = y1.drew := ⟨_, rfl⟩
    rw [← hv2] at B_2 J_2 K_2 ⊢
    clear hv2
    obtain ⟨z0, z1, z2, z3, z4⟩ := Bx.cells5 K_2.out
    go_wp2_with fail
    clear z0 z1 z2 z3 z4
    refine (HN.out _ J_2.out).mono ?_
    rintro e y2 ⟨rfl, hb⟩
    have B_3 := Lib.hid (B_2.out.trans (Below.mono hb B_2.out.size))
    have J_3 := Lib.hid (Jd.below J_2.out hb)
    have K_3 := Lib.hid (Bx.below K_2.out hb)
    clear hb B_2 J_2 K_2
    cases eb with
    | true =>
      have HZ2 := Lib.hid (HZ1.out.trans (Bool.true_or _))
      go_wp2_with fail
      go_ret
      exact ⟨ret_bool HZ2.out.symm, B_3.out⟩
    | false =>
      have HZ2 := Lib.hid (HZ1.out.trans (Bool.false_or _))
      by_cases s0 : x4 < 0
      · skip
        have HZ3 := Lib.hid (HZ2.out.trans (decide_eq_false (by omega)))
        have s0' : ¬ 0 ≤ x4 := by omega
        obtain ⟨z0, z1, z2, z3, z4⟩ := Bx.cells5 K_3.out
        go_wp2_with fail
        go_ret
        exact ⟨ret_bool HZ3.out.symm, B_3.out⟩
      · skip
        by_cases sl : ¬ x4 = lz
        · obtain ⟨slf1, slf2⟩ := ne_facts sl
          have HZ3 := Lib.hid (HZ2.out.trans (decide_eq_false (fun h => sl h.2.1)))
          have s0' : 0 ≤ x4 := by omega
          obtain ⟨z0, z1, z2, z3, z4⟩ := Bx.cells5 K_3.out
          go_wp2_with fail
          go_ret
          exact ⟨ret_bool HZ3.out.symm, B_3.out⟩
        · have sl := Classical.not_not.1 sl
          obtain ⟨slt1, slt2⟩ := eq_facts sl
          subst sl
          obtain ⟨s, rfl⟩ : ∃ s : Nat, x4 = (s : Int) := ⟨x4.toNat, by omega⟩
          rw [Int.toNat_natCast] at HZ2
          have hsk : s < k := by omega
          have hsk' : (s : Int) < (k : Int) := by omega
          have HAC := Lib.hid ((J_3.out).aheadCell)
          obtain ⟨ab, ao, _, hae, d0, d1, d2, d3, d4⟩ := (J_3.out).ahead.at s hsk
          rw [evAt_take L k s hsk] at d0 d1 d2 d3 d4
          rw [hae] at HAC
          have hAC := HAC.out
          obtain ⟨y, hy⟩ : ∃ y, y = evAt L s := ⟨_, rfl⟩
          rw [← hy] at d0 d1 d2 d3 d4 HZ2
          clear hy hae HAC
          obtain ⟨y0, y1', y2, y3, y4⟩ := y
          dsimp only at d0 d1 d2 d3 d4 HZ2
          by_cases k8 : y1' = 8
          · obtain ⟨k8t1, k8t2⟩ := eq_facts k8
            have HZ3 := Lib.hid (HZ2.out.trans (decide_eq_true ⟨by omega, rfl, k8⟩))
            subst k8
            obtain ⟨z0, z1, z2, z3, z4⟩ := Bx.cells5 K_3.out
            go_wp2_with fail
            go_ret
            exact ⟨ret_bool HZ3.out.symm, B_3.out⟩
          · obtain ⟨k8f1, k8f2⟩ := ne_facts k8
            have HZ3 := Lib.hid (HZ2.out.trans (decide_eq_false (fun h => k8 h.2.2)))
            obtain ⟨z0, z1, z2, z3, z4⟩ := Bx.cells5 K_3.out
            go_wp2_with fail
            go_ret
            exact ⟨ret_bool HZ3.out.symm, B_3.out⟩
end Go.Proofs.Ytjkbmenmpnidhaa
