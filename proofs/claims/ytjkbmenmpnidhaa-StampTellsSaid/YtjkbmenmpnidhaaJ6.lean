/- what is asked of an event: the program. -/
import Derived.Test.YtjkbmenmpnidhaaJ4
namespace Go.Proofs.Ytjkbmenmpnidhaa
open Go.RowKit
set_option linter.unusedSimpArgs false
set_option linter.unusedVariables false
set_option maxRecDepth 100000 in
set_option maxHeartbeats 8000000 in
theorem sent_any (J : Nat) (p : JPlace) (caps : List Int) (L : List Ev) (k : Nat) (x : Ev) (w : World) (h : Jd w J p caps L k) (hok : EvOk x) (hk : k ≤ 1000) (hcap3 : ∀ q, en caps q ≤ 3) (hpl : 0 ≤ x.g ∧ x.g < 8 ∧ x.start < (k : Int)) : Calls Try.prog 60 #[.pointer (some ⟨J, 0, none⟩), evV x] w (BoolTo w (passesB caps L k x 2 && decide (¬ 0 < cntZ L 7 x.obj k) && decide (x.no = cntZ L 3 x.obj k) && decide (x.no ≤ cntZ L 5 x.obj k + capAt caps x.obj))) := by
  have J_0 := Lib.hid (h.below (below_alloc w (.cells (evC x) 48)))
  have B_0 := Lib.hid (below_alloc w (.cells (evC x) 48))
  have K_0 := Lib.hid (Bx.new w (evC x) 48)
  clear h
  have hok' := hok
  have HA := Lib.hid (fun W (h : Jd W J p caps L k) => passes_any J p caps L k x 2 W h hok hpl)
  unfold BoolTo evV evC at HA
  obtain ⟨pb, hpb⟩ : ∃ z, z = passesB caps L k x 2 := ⟨_, rfl⟩
  rw [← hpb] at HA
  have HOP := Lib.hid (show pb = true → 0 ≤ x.obj ∧ x.obj < (p.cn : Int) from fun e => by
    rw [hpb] at e
    unfold passesB at e
    rw [Bool.and_eq_true] at e
    have := of_decide_eq_true (show decide (0 ≤ x.obj ∧ x.obj < (caps.length : Int) ∧ 0 ≤ capAt caps x.obj) = true from e.1)
    rw [J_0.out.caps.len_eq] at this
    exact ⟨this.1, this.2.1⟩)
  have HCB := Lib.hid (fun q => J_0.out.caps.bound q)
  have HC7 := Lib.hid (fun W (h : Jd W J p caps L k) => counted_any J p caps L k 7 x.obj W h ⟨by decide, by decide⟩ hok.2.2.1)
  have hcb7 := cntZ_le L 7 x.obj k
  obtain ⟨c7, hc7⟩ : ∃ z, z = cntZ L 7 x.obj k := ⟨_, rfl⟩
  rw [← hc7] at HC7 hcb7
  obtain ⟨hcl7, hcu7⟩ := hcb7
  have HC3 := Lib.hid (fun W (h : Jd W J p caps L k) => counted_any J p caps L k 3 x.obj W h ⟨by decide, by decide⟩ hok.2.2.1)
  have hcb3 := cntZ_le L 3 x.obj k
  obtain ⟨c3, hc3⟩ : ∃ z, z = cntZ L 3 x.obj k := ⟨_, rfl⟩
  rw [← hc3] at HC3 hcb3
  obtain ⟨hcl3, hcu3⟩ := hcb3
  have HC5 := Lib.hid (fun W (h : Jd W J p caps L k) => counted_any J p caps L k 5 x.obj W h ⟨by decide, by decide⟩ hok.2.2.1)
  have hcb5 := cntZ_le L 5 x.obj k
  obtain ⟨c5, hc5⟩ : ∃ z, z = cntZ L 5 x.obj k := ⟨_, rfl⟩
  rw [← hc5] at HC5 hcb5
  obtain ⟨hcl5, hcu5⟩ := hcb5
  rw [← hpb, ← hc7, ← hc3, ← hc5]
  clear hpb hc7 hc3 hc5 hok'
  unfold evC at B_0 K_0 J_0
  unfold evV evC
  obtain ⟨x0, x1, x2, x3, x4⟩ := x
  unfold EvOk I64 at hok
  dsimp only at B_0 K_0 J_0 hok HA hpl HOP HC7 HC3 HC5
  dsimp only
  obtain ⟨hok0, hok1, hok2, hok3, hok4⟩ := hok
  obtain ⟨e0, he0⟩ : ∃ z, z = w.heap.size := ⟨_, rfl⟩
  obtain ⟨v0, hv0⟩ : ∃ z, z = w.alloc (.cells #[.int .i64 x0, .int .i64 x1, .int .i64 x2, .int .i64 x3, .int .i64 x4] 48) := ⟨_, rfl⟩
  rw [← hv0] at B_0 K_0 J_0
  rw [← he0] at K_0
  have HE0 := Lib.hid he0; have HV0 := Lib.hid hv0
  clear he0 hv0
  go_enter Try.func60, Try.ntmps60
  go_upto_region 1 with (fail)
  rw [← HV0.out, ← HE0.out]
  obtain ⟨z0, z1, z2, z3, z4⟩ := Bx.cells5 K_0.out
  go_wp2_with fail
  clear z0 z1 z2 z3 z4
  refine (HA.out _ J_0.out).mono ?_
  rintro e y1 ⟨rfl, hb⟩
  have B_1 := Lib.hid (B_0.out.trans (Below.mono hb B_0.out.size))
  have J_1 := Lib.hid (Jd.below J_0.out hb)
  have K_1 := Lib.hid (Bx.below K_0.out hb)
  clear hb B_0 J_0 K_0
  cases pb with
  | false =>
    obtain ⟨z0, z1, z2, z3, z4⟩ := Bx.cells5 K_1.out
    go_wp2_with fail
    go_ret
    exact ⟨ret_bool (rfl), B_1.out⟩
  | true =>
    obtain ⟨z0, z1, z2, z3, z4⟩ := Bx.cells5 K_1.out
    go_wp2_with fail
    refine (HC7.out _ J_1.out).mono ?_
    rintro e q1 ⟨rfl, rfl⟩
    by_cases z7 : 0 < c7
    · skip
      have HD := Lib.hid z7
      go_wp2_with fail
      go_ret
      exact ⟨ret_bool (by have d := HD.out; simp [show ¬ c7 ≤ 0 from by omega]), B_1.out⟩
    · skip
      have HD7 := Lib.hid z7
      go_wp2_with fail
      clear z0 z1 z2 z3 z4
      clear z7
      obtain ⟨q, hq⟩ : ∃ q : Nat, x2 = (q : Int) := ⟨x2.toNat, by have := HOP.out trivial; omega⟩
      have hqn : q < p.cn := by have := HOP.out trivial; omega
      subst hq
      have hqn' : (q : Int) < (p.cn : Int) := by omega
      have hq0 : (0 : Int) ≤ (q : Int) := by omega
      have hqa : capAt caps (q : Int) = en caps q := by unfold capAt; rw [Int.toNat_natCast]
      have hcb := HCB.out q
      unfold I64 at hcb
      obtain ⟨cb, co, hcae, hcv⟩ := (J_1.out).caps.cell q hqn
      have HCV := Lib.hid hcv
      have HCE := Lib.hid hcae
      obtain ⟨cp, hcpe⟩ : ∃ z, z = en caps q := ⟨_, rfl⟩
      rw [← hcpe] at HCV hqa hcb
      have HQA := Lib.hid hqa
      have hc3le := hcap3 q
      rw [← hcpe] at hc3le
      have HCP := Lib.hid hcpe.symm
      clear hcpe hqa hcv hcae
      have CAPC : ∀ {W : World}, Jd W J p caps L k → W.cell? ⟨cb, co + q, none⟩ = some (.int .i64 cp) := fun {W} h => by
        obtain ⟨b1, o1, e1, c1⟩ := h.caps.cell q hqn
        rw [HCE.out] at e1
        cases e1
        rw [c1, HCP.out]
      by_cases n0 : ¬ x3 = c3
      · obtain ⟨n0f1, n0f2⟩ := ne_facts n0
        have hfx0 : (x3 == c3) = false := n0f1
        have HD := Lib.hid n0
        clear n0
        have hb : Below y1.heap.size y1 y1.drew := (Below.refl _ _).drew
        have B_2 := Lib.hid (B_1.out.trans (Below.mono hb B_1.out.size))
        have J_2 := Lib.hid (Jd.below J_1.out hb)
        have K_2 := Lib.hid (Bx.below K_1.out hb)
        clear hb B_1 J_1 K_1
        refine wp_region_held_drew (S := (fun V => V.cell? ⟨e0, 0, none⟩ = some (.int .i64 x0) ∧ V.cell? ⟨e0, 1, none⟩ = some (.int .i64 x1) ∧ V.cell? ⟨e0, 2, none⟩ = some (.int .i64 (q : Int)) ∧ V.cell? ⟨e0, 3, none⟩ = some (.int .i64 x3) ∧ V.cell? ⟨e0, 4, none⟩ = some (.int .i64 x4) ∧ V.cell? ⟨J, 0, none⟩ = some (.slice (some ⟨cb, co, none⟩) p.cn p.cc) ∧ V.cell? ⟨cb, co + q, none⟩ = some (.int .i64 cp))) (by kernel_rfl) ⟨Bx.cell K_2.out 0 rfl, Bx.cell K_2.out 1 rfl, Bx.cell K_2.out 2 rfl, Bx.cell K_2.out 3 rfl, Bx.cell K_2.out 4 rfl, (HCE.out ▸ (J_2.out).capsCell), (CAPC J_2.out)⟩ (fun hHeld => ?_)
        (try simp only [Act.put, List.getElem_toArray, List.getElem_cons_zero, List.getElem_cons_succ, List.setIfInBounds_toArray, List.set_cons_zero, List.set_cons_succ])
        refine takes [0, 1, 2, 3, 4] (by kernel_rfl) (fun _ _ _ _ _ h => h) (by assumption) ?_
        iterate 5 (refine ally_cons (v := ?_) rfl (Or.inl ⟨?_, fun w hSw => ?_⟩) ?_; rotate_left; rfl; ((try dsimp only at hSw); go_simp; try with_reducible rfl); (try simp only [Act.put, List.getElem_toArray, List.getElem_cons_zero, List.getElem_cons_succ, List.setIfInBounds_toArray, List.set_cons_zero, List.set_cons_succ]))
        refine ally_nil ?_
        refine wpAnyH_ready (rs := [5]) (by kernel_rfl) (by simp) ?_
        refine AllReadyH.cons (o := _) rfl (fun K hK => ?_) AllReadyH.nil
        go_simp
        refine (HC3.out _ J_2.out).mono ?_
        rintro e y2 ⟨rfl, rfl⟩
        clear hHeld
        refine hK.out _ _ ⟨Bx.cell K_2.out 0 rfl, Bx.cell K_2.out 1 rfl, Bx.cell K_2.out 2 rfl, Bx.cell K_2.out 3 rfl, Bx.cell K_2.out 4 rfl, (HCE.out ▸ (J_2.out).capsCell), (CAPC J_2.out)⟩ (fun hHeld => ?_)
        clear hK K
        (try simp only [Act.put, List.getElem_toArray, List.getElem_cons_zero, List.getElem_cons_succ, List.setIfInBounds_toArray, List.set_cons_zero, List.set_cons_succ])
        refine takes [6, 7, 8, 9, 10, 11, 12, 13, 14, 15, 16, 17, 18, 19, 20, 21, 22, 23, 24, 25] (by kernel_rfl) (fun _ _ _ _ _ h => h) (by assumption) ?_
        iterate 20 (first | (refine ally_cons (v := ?_) rfl (Or.inl ⟨?_, fun w hSw => ?_⟩) ?_; rotate_left; rfl; ((try dsimp only at hSw); go_simp; try with_reducible rfl); (try simp only [Act.put, List.getElem_toArray, List.getElem_cons_zero, List.getElem_cons_succ, List.setIfInBounds_toArray, List.set_cons_zero, List.set_cons_succ, hfx0])) | (refine ally_cons (v := undef) rfl (Or.inr ⟨?_, rfl⟩) ?_; kernel_rfl; (try simp only [Act.put, List.getElem_toArray, List.getElem_cons_zero, List.getElem_cons_succ, List.setIfInBounds_toArray, List.set_cons_zero, List.set_cons_succ, hfx0])))
        refine ally_nil ?_
        refine wpAnyH_done (by kernel_rfl) ?_ _
        clear hHeld
        go_wp2_with fail
        go_ret
        exact ⟨ret_bool (by have d := HD.out; simp [d]), B_2.out⟩
      · have n0 := Classical.not_not.1 n0
        obtain ⟨n0t1, n0t2⟩ := eq_facts n0
        subst n0
        have hfx0 : (x3 == x3) = true := by simp
        have hfx1 : IntKind.i64.wrap (c5 + cp) = c5 + cp := by rw [IntKind.wrap_i64]; omega
        have hb : Below y1.heap.size y1 y1.drew := (Below.refl _ _).drew
        have B_2 := Lib.hid (B_1.out.trans (Below.mono hb B_1.out.size))
        have J_2 := Lib.hid (Jd.below J_1.out hb)
        have K_2 := Lib.hid (Bx.below K_1.out hb)
        clear hb B_1 J_1 K_1
        refine wp_region_held_drew (S := (fun V => V.cell? ⟨e0, 0, none⟩ = some (.int .i64 x0) ∧ V.cell? ⟨e0, 1, none⟩ = some (.int .i64 x1) ∧ V.cell? ⟨e0, 2, none⟩ = some (.int .i64 (q : Int)) ∧ V.cell? ⟨e0, 3, none⟩ = some (.int .i64 x3) ∧ V.cell? ⟨e0, 4, none⟩ = some (.int .i64 x4) ∧ V.cell? ⟨J, 0, none⟩ = some (.slice (some ⟨cb, co, none⟩) p.cn p.cc) ∧ V.cell? ⟨cb, co + q, none⟩ = some (.int .i64 cp))) (by kernel_rfl) ⟨Bx.cell K_2.out 0 rfl, Bx.cell K_2.out 1 rfl, Bx.cell K_2.out 2 rfl, Bx.cell K_2.out 3 rfl, Bx.cell K_2.out 4 rfl, (HCE.out ▸ (J_2.out).capsCell), (CAPC J_2.out)⟩ (fun hHeld => ?_)
        (try simp only [Act.put, List.getElem_toArray, List.getElem_cons_zero, List.getElem_cons_succ, List.setIfInBounds_toArray, List.set_cons_zero, List.set_cons_succ])
        refine takes [0, 1, 2, 3, 4] (by kernel_rfl) (fun _ _ _ _ _ h => h) (by assumption) ?_
        iterate 5 (refine ally_cons (v := ?_) rfl (Or.inl ⟨?_, fun w hSw => ?_⟩) ?_; rotate_left; rfl; ((try dsimp only at hSw); go_simp; try with_reducible rfl); (try simp only [Act.put, List.getElem_toArray, List.getElem_cons_zero, List.getElem_cons_succ, List.setIfInBounds_toArray, List.set_cons_zero, List.set_cons_succ]))
        refine ally_nil ?_
        refine wpAnyH_ready (rs := [5]) (by kernel_rfl) (by simp) ?_
        refine AllReadyH.cons (o := _) rfl (fun K hK => ?_) AllReadyH.nil
        go_simp
        refine (HC3.out _ J_2.out).mono ?_
        rintro e y2 ⟨rfl, rfl⟩
        clear hHeld
        refine hK.out _ _ ⟨Bx.cell K_2.out 0 rfl, Bx.cell K_2.out 1 rfl, Bx.cell K_2.out 2 rfl, Bx.cell K_2.out 3 rfl, Bx.cell K_2.out 4 rfl, (HCE.out ▸ (J_2.out).capsCell), (CAPC J_2.out)⟩ (fun hHeld => ?_)
        clear hK K
        (try simp only [Act.put, List.getElem_toArray, List.getElem_cons_zero, List.getElem_cons_succ, List.setIfInBounds_toArray, List.set_cons_zero, List.set_cons_succ])
        refine takes [6, 7, 8, 9, 10, 11, 12, 14, 15, 16, 17, 18, 19, 20, 21] (by kernel_rfl) (fun _ _ _ _ _ h => h) (by assumption) ?_
        iterate 15 (refine ally_cons (v := ?_) rfl (Or.inl ⟨?_, fun w hSw => ?_⟩) ?_; rotate_left; rfl; ((try dsimp only at hSw); go_simp; try with_reducible rfl); (try simp only [Act.put, List.getElem_toArray, List.getElem_cons_zero, List.getElem_cons_succ, List.setIfInBounds_toArray, List.set_cons_zero, List.set_cons_succ, hfx0, hfx1]))
        refine ally_nil ?_
        refine wpAnyH_ready (rs := [13]) (by kernel_rfl) (by simp) ?_
        refine AllReadyH.cons (o := _) rfl (fun K hK => ?_) AllReadyH.nil
        go_simp
        refine (HC5.out _ J_2.out).mono ?_
        rintro e y3 ⟨rfl, rfl⟩
        clear hHeld
        refine hK.out _ _ ⟨Bx.cell K_2.out 0 rfl, Bx.cell K_2.out 1 rfl, Bx.cell K_2.out 2 rfl, Bx.cell K_2.out 3 rfl, Bx.cell K_2.out 4 rfl, (HCE.out ▸ (J_2.out).capsCell), (CAPC J_2.out)⟩ (fun hHeld => ?_)
        clear hK K
        (try simp only [Act.put, List.getElem_toArray, List.getElem_cons_zero, List.getElem_cons_succ, List.setIfInBounds_toArray, List.set_cons_zero, List.set_cons_succ])
        refine takes [22, 23, 24, 25] (by kernel_rfl) (fun _ _ _ _ _ h => h) (by assumption) ?_
        iterate 4 (refine ally_cons (v := ?_) rfl (Or.inl ⟨?_, fun w hSw => ?_⟩) ?_; rotate_left; rfl; ((try dsimp only at hSw); go_simp; try with_reducible rfl); (try simp only [Act.put, List.getElem_toArray, List.getElem_cons_zero, List.getElem_cons_succ, List.setIfInBounds_toArray, List.set_cons_zero, List.set_cons_succ, hfx0, hfx1]))
        refine ally_nil ?_
        refine wpAnyH_done (by kernel_rfl) ?_ _
        clear hHeld
        go_wp2_with fail
        go_ret
        exact ⟨ret_bool (by have d7 := HD7.out; have dq := HQA.out; rw [dq]; try (simp <;> omega)), B_2.out⟩
end Go.Proofs.Ytjkbmenmpnidhaa
