/- A send, or a receive: whatever comes of it. -/
import Derived.Test.YtfolhgpbplfilaaD2
namespace Go.Proofs.Ytfolhgpbplfilaa
open Go.RowKit
set_option maxRecDepth 100000 in
set_option maxHeartbeats 40000000 in
theorem pass_23 (c : Chn) (q : CAt) (x : Wt) (w : World) (h : Cha w c q) (hx : WtOk x) (hr : rightC c = true) (hmy : mayW x = true) (c' : Chn) (o : Out) (why : Int) (cR : Chn) (oR : Out) (whyR : Int)
    (hdo : ∀ W B qw, Wk W B c qw x → Calls Try.prog 47 #[.pointer (some ⟨B, 0, none⟩)] W (Did W B qw x c' (.tuple #[outV o, .int .i64 why])))
    (hres : ((why != 0) = true ∧ (why == 0) = false ∧ cR = zeroC ∧ oR = zeroO ∧ whyR = why) ∨ (why = 0 ∧ (o.kind == 0) = false ∧ cR = c' ∧ oR = o ∧ whyR = 0) ∨ (why = 0 ∧ o = aloneO 0 ∧ c'.cap < 0 ∧ cR = c' ∧ oR = o ∧ whyR = 0)
      ∨ (why = 0 ∧ o = aloneO 0 ∧ 0 ≤ c'.cap ∧ rightW c'.recvs = true ∧ ((hasW c'.recvs x.g x.c = false ∧ c'.recvs.length ≠ 64 ∧ cR = { c' with recvs := c'.recvs ++ [x] } ∧ oR = o ∧ whyR = 0)
        ∨ (hasW c'.recvs x.g x.c = true ∧ cR = zeroC ∧ oR = zeroO ∧ whyR = 7) ∨ (hasW c'.recvs x.g x.c = false ∧ c'.recvs.length = 64 ∧ cR = zeroC ∧ oR = zeroO ∧ whyR = 5)))) :
    Calls Try.prog 23 #[chV c q, wV x] w (GotP w cR oR whyR) := by
  have HDO := Lib.hid hdo
  have HRES := Lib.hid hres
  have hmy0 := Lib.hid hmy
  unfold Did at HDO
  clear hdo hres
  have h1 := Lib.hid (show q.zn ≤ 1000000 ∧ q.sn ≤ 1000000 ∧ q.rn ≤ 1000000 from right_small h hr)
  have HRC := Lib.hid (fun W (H : Cha W c q) => Right_c c q W H)
  rw [hr] at HRC
  have HMY := Lib.hid (fun W => cmay_any x W hx)
  rw [hmy] at HMY
  have HCP := Lib.hid (fun W (H : Cha W c q) => copied_any c q W H h1.out.1 h1.out.2.1 h1.out.2.2)
  have AX := Lib.hid ((((below_alloc w (.cells (chC c q) 27)).alloc (by simp) (.cells #[.int .i64 x.g, .int .i64 x.c, .int .i64 x.s] 48)).alloc (by simp; omega) (.cells zero10 27)).alloc (by simp; omega) (.cells zero6 50))
  have K0 := Lib.hid ((((Bx.new w (chC c q) 27).below (below_alloc _ (.cells #[.int .i64 x.g, .int .i64 x.c, .int .i64 x.s] 48))).below (below_alloc _ (.cells zero10 27))).below (below_alloc _ (.cells zero6 50)))
  have K1 := Lib.hid (((box3_two w (.cells (chC c q) 27) x).below (below_alloc _ (.cells zero10 27))).below (below_alloc _ (.cells zero6 50)))
  have K2 := Lib.hid ((Bx.new3 w (.cells (chC c q) 27) (.cells #[.int .i64 x.g, .int .i64 x.c, .int .i64 x.s] 48) zero10 27).below (below_alloc _ (.cells zero6 50)))
  have K3 := Lib.hid (Bx.new4 w (.cells (chC c q) 27) (.cells #[.int .i64 x.g, .int .i64 x.c, .int .i64 x.s] 48) (.cells zero10 27) zero6 50)
  have HX0 := Lib.hid (h.below AX.out)
  clear h hr hmy
  go_enter Try.func23, Try.ntmps23
  go_wp2_with fail
  obtain ⟨X, hX⟩ : ∃ X, X = (((w.alloc (.cells (chC c q) 27)).alloc (.cells #[.int .i64 x.g, .int .i64 x.c, .int .i64 x.s] 48)).alloc (.cells zero10 27)).alloc (.cells zero6 50) := ⟨_, rfl⟩
  rw [← hX] at AX K0 K1 K2 K3 HX0 ⊢
  try rw [show w.heap.size + 1 + 1 + 1 = w.heap.size + 3 from rfl]
  try rw [show w.heap.size + 1 + 1 = w.heap.size + 2 from rfl]
  obtain ⟨b3, h3⟩ : ∃ b, b = w.heap.size + 3 := ⟨_, rfl⟩
  obtain ⟨b2, h2⟩ : ∃ b, b = w.heap.size + 2 := ⟨_, rfl⟩
  obtain ⟨b1, hb1⟩ : ∃ b, b = w.heap.size + 1 := ⟨_, rfl⟩
  obtain ⟨b0, h0⟩ : ∃ b, b = w.heap.size := ⟨_, rfl⟩
  have HBW := Lib.hid (show w.heap.size ≤ b2 ∧ w.heap.size ≤ b3 by omega)
  rw [← h3] at K3 ⊢
  rw [← h2] at K2 ⊢
  rw [← hb1] at K1 ⊢
  rw [← h0] at K0 ⊢
  have n01 : b0 ≠ b1 := by omega
  have n02 : b0 ≠ b2 := by omega
  have n03 : b0 ≠ b3 := by omega
  have n12 : b1 ≠ b2 := by omega
  have n13 : b1 ≠ b3 := by omega
  have n23 : b2 ≠ b3 := by omega
  have n32 : b3 ≠ b2 := by omega
  clear hX h3 h2 hb1 h0
  refine (HRC.out _ HX0.out).mono ?_
  rintro e wa ⟨rfl, hb⟩
  have AXa := Lib.hid (AX.out.trans (Below.mono hb AX.out.size)); have K0a := Lib.hid (K0.out.below hb); have K1a := Lib.hid (K1.out.below hb); have K2a := Lib.hid (K2.out.below hb); have K3a := Lib.hid (K3.out.below hb); have HXa := Lib.hid (HX0.out.below hb)
  clear hb AX K0 K1 K2 K3 HX0
  obtain ⟨y0, y1, y2⟩ := K1a.out.cells
  go_wp2_with fail
  refine (HMY.out _).mono ?_
  rintro e wb ⟨rfl, hb⟩
  have AXb := Lib.hid (AXa.out.trans (Below.mono hb AXa.out.size)); have K0b := Lib.hid (K0a.out.below hb); have K1b := Lib.hid (K1a.out.below hb); have K2b := Lib.hid (K2a.out.below hb); have K3b := Lib.hid (K3a.out.below hb); have HXb := Lib.hid (HXa.out.below hb)
  clear hb AXa K0a K1a K2a K3a HXa y0 y1 y2
  obtain ⟨t0, t1, t2, t3, t4, t5, t6, t7, t8, t9⟩ := K0b.out.cells10
  obtain ⟨y0, y1, y2⟩ := K1b.out.cells
  have l0 := K0b.out.lt; have l1 := K1b.out.lt
  go_wp2_with fail
  go_cut [7] (fun p wx => Wkd w wb b0 b1 b2 b3 c q x p wx)
  case first =>
    have HSS : Hid (∀ W', Below wb.heap.size wb W' → W'.cell? ⟨b0, 0, none⟩ = some (.int .i64 c.cap) ∧ W'.cell? ⟨b0, 1, none⟩ = some (.bool c.cl) ∧ W'.cell? ⟨b0, 2, none⟩ = some (.int .i64 c.rc) ∧ W'.cell? ⟨b0, 3, none⟩ = some (.int .i64 c.rf) ∧ W'.cell? ⟨b0, 4, none⟩ = some (.slice q.za q.zn q.zc) ∧ W'.cell? ⟨b0, 5, none⟩ = some (.int .i64 c.rk) ∧ W'.cell? ⟨b0, 6, none⟩ = some (.int .i64 c.sent) ∧ W'.cell? ⟨b0, 7, none⟩ = some (.int .i64 c.got) ∧ W'.cell? ⟨b0, 8, none⟩ = some (.slice q.sa q.sn q.sc) ∧ W'.cell? ⟨b0, 9, none⟩ = some (.slice q.ra q.rn q.rq) ∧ W'.cell? ⟨b1, 0, none⟩ = some (.int .i64 x.g) ∧ W'.cell? ⟨b1, 1, none⟩ = some (.int .i64 x.c) ∧ W'.cell? ⟨b1, 2, none⟩ = some (.int .i64 x.s)) := Lib.hid (fun W' hb => by obtain ⟨a0, a1, a2, a3, a4, a5, a6, a7, a8, a9⟩ := (K0b.out.below hb).cells10; obtain ⟨c0, c1, c2⟩ := (K1b.out.below hb).cells; exact ⟨a0, a1, a2, a3, a4, a5, a6, a7, a8, a9, c0, c1, c2⟩)
    refine wp_region_held_drew (S := (fun W => W.cell? ⟨b0, 0, none⟩ = some (.int .i64 c.cap) ∧ W.cell? ⟨b0, 1, none⟩ = some (.bool c.cl) ∧ W.cell? ⟨b0, 2, none⟩ = some (.int .i64 c.rc) ∧ W.cell? ⟨b0, 3, none⟩ = some (.int .i64 c.rf) ∧ W.cell? ⟨b0, 4, none⟩ = some (.slice q.za q.zn q.zc) ∧ W.cell? ⟨b0, 5, none⟩ = some (.int .i64 c.rk) ∧ W.cell? ⟨b0, 6, none⟩ = some (.int .i64 c.sent) ∧ W.cell? ⟨b0, 7, none⟩ = some (.int .i64 c.got) ∧ W.cell? ⟨b0, 8, none⟩ = some (.slice q.sa q.sn q.sc) ∧ W.cell? ⟨b0, 9, none⟩ = some (.slice q.ra q.rn q.rq) ∧ W.cell? ⟨b1, 0, none⟩ = some (.int .i64 x.g) ∧ W.cell? ⟨b1, 1, none⟩ = some (.int .i64 x.c) ∧ W.cell? ⟨b1, 2, none⟩ = some (.int .i64 x.s))) (by kernel_rfl) ?_ (fun hHeld => ?_)
    · exact HSS.out _ ((Below.refl _ _).drew)
    refine wpAnyH_take (i := 0) (v := ?_) rfl (by kernel_rfl) (by kernel_rfl) (by kernel_rfl) (fun _ _ _ h => h) (Or.inl ⟨by rfl, ?_⟩) (by assumption) ?_
    rotate_left
    · (intro w hSw; (try dsimp only at hSw); go_simp; try with_reducible rfl)
    (try simp only [Act.put, List.getElem_toArray, List.getElem_cons_zero, List.setIfInBounds_toArray, List.set_cons_zero, List.set_cons_succ])
    refine wpAnyH_take (i := 2) (v := ?_) rfl (by kernel_rfl) (by kernel_rfl) (by kernel_rfl) (fun _ _ _ h => h) (Or.inl ⟨by rfl, ?_⟩) (by assumption) ?_
    rotate_left
    · (intro w hSw; (try dsimp only at hSw); go_simp; try with_reducible rfl)
    (try simp only [Act.put, List.getElem_toArray, List.getElem_cons_zero, List.getElem_cons_succ, List.setIfInBounds_toArray, List.set_cons_zero, List.set_cons_succ])
    refine wpAnyH_ready (rs := [1, 4]) (by kernel_rfl) (by simp) ?_
    refine AllReadyH.cons (o := _) rfl (fun K hK => ?_) ?_
    · go_simp
      refine (HCP.out _ (HXb.out.below (Below.refl _ _).drew)).mono ?_
      rintro e wc ⟨q', rfl, hcc, hcb, hcf⟩
      have BC := Lib.hid (show Below wb.heap.size wb wc from ((Below.refl _ _).drew).trans hcb)
      have HCC := Lib.hid hcc
      have HCF := Lib.hid (show ∀ B, B < wb.heap.size → Ap q' B from hcf)
      clear hcc hcb hcf
      have K1c := Lib.hid (K1b.out.below BC.out)
      obtain ⟨z0, z1, z2⟩ := K1c.out.cells
      have lc := K1c.out.lt
      refine hK.out _ _ (by first | exact HSS.out _ BC.out) (fun hHeld => ?_)
      clear hK K
      (try simp only [Act.put, List.getElem_toArray, List.getElem_cons_zero, List.getElem_cons_succ, List.setIfInBounds_toArray, List.set_cons_zero, List.set_cons_succ])
      refine wpAnyH_take (i := 3) (v := ?_) rfl (by kernel_rfl) (by kernel_rfl) (by kernel_rfl) (fun _ _ _ h => h) (Or.inl ⟨by rfl, ?_⟩) (by assumption) ?_
      rotate_left
      · (intro w hSw; (try dsimp only at hSw); go_simp; try with_reducible rfl)
      (try simp only [Act.put, List.getElem_toArray, List.getElem_cons_zero, List.getElem_cons_succ, List.setIfInBounds_toArray, List.set_cons_zero, List.set_cons_succ])
      refine wpAnyH_ready (rs := [4]) (by kernel_rfl) (by simp) ?_
      refine AllReadyH.cons (o := _) rfl (fun K hK => ?_) AllReadyH.nil
      go_simp
      refine hK.out _ _ (by first | exact HSS.out _ (BC.out.alloc BC.out.size _)) (fun hHeld => ?_)
      clear hK K
      (try simp only [Act.put, List.getElem_toArray, List.getElem_cons_zero, List.getElem_cons_succ, List.setIfInBounds_toArray, List.set_cons_zero, List.set_cons_succ])
      refine wpAnyH_ready (rs := [5]) (by kernel_rfl) (by simp) ?_
      refine AllReadyH.cons (o := _) rfl (fun K hK => ?_) AllReadyH.nil
      go_simp
      refine hK.out _ _ (by first | exact HSS.out _ (BC.out.alloc BC.out.size _) | exact HSS.out _ (below_st13 (BC.out.alloc BC.out.size _) BC.out.size _ _ _ _ _ _ _ _ _ _ _ _ _)) (fun hHeld => ?_)
      clear hK K
      (try simp only [Act.put, List.getElem_toArray, List.getElem_cons_zero, List.getElem_cons_succ, List.setIfInBounds_toArray, List.set_cons_zero, List.set_cons_succ])
      refine wpAnyH_done (by kernel_rfl) ?_ _
      go_wp2_with fail
      go_meet
      exact wkd_mk AXb.out K0b.out K1b.out K2b.out K3b.out BC.out HCC.out HCF.out
    · refine AllReadyH.cons (o := _) rfl (fun K hK => ?_) AllReadyH.nil
      go_simp
      refine hK.out _ _ (by first | exact HSS.out _ (((Below.refl _ _).drew).alloc (by simp) _)) (fun hHeld => ?_)
      clear hK K
      (try simp only [Act.put, List.getElem_toArray, List.getElem_cons_zero, List.getElem_cons_succ, List.setIfInBounds_toArray, List.set_cons_zero, List.set_cons_succ])
      refine wpAnyH_ready (rs := [1]) (by kernel_rfl) (by simp) ?_
      refine AllReadyH.cons (o := _) rfl (fun K hK => ?_) AllReadyH.nil
      go_simp
      refine (HCP.out _ (HXb.out.below ((below_alloc wb (.cells zero13 61)).drew))).mono ?_
      rintro e wc ⟨q', rfl, hcc, hcb, hcf⟩
      have hcb2 := Lib.hid hcb
      have hsz0 : (wb.alloc (.cells zero13 61)).drew.heap.size = wb.heap.size + 1 := World.size_alloc _ _
      rw [hsz0] at hcb hcf
      have HZ2 := Lib.hid ((((Bx.new wb zero13 61).below (Below.refl _ _).drew)).below hcb2.out)
      have BC := Lib.hid (show Below wb.heap.size wb wc from ((below_alloc wb (.cells zero13 61)).drew).trans (Below.mono hcb (by omega)))
      have HCC := Lib.hid hcc
      have HCF := Lib.hid hcf
      clear hcc hcb hcf hsz0 hcb2
      have K1c := Lib.hid (K1b.out.below BC.out)
      obtain ⟨z0, z1, z2⟩ := K1c.out.cells
      have lc := K1c.out.lt
      obtain ⟨v0, v1, v2, v3, v4, v5, v6, v7, v8, v9, v10, v11, v12⟩ := HZ2.out.cells13
      have f0 := HZ2.out.froz 0
      have f1 := HZ2.out.froz 1
      have f2 := HZ2.out.froz 2
      have f3 := HZ2.out.froz 3
      have f4 := HZ2.out.froz 4
      have f5 := HZ2.out.froz 5
      have f6 := HZ2.out.froz 6
      have f7 := HZ2.out.froz 7
      have f8 := HZ2.out.froz 8
      have f9 := HZ2.out.froz 9
      have f10 := HZ2.out.froz 10
      have f11 := HZ2.out.froz 11
      have f12 := HZ2.out.froz 12
      have lz := HZ2.out.lt
      refine hK.out _ _ (by first | exact HSS.out _ BC.out) (fun hHeld => ?_)
      clear hK K
      (try simp only [Act.put, List.getElem_toArray, List.getElem_cons_zero, List.getElem_cons_succ, List.setIfInBounds_toArray, List.set_cons_zero, List.set_cons_succ])
      refine wpAnyH_take (i := 3) (v := ?_) rfl (by kernel_rfl) (by kernel_rfl) (by kernel_rfl) (fun _ _ _ h => h) (Or.inl ⟨by rfl, ?_⟩) (by assumption) ?_
      rotate_left
      · (intro w hSw; (try dsimp only at hSw); go_simp; try with_reducible rfl)
      (try simp only [Act.put, List.getElem_toArray, List.getElem_cons_zero, List.getElem_cons_succ, List.setIfInBounds_toArray, List.set_cons_zero, List.set_cons_succ])
      refine wpAnyH_ready (rs := [5]) (by kernel_rfl) (by simp) ?_
      refine AllReadyH.cons (o := _) rfl (fun K hK => ?_) AllReadyH.nil
      go_simp
      refine hK.out _ _ (by first | exact HSS.out _ (below_st13 BC.out (Nat.le_refl _) _ _ _ _ _ _ _ _ _ _ _ _ _)) (fun hHeld => ?_)
      clear hK K
      (try simp only [Act.put, List.getElem_toArray, List.getElem_cons_zero, List.getElem_cons_succ, List.setIfInBounds_toArray, List.set_cons_zero, List.set_cons_succ])
      refine wpAnyH_done (by kernel_rfl) ?_ _
      go_wp2_with fail
      go_meet
      exact wkd_mk2 AXb.out K0b.out K1b.out K2b.out K3b.out BC.out HZ2.out HCC.out HCF.out
  case rest =>
    obtain ⟨B, qw, rfl, hwk, hap2, hap3, hbl, k0, k1, k2, k3, hBX, hfr0⟩ := hcut
    have FR0 := Lib.hid (show ∀ B', B' < w.heap.size → Ap qw B' from fun B' hB' => hfr0 B' (Nat.lt_of_lt_of_le hB' AXb.out.size))
    clear hfr0
    have HW0 := Lib.hid hwk; have AP2 := Lib.hid hap2; have AP3 := Lib.hid hap3; have AC := Lib.hid hbl; have K0c := Lib.hid k0; have K1c := Lib.hid k1; have K2c := Lib.hid k2; have K3c := Lib.hid k3
    have nB0 : b0 ≠ B := by have := K0b.out.lt; omega
    have nB1 : b1 ≠ B := by have := K1b.out.lt; omega
    have nB2 : b2 ≠ B := by have := K2b.out.lt; omega
    have nB3 : b3 ≠ B := by have := K3b.out.lt; omega
    have HBB := Lib.hid (show w.heap.size ≤ B by have := AXb.out.size; omega)
    clear hwk hap2 hap3 hbl k0 k1 k2 k3 hBX t0 t1 t2 t3 t4 t5 t6 t7 t8 t9 y0 y1 y2 l0 l1 K0b K1b K2b K3b AXb HXb
    go_wp2_with fail
    refine (HDO.out _ _ _ HW0.out).mono ?_
    rintro e wd ⟨q1, rfl, hw1, hg1, hk1⟩
    have HW1 := Lib.hid hw1; have G1 := Lib.hid hg1; have AP2a := Lib.hid (hk1 b2 K2c.out.lt AP2.out); have AP3a := Lib.hid (hk1 b3 K3c.out.lt AP3.out)
    have FR1 := Lib.hid (show ∀ B', B' < w.heap.size → Ap q1 B' from fun B' hB' => hk1 B' (Nat.lt_of_lt_of_le hB' AC.out.size) (FR0.out B' hB'))
    have K0d := Lib.hid (K0c.out.other hg1 (fun e => nB0 (by cases e; rfl))); have K2d := Lib.hid (K2c.out.other hg1 (fun e => nB2 (by cases e; rfl))); have K3d := Lib.hid (K3c.out.other hg1 (fun e => nB3 (by cases e; rfl)))
    have K1d := Lib.hid (show Box3 wd b1 x from (hg1.block b1 K1c.out.lt (fun e => nB1 (by cases e; rfl))).trans K1c.out)
    have AD := Lib.hid (show Below w.heap.size w wd from AC.out.grown hg1 AC.out.size (fun k hk => by cases hk; exact HBB.out))
    clear hw1 hg1 hk1 HW0 AP2 AP3 K0c K1c K2c K3c AC HDO
    have Y1 := Lib.hid (Bx.new wd (outC o) 50)
    have ln2 := K2d.out.lt; have ln3 := K3d.out.lt; have lnB := HW1.out.box.lt; have ln1 := K1d.out.lt
    have AY := Lib.hid (AD.out.alloc AD.out.size (.cells (outC o) 50))
    have HWY := Lib.hid (HW1.out.below (below_alloc wd (.cells (outC o) 50))); have K1y := Lib.hid (K1d.out.below (below_alloc wd (.cells (outC o) 50))); have K2y := Lib.hid (K2d.out.below (below_alloc wd (.cells (outC o) 50))); have K3y := Lib.hid (K3d.out.below (below_alloc wd (.cells (outC o) 50)))
    go_upto_region 5 with (fail)
    obtain ⟨Y, hY⟩ : ∃ Y, Y = wd.alloc (.cells (outC o) 50) := ⟨_, rfl⟩
    obtain ⟨by_, hby⟩ : ∃ b, b = wd.heap.size := ⟨_, rfl⟩
    rw [← hY] at Y1 AY HWY K1y K2y K3y ⊢
    rw [← hby] at Y1 ln1 ln2 ln3 lnB ⊢
    have ny2 : by_ ≠ b2 := by omega
    have ny3 : by_ ≠ b3 := by omega
    have nyB : by_ ≠ B := by omega
    have ny1 : by_ ≠ b1 := by omega
    clear hY hby ln1 ln2 ln3 lnB K0d K1d K2d K3d HW1 AD
    have HRS := HRES.out
    clear HRES
    rcases HRS with ⟨hw, hw2, rfl, rfl, rfl⟩ | ⟨rfl, hk, rfl, rfl, rfl⟩ | ⟨rfl, rfl, hc, rfl, rfl, rfl⟩ | ⟨rfl, rfl, hc, hrw, hres⟩
    · obtain ⟨y0, y1, y2, y3, y4, y5⟩ := Y1.out.cells6
      obtain ⟨p0, p1, p2, p3, p4, p5, p6, p7, p8, p9, p10, p11, p12⟩ := HWY.out.box.cells13
      refine wp_region_held_drew (S := (fun W => W.cell? ⟨by_, 0, none⟩ = some (.int .i64 o.kind) ∧ W.cell? ⟨by_, 1, none⟩ = some (.int .i64 o.no) ∧ W.cell? ⟨by_, 2, none⟩ = some (.int .i64 o.who.g) ∧ W.cell? ⟨by_, 3, none⟩ = some (.int .i64 o.who.c) ∧ W.cell? ⟨by_, 4, none⟩ = some (.int .i64 o.who.s) ∧ W.cell? ⟨by_, 5, none⟩ = some (.int .i64 o.other) ∧ W.cell? ⟨B, 0, none⟩ = some (.int .i64 c'.cap))) (by kernel_rfl) ?_ (fun hHeld => ?_)
      · exact ⟨y0, y1, y2, y3, y4, y5, p0⟩
      refine wpAnyH_take (i := 0) (v := ?_) rfl (by kernel_rfl) (by kernel_rfl) (by kernel_rfl) (fun _ _ _ h => h) (Or.inl ⟨by rfl, ?_⟩) (by assumption) ?_
      rotate_left
      · (intro w hSw; (try dsimp only at hSw); go_simp; try with_reducible rfl)
      (try simp only [Act.put, List.getElem_toArray, List.getElem_cons_zero, List.setIfInBounds_toArray, List.set_cons_zero, List.set_cons_succ])
      refine wpAnyH_take (i := 1) (v := ?_) rfl (by kernel_rfl) (by kernel_rfl) (by kernel_rfl) (fun _ _ _ h => h) (Or.inl ⟨by rfl, ?_⟩) (by assumption) ?_
      rotate_left
      · (intro w hSw; (try dsimp only at hSw); go_simp; try with_reducible rfl)
      (try simp only [Act.put, List.getElem_toArray, List.getElem_cons_zero, List.getElem_cons_succ, List.setIfInBounds_toArray, List.set_cons_zero, List.set_cons_succ])
      refine wpAnyH_take (i := 2) (v := ?_) rfl (by kernel_rfl) (by kernel_rfl) (by kernel_rfl) (fun _ _ _ h => h) (Or.inl ⟨by rfl, ?_⟩) (by assumption) ?_
      rotate_left
      · (intro w hSw; (try dsimp only at hSw); go_simp; try with_reducible rfl)
      (try simp only [Act.put, List.getElem_toArray, List.getElem_cons_zero, List.getElem_cons_succ, List.setIfInBounds_toArray, List.set_cons_zero, List.set_cons_succ])
      refine wpAnyH_take (i := 3) (v := undef) rfl (by kernel_rfl) (by kernel_rfl) (by kernel_rfl) (fun _ _ _ h => h) (Or.inr ⟨by kernel_rfl, rfl⟩) (by assumption) ?_
      (try simp only [Act.put, List.getElem_toArray, List.getElem_cons_zero, List.getElem_cons_succ, List.setIfInBounds_toArray, List.set_cons_zero, List.set_cons_succ])
      refine wpAnyH_take (i := 4) (v := undef) rfl (by kernel_rfl) (by kernel_rfl) (by kernel_rfl) (fun _ _ _ h => h) (Or.inr ⟨by kernel_rfl, rfl⟩) (by assumption) ?_
      (try simp only [Act.put, List.getElem_toArray, List.getElem_cons_zero, List.getElem_cons_succ, List.setIfInBounds_toArray, List.set_cons_zero, List.set_cons_succ])
      refine wpAnyH_take (i := 5) (v := undef) rfl (by kernel_rfl) (by kernel_rfl) (by kernel_rfl) (fun _ _ _ h => h) (Or.inr ⟨by kernel_rfl, rfl⟩) (by assumption) ?_
      (try simp only [Act.put, List.getElem_toArray, List.getElem_cons_zero, List.getElem_cons_succ, List.setIfInBounds_toArray, List.set_cons_zero, List.set_cons_succ])
      refine wpAnyH_take (i := 6) (v := ?_) rfl (by kernel_rfl) (by kernel_rfl) (by kernel_rfl) (fun _ _ _ h => h) (Or.inl ⟨by rfl, ?_⟩) (by assumption) ?_
      rotate_left
      · (intro w hSw; (try dsimp only at hSw); go_simp; try with_reducible rfl)
      (try simp only [Act.put, List.getElem_toArray, List.getElem_cons_zero, List.getElem_cons_succ, List.setIfInBounds_toArray, List.set_cons_zero, List.set_cons_succ])
      refine wpAnyH_take (i := 7) (v := ?_) rfl (by kernel_rfl) (by kernel_rfl) (by kernel_rfl) (fun _ _ _ h => h) (Or.inl ⟨by rfl, ?_⟩) (by assumption) ?_
      rotate_left
      · (intro w hSw; (try dsimp only at hSw); go_simp; try with_reducible rfl)
      (try simp only [Act.put, List.getElem_toArray, List.getElem_cons_zero, List.getElem_cons_succ, List.setIfInBounds_toArray, List.set_cons_zero, List.set_cons_succ])
      refine wpAnyH_take (i := 8) (v := undef) rfl (by kernel_rfl) (by kernel_rfl) (by kernel_rfl) (fun _ _ _ h => h) (Or.inr ⟨by kernel_rfl, rfl⟩) (by assumption) ?_
      (try simp only [Act.put, List.getElem_toArray, List.getElem_cons_zero, List.getElem_cons_succ, List.setIfInBounds_toArray, List.set_cons_zero, List.set_cons_succ])
      refine wpAnyH_take (i := 9) (v := undef) rfl (by kernel_rfl) (by kernel_rfl) (by kernel_rfl) (fun _ _ _ h => h) (Or.inr ⟨by kernel_rfl, rfl⟩) (by assumption) ?_
      (try simp only [Act.put, List.getElem_toArray, List.getElem_cons_zero, List.getElem_cons_succ, List.setIfInBounds_toArray, List.set_cons_zero, List.set_cons_succ])
      refine wpAnyH_take (i := 10) (v := undef) rfl (by kernel_rfl) (by kernel_rfl) (by kernel_rfl) (fun _ _ _ h => h) (Or.inr ⟨by kernel_rfl, rfl⟩) (by assumption) ?_
      (try simp only [Act.put, List.getElem_toArray, List.getElem_cons_zero, List.getElem_cons_succ, List.setIfInBounds_toArray, List.set_cons_zero, List.set_cons_succ])
      refine wpAnyH_take (i := 11) (v := undef) rfl (by kernel_rfl) (by kernel_rfl) (by kernel_rfl) (fun _ _ _ h => h) (Or.inr ⟨by kernel_rfl, rfl⟩) (by assumption) ?_
      (try simp only [Act.put, List.getElem_toArray, List.getElem_cons_zero, List.getElem_cons_succ, List.setIfInBounds_toArray, List.set_cons_zero, List.set_cons_succ])
      refine wpAnyH_take (i := 12) (v := ?_) rfl (by kernel_rfl) (by kernel_rfl) (by kernel_rfl) (fun _ _ _ h => h) (Or.inl ⟨by rfl, ?_⟩) (by assumption) ?_
      rotate_left
      · (intro w hSw; (try dsimp only at hSw); go_simp; try with_reducible rfl)
      (try simp only [Act.put, List.getElem_toArray, List.getElem_cons_zero, List.getElem_cons_succ, List.setIfInBounds_toArray, List.set_cons_zero, List.set_cons_succ])
      refine wpAnyH_done (by kernel_rfl) ?_ _
      have HWV := Lib.hid (HWY.out.below (Below.refl _ _).drew); have YV := Lib.hid (Y1.out.below (Below.refl _ _).drew); have K1V := Lib.hid (K1y.out.below (Below.refl _ _).drew); have K2V := Lib.hid (K2y.out.below (Below.refl _ _).drew); have K3V := Lib.hid (K3y.out.below (Below.refl _ _).drew); have AV := Lib.hid (AY.out.trans (Below.mono (Below.refl _ _).drew AY.out.size)); have AP2V := AP2a; have AP3V := AP3a
      clear y0 y1 y2 y3 y4 y5 p0 p1 p2 p3 p4 p5 p6 p7 p8 p9 p10 p11 p12
      obtain ⟨y0, y1, y2, y3, y4, y5⟩ := YV.out.cells6
      have lyv := YV.out.lt
      go_wp2_with fail
      refine (told_err B o whyR _ hw).mono ?_
      rintro e we ⟨rfl, hb⟩
      have KE2 := Lib.hid (K2V.out.below hb); have KE3 := Lib.hid (K3V.out.below hb); have AE := Lib.hid (AV.out.trans (Below.mono hb AV.out.size)); have HWE := Lib.hid (HWV.out.below hb)
      clear hb
      obtain ⟨t0, t1, t2, t3, t4, t5, t6, t7, t8, t9⟩ := KE2.out.cells10
      obtain ⟨z0, z1, z2, z3, z4, z5⟩ := KE3.out.cells6
      have g0 := KE2.out.froz 0
      have g1 := KE2.out.froz 1
      have g2 := KE2.out.froz 2
      have g3 := KE2.out.froz 3
      have g4 := KE2.out.froz 4
      have g5 := KE2.out.froz 5
      have g6 := KE2.out.froz 6
      have g7 := KE2.out.froz 7
      have g8 := KE2.out.froz 8
      have g9 := KE2.out.froz 9
      have k0 := KE3.out.froz 0
      have k1 := KE3.out.froz 1
      have k2 := KE3.out.froz 2
      have k3 := KE3.out.froz 3
      have k4 := KE3.out.froz 4
      have k5 := KE3.out.froz 5
      have le2 := KE2.out.lt; have le3 := KE3.out.lt
      have E1 := Lib.hid ((KE2.out.st10 (.int .i64 0) (.bool false) (.int .i64 0) (.int .i64 0) (.slice none 0 0) (.int .i64 0) (.int .i64 0) (.int .i64 0) (.slice none 0 0) (.slice none 0 0)).other (grown_st6 (World.grownBy.refl _ (some b3)) (.int .i64 0) (.int .i64 0) (.int .i64 0) (.int .i64 0) (.int .i64 0) (.int .i64 0)) (fun e => n23 (by cases e; rfl)))
      have E2 := Lib.hid ((KE3.out.other (grown_st10 (World.grownBy.refl _ (some b2)) (.int .i64 0) (.bool false) (.int .i64 0) (.int .i64 0) (.slice none 0 0) (.int .i64 0) (.int .i64 0) (.int .i64 0) (.slice none 0 0) (.slice none 0 0)) (fun e => n32 (by cases e; rfl))).st6 (.int .i64 0) (.int .i64 0) (.int .i64 0) (.int .i64 0) (.int .i64 0) (.int .i64 0))
      have E3 := Lib.hid (below_st6 (below_st10 AE.out HBW.out.1 (.int .i64 0) (.bool false) (.int .i64 0) (.int .i64 0) (.slice none 0 0) (.int .i64 0) (.int .i64 0) (.int .i64 0) (.slice none 0 0) (.slice none 0 0)) HBW.out.2 (.int .i64 0) (.int .i64 0) (.int .i64 0) (.int .i64 0) (.int .i64 0) (.int .i64 0))
      go_wp2_with fail
      exact bodyPost_ret (v := .tuple #[.agg zero10, .agg zero6, .int .i64 whyR]) (by rw [res_cc1 Try.results23 _ (by rfl) (E1.out.load Try.underlying27 infC) (by rfl) (E2.out.load Try.underlying50 infO)]; rfl) rfl (zeroP E3.out)
    · obtain ⟨y0, y1, y2, y3, y4, y5⟩ := Y1.out.cells6
      obtain ⟨p0, p1, p2, p3, p4, p5, p6, p7, p8, p9, p10, p11, p12⟩ := HWY.out.box.cells13
      refine wp_region_held_drew (S := (fun W => W.cell? ⟨by_, 0, none⟩ = some (.int .i64 oR.kind) ∧ W.cell? ⟨by_, 1, none⟩ = some (.int .i64 oR.no) ∧ W.cell? ⟨by_, 2, none⟩ = some (.int .i64 oR.who.g) ∧ W.cell? ⟨by_, 3, none⟩ = some (.int .i64 oR.who.c) ∧ W.cell? ⟨by_, 4, none⟩ = some (.int .i64 oR.who.s) ∧ W.cell? ⟨by_, 5, none⟩ = some (.int .i64 oR.other) ∧ W.cell? ⟨B, 0, none⟩ = some (.int .i64 cR.cap))) (by kernel_rfl) ?_ (fun hHeld => ?_)
      · exact ⟨y0, y1, y2, y3, y4, y5, p0⟩
      refine wpAnyH_take (i := 0) (v := ?_) rfl (by kernel_rfl) (by kernel_rfl) (by kernel_rfl) (fun _ _ _ h => h) (Or.inl ⟨by rfl, ?_⟩) (by assumption) ?_
      rotate_left
      · (intro w hSw; (try dsimp only at hSw); go_simp; try with_reducible rfl)
      (try simp only [Act.put, List.getElem_toArray, List.getElem_cons_zero, List.setIfInBounds_toArray, List.set_cons_zero, List.set_cons_succ])
      refine wpAnyH_take (i := 1) (v := ?_) rfl (by kernel_rfl) (by kernel_rfl) (by kernel_rfl) (fun _ _ _ h => h) (Or.inl ⟨by rfl, ?_⟩) (by assumption) ?_
      rotate_left
      · (intro w hSw; (try dsimp only at hSw); go_simp; try with_reducible rfl)
      (try simp only [Act.put, List.getElem_toArray, List.getElem_cons_zero, List.getElem_cons_succ, List.setIfInBounds_toArray, List.set_cons_zero, List.set_cons_succ])
      refine wpAnyH_take (i := 2) (v := ?_) rfl (by kernel_rfl) (by kernel_rfl) (by kernel_rfl) (fun _ _ _ h => h) (Or.inl ⟨by rfl, ?_⟩) (by assumption) ?_
      rotate_left
      · (intro w hSw; (try dsimp only at hSw); go_simp; try with_reducible rfl)
      (try simp only [Act.put, List.getElem_toArray, List.getElem_cons_zero, List.getElem_cons_succ, List.setIfInBounds_toArray, List.set_cons_zero, List.set_cons_succ])
      refine wpAnyH_take (i := 3) (v := ?_) rfl (by kernel_rfl) (by kernel_rfl) (by kernel_rfl) (fun _ _ _ h => h) (Or.inl ⟨by rfl, ?_⟩) (by assumption) ?_
      rotate_left
      · (intro w hSw; (try dsimp only at hSw); go_simp; try with_reducible rfl)
      (try simp only [Act.put, List.getElem_toArray, List.getElem_cons_zero, List.getElem_cons_succ, List.setIfInBounds_toArray, List.set_cons_zero, List.set_cons_succ])
      refine wpAnyH_ready (rs := [4]) (by kernel_rfl) (by simp) ?_
      refine AllReadyH.cons (o := _) rfl (fun K hK => ?_) AllReadyH.nil
      go_simp
      refine (alone_any 0 _).mono ?_
      rintro e wv ⟨rfl, hbv⟩
      have BV := Lib.hid (show Below Y.heap.size Y wv from ((Below.refl _ _).drew).trans hbv)
      clear hbv
      have YW := Lib.hid (Y1.out.below BV.out); have HWW := Lib.hid (HWY.out.below BV.out)
      obtain ⟨y0', y1', y2', y3', y4', y5'⟩ := YW.out.cells6
      have p0' := HWW.out.box.cell 0 (v := .int .i64 cR.cap) rfl
      refine hK.out _ _ ?_ (fun hHeld => ?_)
      · exact ⟨y0', y1', y2', y3', y4', y5', p0'⟩
      clear hK K
      (try simp only [Act.put, List.getElem_toArray, List.getElem_cons_zero, List.getElem_cons_succ, List.setIfInBounds_toArray, List.set_cons_zero, List.set_cons_succ])
      refine wpAnyH_take (i := 5) (v := ?_) rfl (by kernel_rfl) (by kernel_rfl) (by kernel_rfl) (fun _ _ _ h => h) (Or.inl ⟨by rfl, ?_⟩) (by assumption) ?_
      rotate_left
      · (intro w hSw; (try dsimp only at hSw); go_simp; try with_reducible rfl)
      (try simp only [Act.put, List.getElem_toArray, List.getElem_cons_zero, List.getElem_cons_succ, List.setIfInBounds_toArray, List.set_cons_zero, List.set_cons_succ])
      refine wpAnyH_take (i := 6) (v := ?_) rfl (by kernel_rfl) (by kernel_rfl) (by kernel_rfl) (fun _ _ _ h => h) (Or.inl ⟨by rfl, ?_⟩) (by assumption) ?_
      rotate_left
      · (intro w hSw; (try dsimp only at hSw); go_simp; try with_reducible rfl)
      (try simp only [Act.put, List.getElem_toArray, List.getElem_cons_zero, List.getElem_cons_succ, List.setIfInBounds_toArray, List.set_cons_zero, List.set_cons_succ])
      refine wpAnyH_take (i := 7) (v := ?_) rfl (by kernel_rfl) (by kernel_rfl) (by kernel_rfl) (fun _ _ _ h => h) (Or.inl ⟨by rfl, ?_⟩) (by assumption) ?_
      rotate_left
      · (intro w hSw; (try dsimp only at hSw); go_simp; try with_reducible rfl)
      (try simp only [Act.put, List.getElem_toArray, List.getElem_cons_zero, List.getElem_cons_succ, List.setIfInBounds_toArray, List.set_cons_zero, List.set_cons_succ])
      refine wpAnyH_take (i := 8) (v := undef) rfl (by kernel_rfl) (by kernel_rfl) (by kernel_rfl) (fun _ _ _ h => h) (Or.inr ⟨by kernel_rfl, rfl⟩) (by assumption) ?_
      (try simp only [Act.put, List.getElem_toArray, List.getElem_cons_zero, List.getElem_cons_succ, List.setIfInBounds_toArray, List.set_cons_zero, List.set_cons_succ])
      refine wpAnyH_take (i := 9) (v := undef) rfl (by kernel_rfl) (by kernel_rfl) (by kernel_rfl) (fun _ _ _ h => h) (Or.inr ⟨by kernel_rfl, rfl⟩) (by assumption) ?_
      (try simp only [Act.put, List.getElem_toArray, List.getElem_cons_zero, List.getElem_cons_succ, List.setIfInBounds_toArray, List.set_cons_zero, List.set_cons_succ])
      refine wpAnyH_take (i := 10) (v := undef) rfl (by kernel_rfl) (by kernel_rfl) (by kernel_rfl) (fun _ _ _ h => h) (Or.inr ⟨by kernel_rfl, rfl⟩) (by assumption) ?_
      (try simp only [Act.put, List.getElem_toArray, List.getElem_cons_zero, List.getElem_cons_succ, List.setIfInBounds_toArray, List.set_cons_zero, List.set_cons_succ])
      refine wpAnyH_take (i := 11) (v := undef) rfl (by kernel_rfl) (by kernel_rfl) (by kernel_rfl) (fun _ _ _ h => h) (Or.inr ⟨by kernel_rfl, rfl⟩) (by assumption) ?_
      (try simp only [Act.put, List.getElem_toArray, List.getElem_cons_zero, List.getElem_cons_succ, List.setIfInBounds_toArray, List.set_cons_zero, List.set_cons_succ])
      refine wpAnyH_take (i := 12) (v := ?_) rfl (by kernel_rfl) (by kernel_rfl) (by kernel_rfl) (fun _ _ _ h => h) (Or.inl ⟨by rfl, ?_⟩) (by assumption) ?_
      rotate_left
      · (intro w hSw; (try dsimp only at hSw); go_simp; try with_reducible rfl)
      (try simp only [Act.put, List.getElem_toArray, List.getElem_cons_zero, List.getElem_cons_succ, List.setIfInBounds_toArray, List.set_cons_zero, List.set_cons_succ])
      refine wpAnyH_done (by kernel_rfl) ?_ _
      have HWV := Lib.hid (HWY.out.below BV.out); have YV := Lib.hid (Y1.out.below BV.out); have K1V := Lib.hid (K1y.out.below BV.out); have K2V := Lib.hid (K2y.out.below BV.out); have K3V := Lib.hid (K3y.out.below BV.out); have AV := Lib.hid (AY.out.trans (Below.mono BV.out AY.out.size)); have AP2V := AP2a; have AP3V := AP3a
      clear y0 y1 y2 y3 y4 y5 y0' y1' y2' y3' y4' y5' p0' p0 p1 p2 p3 p4 p5 p6 p7 p8 p9 p10 p11 p12
      obtain ⟨y0, y1, y2, y3, y4, y5⟩ := YV.out.cells6
      have lyv := YV.out.lt
      go_wp2_with fail
      refine (told_ok B cR q1 x oR _ HWV.out).mono ?_
      rintro e we ⟨rfl, hb⟩
      have KE2 := Lib.hid (K2V.out.below hb); have KE3 := Lib.hid (K3V.out.below hb); have AE := Lib.hid (AV.out.trans (Below.mono hb AV.out.size)); have HWE := Lib.hid (HWV.out.below hb)
      clear hb
      obtain ⟨t0, t1, t2, t3, t4, t5, t6, t7, t8, t9⟩ := KE2.out.cells10
      obtain ⟨z0, z1, z2, z3, z4, z5⟩ := KE3.out.cells6
      have g0 := KE2.out.froz 0
      have g1 := KE2.out.froz 1
      have g2 := KE2.out.froz 2
      have g3 := KE2.out.froz 3
      have g4 := KE2.out.froz 4
      have g5 := KE2.out.froz 5
      have g6 := KE2.out.froz 6
      have g7 := KE2.out.froz 7
      have g8 := KE2.out.froz 8
      have g9 := KE2.out.froz 9
      have k0 := KE3.out.froz 0
      have k1 := KE3.out.froz 1
      have k2 := KE3.out.froz 2
      have k3 := KE3.out.froz 3
      have k4 := KE3.out.froz 4
      have k5 := KE3.out.froz 5
      have le2 := KE2.out.lt; have le3 := KE3.out.lt
      have E1 := Lib.hid ((KE2.out.st10 (.int .i64 cR.cap) (.bool cR.cl) (.int .i64 cR.rc) (.int .i64 cR.rf) (.slice q1.za q1.zn q1.zc) (.int .i64 cR.rk) (.int .i64 cR.sent) (.int .i64 cR.got) (.slice q1.sa q1.sn q1.sc) (.slice q1.ra q1.rn q1.rq)).other (grown_st6 (World.grownBy.refl _ (some b3)) (.int .i64 oR.kind) (.int .i64 oR.no) (.int .i64 oR.who.g) (.int .i64 oR.who.c) (.int .i64 oR.who.s) (.int .i64 oR.other)) (fun e => n23 (by cases e; rfl)))
      have E2 := Lib.hid ((KE3.out.other (grown_st10 (World.grownBy.refl _ (some b2)) (.int .i64 cR.cap) (.bool cR.cl) (.int .i64 cR.rc) (.int .i64 cR.rf) (.slice q1.za q1.zn q1.zc) (.int .i64 cR.rk) (.int .i64 cR.sent) (.int .i64 cR.got) (.slice q1.sa q1.sn q1.sc) (.slice q1.ra q1.rn q1.rq)) (fun e => n32 (by cases e; rfl))).st6 (.int .i64 oR.kind) (.int .i64 oR.no) (.int .i64 oR.who.g) (.int .i64 oR.who.c) (.int .i64 oR.who.s) (.int .i64 oR.other))
      have E3 := Lib.hid (below_st6 (below_st10 AE.out HBW.out.1 (.int .i64 cR.cap) (.bool cR.cl) (.int .i64 cR.rc) (.int .i64 cR.rf) (.slice q1.za q1.zn q1.zc) (.int .i64 cR.rk) (.int .i64 cR.sent) (.int .i64 cR.got) (.slice q1.sa q1.sn q1.sc) (.slice q1.ra q1.rn q1.rq)) HBW.out.2 (.int .i64 oR.kind) (.int .i64 oR.no) (.int .i64 oR.who.g) (.int .i64 oR.who.c) (.int .i64 oR.who.s) (.int .i64 oR.other))
      go_wp2_with fail
      have CE := Lib.hid ((HWE.out.ch.other AP2V.out (grown_st10 (World.grownBy.refl _ (some b2)) (.int .i64 cR.cap) (.bool cR.cl) (.int .i64 cR.rc) (.int .i64 cR.rf) (.slice q1.za q1.zn q1.zc) (.int .i64 cR.rk) (.int .i64 cR.sent) (.int .i64 cR.got) (.slice q1.sa q1.sn q1.sc) (.slice q1.ra q1.rn q1.rq))).other AP3V.out (grown_st6 (World.grownBy.refl _ (some b3)) (.int .i64 oR.kind) (.int .i64 oR.no) (.int .i64 oR.who.g) (.int .i64 oR.who.c) (.int .i64 oR.who.s) (.int .i64 oR.other)))
      exact bodyPost_ret (v := .tuple #[chV cR q1, outV oR, .int .i64 0]) (by rw [res_cc1 Try.results23 _ (by rfl) (E1.out.load Try.underlying27 infC) (by rfl) (E2.out.load Try.underlying50 infO)]; rfl) rfl ⟨q1, rfl, CE.out, FR1.out, E3.out⟩
    · have Y1 := Lib.hid (show Bx Y by_ (aloneC 0) 50 from Y1.out)
      obtain ⟨y0, y1, y2, y3, y4, y5⟩ := (show Bx Y by_ (aloneC 0) 50 from Y1.out).cells6
      obtain ⟨p0, p1, p2, p3, p4, p5, p6, p7, p8, p9, p10, p11, p12⟩ := HWY.out.box.cells13
      refine wp_region_held_drew (S := (fun W => W.cell? ⟨by_, 0, none⟩ = some (.int .i64 0) ∧ W.cell? ⟨by_, 1, none⟩ = some (.int .i64 0) ∧ W.cell? ⟨by_, 2, none⟩ = some (.int .i64 (-1)) ∧ W.cell? ⟨by_, 3, none⟩ = some (.int .i64 0) ∧ W.cell? ⟨by_, 4, none⟩ = some (.int .i64 0) ∧ W.cell? ⟨by_, 5, none⟩ = some (.int .i64 0) ∧ W.cell? ⟨B, 0, none⟩ = some (.int .i64 cR.cap))) (by kernel_rfl) ?_ (fun hHeld => ?_)
      · exact ⟨y0, y1, y2, y3, y4, y5, p0⟩
      refine wpAnyH_take (i := 0) (v := ?_) rfl (by kernel_rfl) (by kernel_rfl) (by kernel_rfl) (fun _ _ _ h => h) (Or.inl ⟨by rfl, ?_⟩) (by assumption) ?_
      rotate_left
      · (intro w hSw; (try dsimp only at hSw); go_simp; try with_reducible rfl)
      (try simp only [Act.put, List.getElem_toArray, List.getElem_cons_zero, List.setIfInBounds_toArray, List.set_cons_zero, List.set_cons_succ])
      refine wpAnyH_take (i := 1) (v := ?_) rfl (by kernel_rfl) (by kernel_rfl) (by kernel_rfl) (fun _ _ _ h => h) (Or.inl ⟨by rfl, ?_⟩) (by assumption) ?_
      rotate_left
      · (intro w hSw; (try dsimp only at hSw); go_simp; try with_reducible rfl)
      (try simp only [Act.put, List.getElem_toArray, List.getElem_cons_zero, List.getElem_cons_succ, List.setIfInBounds_toArray, List.set_cons_zero, List.set_cons_succ])
      refine wpAnyH_take (i := 2) (v := ?_) rfl (by kernel_rfl) (by kernel_rfl) (by kernel_rfl) (fun _ _ _ h => h) (Or.inl ⟨by rfl, ?_⟩) (by assumption) ?_
      rotate_left
      · (intro w hSw; (try dsimp only at hSw); go_simp; try with_reducible rfl)
      (try simp only [Act.put, List.getElem_toArray, List.getElem_cons_zero, List.getElem_cons_succ, List.setIfInBounds_toArray, List.set_cons_zero, List.set_cons_succ])
      refine wpAnyH_take (i := 3) (v := ?_) rfl (by kernel_rfl) (by kernel_rfl) (by kernel_rfl) (fun _ _ _ h => h) (Or.inl ⟨by rfl, ?_⟩) (by assumption) ?_
      rotate_left
      · (intro w hSw; (try dsimp only at hSw); go_simp; try with_reducible rfl)
      (try simp only [Act.put, List.getElem_toArray, List.getElem_cons_zero, List.getElem_cons_succ, List.setIfInBounds_toArray, List.set_cons_zero, List.set_cons_succ])
      refine wpAnyH_ready (rs := [4]) (by kernel_rfl) (by simp) ?_
      refine AllReadyH.cons (o := _) rfl (fun K hK => ?_) AllReadyH.nil
      go_simp
      refine (alone_any 0 _).mono ?_
      rintro e wv ⟨rfl, hbv⟩
      have BV := Lib.hid (show Below Y.heap.size Y wv from ((Below.refl _ _).drew).trans hbv)
      clear hbv
      have YW := Lib.hid (Y1.out.below BV.out); have HWW := Lib.hid (HWY.out.below BV.out)
      obtain ⟨y0', y1', y2', y3', y4', y5'⟩ := YW.out.cells6
      have p0' := HWW.out.box.cell 0 (v := .int .i64 cR.cap) rfl
      refine hK.out _ _ ?_ (fun hHeld => ?_)
      · exact ⟨y0', y1', y2', y3', y4', y5', p0'⟩
      clear hK K
      (try simp only [Act.put, List.getElem_toArray, List.getElem_cons_zero, List.getElem_cons_succ, List.setIfInBounds_toArray, List.set_cons_zero, List.set_cons_succ])
      refine wpAnyH_take (i := 5) (v := ?_) rfl (by kernel_rfl) (by kernel_rfl) (by kernel_rfl) (fun _ _ _ h => h) (Or.inl ⟨by rfl, ?_⟩) (by assumption) ?_
      rotate_left
      · (intro w hSw; (try dsimp only at hSw); go_simp; try with_reducible rfl)
      (try simp only [Act.put, List.getElem_toArray, List.getElem_cons_zero, List.getElem_cons_succ, List.setIfInBounds_toArray, List.set_cons_zero, List.set_cons_succ])
      refine wpAnyH_take (i := 6) (v := ?_) rfl (by kernel_rfl) (by kernel_rfl) (by kernel_rfl) (fun _ _ _ h => h) (Or.inl ⟨by rfl, ?_⟩) (by assumption) ?_
      rotate_left
      · (intro w hSw; (try dsimp only at hSw); go_simp; try with_reducible rfl)
      (try simp only [Act.put, List.getElem_toArray, List.getElem_cons_zero, List.getElem_cons_succ, List.setIfInBounds_toArray, List.set_cons_zero, List.set_cons_succ])
      refine wpAnyH_take (i := 7) (v := ?_) rfl (by kernel_rfl) (by kernel_rfl) (by kernel_rfl) (fun _ _ _ h => h) (Or.inl ⟨by rfl, ?_⟩) (by assumption) ?_
      rotate_left
      · (intro w hSw; (try dsimp only at hSw); go_simp; try with_reducible rfl)
      (try simp only [Act.put, List.getElem_toArray, List.getElem_cons_zero, List.getElem_cons_succ, List.setIfInBounds_toArray, List.set_cons_zero, List.set_cons_succ])
      refine wpAnyH_take (i := 8) (v := ?_) rfl (by kernel_rfl) (by kernel_rfl) (by kernel_rfl) (fun _ _ _ h => h) (Or.inl ⟨by rfl, ?_⟩) (by assumption) ?_
      rotate_left
      · (intro w hSw; (try dsimp only at hSw); go_simp; try with_reducible rfl)
      (try simp only [Act.put, List.getElem_toArray, List.getElem_cons_zero, List.getElem_cons_succ, List.setIfInBounds_toArray, List.set_cons_zero, List.set_cons_succ])
      refine wpAnyH_take (i := 9) (v := ?_) rfl (by kernel_rfl) (by kernel_rfl) (by kernel_rfl) (fun _ _ _ h => h) (Or.inl ⟨by rfl, ?_⟩) (by assumption) ?_
      rotate_left
      · (intro w hSw; (try dsimp only at hSw); go_simp; try with_reducible rfl)
      (try simp only [Act.put, List.getElem_toArray, List.getElem_cons_zero, List.getElem_cons_succ, List.setIfInBounds_toArray, List.set_cons_zero, List.set_cons_succ])
      refine wpAnyH_take (i := 10) (v := ?_) rfl (by kernel_rfl) (by kernel_rfl) (by kernel_rfl) (fun _ _ _ h => h) (Or.inl ⟨by rfl, ?_⟩) (by assumption) ?_
      rotate_left
      · (intro w hSw; (try dsimp only at hSw); go_simp; try with_reducible rfl)
      (try simp only [Act.put, List.getElem_toArray, List.getElem_cons_zero, List.getElem_cons_succ, List.setIfInBounds_toArray, List.set_cons_zero, List.set_cons_succ])
      refine wpAnyH_take (i := 11) (v := ?_) rfl (by kernel_rfl) (by kernel_rfl) (by kernel_rfl) (fun _ _ _ h => h) (Or.inl ⟨by rfl, ?_⟩) (by assumption) ?_
      rotate_left
      · (intro w hSw; (try dsimp only at hSw); go_simp; try with_reducible rfl)
      (try simp only [Act.put, List.getElem_toArray, List.getElem_cons_zero, List.getElem_cons_succ, List.setIfInBounds_toArray, List.set_cons_zero, List.set_cons_succ])
      refine wpAnyH_take (i := 12) (v := ?_) rfl (by kernel_rfl) (by kernel_rfl) (by kernel_rfl) (fun _ _ _ h => h) (Or.inl ⟨by rfl, ?_⟩) (by assumption) ?_
      rotate_left
      · (intro w hSw; (try dsimp only at hSw); go_simp; try with_reducible rfl)
      (try simp only [Act.put, List.getElem_toArray, List.getElem_cons_zero, List.getElem_cons_succ, List.setIfInBounds_toArray, List.set_cons_zero, List.set_cons_succ])
      refine wpAnyH_done (by kernel_rfl) ?_ _
      have HWV := Lib.hid (HWY.out.below BV.out); have YV := Lib.hid (Y1.out.below BV.out); have K1V := Lib.hid (K1y.out.below BV.out); have K2V := Lib.hid (K2y.out.below BV.out); have K3V := Lib.hid (K3y.out.below BV.out); have AV := Lib.hid (AY.out.trans (Below.mono BV.out AY.out.size)); have AP2V := AP2a; have AP3V := AP3a
      clear y0 y1 y2 y3 y4 y5 y0' y1' y2' y3' y4' y5' p0' p0 p1 p2 p3 p4 p5 p6 p7 p8 p9 p10 p11 p12
      obtain ⟨y0, y1, y2, y3, y4, y5⟩ := YV.out.cells6
      have lyv := YV.out.lt
      go_wp2_with fail
      refine (told_ok B cR q1 x ⟨0, 0, ⟨-1, 0, 0⟩, 0⟩ _ HWV.out).mono ?_
      rintro e we ⟨rfl, hb⟩
      have KE2 := Lib.hid (K2V.out.below hb); have KE3 := Lib.hid (K3V.out.below hb); have AE := Lib.hid (AV.out.trans (Below.mono hb AV.out.size)); have HWE := Lib.hid (HWV.out.below hb)
      clear hb
      obtain ⟨t0, t1, t2, t3, t4, t5, t6, t7, t8, t9⟩ := KE2.out.cells10
      obtain ⟨z0, z1, z2, z3, z4, z5⟩ := KE3.out.cells6
      have g0 := KE2.out.froz 0
      have g1 := KE2.out.froz 1
      have g2 := KE2.out.froz 2
      have g3 := KE2.out.froz 3
      have g4 := KE2.out.froz 4
      have g5 := KE2.out.froz 5
      have g6 := KE2.out.froz 6
      have g7 := KE2.out.froz 7
      have g8 := KE2.out.froz 8
      have g9 := KE2.out.froz 9
      have k0 := KE3.out.froz 0
      have k1 := KE3.out.froz 1
      have k2 := KE3.out.froz 2
      have k3 := KE3.out.froz 3
      have k4 := KE3.out.froz 4
      have k5 := KE3.out.froz 5
      have le2 := KE2.out.lt; have le3 := KE3.out.lt
      have E1 := Lib.hid ((KE2.out.st10 (.int .i64 cR.cap) (.bool cR.cl) (.int .i64 cR.rc) (.int .i64 cR.rf) (.slice q1.za q1.zn q1.zc) (.int .i64 cR.rk) (.int .i64 cR.sent) (.int .i64 cR.got) (.slice q1.sa q1.sn q1.sc) (.slice q1.ra q1.rn q1.rq)).other (grown_st6 (World.grownBy.refl _ (some b3)) (.int .i64 0) (.int .i64 0) (.int .i64 (-1)) (.int .i64 0) (.int .i64 0) (.int .i64 0)) (fun e => n23 (by cases e; rfl)))
      have E2 := Lib.hid ((KE3.out.other (grown_st10 (World.grownBy.refl _ (some b2)) (.int .i64 cR.cap) (.bool cR.cl) (.int .i64 cR.rc) (.int .i64 cR.rf) (.slice q1.za q1.zn q1.zc) (.int .i64 cR.rk) (.int .i64 cR.sent) (.int .i64 cR.got) (.slice q1.sa q1.sn q1.sc) (.slice q1.ra q1.rn q1.rq)) (fun e => n32 (by cases e; rfl))).st6 (.int .i64 0) (.int .i64 0) (.int .i64 (-1)) (.int .i64 0) (.int .i64 0) (.int .i64 0))
      have E3 := Lib.hid (below_st6 (below_st10 AE.out HBW.out.1 (.int .i64 cR.cap) (.bool cR.cl) (.int .i64 cR.rc) (.int .i64 cR.rf) (.slice q1.za q1.zn q1.zc) (.int .i64 cR.rk) (.int .i64 cR.sent) (.int .i64 cR.got) (.slice q1.sa q1.sn q1.sc) (.slice q1.ra q1.rn q1.rq)) HBW.out.2 (.int .i64 0) (.int .i64 0) (.int .i64 (-1)) (.int .i64 0) (.int .i64 0) (.int .i64 0))
      go_wp2_with fail
      have CE := Lib.hid ((HWE.out.ch.other AP2V.out (grown_st10 (World.grownBy.refl _ (some b2)) (.int .i64 cR.cap) (.bool cR.cl) (.int .i64 cR.rc) (.int .i64 cR.rf) (.slice q1.za q1.zn q1.zc) (.int .i64 cR.rk) (.int .i64 cR.sent) (.int .i64 cR.got) (.slice q1.sa q1.sn q1.sc) (.slice q1.ra q1.rn q1.rq))).other AP3V.out (grown_st6 (World.grownBy.refl _ (some b3)) (.int .i64 0) (.int .i64 0) (.int .i64 (-1)) (.int .i64 0) (.int .i64 0) (.int .i64 0)))
      exact bodyPost_ret (v := .tuple #[chV cR q1, outV ⟨0, 0, ⟨-1, 0, 0⟩, 0⟩, .int .i64 0]) (by rw [res_cc1 Try.results23 _ (by rfl) (E1.out.load Try.underlying27 infC) (by rfl) (E2.out.load Try.underlying50 infO)]; rfl) rfl ⟨q1, rfl, CE.out, FR1.out, E3.out⟩
    · have Y1 := Lib.hid (show Bx Y by_ (aloneC 0) 50 from Y1.out)
      obtain ⟨y0, y1, y2, y3, y4, y5⟩ := (show Bx Y by_ (aloneC 0) 50 from Y1.out).cells6
      obtain ⟨p0, p1, p2, p3, p4, p5, p6, p7, p8, p9, p10, p11, p12⟩ := HWY.out.box.cells13
      refine wp_region_held_drew (S := (fun W => W.cell? ⟨by_, 0, none⟩ = some (.int .i64 0) ∧ W.cell? ⟨by_, 1, none⟩ = some (.int .i64 0) ∧ W.cell? ⟨by_, 2, none⟩ = some (.int .i64 (-1)) ∧ W.cell? ⟨by_, 3, none⟩ = some (.int .i64 0) ∧ W.cell? ⟨by_, 4, none⟩ = some (.int .i64 0) ∧ W.cell? ⟨by_, 5, none⟩ = some (.int .i64 0) ∧ W.cell? ⟨B, 0, none⟩ = some (.int .i64 c'.cap))) (by kernel_rfl) ?_ (fun hHeld => ?_)
      · exact ⟨y0, y1, y2, y3, y4, y5, p0⟩
      refine wpAnyH_take (i := 0) (v := ?_) rfl (by kernel_rfl) (by kernel_rfl) (by kernel_rfl) (fun _ _ _ h => h) (Or.inl ⟨by rfl, ?_⟩) (by assumption) ?_
      rotate_left
      · (intro w hSw; (try dsimp only at hSw); go_simp; try with_reducible rfl)
      (try simp only [Act.put, List.getElem_toArray, List.getElem_cons_zero, List.setIfInBounds_toArray, List.set_cons_zero, List.set_cons_succ])
      refine wpAnyH_take (i := 1) (v := ?_) rfl (by kernel_rfl) (by kernel_rfl) (by kernel_rfl) (fun _ _ _ h => h) (Or.inl ⟨by rfl, ?_⟩) (by assumption) ?_
      rotate_left
      · (intro w hSw; (try dsimp only at hSw); go_simp; try with_reducible rfl)
      (try simp only [Act.put, List.getElem_toArray, List.getElem_cons_zero, List.getElem_cons_succ, List.setIfInBounds_toArray, List.set_cons_zero, List.set_cons_succ])
      refine wpAnyH_take (i := 2) (v := ?_) rfl (by kernel_rfl) (by kernel_rfl) (by kernel_rfl) (fun _ _ _ h => h) (Or.inl ⟨by rfl, ?_⟩) (by assumption) ?_
      rotate_left
      · (intro w hSw; (try dsimp only at hSw); go_simp; try with_reducible rfl)
      (try simp only [Act.put, List.getElem_toArray, List.getElem_cons_zero, List.getElem_cons_succ, List.setIfInBounds_toArray, List.set_cons_zero, List.set_cons_succ])
      refine wpAnyH_take (i := 3) (v := ?_) rfl (by kernel_rfl) (by kernel_rfl) (by kernel_rfl) (fun _ _ _ h => h) (Or.inl ⟨by rfl, ?_⟩) (by assumption) ?_
      rotate_left
      · (intro w hSw; (try dsimp only at hSw); go_simp; try with_reducible rfl)
      (try simp only [Act.put, List.getElem_toArray, List.getElem_cons_zero, List.getElem_cons_succ, List.setIfInBounds_toArray, List.set_cons_zero, List.set_cons_succ])
      refine wpAnyH_ready (rs := [4]) (by kernel_rfl) (by simp) ?_
      refine AllReadyH.cons (o := _) rfl (fun K hK => ?_) AllReadyH.nil
      go_simp
      refine (alone_any 0 _).mono ?_
      rintro e wv ⟨rfl, hbv⟩
      have BV := Lib.hid (show Below Y.heap.size Y wv from ((Below.refl _ _).drew).trans hbv)
      clear hbv
      have YW := Lib.hid (Y1.out.below BV.out); have HWW := Lib.hid (HWY.out.below BV.out)
      obtain ⟨y0', y1', y2', y3', y4', y5'⟩ := YW.out.cells6
      have p0' := HWW.out.box.cell 0 (v := .int .i64 c'.cap) rfl
      refine hK.out _ _ ?_ (fun hHeld => ?_)
      · exact ⟨y0', y1', y2', y3', y4', y5', p0'⟩
      clear hK K
      (try simp only [Act.put, List.getElem_toArray, List.getElem_cons_zero, List.getElem_cons_succ, List.setIfInBounds_toArray, List.set_cons_zero, List.set_cons_succ])
      refine wpAnyH_take (i := 5) (v := ?_) rfl (by kernel_rfl) (by kernel_rfl) (by kernel_rfl) (fun _ _ _ h => h) (Or.inl ⟨by rfl, ?_⟩) (by assumption) ?_
      rotate_left
      · (intro w hSw; (try dsimp only at hSw); go_simp; try with_reducible rfl)
      (try simp only [Act.put, List.getElem_toArray, List.getElem_cons_zero, List.getElem_cons_succ, List.setIfInBounds_toArray, List.set_cons_zero, List.set_cons_succ])
      refine wpAnyH_take (i := 6) (v := ?_) rfl (by kernel_rfl) (by kernel_rfl) (by kernel_rfl) (fun _ _ _ h => h) (Or.inl ⟨by rfl, ?_⟩) (by assumption) ?_
      rotate_left
      · (intro w hSw; (try dsimp only at hSw); go_simp; try with_reducible rfl)
      (try simp only [Act.put, List.getElem_toArray, List.getElem_cons_zero, List.getElem_cons_succ, List.setIfInBounds_toArray, List.set_cons_zero, List.set_cons_succ])
      refine wpAnyH_take (i := 7) (v := ?_) rfl (by kernel_rfl) (by kernel_rfl) (by kernel_rfl) (fun _ _ _ h => h) (Or.inl ⟨by rfl, ?_⟩) (by assumption) ?_
      rotate_left
      · (intro w hSw; (try dsimp only at hSw); go_simp; try with_reducible rfl)
      (try simp only [Act.put, List.getElem_toArray, List.getElem_cons_zero, List.getElem_cons_succ, List.setIfInBounds_toArray, List.set_cons_zero, List.set_cons_succ])
      refine wpAnyH_take (i := 8) (v := ?_) rfl (by kernel_rfl) (by kernel_rfl) (by kernel_rfl) (fun _ _ _ h => h) (Or.inl ⟨by rfl, ?_⟩) (by assumption) ?_
      rotate_left
      · (intro w hSw; (try dsimp only at hSw); go_simp; try with_reducible rfl)
      (try simp only [Act.put, List.getElem_toArray, List.getElem_cons_zero, List.getElem_cons_succ, List.setIfInBounds_toArray, List.set_cons_zero, List.set_cons_succ])
      refine wpAnyH_take (i := 9) (v := ?_) rfl (by kernel_rfl) (by kernel_rfl) (by kernel_rfl) (fun _ _ _ h => h) (Or.inl ⟨by rfl, ?_⟩) (by assumption) ?_
      rotate_left
      · (intro w hSw; (try dsimp only at hSw); go_simp; try with_reducible rfl)
      (try simp only [Act.put, List.getElem_toArray, List.getElem_cons_zero, List.getElem_cons_succ, List.setIfInBounds_toArray, List.set_cons_zero, List.set_cons_succ])
      refine wpAnyH_take (i := 10) (v := ?_) rfl (by kernel_rfl) (by kernel_rfl) (by kernel_rfl) (fun _ _ _ h => h) (Or.inl ⟨by rfl, ?_⟩) (by assumption) ?_
      rotate_left
      · (intro w hSw; (try dsimp only at hSw); go_simp; try with_reducible rfl)
      (try simp only [Act.put, List.getElem_toArray, List.getElem_cons_zero, List.getElem_cons_succ, List.setIfInBounds_toArray, List.set_cons_zero, List.set_cons_succ])
      refine wpAnyH_take (i := 11) (v := ?_) rfl (by kernel_rfl) (by kernel_rfl) (by kernel_rfl) (fun _ _ _ h => h) (Or.inl ⟨by rfl, ?_⟩) (by assumption) ?_
      rotate_left
      · (intro w hSw; (try dsimp only at hSw); go_simp; try with_reducible rfl)
      (try simp only [Act.put, List.getElem_toArray, List.getElem_cons_zero, List.getElem_cons_succ, List.setIfInBounds_toArray, List.set_cons_zero, List.set_cons_succ])
      refine wpAnyH_take (i := 12) (v := ?_) rfl (by kernel_rfl) (by kernel_rfl) (by kernel_rfl) (fun _ _ _ h => h) (Or.inl ⟨by rfl, ?_⟩) (by assumption) ?_
      rotate_left
      · (intro w hSw; (try dsimp only at hSw); go_simp; try with_reducible rfl)
      (try simp only [Act.put, List.getElem_toArray, List.getElem_cons_zero, List.getElem_cons_succ, List.setIfInBounds_toArray, List.set_cons_zero, List.set_cons_succ])
      refine wpAnyH_done (by kernel_rfl) ?_ _
      have HWV := Lib.hid (HWY.out.below BV.out); have YV := Lib.hid (Y1.out.below BV.out); have K1V := Lib.hid (K1y.out.below BV.out); have K2V := Lib.hid (K2y.out.below BV.out); have K3V := Lib.hid (K3y.out.below BV.out); have AV := Lib.hid (AY.out.trans (Below.mono BV.out AY.out.size)); have AP2V := AP2a; have AP3V := AP3a
      clear y0 y1 y2 y3 y4 y5 y0' y1' y2' y3' y4' y5' p0' p0 p1 p2 p3 p4 p5 p6 p7 p8 p9 p10 p11 p12
      obtain ⟨y0, y1, y2, y3, y4, y5⟩ := YV.out.cells6
      have lyv := YV.out.lt
      obtain ⟨p0, p1, p2, p3, p4, p5, p6, p7, p8, p9, p10, p11, p12⟩ := HWV.out.box.cells13
      obtain ⟨x0, x1, x2⟩ := K1V.out.cells
      have lxv := K1V.out.lt; have lBv := HWV.out.box.lt
      go_wp2_with fail
      have HLN := Lib.hid HWV.out.ch.recvs.recs.len_eq
      rcases hres with ⟨hh, hl, rfl, rfl, rfl⟩ | ⟨hh, rfl, rfl, rfl⟩ | ⟨hh, hl, rfl, rfl, rfl⟩
      · refine (Push_okF _ _ _ _ x _ HWV.out.ch.recvs hx hrw hmy0.out hh (by rw [← HLN.out]; exact hl)).mono ?_
        rintro e wp ⟨na, nn, nc, rfl, hq', hb, hfr⟩
        have BP := Lib.hid hb
        have NF := Lib.hid (show ∀ y, na = some y → y.block ≠ B ∧ y.block ≠ b2 ∧ y.block ≠ b3 from fun y hy => by have := hfr y hy; have := HWV.out.box.lt; have := K2V.out.lt; have := K3V.out.lt; omega)
        have NW := Lib.hid hq'
        have NG := Lib.hid (show ∀ y, na = some y → w.heap.size ≤ y.block from fun y hy => Nat.le_trans AV.out.size (hfr y hy))
        clear hq' hfr
        clear hb y0 y1 y2 y3 y4 y5 lyv p0 p1 p2 p3 p4 p5 p6 p7 p8 p9 p10 p11 p12 x0 x1 x2 lxv lBv
        have HWP := Lib.hid (HWV.out.below BP.out); have YP := Lib.hid (YV.out.below BP.out); have K2P := Lib.hid (K2V.out.below BP.out); have K3P := Lib.hid (K3V.out.below BP.out); have AP_ := Lib.hid (AV.out.trans (Below.mono BP.out AV.out.size))
        obtain ⟨p0, p1, p2, p3, p4, p5, p6, p7, p8, p9, p10, p11, p12⟩ := HWP.out.box.cells13
        have f9 := HWP.out.box.froz 9; have lBp := HWP.out.box.lt
        obtain ⟨y0, y1, y2, y3, y4, y5⟩ := YP.out.cells6
        have lyp := YP.out.lt
        go_upto_region 7 with (fail)
        obtain ⟨Z, hZ⟩ : ∃ Z, Z = wp.setCell ⟨B, 9, none⟩ (.slice na nn nc) := ⟨_, rfl⟩
        have GZ := Lib.hid (show wp.grownBy Z (some B) by rw [hZ]; exact grow_setCell _ _ _ _)
        have BZ := Lib.hid (show Bx Z B _ 61 by rw [hZ]; exact HWP.out.box.set 9 (.slice na nn nc))
        rw [← hZ]
        clear hZ y0 y1 y2 y3 y4 y5 p0 p1 p2 p3 p4 p5 p6 p7 p8 p9 p10 p11 p12 f9 lBp lyp
        have YZ := Lib.hid (YP.out.other GZ.out (fun e => nyB (by cases e; rfl))); have K2Z := Lib.hid (K2P.out.other GZ.out (fun e => nB2 (by cases e; rfl))); have K3Z := Lib.hid (K3P.out.other GZ.out (fun e => nB3 (by cases e; rfl)))
        have AZ := Lib.hid (show Below w.heap.size w Z from AP_.out.grown GZ.out AP_.out.size (fun k hk => by cases hk; exact HBB.out))
        obtain ⟨y0, y1, y2, y3, y4, y5⟩ := YZ.out.cells6
        have lyz := YZ.out.lt
        go_wp2_with fail
        have CH0 := HWP.out.ch.other HWP.out.ap GZ.out
        have HWZ := Lib.hid (show Wk Z B { c' with recvs := c'.recvs ++ [x] } ⟨q1.za, q1.zn, q1.zc, q1.sa, q1.sn, q1.sc, na, nn, nc⟩ x from ⟨BZ.out, ⟨CH0.cap, CH0.rc, CH0.rf, CH0.rk, CH0.sent, CH0.got, CH0.zs, CH0.sends, NW.out.other (fun y hy _ => (NF.out y hy).1) GZ.out⟩, ⟨HWP.out.ap.az, HWP.out.ap.asn, fun y hy _ => (NF.out y hy).1⟩⟩)
        have AP2Z := Lib.hid (show Ap ⟨q1.za, q1.zn, q1.zc, q1.sa, q1.sn, q1.sc, na, nn, nc⟩ b2 from ⟨AP2a.out.az, AP2a.out.asn, fun y hy _ => (NF.out y hy).2.1⟩); have AP3Z := Lib.hid (show Ap ⟨q1.za, q1.zn, q1.zc, q1.sa, q1.sn, q1.sc, na, nn, nc⟩ b3 from ⟨AP3a.out.az, AP3a.out.asn, fun y hy _ => (NF.out y hy).2.2⟩)
        have FRZ := Lib.hid (show ∀ B', B' < w.heap.size → Ap ⟨q1.za, q1.zn, q1.zc, q1.sa, q1.sn, q1.sc, na, nn, nc⟩ B' from fun B' hB' => ⟨(FR1.out B' hB').az, (FR1.out B' hB').asn, fun y hy _ he => by have := NG.out y hy; omega⟩)
        clear CH0
        generalize hNC : { c' with recvs := c'.recvs ++ [x] } = cR at HWZ ⊢
        generalize hNQ : (⟨q1.za, q1.zn, q1.zc, q1.sa, q1.sn, q1.sc, na, nn, nc⟩ : CAt) = qR at HWZ AP2Z AP3Z FRZ ⊢
        have HNC := Lib.hid hNC
        clear hNC hNQ
        refine (told_ok B cR qR x ⟨0, 0, ⟨-1, 0, 0⟩, 0⟩ _ HWZ.out).mono ?_
        rintro e we ⟨rfl, hb⟩
        have KE2 := Lib.hid (K2Z.out.below hb); have KE3 := Lib.hid (K3Z.out.below hb); have AE := Lib.hid (AZ.out.trans (Below.mono hb AZ.out.size)); have HWE := Lib.hid (HWZ.out.below hb)
        clear hb
        obtain ⟨t0, t1, t2, t3, t4, t5, t6, t7, t8, t9⟩ := KE2.out.cells10
        obtain ⟨z0, z1, z2, z3, z4, z5⟩ := KE3.out.cells6
        have g0 := KE2.out.froz 0
        have g1 := KE2.out.froz 1
        have g2 := KE2.out.froz 2
        have g3 := KE2.out.froz 3
        have g4 := KE2.out.froz 4
        have g5 := KE2.out.froz 5
        have g6 := KE2.out.froz 6
        have g7 := KE2.out.froz 7
        have g8 := KE2.out.froz 8
        have g9 := KE2.out.froz 9
        have k0 := KE3.out.froz 0
        have k1 := KE3.out.froz 1
        have k2 := KE3.out.froz 2
        have k3 := KE3.out.froz 3
        have k4 := KE3.out.froz 4
        have k5 := KE3.out.froz 5
        have le2 := KE2.out.lt; have le3 := KE3.out.lt
        have E1 := Lib.hid ((KE2.out.st10 (.int .i64 cR.cap) (.bool cR.cl) (.int .i64 cR.rc) (.int .i64 cR.rf) (.slice qR.za qR.zn qR.zc) (.int .i64 cR.rk) (.int .i64 cR.sent) (.int .i64 cR.got) (.slice qR.sa qR.sn qR.sc) (.slice qR.ra qR.rn qR.rq)).other (grown_st6 (World.grownBy.refl _ (some b3)) (.int .i64 0) (.int .i64 0) (.int .i64 (-1)) (.int .i64 0) (.int .i64 0) (.int .i64 0)) (fun e => n23 (by cases e; rfl)))
        have E2 := Lib.hid ((KE3.out.other (grown_st10 (World.grownBy.refl _ (some b2)) (.int .i64 cR.cap) (.bool cR.cl) (.int .i64 cR.rc) (.int .i64 cR.rf) (.slice qR.za qR.zn qR.zc) (.int .i64 cR.rk) (.int .i64 cR.sent) (.int .i64 cR.got) (.slice qR.sa qR.sn qR.sc) (.slice qR.ra qR.rn qR.rq)) (fun e => n32 (by cases e; rfl))).st6 (.int .i64 0) (.int .i64 0) (.int .i64 (-1)) (.int .i64 0) (.int .i64 0) (.int .i64 0))
        have E3 := Lib.hid (below_st6 (below_st10 AE.out HBW.out.1 (.int .i64 cR.cap) (.bool cR.cl) (.int .i64 cR.rc) (.int .i64 cR.rf) (.slice qR.za qR.zn qR.zc) (.int .i64 cR.rk) (.int .i64 cR.sent) (.int .i64 cR.got) (.slice qR.sa qR.sn qR.sc) (.slice qR.ra qR.rn qR.rq)) HBW.out.2 (.int .i64 0) (.int .i64 0) (.int .i64 (-1)) (.int .i64 0) (.int .i64 0) (.int .i64 0))
        go_wp2_with fail
        have CE := Lib.hid ((HWE.out.ch.other AP2Z.out (grown_st10 (World.grownBy.refl _ (some b2)) (.int .i64 cR.cap) (.bool cR.cl) (.int .i64 cR.rc) (.int .i64 cR.rf) (.slice qR.za qR.zn qR.zc) (.int .i64 cR.rk) (.int .i64 cR.sent) (.int .i64 cR.got) (.slice qR.sa qR.sn qR.sc) (.slice qR.ra qR.rn qR.rq))).other AP3Z.out (grown_st6 (World.grownBy.refl _ (some b3)) (.int .i64 0) (.int .i64 0) (.int .i64 (-1)) (.int .i64 0) (.int .i64 0) (.int .i64 0)))
        rw [HNC.out]
        exact bodyPost_ret (v := .tuple #[chV cR qR, outV ⟨0, 0, ⟨-1, 0, 0⟩, 0⟩, .int .i64 0]) (by rw [res_cc1 Try.results23 _ (by rfl) (E1.out.load Try.underlying27 infC) (by rfl) (E2.out.load Try.underlying50 infO)]; rfl) rfl ⟨qR, rfl, CE.out, FRZ.out, E3.out⟩
      · refine (Push_twice _ _ _ _ x _ HWV.out.ch.recvs hx hrw hmy0.out hh).mono ?_
        rintro e wp ⟨rfl, hb⟩
        have BP := Lib.hid hb
        clear hb y0 y1 y2 y3 y4 y5 lyv p0 p1 p2 p3 p4 p5 p6 p7 p8 p9 p10 p11 p12 x0 x1 x2 lxv lBv
        have HWP := Lib.hid (HWV.out.below BP.out); have YP := Lib.hid (YV.out.below BP.out); have K2P := Lib.hid (K2V.out.below BP.out); have K3P := Lib.hid (K3V.out.below BP.out); have AP_ := Lib.hid (AV.out.trans (Below.mono BP.out AV.out.size))
        obtain ⟨p0, p1, p2, p3, p4, p5, p6, p7, p8, p9, p10, p11, p12⟩ := HWP.out.box.cells13
        have f9 := HWP.out.box.froz 9; have lBp := HWP.out.box.lt
        obtain ⟨y0, y1, y2, y3, y4, y5⟩ := YP.out.cells6
        have lyp := YP.out.lt
        go_upto_region 7 with (fail)
        obtain ⟨Z, hZ⟩ : ∃ Z, Z = wp.setCell ⟨B, 9, none⟩ (.slice none 0 0) := ⟨_, rfl⟩
        have GZ := Lib.hid (show wp.grownBy Z (some B) by rw [hZ]; exact grow_setCell _ _ _ _)
        have BZ := Lib.hid (show Bx Z B _ 61 by rw [hZ]; exact HWP.out.box.set 9 (.slice none 0 0))
        rw [← hZ]
        clear hZ y0 y1 y2 y3 y4 y5 p0 p1 p2 p3 p4 p5 p6 p7 p8 p9 p10 p11 p12 f9 lBp lyp
        have YZ := Lib.hid (YP.out.other GZ.out (fun e => nyB (by cases e; rfl))); have K2Z := Lib.hid (K2P.out.other GZ.out (fun e => nB2 (by cases e; rfl))); have K3Z := Lib.hid (K3P.out.other GZ.out (fun e => nB3 (by cases e; rfl)))
        have AZ := Lib.hid (show Below w.heap.size w Z from AP_.out.grown GZ.out AP_.out.size (fun k hk => by cases hk; exact HBB.out))
        obtain ⟨y0, y1, y2, y3, y4, y5⟩ := YZ.out.cells6
        have lyz := YZ.out.lt
        go_wp2_with fail
        have HWZ := HWV
        refine (told_err B ⟨0, 0, ⟨-1, 0, 0⟩, 0⟩ 7 _ (by decide)).mono ?_
        rintro e we ⟨rfl, hb⟩
        have KE2 := Lib.hid (K2Z.out.below hb); have KE3 := Lib.hid (K3Z.out.below hb); have AE := Lib.hid (AZ.out.trans (Below.mono hb AZ.out.size)); have HWE := True.intro
        clear hb
        obtain ⟨t0, t1, t2, t3, t4, t5, t6, t7, t8, t9⟩ := KE2.out.cells10
        obtain ⟨z0, z1, z2, z3, z4, z5⟩ := KE3.out.cells6
        have g0 := KE2.out.froz 0
        have g1 := KE2.out.froz 1
        have g2 := KE2.out.froz 2
        have g3 := KE2.out.froz 3
        have g4 := KE2.out.froz 4
        have g5 := KE2.out.froz 5
        have g6 := KE2.out.froz 6
        have g7 := KE2.out.froz 7
        have g8 := KE2.out.froz 8
        have g9 := KE2.out.froz 9
        have k0 := KE3.out.froz 0
        have k1 := KE3.out.froz 1
        have k2 := KE3.out.froz 2
        have k3 := KE3.out.froz 3
        have k4 := KE3.out.froz 4
        have k5 := KE3.out.froz 5
        have le2 := KE2.out.lt; have le3 := KE3.out.lt
        have E1 := Lib.hid ((KE2.out.st10 (.int .i64 0) (.bool false) (.int .i64 0) (.int .i64 0) (.slice none 0 0) (.int .i64 0) (.int .i64 0) (.int .i64 0) (.slice none 0 0) (.slice none 0 0)).other (grown_st6 (World.grownBy.refl _ (some b3)) (.int .i64 0) (.int .i64 0) (.int .i64 0) (.int .i64 0) (.int .i64 0) (.int .i64 0)) (fun e => n23 (by cases e; rfl)))
        have E2 := Lib.hid ((KE3.out.other (grown_st10 (World.grownBy.refl _ (some b2)) (.int .i64 0) (.bool false) (.int .i64 0) (.int .i64 0) (.slice none 0 0) (.int .i64 0) (.int .i64 0) (.int .i64 0) (.slice none 0 0) (.slice none 0 0)) (fun e => n32 (by cases e; rfl))).st6 (.int .i64 0) (.int .i64 0) (.int .i64 0) (.int .i64 0) (.int .i64 0) (.int .i64 0))
        have E3 := Lib.hid (below_st6 (below_st10 AE.out HBW.out.1 (.int .i64 0) (.bool false) (.int .i64 0) (.int .i64 0) (.slice none 0 0) (.int .i64 0) (.int .i64 0) (.int .i64 0) (.slice none 0 0) (.slice none 0 0)) HBW.out.2 (.int .i64 0) (.int .i64 0) (.int .i64 0) (.int .i64 0) (.int .i64 0) (.int .i64 0))
        go_wp2_with fail
        exact bodyPost_ret (v := .tuple #[.agg zero10, .agg zero6, .int .i64 7]) (by rw [res_cc1 Try.results23 _ (by rfl) (E1.out.load Try.underlying27 infC) (by rfl) (E2.out.load Try.underlying50 infO)]; rfl) rfl (zeroP E3.out)
      · refine (Push_full _ _ _ _ x _ HWV.out.ch.recvs hx hrw hmy0.out hh (by rw [← HLN.out]; exact hl)).mono ?_
        rintro e wp ⟨rfl, hb⟩
        have BP := Lib.hid hb
        clear hb y0 y1 y2 y3 y4 y5 lyv p0 p1 p2 p3 p4 p5 p6 p7 p8 p9 p10 p11 p12 x0 x1 x2 lxv lBv
        have HWP := Lib.hid (HWV.out.below BP.out); have YP := Lib.hid (YV.out.below BP.out); have K2P := Lib.hid (K2V.out.below BP.out); have K3P := Lib.hid (K3V.out.below BP.out); have AP_ := Lib.hid (AV.out.trans (Below.mono BP.out AV.out.size))
        obtain ⟨p0, p1, p2, p3, p4, p5, p6, p7, p8, p9, p10, p11, p12⟩ := HWP.out.box.cells13
        have f9 := HWP.out.box.froz 9; have lBp := HWP.out.box.lt
        obtain ⟨y0, y1, y2, y3, y4, y5⟩ := YP.out.cells6
        have lyp := YP.out.lt
        go_upto_region 7 with (fail)
        obtain ⟨Z, hZ⟩ : ∃ Z, Z = wp.setCell ⟨B, 9, none⟩ (.slice none 0 0) := ⟨_, rfl⟩
        have GZ := Lib.hid (show wp.grownBy Z (some B) by rw [hZ]; exact grow_setCell _ _ _ _)
        have BZ := Lib.hid (show Bx Z B _ 61 by rw [hZ]; exact HWP.out.box.set 9 (.slice none 0 0))
        rw [← hZ]
        clear hZ y0 y1 y2 y3 y4 y5 p0 p1 p2 p3 p4 p5 p6 p7 p8 p9 p10 p11 p12 f9 lBp lyp
        have YZ := Lib.hid (YP.out.other GZ.out (fun e => nyB (by cases e; rfl))); have K2Z := Lib.hid (K2P.out.other GZ.out (fun e => nB2 (by cases e; rfl))); have K3Z := Lib.hid (K3P.out.other GZ.out (fun e => nB3 (by cases e; rfl)))
        have AZ := Lib.hid (show Below w.heap.size w Z from AP_.out.grown GZ.out AP_.out.size (fun k hk => by cases hk; exact HBB.out))
        obtain ⟨y0, y1, y2, y3, y4, y5⟩ := YZ.out.cells6
        have lyz := YZ.out.lt
        go_wp2_with fail
        have HWZ := HWV
        refine (told_err B ⟨0, 0, ⟨-1, 0, 0⟩, 0⟩ 5 _ (by decide)).mono ?_
        rintro e we ⟨rfl, hb⟩
        have KE2 := Lib.hid (K2Z.out.below hb); have KE3 := Lib.hid (K3Z.out.below hb); have AE := Lib.hid (AZ.out.trans (Below.mono hb AZ.out.size)); have HWE := True.intro
        clear hb
        obtain ⟨t0, t1, t2, t3, t4, t5, t6, t7, t8, t9⟩ := KE2.out.cells10
        obtain ⟨z0, z1, z2, z3, z4, z5⟩ := KE3.out.cells6
        have g0 := KE2.out.froz 0
        have g1 := KE2.out.froz 1
        have g2 := KE2.out.froz 2
        have g3 := KE2.out.froz 3
        have g4 := KE2.out.froz 4
        have g5 := KE2.out.froz 5
        have g6 := KE2.out.froz 6
        have g7 := KE2.out.froz 7
        have g8 := KE2.out.froz 8
        have g9 := KE2.out.froz 9
        have k0 := KE3.out.froz 0
        have k1 := KE3.out.froz 1
        have k2 := KE3.out.froz 2
        have k3 := KE3.out.froz 3
        have k4 := KE3.out.froz 4
        have k5 := KE3.out.froz 5
        have le2 := KE2.out.lt; have le3 := KE3.out.lt
        have E1 := Lib.hid ((KE2.out.st10 (.int .i64 0) (.bool false) (.int .i64 0) (.int .i64 0) (.slice none 0 0) (.int .i64 0) (.int .i64 0) (.int .i64 0) (.slice none 0 0) (.slice none 0 0)).other (grown_st6 (World.grownBy.refl _ (some b3)) (.int .i64 0) (.int .i64 0) (.int .i64 0) (.int .i64 0) (.int .i64 0) (.int .i64 0)) (fun e => n23 (by cases e; rfl)))
        have E2 := Lib.hid ((KE3.out.other (grown_st10 (World.grownBy.refl _ (some b2)) (.int .i64 0) (.bool false) (.int .i64 0) (.int .i64 0) (.slice none 0 0) (.int .i64 0) (.int .i64 0) (.int .i64 0) (.slice none 0 0) (.slice none 0 0)) (fun e => n32 (by cases e; rfl))).st6 (.int .i64 0) (.int .i64 0) (.int .i64 0) (.int .i64 0) (.int .i64 0) (.int .i64 0))
        have E3 := Lib.hid (below_st6 (below_st10 AE.out HBW.out.1 (.int .i64 0) (.bool false) (.int .i64 0) (.int .i64 0) (.slice none 0 0) (.int .i64 0) (.int .i64 0) (.int .i64 0) (.slice none 0 0) (.slice none 0 0)) HBW.out.2 (.int .i64 0) (.int .i64 0) (.int .i64 0) (.int .i64 0) (.int .i64 0) (.int .i64 0))
        go_wp2_with fail
        exact bodyPost_ret (v := .tuple #[.agg zero10, .agg zero6, .int .i64 5]) (by rw [res_cc1 Try.results23 _ (by rfl) (E1.out.load Try.underlying27 infC) (by rfl) (E2.out.load Try.underlying50 infO)]; rfl) rfl (zeroP E3.out)
end Go.Proofs.Ytfolhgpbplfilaa
