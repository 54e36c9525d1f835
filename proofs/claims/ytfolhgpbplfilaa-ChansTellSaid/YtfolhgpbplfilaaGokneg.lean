/- ChansTell: the walk. -/
import Derived.Test.YtfolhgpbplfilaaF2
import Derived.Test.YtfolhgpbplfilaaF3
import Derived.Test.YtfolhgpbplfilaaF4
import Derived.Test.YtfolhgpbplfilaaLawCloses
import Derived.Test.YtfolhgpbplfilaaG0
namespace Go.Proofs.Ytfolhgpbplfilaa
open Go.RowKit
set_option maxRecDepth 100000 in
set_option maxHeartbeats 8000000 in
theorem tell_ok_neg (n : Int) (c : Chn) (q : CAt) (send : Bool) (g : Int) (w : World) (h : Cha w c q) (hn0 : -1 ≤ n) (hn3 : n ≤ 3) (hr : rightC (fewC c) = true) (hg : g < 0) : Calls Try.prog 3 #[.int .i64 n, chV c q, .bool send, .int .i64 g] w (Says w) := by
  have HFW := Lib.hid (fun W (H : Cha W c q) => few_any c q W H)
  unfold GotC at HFW
  obtain ⟨c1, hc1⟩ : ∃ c1, c1 = fewC c := ⟨_, rfl⟩
  obtain ⟨q1, hq1⟩ : ∃ q1, q1 = fewAt q := ⟨_, rfl⟩
  have AP1 := Lib.hid (show Ap q1 w.heap.size by rw [hq1]; exact (few_cha h).ap (Nat.le_refl _))
  rw [← hc1, ← hq1] at HFW
  rw [← hc1] at hr
  have A0 := Lib.hid (below_alloc w (.cells (chC c q) 27)); have K0 := Lib.hid (Bx.new w (chC c q) 27); have C0 := Lib.hid (h.below A0.out)
  have HNW := Lib.hid (fun W => CNew_ok n W hn0 hn3)
  obtain ⟨m, hm⟩ : ∃ m : Nat, (m : Int) = max n 0 := ⟨(max n 0).toNat, by omega⟩
  have HRN := Lib.hid (fun W => refNew_any n m W hn0 hn3 hm)
  have HSN := Lib.hid (fun W qa qb (H : Cha W (newC n) qa) (H2 : Cha W (newC n) qb) => CSame_yes (newC n) (newC n) qa qb W H H2 (same_new hn0 hn3))
  clear hm
  unfold GotN at HNW
  obtain ⟨z, hz⟩ : ∃ z, z = newC n := ⟨_, rfl⟩
  rw [← hz] at HNW HRN HSN
  have HZZ := Lib.hid hz
  clear hz
  clear hc1 hq1 h
  go_enter Try.func3, Try.ntmps3
  go_wp2_with fail
  refine (HFW.out _ C0.out).mono ?_
  rintro e w1 ⟨rfl, hc, hb⟩
  have A1 := Lib.hid (A0.out.trans (Below.mono hb A0.out.size)); have K1 := Lib.hid (K0.out.below hb); have C1 := Lib.hid hc
  clear hc hb A0 K0 C0
  obtain ⟨t0, t1, t2, t3, t4, t5, t6, t7, t8, t9⟩ := K1.out.cells10
  have f0 := K1.out.froz 0; have f1 := K1.out.froz 1; have f2 := K1.out.froz 2; have f3 := K1.out.froz 3; have f4 := K1.out.froz 4; have f5 := K1.out.froz 5; have f6 := K1.out.froz 6; have f7 := K1.out.froz 7; have f8 := K1.out.froz 8; have f9 := K1.out.froz 9; have l0 := K1.out.lt
  go_upto_region 2 with (fail)
  obtain ⟨X, hX⟩ : ∃ X, X = st10 w1 w.heap.size (.int .i64 c1.cap) (.bool c1.cl) (.int .i64 c1.rc) (.int .i64 c1.rf) (.slice q1.za q1.zn q1.zc) (.int .i64 c1.rk) (.int .i64 c1.sent) (.int .i64 c1.got) (.slice q1.sa q1.sn q1.sc) (.slice q1.ra q1.rn q1.rq) := ⟨_, rfl⟩
  have GX := Lib.hid (show w1.grownBy X (some w.heap.size) by rw [hX]; exact grown_st10 (World.grownBy.refl _ _) (.int .i64 c1.cap) (.bool c1.cl) (.int .i64 c1.rc) (.int .i64 c1.rf) (.slice q1.za q1.zn q1.zc) (.int .i64 c1.rk) (.int .i64 c1.sent) (.int .i64 c1.got) (.slice q1.sa q1.sn q1.sc) (.slice q1.ra q1.rn q1.rq))
  have K4_0 := Lib.hid (show Bx X w.heap.size (chC c1 q1) 27 by rw [hX]; exact K1.out.st10 (.int .i64 c1.cap) (.bool c1.cl) (.int .i64 c1.rc) (.int .i64 c1.rf) (.slice q1.za q1.zn q1.zc) (.int .i64 c1.rk) (.int .i64 c1.sent) (.int .i64 c1.got) (.slice q1.sa q1.sn q1.sc) (.slice q1.ra q1.rn q1.rq))
  have A_0 := Lib.hid (show Below w.heap.size w X by rw [hX]; exact below_st10 A1.out (Nat.le_refl _) (.int .i64 c1.cap) (.bool c1.cl) (.int .i64 c1.rc) (.int .i64 c1.rf) (.slice q1.za q1.zn q1.zc) (.int .i64 c1.rk) (.int .i64 c1.sent) (.int .i64 c1.got) (.slice q1.sa q1.sn q1.sc) (.slice q1.ra q1.rn q1.rq))
  have C1_0 := Lib.hid (C1.out.other AP1.out GX.out)
  have hx := hX.symm
  simp only [st10] at hx
  rw [hx]
  obtain ⟨b4, hb4⟩ : ∃ b, b = w.heap.size := ⟨_, rfl⟩
  rw [← hb4] at K4_0 ⊢
  clear hx hX hb4 t0 t1 t2 t3 t4 t5 t6 t7 t8 t9 f0 f1 f2 f3 f4 f5 f6 f7 f8 f9 l0 K1 A1 C1 GX
  have HRR := Lib.hid (fun W (H : Cha W c1 q1) => refRight_c c1 q1 W H); have HRP := Lib.hid (fun W (H : Cha W c1 q1) => Right_c c1 q1 W H)
  rw [hr] at HRR HRP
  have HX := Lib.hid (fun W (H : Cha W c1 q1) => Close_ok c1 q1 W H hr)
  unfold GotX at HX
  obtain ⟨_, _, _, gd⟩ := good_of hr
  have HRX := Lib.hid (fun W (H : Cha W c1 q1) => refClose_any c1 q1 W H gd.cap0)
  unfold GotRX at HRX
  obtain ⟨y, hy⟩ : ∃ y, y = closedC c1 := ⟨_, rfl⟩
  obtain ⟨tl, htl⟩ : ∃ t, t = toldC c1 := ⟨_, rfl⟩
  obtain ⟨pn, hpn⟩ : ∃ p, p = panicC c1 := ⟨_, rfl⟩
  rw [← hy, ← htl, ← hpn] at HX HRX
  have HSY := Lib.hid (fun W qa qb (H : Cha W y qa) (H2 : Cha W y qb) => CSame_yes y y qa qb W H H2 (same_refl (by rw [hy]; exact right_closed hr)))
  have HSW := Lib.hid (fun W a1 n1 p1 a2 n2 p2 (h1 : Wts W a1 n1 p1 tl) (h2 : Wts W a2 n2 p2 tl) => Same_any a1 n1 p1 tl a2 n2 p2 tl W h1 h2)
  simp only [decide_true] at HSW
  have HY := Lib.hid (fun W (H : Cha W c1 q1) => Ready_bad c1 q1 send g W H (.inr hg))
  have HL := Lib.hid (fun W (H : Cha W c1 q1) => Leave_bad c1 q1 g W H (.inr hg))
  unfold GotB at HY
  unfold GotN at HL
  clear hr hy htl hpn gd
  go_wp2_with fail
  refine (HNW.out _).mono ?_
  rintro e v1 ⟨qz, rfl, hc, hfr, hb⟩
  have A_1 := Lib.hid (A_0.out.trans (Below.mono hb A_0.out.size))
  have K4_1 := Lib.hid (K4_0.out.below hb)
  have C1_1 := Lib.hid (C1_0.out.below hb)
  clear A_0 K4_0 C1_0
  have CN_1 := Lib.hid (hc)
  clear hb hc
  clear hfr
  have hbx := below_alloc v1 (.cells (chC z qz) 27)
  have A_2 := Lib.hid (A_1.out.trans (Below.mono hbx A_1.out.size))
  have K4_2 := Lib.hid (K4_1.out.below hbx)
  have C1_2 := Lib.hid (C1_1.out.below hbx)
  have CN_2 := Lib.hid (CN_1.out.below hbx)
  clear A_1 K4_1 C1_1 CN_1
  have Nn_2 := Lib.hid (Bx.new v1 (chC z qz) 27)
  go_upto_region 3 with (fail)
  obtain ⟨Xn, hXn⟩ : ∃ X, X = v1.alloc (.cells (chC z qz) 27) := ⟨_, rfl⟩
  obtain ⟨bn, hbn⟩ : ∃ b, b = v1.heap.size := ⟨_, rfl⟩
  rw [← hXn] at A_2 K4_2 C1_2 CN_2 Nn_2 ⊢
  rw [← hbn] at Nn_2 ⊢
  have HBn := Lib.hid hbn
  clear hXn hbn hbx
  obtain ⟨t0, t1, t2, t3, t4, t5, t6, t7, t8, t9⟩ := K4_2.out.cells10
  have lt := K4_2.out.lt
  go_wp2_with fail
  refine (HY.out _ C1_2.out).mono ?_
  rintro e v3 ⟨rfl, hb⟩
  clear t0 t1 t2 t3 t4 t5 t6 t7 t8 t9 lt
  have A_3 := Lib.hid (A_2.out.trans (Below.mono hb A_2.out.size))
  have K4_3 := Lib.hid (K4_2.out.below hb)
  have C1_3 := Lib.hid (C1_2.out.below hb)
  have CN_3 := Lib.hid (CN_2.out.below hb)
  have Nn_3 := Lib.hid (Nn_2.out.below hb)
  clear A_2 K4_2 C1_2 CN_2 Nn_2
  clear hb
  obtain ⟨t0, t1, t2, t3, t4, t5, t6, t7, t8, t9⟩ := K4_3.out.cells10
  have lt := K4_3.out.lt
  go_wp2_with fail
  refine (HX.out _ C1_3.out).mono ?_
  rintro e v4 ⟨qb, la, ln, lp, rfl, hc, ht, hfr, hb⟩
  clear t0 t1 t2 t3 t4 t5 t6 t7 t8 t9 lt
  have A_4 := Lib.hid (A_3.out.trans (Below.mono hb A_3.out.size))
  have K4_4 := Lib.hid (K4_3.out.below hb)
  have C1_4 := Lib.hid (C1_3.out.below hb)
  have CN_4 := Lib.hid (CN_3.out.below hb)
  have Nn_4 := Lib.hid (Nn_3.out.below hb)
  clear A_3 K4_3 C1_3 CN_3 Nn_3
  have CB_4 := Lib.hid (hc)
  have TB_4 := Lib.hid (ht)
  clear hb hc ht
  clear hfr
  have hbx := below_alloc v4 (.cells (chC y qb) 27)
  have A_5 := Lib.hid (A_4.out.trans (Below.mono hbx A_4.out.size))
  have K4_5 := Lib.hid (K4_4.out.below hbx)
  have C1_5 := Lib.hid (C1_4.out.below hbx)
  have CN_5 := Lib.hid (CN_4.out.below hbx)
  have Nn_5 := Lib.hid (Nn_4.out.below hbx)
  have CB_5 := Lib.hid (CB_4.out.below hbx)
  have TB_5 := Lib.hid (TB_4.out.below hbx)
  clear A_4 K4_4 C1_4 CN_4 Nn_4 CB_4 TB_4
  have Nb_5 := Lib.hid (Bx.new v4 (chC y qb) 27)
  go_upto_region 5 with (fail)
  obtain ⟨Xb, hXb⟩ : ∃ X, X = v4.alloc (.cells (chC y qb) 27) := ⟨_, rfl⟩
  obtain ⟨bb, hbb⟩ : ∃ b, b = v4.heap.size := ⟨_, rfl⟩
  rw [← hXb] at A_5 K4_5 C1_5 CN_5 Nn_5 CB_5 TB_5 Nb_5 ⊢
  rw [← hbb] at Nb_5 ⊢
  have HBb := Lib.hid hbb
  clear hXb hbb hbx
  obtain ⟨t0, t1, t2, t3, t4, t5, t6, t7, t8, t9⟩ := K4_5.out.cells10
  have lt := K4_5.out.lt
  go_wp2_with fail
  refine (HL.out _ C1_5.out).mono ?_
  rintro e v6 ⟨qd, rfl, hc, hfr, hb⟩
  clear t0 t1 t2 t3 t4 t5 t6 t7 t8 t9 lt
  have A_6 := Lib.hid (A_5.out.trans (Below.mono hb A_5.out.size))
  have K4_6 := Lib.hid (K4_5.out.below hb)
  have C1_6 := Lib.hid (C1_5.out.below hb)
  have CN_6 := Lib.hid (CN_5.out.below hb)
  have Nn_6 := Lib.hid (Nn_5.out.below hb)
  have CB_6 := Lib.hid (CB_5.out.below hb)
  have TB_6 := Lib.hid (TB_5.out.below hb)
  have Nb_6 := Lib.hid (Nb_5.out.below hb)
  clear A_5 K4_5 C1_5 CN_5 Nn_5 CB_5 TB_5 Nb_5
  have CD_6 := Lib.hid (hc)
  clear hb hc
  clear hfr
  have hbx := below_alloc v6 (.cells (chC zeroC qd) 27)
  have A_7 := Lib.hid (A_6.out.trans (Below.mono hbx A_6.out.size))
  have K4_7 := Lib.hid (K4_6.out.below hbx)
  have C1_7 := Lib.hid (C1_6.out.below hbx)
  have CN_7 := Lib.hid (CN_6.out.below hbx)
  have Nn_7 := Lib.hid (Nn_6.out.below hbx)
  have CB_7 := Lib.hid (CB_6.out.below hbx)
  have TB_7 := Lib.hid (TB_6.out.below hbx)
  have Nb_7 := Lib.hid (Nb_6.out.below hbx)
  have CD_7 := Lib.hid (CD_6.out.below hbx)
  clear A_6 K4_6 C1_6 CN_6 Nn_6 CB_6 TB_6 Nb_6 CD_6
  have Nd_7 := Lib.hid (Bx.new v6 (chC zeroC qd) 27)
  go_upto_region 6 with (fail)
  obtain ⟨Xd, hXd⟩ : ∃ X, X = v6.alloc (.cells (chC zeroC qd) 27) := ⟨_, rfl⟩
  obtain ⟨bd, hbd⟩ : ∃ b, b = v6.heap.size := ⟨_, rfl⟩
  rw [← hXd] at A_7 K4_7 C1_7 CN_7 Nn_7 CB_7 TB_7 Nb_7 CD_7 Nd_7 ⊢
  rw [← hbd] at Nd_7 ⊢
  have HBd := Lib.hid hbd
  clear hXd hbd hbx
  obtain ⟨t0, t1, t2, t3, t4, t5, t6, t7, t8, t9⟩ := K4_7.out.cells10
  have lt := K4_7.out.lt
  go_wp2_with fail
  refine (HRR.out _ C1_7.out).mono ?_
  rintro e v8 ⟨rfl, hb⟩
  clear t0 t1 t2 t3 t4 t5 t6 t7 t8 t9 lt
  have A_8 := Lib.hid (A_7.out.trans (Below.mono hb A_7.out.size))
  have K4_8 := Lib.hid (K4_7.out.below hb)
  have C1_8 := Lib.hid (C1_7.out.below hb)
  have CN_8 := Lib.hid (CN_7.out.below hb)
  have Nn_8 := Lib.hid (Nn_7.out.below hb)
  have CB_8 := Lib.hid (CB_7.out.below hb)
  have TB_8 := Lib.hid (TB_7.out.below hb)
  have Nb_8 := Lib.hid (Nb_7.out.below hb)
  have CD_8 := Lib.hid (CD_7.out.below hb)
  have Nd_8 := Lib.hid (Nd_7.out.below hb)
  clear A_7 K4_7 C1_7 CN_7 Nn_7 CB_7 TB_7 Nb_7 CD_7 Nd_7
  clear hb
  obtain ⟨t0, t1, t2, t3, t4, t5, t6, t7, t8, t9⟩ := K4_8.out.cells10
  have lt := K4_8.out.lt
  go_wp2_with fail
  refine (HRP.out _ C1_8.out).mono ?_
  rintro e v9 ⟨rfl, hb⟩
  clear t0 t1 t2 t3 t4 t5 t6 t7 t8 t9 lt
  have A_9 := Lib.hid (A_8.out.trans (Below.mono hb A_8.out.size))
  have K4_9 := Lib.hid (K4_8.out.below hb)
  have C1_9 := Lib.hid (C1_8.out.below hb)
  have CN_9 := Lib.hid (CN_8.out.below hb)
  have Nn_9 := Lib.hid (Nn_8.out.below hb)
  have CB_9 := Lib.hid (CB_8.out.below hb)
  have TB_9 := Lib.hid (TB_8.out.below hb)
  have Nb_9 := Lib.hid (Nb_8.out.below hb)
  have CD_9 := Lib.hid (CD_8.out.below hb)
  have Nd_9 := Lib.hid (Nd_8.out.below hb)
  clear A_8 K4_8 C1_8 CN_8 Nn_8 CB_8 TB_8 Nb_8 CD_8 Nd_8
  clear hb
  go_wp2_with fail
  refine (alive_any _).mono ?_
  rintro e v10 ⟨rfl, hb⟩
  have A_10 := Lib.hid (A_9.out.trans (Below.mono hb A_9.out.size))
  have K4_10 := Lib.hid (K4_9.out.below hb)
  have C1_10 := Lib.hid (C1_9.out.below hb)
  have CN_10 := Lib.hid (CN_9.out.below hb)
  have Nn_10 := Lib.hid (Nn_9.out.below hb)
  have CB_10 := Lib.hid (CB_9.out.below hb)
  have TB_10 := Lib.hid (TB_9.out.below hb)
  have Nb_10 := Lib.hid (Nb_9.out.below hb)
  have CD_10 := Lib.hid (CD_9.out.below hb)
  have Nd_10 := Lib.hid (Nd_9.out.below hb)
  clear A_9 K4_9 C1_9 CN_9 Nn_9 CB_9 TB_9 Nb_9 CD_9 Nd_9
  clear hb
  have hnl : ¬ n < -1 := by omega
  have hn3' : ¬ 3 < n := by omega
  go_wp2_with fail
  have HSS := Lib.hid (show ∀ W, Below v10.heap.size v10 W → (fun W => W.cell? ⟨bn, 0, none⟩ = some (.int .i64 z.cap) ∧ W.cell? ⟨bn, 1, none⟩ = some (.bool z.cl) ∧ W.cell? ⟨bn, 2, none⟩ = some (.int .i64 z.rc) ∧ W.cell? ⟨bn, 3, none⟩ = some (.int .i64 z.rf) ∧ W.cell? ⟨bn, 4, none⟩ = some (.slice qz.za qz.zn qz.zc) ∧ W.cell? ⟨bn, 5, none⟩ = some (.int .i64 z.rk) ∧ W.cell? ⟨bn, 6, none⟩ = some (.int .i64 z.sent) ∧ W.cell? ⟨bn, 7, none⟩ = some (.int .i64 z.got) ∧ W.cell? ⟨bn, 8, none⟩ = some (.slice qz.sa qz.sn qz.sc) ∧ W.cell? ⟨bn, 9, none⟩ = some (.slice qz.ra qz.rn qz.rq)) W from fun W hb => by obtain ⟨c0_0, c0_1, c0_2, c0_3, c0_4, c0_5, c0_6, c0_7, c0_8, c0_9⟩ := Bx.cells10 (Nn_10.out.below hb); exact ⟨c0_0, c0_1, c0_2, c0_3, c0_4, c0_5, c0_6, c0_7, c0_8, c0_9⟩)
  refine wp_region_held_drew (S := (fun W => W.cell? ⟨bn, 0, none⟩ = some (.int .i64 z.cap) ∧ W.cell? ⟨bn, 1, none⟩ = some (.bool z.cl) ∧ W.cell? ⟨bn, 2, none⟩ = some (.int .i64 z.rc) ∧ W.cell? ⟨bn, 3, none⟩ = some (.int .i64 z.rf) ∧ W.cell? ⟨bn, 4, none⟩ = some (.slice qz.za qz.zn qz.zc) ∧ W.cell? ⟨bn, 5, none⟩ = some (.int .i64 z.rk) ∧ W.cell? ⟨bn, 6, none⟩ = some (.int .i64 z.sent) ∧ W.cell? ⟨bn, 7, none⟩ = some (.int .i64 z.got) ∧ W.cell? ⟨bn, 8, none⟩ = some (.slice qz.sa qz.sn qz.sc) ∧ W.cell? ⟨bn, 9, none⟩ = some (.slice qz.ra qz.rn qz.rq))) (by kernel_rfl) ?_ (fun hHeld => ?_)
  · exact HSS.out _ ((Below.refl _ _).drew)
  have HBR1 := Lib.hid (show Below v10.heap.size v10 v10.drew from (Below.refl _ _).drew)
  (try simp only [Act.put, List.getElem_toArray, List.getElem_cons_zero, List.getElem_cons_succ, List.setIfInBounds_toArray, List.set_cons_zero, List.set_cons_succ])
  refine wpAnyH_take (i := 0) (v := ?_) rfl (by kernel_rfl) (by kernel_rfl) (by kernel_rfl) (fun _ _ _ h => h) (Or.inl ⟨by rfl, ?_⟩) (by assumption) ?_
  rotate_left
  · (intro w hSw; (try dsimp only at hSw); go_simp; try with_reducible rfl)
  (try simp only [Act.put, List.getElem_toArray, List.getElem_cons_zero, List.getElem_cons_succ, List.setIfInBounds_toArray, List.set_cons_zero, List.set_cons_succ])
  refine wpAnyH_take (i := 1) (v := ?_) rfl (by kernel_rfl) (by kernel_rfl) (by kernel_rfl) (fun _ _ _ h => h) (Or.inl ⟨by rfl, ?_⟩) (by assumption) ?_
  rotate_left
  · (intro w hSw; (try dsimp only at hSw); go_simp; try with_reducible rfl)
  (try simp only [Act.put, List.getElem_toArray, List.getElem_cons_zero, List.getElem_cons_succ, List.setIfInBounds_toArray, List.set_cons_zero, List.set_cons_succ])
  refine wpAnyH_take (i := 2) (v := ?_) rfl (by kernel_rfl) (by kernel_rfl) (by kernel_rfl) (fun _ _ _ h => h) (Or.inl ⟨by rfl, ?_⟩) (by assumption) ?_
  rotate_left
  · (intro w hSw; (try dsimp only at hSw); go_simp; try with_reducible rfl)
  (try simp only [Act.put, List.getElem_toArray, List.getElem_cons_zero, List.getElem_cons_succ, List.setIfInBounds_toArray, List.set_cons_zero, List.set_cons_succ])
  refine wpAnyH_take (i := 3) (v := ?_) rfl (by kernel_rfl) (by kernel_rfl) (by kernel_rfl) (fun _ _ _ h => h) (Or.inl ⟨by rfl, ?_⟩) (by assumption) ?_
  rotate_left
  · (intro w hSw; (try dsimp only at hSw); go_simp; try with_reducible rfl)
  (try simp only [Act.put, List.getElem_toArray, List.getElem_cons_zero, List.getElem_cons_succ, List.setIfInBounds_toArray, List.set_cons_zero, List.set_cons_succ])
  refine wpAnyH_take (i := 4) (v := ?_) rfl (by kernel_rfl) (by kernel_rfl) (by kernel_rfl) (fun _ _ _ h => h) (Or.inl ⟨by rfl, ?_⟩) (by assumption) ?_
  rotate_left
  · (intro w hSw; (try dsimp only at hSw); go_simp; try with_reducible rfl)
  (try simp only [Act.put, List.getElem_toArray, List.getElem_cons_zero, List.getElem_cons_succ, List.setIfInBounds_toArray, List.set_cons_zero, List.set_cons_succ])
  refine wpAnyH_ready (rs := [5]) (by kernel_rfl) (by simp) ?_
  refine AllReadyH.cons (o := _) rfl (fun K hK => ?_) AllReadyH.nil
  go_simp
  refine (HRN.out _).mono ?_
  rintro e wr2 ⟨qe, rfl, hc, hb⟩
  have HBR2 := Lib.hid (show Below v10.heap.size v10 wr2 from HBR1.out.trans (Below.mono hb HBR1.out.size))
  have CE0 := Lib.hid (hc)
  clear hb hc
  refine hK.out _ _ (HSS.out _ HBR2.out) (fun hHeld => ?_)
  clear hK K
  (try simp only [Act.put, List.getElem_toArray, List.getElem_cons_zero, List.getElem_cons_succ, List.setIfInBounds_toArray, List.set_cons_zero, List.set_cons_succ])
  refine wpAnyH_ready (rs := [6]) (by kernel_rfl) (by simp) ?_
  refine AllReadyH.cons (o := _) rfl (fun K hK => ?_) AllReadyH.nil
  go_simp
  refine (HSN.out _ _ _ (CN_10.out.below HBR2.out) CE0.out).mono ?_
  rintro e wr3 ⟨rfl, hb⟩
  have HBR3 := Lib.hid (show Below v10.heap.size v10 wr3 from HBR2.out.trans (Below.mono hb HBR2.out.size))
  clear hb
  refine hK.out _ _ (HSS.out _ HBR3.out) (fun hHeld => ?_)
  clear hK K
  (try simp only [Act.put, List.getElem_toArray, List.getElem_cons_zero, List.getElem_cons_succ, List.setIfInBounds_toArray, List.set_cons_zero, List.set_cons_succ])
  refine wpAnyH_take (i := 7) (v := ?_) rfl (by kernel_rfl) (by kernel_rfl) (by kernel_rfl) (fun _ _ _ h => h) (Or.inl ⟨by rfl, ?_⟩) (by assumption) ?_
  rotate_left
  · (intro w hSw; (try dsimp only at hSw); go_simp; try with_reducible rfl)
  (try simp only [Act.put, List.getElem_toArray, List.getElem_cons_zero, List.getElem_cons_succ, List.setIfInBounds_toArray, List.set_cons_zero, List.set_cons_succ])
  refine wpAnyH_take (i := 8) (v := ?_) rfl (by kernel_rfl) (by kernel_rfl) (by kernel_rfl) (fun _ _ _ h => h) (Or.inl ⟨by rfl, ?_⟩) (by assumption) ?_
  rotate_left
  · (intro w hSw; (try dsimp only at hSw); go_simp; try with_reducible rfl)
  (try simp only [Act.put, List.getElem_toArray, List.getElem_cons_zero, List.getElem_cons_succ, List.setIfInBounds_toArray, List.set_cons_zero, List.set_cons_succ])
  refine wpAnyH_done (by kernel_rfl) ?_ _
  have A_11 := Lib.hid (A_10.out.trans (Below.mono HBR3.out A_10.out.size))
  have K4_11 := Lib.hid (K4_10.out.below HBR3.out)
  have C1_11 := Lib.hid (C1_10.out.below HBR3.out)
  have CN_11 := Lib.hid (CN_10.out.below HBR3.out)
  have Nn_11 := Lib.hid (Nn_10.out.below HBR3.out)
  have CB_11 := Lib.hid (CB_10.out.below HBR3.out)
  have TB_11 := Lib.hid (TB_10.out.below HBR3.out)
  have Nb_11 := Lib.hid (Nb_10.out.below HBR3.out)
  have CD_11 := Lib.hid (CD_10.out.below HBR3.out)
  have Nd_11 := Lib.hid (Nd_10.out.below HBR3.out)
  clear A_10 K4_10 C1_10 CN_10 Nn_10 CB_10 TB_10 Nb_10 CD_10 Nd_10
  clear HSS
  obtain ⟨t0, t1, t2, t3, t4, t5, t6, t7, t8, t9⟩ := K4_11.out.cells10
  have lt := K4_11.out.lt
  go_wp2_with fail
  refine (HRX.out _ C1_11.out).mono ?_
  rintro e v12 ⟨qx, xa, xn, xp, rfl, hc, ht, hb⟩
  clear t0 t1 t2 t3 t4 t5 t6 t7 t8 t9 lt
  have A_12 := Lib.hid (A_11.out.trans (Below.mono hb A_11.out.size))
  have K4_12 := Lib.hid (K4_11.out.below hb)
  have C1_12 := Lib.hid (C1_11.out.below hb)
  have CN_12 := Lib.hid (CN_11.out.below hb)
  have Nn_12 := Lib.hid (Nn_11.out.below hb)
  have CB_12 := Lib.hid (CB_11.out.below hb)
  have TB_12 := Lib.hid (TB_11.out.below hb)
  have Nb_12 := Lib.hid (Nb_11.out.below hb)
  have CD_12 := Lib.hid (CD_11.out.below hb)
  have Nd_12 := Lib.hid (Nd_11.out.below hb)
  clear A_11 K4_11 C1_11 CN_11 Nn_11 CB_11 TB_11 Nb_11 CD_11 Nd_11
  have CX_12 := Lib.hid (hc)
  have TX_12 := Lib.hid (ht)
  clear hb hc ht
  have hbx := below_alloc v12 (.cells (chC y qx) 27)
  have A_13 := Lib.hid (A_12.out.trans (Below.mono hbx A_12.out.size))
  have K4_13 := Lib.hid (K4_12.out.below hbx)
  have C1_13 := Lib.hid (C1_12.out.below hbx)
  have CN_13 := Lib.hid (CN_12.out.below hbx)
  have Nn_13 := Lib.hid (Nn_12.out.below hbx)
  have CB_13 := Lib.hid (CB_12.out.below hbx)
  have TB_13 := Lib.hid (TB_12.out.below hbx)
  have Nb_13 := Lib.hid (Nb_12.out.below hbx)
  have CD_13 := Lib.hid (CD_12.out.below hbx)
  have Nd_13 := Lib.hid (Nd_12.out.below hbx)
  have CX_13 := Lib.hid (CX_12.out.below hbx)
  have TX_13 := Lib.hid (TX_12.out.below hbx)
  clear A_12 K4_12 C1_12 CN_12 Nn_12 CB_12 TB_12 Nb_12 CD_12 Nd_12 CX_12 TX_12
  have Nv_13 := Lib.hid (Bx.new v12 (chC y qx) 27)
  go_upto_region 17 with (fail)
  obtain ⟨Xv, hXv⟩ : ∃ X, X = v12.alloc (.cells (chC y qx) 27) := ⟨_, rfl⟩
  obtain ⟨bv, hbv⟩ : ∃ b, b = v12.heap.size := ⟨_, rfl⟩
  rw [← hXv] at A_13 K4_13 C1_13 CN_13 Nn_13 CB_13 TB_13 Nb_13 CD_13 Nd_13 CX_13 TX_13 Nv_13 ⊢
  rw [← hbv] at Nv_13 ⊢
  have HBv := Lib.hid hbv
  clear hXv hbv hbx
  have hpp : (pn != pn) = false := by simp
  go_wp2_with fail
  refine (HSW.out _ _ _ _ _ _ _ TB_13.out TX_13.out).mono ?_
  rintro e v14 ⟨rfl, hb⟩
  have A_14 := Lib.hid (A_13.out.trans (Below.mono hb A_13.out.size))
  have K4_14 := Lib.hid (K4_13.out.below hb)
  have C1_14 := Lib.hid (C1_13.out.below hb)
  have CN_14 := Lib.hid (CN_13.out.below hb)
  have Nn_14 := Lib.hid (Nn_13.out.below hb)
  have CB_14 := Lib.hid (CB_13.out.below hb)
  have TB_14 := Lib.hid (TB_13.out.below hb)
  have Nb_14 := Lib.hid (Nb_13.out.below hb)
  have CD_14 := Lib.hid (CD_13.out.below hb)
  have Nd_14 := Lib.hid (Nd_13.out.below hb)
  have CX_14 := Lib.hid (CX_13.out.below hb)
  have TX_14 := Lib.hid (TX_13.out.below hb)
  have Nv_14 := Lib.hid (Nv_13.out.below hb)
  clear A_13 K4_13 C1_13 CN_13 Nn_13 CB_13 TB_13 Nb_13 CD_13 Nd_13 CX_13 TX_13 Nv_13
  clear hb
  obtain ⟨t0, t1, t2, t3, t4, t5, t6, t7, t8, t9⟩ := Nb_14.out.cells10
  have lt := Nb_14.out.lt
  obtain ⟨u0, u1, u2, u3, u4, u5, u6, u7, u8, u9⟩ := Nv_14.out.cells10
  have lu := Nv_14.out.lt
  go_wp2_with fail
  refine (HSY.out _ _ _ CB_14.out CX_14.out).mono ?_
  rintro e v15 ⟨rfl, hb⟩
  clear t0 t1 t2 t3 t4 t5 t6 t7 t8 t9 lt u0 u1 u2 u3 u4 u5 u6 u7 u8 u9 lu
  have A_15 := Lib.hid (A_14.out.trans (Below.mono hb A_14.out.size))
  have K4_15 := Lib.hid (K4_14.out.below hb)
  have C1_15 := Lib.hid (C1_14.out.below hb)
  have CN_15 := Lib.hid (CN_14.out.below hb)
  have Nn_15 := Lib.hid (Nn_14.out.below hb)
  have CB_15 := Lib.hid (CB_14.out.below hb)
  have TB_15 := Lib.hid (TB_14.out.below hb)
  have Nb_15 := Lib.hid (Nb_14.out.below hb)
  have CD_15 := Lib.hid (CD_14.out.below hb)
  have Nd_15 := Lib.hid (Nd_14.out.below hb)
  have CX_15 := Lib.hid (CX_14.out.below hb)
  have TX_15 := Lib.hid (TX_14.out.below hb)
  have Nv_15 := Lib.hid (Nv_14.out.below hb)
  clear A_14 K4_14 C1_14 CN_14 Nn_14 CB_14 TB_14 Nb_14 CD_14 Nd_14 CX_14 TX_14 Nv_14
  clear hb
  obtain ⟨t0, t1, t2, t3, t4, t5, t6, t7, t8, t9⟩ := Nd_15.out.cells10
  have lt := Nd_15.out.lt
  go_wp2_with fail
  refine (empty_zero qd _ CD_15.out).mono ?_
  rintro e v16 ⟨rfl, hb⟩
  clear t0 t1 t2 t3 t4 t5 t6 t7 t8 t9 lt
  have A_16 := Lib.hid (A_15.out.trans (Below.mono hb A_15.out.size))
  have K4_16 := Lib.hid (K4_15.out.below hb)
  have C1_16 := Lib.hid (C1_15.out.below hb)
  have CN_16 := Lib.hid (CN_15.out.below hb)
  have Nn_16 := Lib.hid (Nn_15.out.below hb)
  have CB_16 := Lib.hid (CB_15.out.below hb)
  have TB_16 := Lib.hid (TB_15.out.below hb)
  have Nb_16 := Lib.hid (Nb_15.out.below hb)
  have CD_16 := Lib.hid (CD_15.out.below hb)
  have Nd_16 := Lib.hid (Nd_15.out.below hb)
  have CX_16 := Lib.hid (CX_15.out.below hb)
  have TX_16 := Lib.hid (TX_15.out.below hb)
  have Nv_16 := Lib.hid (Nv_15.out.below hb)
  clear A_15 K4_15 C1_15 CN_15 Nn_15 CB_15 TB_15 Nb_15 CD_15 Nd_15 CX_15 TX_15 Nv_15
  clear hb
  go_wp2_with fail
  go_ret
  exact ⟨rfl, A_16.out⟩
end Go.Proofs.Ytfolhgpbplfilaa
