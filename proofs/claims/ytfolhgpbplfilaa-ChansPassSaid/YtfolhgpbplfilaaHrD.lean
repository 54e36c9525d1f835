/- The reference: Recv, waiting. -/
import Derived.Test.YtfolhgpbplfilaaHT
namespace Go.Proofs.Ytfolhgpbplfilaa
open Go.RowKit
set_option linter.unusedSimpArgs false
set_option linter.unusedVariables false
set_option maxRecDepth 100000 in
set_option maxHeartbeats 4000000 in
theorem refRecv_nil (c : Chn) (q : CAt) (x : Wt) (w : World) (h : Cha w c q) (hx : WtOk x) (hc : c.cap = -1) :
    Calls Try.prog 26 #[chV c q, wV x] w (GotQ w c (aloneO 0) 0) := by
  have hcb : (c.cap == -1) = true := by rw [beq_iff_eq]; exact hc
  clear hc
  have AX := Lib.hid ((((below_alloc w (.cells (chC c q) 27)).alloc (by simp) (.cells #[.int .i64 x.g, .int .i64 x.c, .int .i64 x.s] 48)).alloc (by simp; omega) (.cells zero10 27)).alloc (by simp; omega) (.cells zero6 50))
  have K0 := Lib.hid ((((Bx.new w (chC c q) 27).below (below_alloc _ (.cells #[.int .i64 x.g, .int .i64 x.c, .int .i64 x.s] 48))).below (below_alloc _ (.cells zero10 27))).below (below_alloc _ (.cells zero6 50)))
  have K1 := Lib.hid (((box3_two w (.cells (chC c q) 27) x).below (below_alloc _ (.cells zero10 27))).below (below_alloc _ (.cells zero6 50)))
  have K2 := Lib.hid ((Bx.new3 w (.cells (chC c q) 27) (.cells #[.int .i64 x.g, .int .i64 x.c, .int .i64 x.s] 48) zero10 27).below (below_alloc _ (.cells zero6 50)))
  have K3 := Lib.hid (Bx.new4 w (.cells (chC c q) 27) (.cells #[.int .i64 x.g, .int .i64 x.c, .int .i64 x.s] 48) (.cells zero10 27) zero6 50)
  have HX0 := Lib.hid (h.below AX.out)
  go_enter Try.func26, Try.ntmps26
  go_wp2_with fail
  obtain ⟨X, hX⟩ : ∃ X, X = (((w.alloc (.cells (chC c q) 27)).alloc (.cells #[.int .i64 x.g, .int .i64 x.c, .int .i64 x.s] 48)).alloc (.cells zero10 27)).alloc (.cells zero6 50) := ⟨_, rfl⟩
  rw [← hX] at AX K0 K1 K2 K3 HX0 ⊢
  try rw [show w.heap.size + 1 + 1 + 1 = w.heap.size + 3 from rfl]
  try rw [show w.heap.size + 1 + 1 = w.heap.size + 2 from rfl]
  obtain ⟨b3, h3⟩ : ∃ b, b = w.heap.size + 3 := ⟨_, rfl⟩
  obtain ⟨b2, h2⟩ : ∃ b, b = w.heap.size + 2 := ⟨_, rfl⟩
  obtain ⟨b1, hb1⟩ : ∃ b, b = w.heap.size + 1 := ⟨_, rfl⟩
  obtain ⟨b0, h0⟩ : ∃ b, b = w.heap.size := ⟨_, rfl⟩
  have HBW := Lib.hid (show w.heap.size ≤ b0 ∧ w.heap.size ≤ b2 ∧ w.heap.size ≤ b3 by omega)
  have AP0 := Lib.hid (show Ap q b0 from h.ap (by omega)); have AP2 := Lib.hid (show Ap q b2 from h.ap (by omega)); have AP3 := Lib.hid (show Ap q b3 from h.ap (by omega))
  rw [← h3] at K3 ⊢
  rw [← h2] at K2 ⊢
  rw [← hb1] at K1 ⊢
  rw [← h0] at K0 ⊢
  have n01 : b0 ≠ b1 := by omega
  have n02 : b0 ≠ b2 := by omega
  have n03 : b0 ≠ b3 := by omega
  have n20 : b2 ≠ b0 := by omega
  have n30 : b3 ≠ b0 := by omega
  have n10 : b1 ≠ b0 := by omega
  have n12 : b1 ≠ b2 := by omega
  have n13 : b1 ≠ b3 := by omega
  have n23 : b2 ≠ b3 := by omega
  have n32 : b3 ≠ b2 := by omega
  clear hX h3 h2 hb1 h0 h
  refine (refNobody_any _).mono ?_
  rintro e wa ⟨rfl, hb⟩
  have AXa := Lib.hid (AX.out.trans (Below.mono hb AX.out.size)); have K0a := Lib.hid (K0.out.below hb); have K1a := Lib.hid (K1.out.below hb); have K2a := Lib.hid (K2.out.below hb); have K3a := Lib.hid (K3.out.below hb); have HXa := Lib.hid (HX0.out.below hb)
  clear hb AX K0 K1 K2 K3 HX0
  have hb := below_alloc wa (.cells #[.int .i64 0, .int .i64 0, .int .i64 (-1), .int .i64 0, .int .i64 0, .int .i64 0] 50)
  have A_0 := Lib.hid (AXa.out.trans (Below.mono hb AXa.out.size)); have K0_0 := Lib.hid (K0a.out.below hb); have K1_0 := Lib.hid (K1a.out.below hb); have K2_0 := Lib.hid (K2a.out.below hb); have K3_0 := Lib.hid (K3a.out.below hb); have H_0 := Lib.hid (HXa.out.below hb)
  have K7_0 := Lib.hid (Bx.new wa #[.int .i64 0, .int .i64 0, .int .i64 (-1), .int .i64 0, .int .i64 0, .int .i64 0] 50)
  have m0 := K0a.out.lt; have m2 := K2a.out.lt; have m3 := K3a.out.lt
  have m1 : b1 < wa.heap.size := (Array.getElem?_eq_some_iff.1 K1a.out).1
  clear hb
  go_upto_region 2 with (fail)
  obtain ⟨W0, hW0⟩ : ∃ x, x = wa.alloc (.cells #[.int .i64 0, .int .i64 0, .int .i64 (-1), .int .i64 0, .int .i64 0, .int .i64 0] 50) := ⟨_, rfl⟩
  obtain ⟨b7, h7⟩ : ∃ b, b = wa.heap.size := ⟨_, rfl⟩
  have HB7 := Lib.hid (show w.heap.size ≤ b7 by rw [h7]; exact AXa.out.size)
  have AP7 := Lib.hid (show Ap q b7 by rw [h7]; exact HXa.out.ap (Nat.le_refl _))
  rw [← hW0] at A_0 K0_0 K1_0 K2_0 K3_0 H_0 K7_0 ⊢
  rw [← h7] at K7_0 m0 m1 m2 m3 ⊢
  have n70 : b7 ≠ b0 := by omega
  have n71 : b7 ≠ b1 := by omega
  have n72 : b7 ≠ b2 := by omega
  have n73 : b7 ≠ b3 := by omega
  have n07 : b0 ≠ b7 := by omega
  have n17 : b1 ≠ b7 := by omega
  have n27 : b2 ≠ b7 := by omega
  have n37 : b3 ≠ b7 := by omega
  clear hW0 h7 m0 m1 m2 m3 AXa K0a K1a K2a K3a HXa
  obtain ⟨t0, t1, t2, t3, t4, t5, t6, t7, t8, t9⟩ := Bx.cells10 K0_0.out
  obtain ⟨u0, u1, u2, u3, u4, u5, u6, u7, u8, u9⟩ := Bx.cells10 K2_0.out
  obtain ⟨v0, v1, v2, v3, v4, v5⟩ := Bx.cells6 K3_0.out
  obtain ⟨z0, z1, z2, z3, z4, z5⟩ := Bx.cells6 K7_0.out
  have l2 := Bx.lt K2_0.out; have l3 := Bx.lt K3_0.out; have f0 := Bx.froz K2_0.out 0; have f1 := Bx.froz K2_0.out 1; have f2 := Bx.froz K2_0.out 2; have f3 := Bx.froz K2_0.out 3; have f4 := Bx.froz K2_0.out 4; have f5 := Bx.froz K2_0.out 5; have f6 := Bx.froz K2_0.out 6; have f7 := Bx.froz K2_0.out 7; have f8 := Bx.froz K2_0.out 8; have f9 := Bx.froz K2_0.out 9; have g0 := Bx.froz K3_0.out 0; have g1 := Bx.froz K3_0.out 1; have g2 := Bx.froz K3_0.out 2; have g3 := Bx.froz K3_0.out 3; have g4 := Bx.froz K3_0.out 4; have g5 := Bx.froz K3_0.out 5
  go_wp2_with fail
  go_region
  go_wp2_with fail
  have EE := Lib.hid (endQd (endQ A_0.out HBW.out.2.1 HBW.out.2.2 K2_0.out K3_0.out n23 (c) (q) (⟨0, 0, ⟨-1, 0, 0⟩, 0⟩) H_0.out AP2.out AP3.out))
  simp only [stCO] at EE
  exact bodyPost_ret (v := .tuple #[chV (c) (q), outV (⟨0, 0, ⟨-1, 0, 0⟩, 0⟩), .int .i64 0]) (by rw [res_cc1 Try.results26 _ (by rfl) (EE.out.1.load Try.underlying27 infC) (by rfl) (EE.out.2.1.load Try.underlying50 infO)]; rfl) rfl ⟨q, rfl, EE.out.2.2.1, EE.out.2.2.2⟩
set_option maxRecDepth 100000 in
set_option maxHeartbeats 4000000 in
theorem refRecv_some_max (cap_ : Int) (cl : Bool) (rc rf : Int) (zs : List Int) (rk sent got : Int) (sends recvs : List Wt) (q : CAt) (x : Wt) (w : World) (h : Cha w ⟨cap_, cl, rc, rf, zs, rk, sent, got, sends, recvs⟩ q) (hx : WtOk x) (hcap : 0 ≤ cap_) (y : Wt) (hf : firstW sends x.g = some y) (hmax : sent = 1048576) :
    Calls Try.prog 26 #[chV ⟨cap_, cl, rc, rf, zs, rk, sent, got, sends, recvs⟩ q, wV x] w (GotQ w zeroC zeroO 5) := by
  have hmb : (sent == 1048576) = true := by rw [beq_iff_eq]; exact hmax
  clear hmax
  have hcb : (cap_ == -1) = false := by rw [beq_eq_false_iff_ne]; omega
  have HF := Lib.hid (fun W (H : Cha W ⟨cap_, cl, rc, rf, zs, rk, sent, got, sends, recvs⟩ q) => refFirst_any q.sa q.sn q.sc sends x.g W H.sends)
  have HXO := Lib.hid hx
  have AX := Lib.hid ((((below_alloc w (.cells (chC ⟨cap_, cl, rc, rf, zs, rk, sent, got, sends, recvs⟩ q) 27)).alloc (by simp) (.cells #[.int .i64 x.g, .int .i64 x.c, .int .i64 x.s] 48)).alloc (by simp; omega) (.cells zero10 27)).alloc (by simp; omega) (.cells zero6 50))
  have K0 := Lib.hid ((((Bx.new w (chC ⟨cap_, cl, rc, rf, zs, rk, sent, got, sends, recvs⟩ q) 27).below (below_alloc _ (.cells #[.int .i64 x.g, .int .i64 x.c, .int .i64 x.s] 48))).below (below_alloc _ (.cells zero10 27))).below (below_alloc _ (.cells zero6 50)))
  have K1 := Lib.hid (((box3_two w (.cells (chC ⟨cap_, cl, rc, rf, zs, rk, sent, got, sends, recvs⟩ q) 27) x).below (below_alloc _ (.cells zero10 27))).below (below_alloc _ (.cells zero6 50)))
  have K2 := Lib.hid ((Bx.new3 w (.cells (chC ⟨cap_, cl, rc, rf, zs, rk, sent, got, sends, recvs⟩ q) 27) (.cells #[.int .i64 x.g, .int .i64 x.c, .int .i64 x.s] 48) zero10 27).below (below_alloc _ (.cells zero6 50)))
  have K3 := Lib.hid (Bx.new4 w (.cells (chC ⟨cap_, cl, rc, rf, zs, rk, sent, got, sends, recvs⟩ q) 27) (.cells #[.int .i64 x.g, .int .i64 x.c, .int .i64 x.s] 48) (.cells zero10 27) zero6 50)
  have HX0 := Lib.hid (h.below AX.out)
  go_enter Try.func26, Try.ntmps26
  go_wp2_with fail
  obtain ⟨X, hX⟩ : ∃ X, X = (((w.alloc (.cells (chC ⟨cap_, cl, rc, rf, zs, rk, sent, got, sends, recvs⟩ q) 27)).alloc (.cells #[.int .i64 x.g, .int .i64 x.c, .int .i64 x.s] 48)).alloc (.cells zero10 27)).alloc (.cells zero6 50) := ⟨_, rfl⟩
  rw [← hX] at AX K0 K1 K2 K3 HX0 ⊢
  try rw [show w.heap.size + 1 + 1 + 1 = w.heap.size + 3 from rfl]
  try rw [show w.heap.size + 1 + 1 = w.heap.size + 2 from rfl]
  obtain ⟨b3, h3⟩ : ∃ b, b = w.heap.size + 3 := ⟨_, rfl⟩
  obtain ⟨b2, h2⟩ : ∃ b, b = w.heap.size + 2 := ⟨_, rfl⟩
  obtain ⟨b1, hb1⟩ : ∃ b, b = w.heap.size + 1 := ⟨_, rfl⟩
  obtain ⟨b0, h0⟩ : ∃ b, b = w.heap.size := ⟨_, rfl⟩
  have HBW := Lib.hid (show w.heap.size ≤ b0 ∧ w.heap.size ≤ b2 ∧ w.heap.size ≤ b3 by omega)
  have AP0 := Lib.hid (show Ap q b0 from h.ap (by omega)); have AP2 := Lib.hid (show Ap q b2 from h.ap (by omega)); have AP3 := Lib.hid (show Ap q b3 from h.ap (by omega))
  rw [← h3] at K3 ⊢
  rw [← h2] at K2 ⊢
  rw [← hb1] at K1 ⊢
  rw [← h0] at K0 ⊢
  have n01 : b0 ≠ b1 := by omega
  have n02 : b0 ≠ b2 := by omega
  have n03 : b0 ≠ b3 := by omega
  have n20 : b2 ≠ b0 := by omega
  have n30 : b3 ≠ b0 := by omega
  have n10 : b1 ≠ b0 := by omega
  have n12 : b1 ≠ b2 := by omega
  have n13 : b1 ≠ b3 := by omega
  have n23 : b2 ≠ b3 := by omega
  have n32 : b3 ≠ b2 := by omega
  clear hX h3 h2 hb1 h0 h
  refine (refNobody_any _).mono ?_
  rintro e wa ⟨rfl, hb⟩
  have AXa := Lib.hid (AX.out.trans (Below.mono hb AX.out.size)); have K0a := Lib.hid (K0.out.below hb); have K1a := Lib.hid (K1.out.below hb); have K2a := Lib.hid (K2.out.below hb); have K3a := Lib.hid (K3.out.below hb); have HXa := Lib.hid (HX0.out.below hb)
  clear hb AX K0 K1 K2 K3 HX0
  have hb := below_alloc wa (.cells #[.int .i64 0, .int .i64 0, .int .i64 (-1), .int .i64 0, .int .i64 0, .int .i64 0] 50)
  have A_0 := Lib.hid (AXa.out.trans (Below.mono hb AXa.out.size)); have K0_0 := Lib.hid (K0a.out.below hb); have K1_0 := Lib.hid (K1a.out.below hb); have K2_0 := Lib.hid (K2a.out.below hb); have K3_0 := Lib.hid (K3a.out.below hb); have H_0 := Lib.hid (HXa.out.below hb)
  have K7_0 := Lib.hid (Bx.new wa #[.int .i64 0, .int .i64 0, .int .i64 (-1), .int .i64 0, .int .i64 0, .int .i64 0] 50)
  have m0 := K0a.out.lt; have m2 := K2a.out.lt; have m3 := K3a.out.lt
  have m1 : b1 < wa.heap.size := (Array.getElem?_eq_some_iff.1 K1a.out).1
  clear hb
  go_upto_region 2 with (fail)
  obtain ⟨W0, hW0⟩ : ∃ x, x = wa.alloc (.cells #[.int .i64 0, .int .i64 0, .int .i64 (-1), .int .i64 0, .int .i64 0, .int .i64 0] 50) := ⟨_, rfl⟩
  obtain ⟨b7, h7⟩ : ∃ b, b = wa.heap.size := ⟨_, rfl⟩
  have HB7 := Lib.hid (show w.heap.size ≤ b7 by rw [h7]; exact AXa.out.size)
  have AP7 := Lib.hid (show Ap q b7 by rw [h7]; exact HXa.out.ap (Nat.le_refl _))
  rw [← hW0] at A_0 K0_0 K1_0 K2_0 K3_0 H_0 K7_0 ⊢
  rw [← h7] at K7_0 m0 m1 m2 m3 ⊢
  have n70 : b7 ≠ b0 := by omega
  have n71 : b7 ≠ b1 := by omega
  have n72 : b7 ≠ b2 := by omega
  have n73 : b7 ≠ b3 := by omega
  have n07 : b0 ≠ b7 := by omega
  have n17 : b1 ≠ b7 := by omega
  have n27 : b2 ≠ b7 := by omega
  have n37 : b3 ≠ b7 := by omega
  clear hW0 h7 m0 m1 m2 m3 AXa K0a K1a K2a K3a HXa
  obtain ⟨t0, t1, t2, t3, t4, t5, t6, t7, t8, t9⟩ := K0_0.out.cells10
  obtain ⟨y0, y1, y2⟩ := K1_0.out.cells
  go_wp2_with fail
  refine (HF.out _ H_0.out).mono ?_
  rintro e wf ⟨⟨i, rfl, hi⟩, hb⟩
  clear t0 t1 t2 t3 t4 t5 t6 t7 t8 t9 y0 y1 y2 hx
  have A_1 := Lib.hid (A_0.out.trans (Below.mono hb A_0.out.size)); have K0_1 := Lib.hid (Bx.below K0_0.out hb); have K1_1 := Lib.hid (show Box3 wf b1 x from (Bx.below (show Bx W0 b1 _ 48 from K1_0.out) hb)); have K2_1 := Lib.hid (Bx.below K2_0.out hb); have K3_1 := Lib.hid (Bx.below K3_0.out hb); have H_1 := Lib.hid (H_0.out.below hb); have K7_1 := Lib.hid (Bx.below K7_0.out hb)
  obtain ⟨W1, hW⟩ : ∃ x, x = wf := ⟨_, rfl⟩
  rw [← hW] at A_1 K7_1 K0_1 K1_1 K2_1 K3_1 H_1 hb ⊢
  clear hW hb A_0 K7_0 K0_0 K1_0 K2_0 K3_0 H_0 HF
  obtain ⟨j, hj, rfl, hjy⟩ : ∃ j : Nat, j < q.sn ∧ i = (j : Int) ∧ sends[j]? = some y := by
    rcases hi with ⟨rfl, hz⟩ | ⟨j, z, rfl, hj, hjz, hz⟩
    · rw [hf] at hz; cases hz
    · rw [hf] at hz; cases hz; exact ⟨j, hj, rfl, hjz⟩
  clear hi hf
  have hj00 : (0 : Int) ≤ (j : Int) := by omega
  obtain ⟨t0, t1, t2, t3, t4, t5, t6, t7, t8, t9⟩ := Bx.cells10 K0_1.out
  go_upto_region 6 with (fail)
  clear t0 t1 t2 t3 t4 t5 t6 t7 t8 t9
  have CZ := Lib.hid (Cha.zero W1)
  have PZ2 := Lib.hid (show Ap zeroA b2 from ⟨(fun y h => by cases h), (fun y h => by cases h), (fun y h => by cases h)⟩)
  have PZ3 := Lib.hid (show Ap zeroA b3 from ⟨(fun y h => by cases h), (fun y h => by cases h), (fun y h => by cases h)⟩)
  simp only [zeroC, zeroA] at CZ PZ2 PZ3
  obtain ⟨t0, t1, t2, t3, t4, t5, t6, t7, t8, t9⟩ := Bx.cells10 K0_1.out
  obtain ⟨u0, u1, u2, u3, u4, u5, u6, u7, u8, u9⟩ := Bx.cells10 K2_1.out
  obtain ⟨v0, v1, v2, v3, v4, v5⟩ := Bx.cells6 K3_1.out
  obtain ⟨z0, z1, z2, z3, z4, z5⟩ := Bx.cells6 K7_1.out
  have l2 := Bx.lt K2_1.out; have l3 := Bx.lt K3_1.out; have f0 := Bx.froz K2_1.out 0; have f1 := Bx.froz K2_1.out 1; have f2 := Bx.froz K2_1.out 2; have f3 := Bx.froz K2_1.out 3; have f4 := Bx.froz K2_1.out 4; have f5 := Bx.froz K2_1.out 5; have f6 := Bx.froz K2_1.out 6; have f7 := Bx.froz K2_1.out 7; have f8 := Bx.froz K2_1.out 8; have f9 := Bx.froz K2_1.out 9; have g0 := Bx.froz K3_1.out 0; have g1 := Bx.froz K3_1.out 1; have g2 := Bx.froz K3_1.out 2; have g3 := Bx.froz K3_1.out 3; have g4 := Bx.froz K3_1.out 4; have g5 := Bx.froz K3_1.out 5
  go_wp2_with fail
  have EE := Lib.hid (endQ A_1.out HBW.out.2.1 HBW.out.2.2 K2_1.out K3_1.out n23 (⟨0, false, 0, 0, [], 0, 0, 0, [], []⟩) (⟨none, 0, 0, none, 0, 0, none, 0, 0⟩) (⟨0, 0, ⟨0, 0, 0⟩, 0⟩) CZ.out PZ2.out PZ3.out)
  simp only [stCO] at EE
  exact bodyPost_ret (v := .tuple #[chV (⟨0, false, 0, 0, [], 0, 0, 0, [], []⟩) (⟨none, 0, 0, none, 0, 0, none, 0, 0⟩), outV (⟨0, 0, ⟨0, 0, 0⟩, 0⟩), .int .i64 5]) (by rw [res_cc1 Try.results26 _ (by rfl) (EE.out.1.load Try.underlying27 infC) (by rfl) (EE.out.2.1.load Try.underlying50 infO)]; rfl) rfl ⟨⟨none, 0, 0, none, 0, 0, none, 0, 0⟩, rfl, EE.out.2.2.1, EE.out.2.2.2⟩
set_option maxRecDepth 100000 in
set_option maxHeartbeats 4000000 in
theorem refRecv_closed (cap_ rc rf : Int) (zs : List Int) (rk sent got : Int) (sends recvs : List Wt) (q : CAt) (x : Wt) (w : World) (h : Cha w ⟨cap_, true, rc, rf, zs, rk, sent, got, sends, recvs⟩ q) (hx : WtOk x) (hcap : 0 ≤ cap_) (hf : firstW sends x.g = none) (hk : ¬ 0 < rk) :
    Calls Try.prog 26 #[chV ⟨cap_, true, rc, rf, zs, rk, sent, got, sends, recvs⟩ q, wV x] w (GotQ w ⟨cap_, true, rc, rf, zs, rk, sent, got, sends, recvs⟩ (aloneO 2) 0) := by
  have hcb : (cap_ == -1) = false := by rw [beq_eq_false_iff_ne]; omega
  have HF := Lib.hid (fun W (H : Cha W ⟨cap_, true, rc, rf, zs, rk, sent, got, sends, recvs⟩ q) => refFirst_any q.sa q.sn q.sc sends x.g W H.sends)
  have HXO := Lib.hid hx
  have AX := Lib.hid ((((below_alloc w (.cells (chC ⟨cap_, true, rc, rf, zs, rk, sent, got, sends, recvs⟩ q) 27)).alloc (by simp) (.cells #[.int .i64 x.g, .int .i64 x.c, .int .i64 x.s] 48)).alloc (by simp; omega) (.cells zero10 27)).alloc (by simp; omega) (.cells zero6 50))
  have K0 := Lib.hid ((((Bx.new w (chC ⟨cap_, true, rc, rf, zs, rk, sent, got, sends, recvs⟩ q) 27).below (below_alloc _ (.cells #[.int .i64 x.g, .int .i64 x.c, .int .i64 x.s] 48))).below (below_alloc _ (.cells zero10 27))).below (below_alloc _ (.cells zero6 50)))
  have K1 := Lib.hid (((box3_two w (.cells (chC ⟨cap_, true, rc, rf, zs, rk, sent, got, sends, recvs⟩ q) 27) x).below (below_alloc _ (.cells zero10 27))).below (below_alloc _ (.cells zero6 50)))
  have K2 := Lib.hid ((Bx.new3 w (.cells (chC ⟨cap_, true, rc, rf, zs, rk, sent, got, sends, recvs⟩ q) 27) (.cells #[.int .i64 x.g, .int .i64 x.c, .int .i64 x.s] 48) zero10 27).below (below_alloc _ (.cells zero6 50)))
  have K3 := Lib.hid (Bx.new4 w (.cells (chC ⟨cap_, true, rc, rf, zs, rk, sent, got, sends, recvs⟩ q) 27) (.cells #[.int .i64 x.g, .int .i64 x.c, .int .i64 x.s] 48) (.cells zero10 27) zero6 50)
  have HX0 := Lib.hid (h.below AX.out)
  go_enter Try.func26, Try.ntmps26
  go_wp2_with fail
  obtain ⟨X, hX⟩ : ∃ X, X = (((w.alloc (.cells (chC ⟨cap_, true, rc, rf, zs, rk, sent, got, sends, recvs⟩ q) 27)).alloc (.cells #[.int .i64 x.g, .int .i64 x.c, .int .i64 x.s] 48)).alloc (.cells zero10 27)).alloc (.cells zero6 50) := ⟨_, rfl⟩
  rw [← hX] at AX K0 K1 K2 K3 HX0 ⊢
  try rw [show w.heap.size + 1 + 1 + 1 = w.heap.size + 3 from rfl]
  try rw [show w.heap.size + 1 + 1 = w.heap.size + 2 from rfl]
  obtain ⟨b3, h3⟩ : ∃ b, b = w.heap.size + 3 := ⟨_, rfl⟩
  obtain ⟨b2, h2⟩ : ∃ b, b = w.heap.size + 2 := ⟨_, rfl⟩
  obtain ⟨b1, hb1⟩ : ∃ b, b = w.heap.size + 1 := ⟨_, rfl⟩
  obtain ⟨b0, h0⟩ : ∃ b, b = w.heap.size := ⟨_, rfl⟩
  have HBW := Lib.hid (show w.heap.size ≤ b0 ∧ w.heap.size ≤ b2 ∧ w.heap.size ≤ b3 by omega)
  have AP0 := Lib.hid (show Ap q b0 from h.ap (by omega)); have AP2 := Lib.hid (show Ap q b2 from h.ap (by omega)); have AP3 := Lib.hid (show Ap q b3 from h.ap (by omega))
  rw [← h3] at K3 ⊢
  rw [← h2] at K2 ⊢
  rw [← hb1] at K1 ⊢
  rw [← h0] at K0 ⊢
  have n01 : b0 ≠ b1 := by omega
  have n02 : b0 ≠ b2 := by omega
  have n03 : b0 ≠ b3 := by omega
  have n20 : b2 ≠ b0 := by omega
  have n30 : b3 ≠ b0 := by omega
  have n10 : b1 ≠ b0 := by omega
  have n12 : b1 ≠ b2 := by omega
  have n13 : b1 ≠ b3 := by omega
  have n23 : b2 ≠ b3 := by omega
  have n32 : b3 ≠ b2 := by omega
  clear hX h3 h2 hb1 h0 h
  refine (refNobody_any _).mono ?_
  rintro e wa ⟨rfl, hb⟩
  have AXa := Lib.hid (AX.out.trans (Below.mono hb AX.out.size)); have K0a := Lib.hid (K0.out.below hb); have K1a := Lib.hid (K1.out.below hb); have K2a := Lib.hid (K2.out.below hb); have K3a := Lib.hid (K3.out.below hb); have HXa := Lib.hid (HX0.out.below hb)
  clear hb AX K0 K1 K2 K3 HX0
  have hb := below_alloc wa (.cells #[.int .i64 0, .int .i64 0, .int .i64 (-1), .int .i64 0, .int .i64 0, .int .i64 0] 50)
  have A_0 := Lib.hid (AXa.out.trans (Below.mono hb AXa.out.size)); have K0_0 := Lib.hid (K0a.out.below hb); have K1_0 := Lib.hid (K1a.out.below hb); have K2_0 := Lib.hid (K2a.out.below hb); have K3_0 := Lib.hid (K3a.out.below hb); have H_0 := Lib.hid (HXa.out.below hb)
  have K7_0 := Lib.hid (Bx.new wa #[.int .i64 0, .int .i64 0, .int .i64 (-1), .int .i64 0, .int .i64 0, .int .i64 0] 50)
  have m0 := K0a.out.lt; have m2 := K2a.out.lt; have m3 := K3a.out.lt
  have m1 : b1 < wa.heap.size := (Array.getElem?_eq_some_iff.1 K1a.out).1
  clear hb
  go_upto_region 2 with (fail)
  obtain ⟨W0, hW0⟩ : ∃ x, x = wa.alloc (.cells #[.int .i64 0, .int .i64 0, .int .i64 (-1), .int .i64 0, .int .i64 0, .int .i64 0] 50) := ⟨_, rfl⟩
  obtain ⟨b7, h7⟩ : ∃ b, b = wa.heap.size := ⟨_, rfl⟩
  have HB7 := Lib.hid (show w.heap.size ≤ b7 by rw [h7]; exact AXa.out.size)
  have AP7 := Lib.hid (show Ap q b7 by rw [h7]; exact HXa.out.ap (Nat.le_refl _))
  rw [← hW0] at A_0 K0_0 K1_0 K2_0 K3_0 H_0 K7_0 ⊢
  rw [← h7] at K7_0 m0 m1 m2 m3 ⊢
  have n70 : b7 ≠ b0 := by omega
  have n71 : b7 ≠ b1 := by omega
  have n72 : b7 ≠ b2 := by omega
  have n73 : b7 ≠ b3 := by omega
  have n07 : b0 ≠ b7 := by omega
  have n17 : b1 ≠ b7 := by omega
  have n27 : b2 ≠ b7 := by omega
  have n37 : b3 ≠ b7 := by omega
  clear hW0 h7 m0 m1 m2 m3 AXa K0a K1a K2a K3a HXa
  obtain ⟨t0, t1, t2, t3, t4, t5, t6, t7, t8, t9⟩ := K0_0.out.cells10
  obtain ⟨y0, y1, y2⟩ := K1_0.out.cells
  go_wp2_with fail
  refine (HF.out _ H_0.out).mono ?_
  rintro e wf ⟨⟨i, rfl, hi⟩, hb⟩
  clear t0 t1 t2 t3 t4 t5 t6 t7 t8 t9 y0 y1 y2 hx
  have A_1 := Lib.hid (A_0.out.trans (Below.mono hb A_0.out.size)); have K0_1 := Lib.hid (Bx.below K0_0.out hb); have K1_1 := Lib.hid (show Box3 wf b1 x from (Bx.below (show Bx W0 b1 _ 48 from K1_0.out) hb)); have K2_1 := Lib.hid (Bx.below K2_0.out hb); have K3_1 := Lib.hid (Bx.below K3_0.out hb); have H_1 := Lib.hid (H_0.out.below hb); have K7_1 := Lib.hid (Bx.below K7_0.out hb)
  obtain ⟨W1, hW⟩ : ∃ x, x = wf := ⟨_, rfl⟩
  rw [← hW] at A_1 K7_1 K0_1 K1_1 K2_1 K3_1 H_1 hb ⊢
  clear hW hb A_0 K7_0 K0_0 K1_0 K2_0 K3_0 H_0 HF
  have hi' : i = -1 := by
    rcases hi with ⟨rfl, _⟩ | ⟨_, z, _, _, _, hz⟩
    · rfl
    · rw [hf] at hz; cases hz
  subst hi'
  clear hi hf
  obtain ⟨t0, t1, t2, t3, t4, t5, t6, t7, t8, t9⟩ := Bx.cells10 K0_1.out
  go_upto_region 16 with (fail)
  clear t0 t1 t2 t3 t4 t5 t6 t7 t8 t9
  obtain ⟨t0, t1, t2, t3, t4, t5, t6, t7, t8, t9⟩ := Bx.cells10 K0_1.out
  have l7 := Bx.lt K7_1.out; have f7 := Bx.froz K7_1.out 0; have z7 := Bx.cell K7_1.out 0 rfl
  go_upto_region 17 with (fail)
  clear t0 t1 t2 t3 t4 t5 t6 t7 t8 t9 l7 f7 z7
  have G := Lib.hid (grow_setCell W1 b7 0 (.int .i64 2))
  have A_2 := Lib.hid (Below.setCell (p := ⟨b7, 0, none⟩) A_1.out HB7.out (.int .i64 2))
  have K7_2 := Lib.hid (Bx.set K7_1.out 0 (.int .i64 2))
  have K0_2 := Lib.hid (Bx.other K0_1.out G.out (fun e => n07 (by cases e; rfl)))
  have K1_2 := Lib.hid (show Box3 (W1.setCell ⟨b7, 0, none⟩ (.int .i64 2)) b1 x from (G.out.block b1 (Array.getElem?_eq_some_iff.1 K1_1.out).1 (fun e => n17 (by cases e; rfl))).trans K1_1.out)
  have K2_2 := Lib.hid (Bx.other K2_1.out G.out (fun e => n27 (by cases e; rfl)))
  have K3_2 := Lib.hid (Bx.other K3_1.out G.out (fun e => n37 (by cases e; rfl)))
  have H_2 := Lib.hid (H_1.out.other AP7.out G.out)
  obtain ⟨W2, hW⟩ : ∃ x, x = W1.setCell ⟨b7, 0, none⟩ (.int .i64 2) := ⟨_, rfl⟩
  rw [← hW] at A_2 K7_2 K0_2 K1_2 K2_2 K3_2 H_2 ⊢
  clear hW G A_1 K7_1 K0_1 K1_1 K2_1 K3_1 H_1
  obtain ⟨t0, t1, t2, t3, t4, t5, t6, t7, t8, t9⟩ := Bx.cells10 K0_2.out
  obtain ⟨u0, u1, u2, u3, u4, u5, u6, u7, u8, u9⟩ := Bx.cells10 K2_2.out
  obtain ⟨v0, v1, v2, v3, v4, v5⟩ := Bx.cells6 K3_2.out
  obtain ⟨z0, z1, z2, z3, z4, z5⟩ := Bx.cells6 K7_2.out
  have l2 := Bx.lt K2_2.out; have l3 := Bx.lt K3_2.out; have f0 := Bx.froz K2_2.out 0; have f1 := Bx.froz K2_2.out 1; have f2 := Bx.froz K2_2.out 2; have f3 := Bx.froz K2_2.out 3; have f4 := Bx.froz K2_2.out 4; have f5 := Bx.froz K2_2.out 5; have f6 := Bx.froz K2_2.out 6; have f7 := Bx.froz K2_2.out 7; have f8 := Bx.froz K2_2.out 8; have f9 := Bx.froz K2_2.out 9; have g0 := Bx.froz K3_2.out 0; have g1 := Bx.froz K3_2.out 1; have g2 := Bx.froz K3_2.out 2; have g3 := Bx.froz K3_2.out 3; have g4 := Bx.froz K3_2.out 4; have g5 := Bx.froz K3_2.out 5
  go_wp2_with fail
  go_region
  go_wp2_with fail
  have EE := Lib.hid (endQd (endQ A_2.out HBW.out.2.1 HBW.out.2.2 K2_2.out K3_2.out n23 (⟨cap_, true, rc, rf, zs, rk, sent, got, sends, recvs⟩) (q) (⟨2, 0, ⟨-1, 0, 0⟩, 0⟩) H_2.out AP2.out AP3.out))
  simp only [stCO] at EE
  exact bodyPost_ret (v := .tuple #[chV (⟨cap_, true, rc, rf, zs, rk, sent, got, sends, recvs⟩) (q), outV (⟨2, 0, ⟨-1, 0, 0⟩, 0⟩), .int .i64 0]) (by rw [res_cc1 Try.results26 _ (by rfl) (EE.out.1.load Try.underlying27 infC) (by rfl) (EE.out.2.1.load Try.underlying50 infO)]; rfl) rfl ⟨q, rfl, EE.out.2.2.1, EE.out.2.2.2⟩
end Go.Proofs.Ytfolhgpbplfilaa
namespace Go.Proofs.Ytfolhgpbplfilaa
open Go.RowKit
set_option linter.unusedSimpArgs false
set_option linter.unusedVariables false
set_option maxRecDepth 100000 in
set_option maxHeartbeats 4000000 in
theorem refRecv_none_take (cap_ : Int) (cl : Bool) (rc rf : Int) (zs : List Int) (rk sent got : Int) (sends recvs : List Wt) (q : CAt) (x : Wt) (w : World) (h : Cha w ⟨cap_, cl, rc, rf, zs, rk, sent, got, sends, recvs⟩ q) (hx : WtOk x) (m : Nat) (hm : cap_ = (m : Int)) (hcap3 : cap_ ≤ 3) (hs0 : 0 ≤ sent) (hs1 : sent ≤ 1048576) (hg0 : 0 ≤ got) (hgs : got ≤ sent) (hf : firstW sends x.g = none) (hk : 0 < rk) :
    Calls Try.prog 26 #[chV ⟨cap_, cl, rc, rf, zs, rk, sent, got, sends, recvs⟩ q, wV x] w (GotQ w (mvC ⟨cap_, cl, rc, rf, zs, rk, sent, got, sends, recvs⟩ m 0 1) ⟨1, got, ⟨-1, 0, 0⟩, 0⟩ 0) := by
  have hmx := Lib.hid (show (m : Int) = max cap_ 0 by omega)
  have hmb3 : m ≤ 3 := by omega
  have hcap : 0 ≤ cap_ := by omega
  have hcapm : -1 ≤ cap_ := by omega
  have hg1 : got ≤ 1048576 := by omega
  clear hm
  have hcb : (cap_ == -1) = false := by rw [beq_eq_false_iff_ne]; omega
  have HF := Lib.hid (fun W (H : Cha W ⟨cap_, cl, rc, rf, zs, rk, sent, got, sends, recvs⟩ q) => refFirst_any q.sa q.sn q.sc sends x.g W H.sends)
  have HXO := Lib.hid hx
  have AX := Lib.hid ((((below_alloc w (.cells (chC ⟨cap_, cl, rc, rf, zs, rk, sent, got, sends, recvs⟩ q) 27)).alloc (by simp) (.cells #[.int .i64 x.g, .int .i64 x.c, .int .i64 x.s] 48)).alloc (by simp; omega) (.cells zero10 27)).alloc (by simp; omega) (.cells zero6 50))
  have K0 := Lib.hid ((((Bx.new w (chC ⟨cap_, cl, rc, rf, zs, rk, sent, got, sends, recvs⟩ q) 27).below (below_alloc _ (.cells #[.int .i64 x.g, .int .i64 x.c, .int .i64 x.s] 48))).below (below_alloc _ (.cells zero10 27))).below (below_alloc _ (.cells zero6 50)))
  have K1 := Lib.hid (((box3_two w (.cells (chC ⟨cap_, cl, rc, rf, zs, rk, sent, got, sends, recvs⟩ q) 27) x).below (below_alloc _ (.cells zero10 27))).below (below_alloc _ (.cells zero6 50)))
  have K2 := Lib.hid ((Bx.new3 w (.cells (chC ⟨cap_, cl, rc, rf, zs, rk, sent, got, sends, recvs⟩ q) 27) (.cells #[.int .i64 x.g, .int .i64 x.c, .int .i64 x.s] 48) zero10 27).below (below_alloc _ (.cells zero6 50)))
  have K3 := Lib.hid (Bx.new4 w (.cells (chC ⟨cap_, cl, rc, rf, zs, rk, sent, got, sends, recvs⟩ q) 27) (.cells #[.int .i64 x.g, .int .i64 x.c, .int .i64 x.s] 48) (.cells zero10 27) zero6 50)
  have HX0 := Lib.hid (h.below AX.out)
  go_enter Try.func26, Try.ntmps26
  go_wp2_with fail
  obtain ⟨X, hX⟩ : ∃ X, X = (((w.alloc (.cells (chC ⟨cap_, cl, rc, rf, zs, rk, sent, got, sends, recvs⟩ q) 27)).alloc (.cells #[.int .i64 x.g, .int .i64 x.c, .int .i64 x.s] 48)).alloc (.cells zero10 27)).alloc (.cells zero6 50) := ⟨_, rfl⟩
  rw [← hX] at AX K0 K1 K2 K3 HX0 ⊢
  try rw [show w.heap.size + 1 + 1 + 1 = w.heap.size + 3 from rfl]
  try rw [show w.heap.size + 1 + 1 = w.heap.size + 2 from rfl]
  obtain ⟨b3, h3⟩ : ∃ b, b = w.heap.size + 3 := ⟨_, rfl⟩
  obtain ⟨b2, h2⟩ : ∃ b, b = w.heap.size + 2 := ⟨_, rfl⟩
  obtain ⟨b1, hb1⟩ : ∃ b, b = w.heap.size + 1 := ⟨_, rfl⟩
  obtain ⟨b0, h0⟩ : ∃ b, b = w.heap.size := ⟨_, rfl⟩
  have HBW := Lib.hid (show w.heap.size ≤ b0 ∧ w.heap.size ≤ b2 ∧ w.heap.size ≤ b3 by omega)
  have AP0 := Lib.hid (show Ap q b0 from h.ap (by omega)); have AP2 := Lib.hid (show Ap q b2 from h.ap (by omega)); have AP3 := Lib.hid (show Ap q b3 from h.ap (by omega))
  rw [← h3] at K3 ⊢
  rw [← h2] at K2 ⊢
  rw [← hb1] at K1 ⊢
  rw [← h0] at K0 ⊢
  have n01 : b0 ≠ b1 := by omega
  have n02 : b0 ≠ b2 := by omega
  have n03 : b0 ≠ b3 := by omega
  have n20 : b2 ≠ b0 := by omega
  have n30 : b3 ≠ b0 := by omega
  have n10 : b1 ≠ b0 := by omega
  have n12 : b1 ≠ b2 := by omega
  have n13 : b1 ≠ b3 := by omega
  have n23 : b2 ≠ b3 := by omega
  have n32 : b3 ≠ b2 := by omega
  clear hX h3 h2 hb1 h0 h
  refine (refNobody_any _).mono ?_
  rintro e wa ⟨rfl, hb⟩
  have AXa := Lib.hid (AX.out.trans (Below.mono hb AX.out.size)); have K0a := Lib.hid (K0.out.below hb); have K1a := Lib.hid (K1.out.below hb); have K2a := Lib.hid (K2.out.below hb); have K3a := Lib.hid (K3.out.below hb); have HXa := Lib.hid (HX0.out.below hb)
  clear hb AX K0 K1 K2 K3 HX0
  have hb := below_alloc wa (.cells #[.int .i64 0, .int .i64 0, .int .i64 (-1), .int .i64 0, .int .i64 0, .int .i64 0] 50)
  have A_0 := Lib.hid (AXa.out.trans (Below.mono hb AXa.out.size)); have K0_0 := Lib.hid (K0a.out.below hb); have K1_0 := Lib.hid (K1a.out.below hb); have K2_0 := Lib.hid (K2a.out.below hb); have K3_0 := Lib.hid (K3a.out.below hb); have H_0 := Lib.hid (HXa.out.below hb)
  have K7_0 := Lib.hid (Bx.new wa #[.int .i64 0, .int .i64 0, .int .i64 (-1), .int .i64 0, .int .i64 0, .int .i64 0] 50)
  have m0 := K0a.out.lt; have m2 := K2a.out.lt; have m3 := K3a.out.lt
  have m1 : b1 < wa.heap.size := (Array.getElem?_eq_some_iff.1 K1a.out).1
  clear hb
  go_upto_region 2 with (fail)
  obtain ⟨W0, hW0⟩ : ∃ x, x = wa.alloc (.cells #[.int .i64 0, .int .i64 0, .int .i64 (-1), .int .i64 0, .int .i64 0, .int .i64 0] 50) := ⟨_, rfl⟩
  obtain ⟨b7, h7⟩ : ∃ b, b = wa.heap.size := ⟨_, rfl⟩
  have HB7 := Lib.hid (show w.heap.size ≤ b7 by rw [h7]; exact AXa.out.size)
  have AP7 := Lib.hid (show Ap q b7 by rw [h7]; exact HXa.out.ap (Nat.le_refl _))
  rw [← hW0] at A_0 K0_0 K1_0 K2_0 K3_0 H_0 K7_0 ⊢
  rw [← h7] at K7_0 m0 m1 m2 m3 ⊢
  have n70 : b7 ≠ b0 := by omega
  have n71 : b7 ≠ b1 := by omega
  have n72 : b7 ≠ b2 := by omega
  have n73 : b7 ≠ b3 := by omega
  have n07 : b0 ≠ b7 := by omega
  have n17 : b1 ≠ b7 := by omega
  have n27 : b2 ≠ b7 := by omega
  have n37 : b3 ≠ b7 := by omega
  clear hW0 h7 m0 m1 m2 m3 AXa K0a K1a K2a K3a HXa
  obtain ⟨t0, t1, t2, t3, t4, t5, t6, t7, t8, t9⟩ := K0_0.out.cells10
  obtain ⟨y0, y1, y2⟩ := K1_0.out.cells
  go_wp2_with fail
  refine (HF.out _ H_0.out).mono ?_
  rintro e wf ⟨⟨i, rfl, hi⟩, hb⟩
  clear t0 t1 t2 t3 t4 t5 t6 t7 t8 t9 y0 y1 y2 hx
  have A_1 := Lib.hid (A_0.out.trans (Below.mono hb A_0.out.size)); have K0_1 := Lib.hid (Bx.below K0_0.out hb); have K1_1 := Lib.hid (show Box3 wf b1 x from (Bx.below (show Bx W0 b1 _ 48 from K1_0.out) hb)); have K2_1 := Lib.hid (Bx.below K2_0.out hb); have K3_1 := Lib.hid (Bx.below K3_0.out hb); have H_1 := Lib.hid (H_0.out.below hb); have K7_1 := Lib.hid (Bx.below K7_0.out hb)
  obtain ⟨W1, hW⟩ : ∃ x, x = wf := ⟨_, rfl⟩
  rw [← hW] at A_1 K7_1 K0_1 K1_1 K2_1 K3_1 H_1 hb ⊢
  clear hW hb A_0 K7_0 K0_0 K1_0 K2_0 K3_0 H_0 HF
  have hi' : i = -1 := by
    rcases hi with ⟨rfl, _⟩ | ⟨_, z, _, _, _, hz⟩
    · rfl
    · rw [hf] at hz; cases hz
  subst hi'
  clear hi hf
  obtain ⟨t0, t1, t2, t3, t4, t5, t6, t7, t8, t9⟩ := Bx.cells10 K0_1.out
  go_upto_region 8 with (fail)
  clear t0 t1 t2 t3 t4 t5 t6 t7 t8 t9
  obtain ⟨t0, t1, t2, t3, t4, t5, t6, t7, t8, t9⟩ := Bx.cells10 K0_1.out
  have l7 := Bx.lt K7_1.out; have f7 := Bx.froz K7_1.out 0; have z7 := Bx.cell K7_1.out 0 rfl
  go_upto_region 9 with (fail)
  clear t0 t1 t2 t3 t4 t5 t6 t7 t8 t9 l7 f7 z7
  have G := Lib.hid (grow_setCell W1 b7 0 (.int .i64 1))
  have A_2 := Lib.hid (Below.setCell (p := ⟨b7, 0, none⟩) A_1.out HB7.out (.int .i64 1))
  have K7_2 := Lib.hid (Bx.set K7_1.out 0 (.int .i64 1))
  have K0_2 := Lib.hid (Bx.other K0_1.out G.out (fun e => n07 (by cases e; rfl)))
  have K1_2 := Lib.hid (show Box3 (W1.setCell ⟨b7, 0, none⟩ (.int .i64 1)) b1 x from (G.out.block b1 (Array.getElem?_eq_some_iff.1 K1_1.out).1 (fun e => n17 (by cases e; rfl))).trans K1_1.out)
  have K2_2 := Lib.hid (Bx.other K2_1.out G.out (fun e => n27 (by cases e; rfl)))
  have K3_2 := Lib.hid (Bx.other K3_1.out G.out (fun e => n37 (by cases e; rfl)))
  have H_2 := Lib.hid (H_1.out.other AP7.out G.out)
  obtain ⟨W2, hW⟩ : ∃ x, x = W1.setCell ⟨b7, 0, none⟩ (.int .i64 1) := ⟨_, rfl⟩
  rw [← hW] at A_2 K7_2 K0_2 K1_2 K2_2 K3_2 H_2 ⊢
  clear hW G A_1 K7_1 K0_1 K1_1 K2_1 K3_1 H_1
  obtain ⟨t0, t1, t2, t3, t4, t5, t6, t7, t8, t9⟩ := Bx.cells10 K0_2.out
  have l7 := Bx.lt K7_2.out; have f7 := Bx.froz K7_2.out 1; have z7 := Bx.cell K7_2.out 1 rfl
  go_upto_region 10 with (fail)
  clear t0 t1 t2 t3 t4 t5 t6 t7 t8 t9 l7 f7 z7
  have G := Lib.hid (grow_setCell W2 b7 1 (.int .i64 got))
  have A_3 := Lib.hid (Below.setCell (p := ⟨b7, 1, none⟩) A_2.out HB7.out (.int .i64 got))
  have K7_3 := Lib.hid (Bx.set K7_2.out 1 (.int .i64 got))
  have K0_3 := Lib.hid (Bx.other K0_2.out G.out (fun e => n07 (by cases e; rfl)))
  have K1_3 := Lib.hid (show Box3 (W2.setCell ⟨b7, 1, none⟩ (.int .i64 got)) b1 x from (G.out.block b1 (Array.getElem?_eq_some_iff.1 K1_2.out).1 (fun e => n17 (by cases e; rfl))).trans K1_2.out)
  have K2_3 := Lib.hid (Bx.other K2_2.out G.out (fun e => n27 (by cases e; rfl)))
  have K3_3 := Lib.hid (Bx.other K3_2.out G.out (fun e => n37 (by cases e; rfl)))
  have H_3 := Lib.hid (H_2.out.other AP7.out G.out)
  obtain ⟨W3, hW⟩ : ∃ x, x = W2.setCell ⟨b7, 1, none⟩ (.int .i64 got) := ⟨_, rfl⟩
  rw [← hW] at A_3 K7_3 K0_3 K1_3 K2_3 K3_3 H_3 ⊢
  clear hW G A_2 K7_2 K0_2 K1_2 K2_2 K3_2 H_2
  obtain ⟨t0, t1, t2, t3, t4, t5, t6, t7, t8, t9⟩ := Bx.cells10 K0_3.out
  go_wp2_with fail
  clear t0 t1 t2 t3 t4 t5 t6 t7 t8 t9
  have HMV := Lib.hid (fun W (H : Cha W ⟨cap_, cl, rc, rf, zs, rk, sent, got, sends, recvs⟩ q) => refMove_any ⟨cap_, cl, rc, rf, zs, rk, sent, got, sends, recvs⟩ q m 0 1 W H hmb3 hmx.out hcapm hs0 hs1 hg0 hg1 (by omega) (by omega) (by omega) (by omega))
  unfold GotRK at HMV
  obtain ⟨cm, hcm⟩ : ∃ cm, cm = mvC ⟨cap_, cl, rc, rf, zs, rk, sent, got, sends, recvs⟩ m 0 1 := ⟨_, rfl⟩
  rw [← hcm] at HMV
  have HCM := Lib.hid hcm
  clear hcm
  have HSS := Lib.hid (show ∀ V, Bx V b0 (chC ⟨cap_, cl, rc, rf, zs, rk, sent, got, sends, recvs⟩ q) 27 → Bx V b7 #[.int .i64 1, .int .i64 got, .int .i64 (-1), .int .i64 0, .int .i64 0, .int .i64 0] 50 → (fun (W : World) => W.cell? ⟨b0, 0, none⟩ = some (.int .i64 cap_) ∧ W.cell? ⟨b0, 1, none⟩ = some (.bool cl) ∧ W.cell? ⟨b0, 2, none⟩ = some (.int .i64 rc) ∧ W.cell? ⟨b0, 3, none⟩ = some (.int .i64 rf) ∧ W.cell? ⟨b0, 4, none⟩ = some (.slice q.za q.zn q.zc) ∧ W.cell? ⟨b0, 5, none⟩ = some (.int .i64 rk) ∧ W.cell? ⟨b0, 6, none⟩ = some (.int .i64 sent) ∧ W.cell? ⟨b0, 7, none⟩ = some (.int .i64 got) ∧ W.cell? ⟨b0, 8, none⟩ = some (.slice q.sa q.sn q.sc) ∧ W.cell? ⟨b0, 9, none⟩ = some (.slice q.ra q.rn q.rq) ∧ W.cell? ⟨b7, 0, none⟩ = some (.int .i64 1) ∧ W.cell? ⟨b7, 1, none⟩ = some (.int .i64 got) ∧ W.cell? ⟨b7, 2, none⟩ = some (.int .i64 (-1)) ∧ W.cell? ⟨b7, 3, none⟩ = some (.int .i64 0) ∧ W.cell? ⟨b7, 4, none⟩ = some (.int .i64 0) ∧ W.cell? ⟨b7, 5, none⟩ = some (.int .i64 0)) V from fun V h0 h7 => by obtain ⟨c0, c1, c2, c3, c4, c5, c6, c7, c8, c9⟩ := Bx.cells10 h0; obtain ⟨d0, d1, d2, d3, d4, d5⟩ := Bx.cells6 h7; exact ⟨c0, c1, c2, c3, c4, c5, c6, c7, c8, c9, d0, d1, d2, d3, d4, d5⟩)
  have HBR0 := Lib.hid (show Below W3.heap.size W3 W3.drew from (Below.refl _ _).drew)
  refine wp_region_held_drew (S := (fun (W : World) => W.cell? ⟨b0, 0, none⟩ = some (.int .i64 cap_) ∧ W.cell? ⟨b0, 1, none⟩ = some (.bool cl) ∧ W.cell? ⟨b0, 2, none⟩ = some (.int .i64 rc) ∧ W.cell? ⟨b0, 3, none⟩ = some (.int .i64 rf) ∧ W.cell? ⟨b0, 4, none⟩ = some (.slice q.za q.zn q.zc) ∧ W.cell? ⟨b0, 5, none⟩ = some (.int .i64 rk) ∧ W.cell? ⟨b0, 6, none⟩ = some (.int .i64 sent) ∧ W.cell? ⟨b0, 7, none⟩ = some (.int .i64 got) ∧ W.cell? ⟨b0, 8, none⟩ = some (.slice q.sa q.sn q.sc) ∧ W.cell? ⟨b0, 9, none⟩ = some (.slice q.ra q.rn q.rq) ∧ W.cell? ⟨b7, 0, none⟩ = some (.int .i64 1) ∧ W.cell? ⟨b7, 1, none⟩ = some (.int .i64 got) ∧ W.cell? ⟨b7, 2, none⟩ = some (.int .i64 (-1)) ∧ W.cell? ⟨b7, 3, none⟩ = some (.int .i64 0) ∧ W.cell? ⟨b7, 4, none⟩ = some (.int .i64 0) ∧ W.cell? ⟨b7, 5, none⟩ = some (.int .i64 0))) (by kernel_rfl) ?_ (fun hHeld => ?_)
  · exact HSS.out _ (Bx.below K0_3.out HBR0.out) (Bx.below K7_3.out HBR0.out)
  (try simp only [Act.put, List.getElem_toArray, List.getElem_cons_zero, List.getElem_cons_succ, List.setIfInBounds_toArray, List.set_cons_zero, List.set_cons_succ])
  refine wpAnyH_take (i := 0) (v := ?_) rfl (by kernel_rfl) (by kernel_rfl) (by kernel_rfl) (fun _ _ _ h => h) (Or.inl ⟨by rfl, ?_⟩) (by assumption) ?_
  rotate_left
  · (intro w hSw; (try dsimp only at hSw); go_simp; try with_reducible rfl)
  (try simp only [Act.put, List.getElem_toArray, List.getElem_cons_zero, List.getElem_cons_succ, List.setIfInBounds_toArray, List.set_cons_zero, List.set_cons_succ])
  refine wpAnyH_take (i := 2) (v := ?_) rfl (by kernel_rfl) (by kernel_rfl) (by kernel_rfl) (fun _ _ _ h => h) (Or.inl ⟨by rfl, ?_⟩) (by assumption) ?_
  rotate_left
  · (intro w hSw; (try dsimp only at hSw); go_simp; try with_reducible rfl)
  (try simp only [Act.put, List.getElem_toArray, List.getElem_cons_zero, List.getElem_cons_succ, List.setIfInBounds_toArray, List.set_cons_zero, List.set_cons_succ])
  refine wpAnyH_ready (rs := [1]) (by kernel_rfl) (by simp) ?_
  refine AllReadyH.cons (o := _) rfl (fun K hK => ?_) AllReadyH.nil
  go_simp
  refine (HMV.out _ (H_3.out.below HBR0.out)).mono ?_
  rintro e wr1 ⟨qm, rfl, hc, hkp, hb⟩
  have HBR1 := Lib.hid (show Below W3.heap.size W3 wr1 from HBR0.out.trans (Below.mono hb HBR0.out.size))
  have CM := Lib.hid hc
  have PM2 := Lib.hid (show Ap qm b2 from hkp b2 (Nat.lt_of_lt_of_le (Bx.lt K2_3.out) HBR0.out.size) AP2.out)
  have PM3 := Lib.hid (show Ap qm b3 from hkp b3 (Nat.lt_of_lt_of_le (Bx.lt K3_3.out) HBR0.out.size) AP3.out)
  clear hc hkp
  clear hb hHeld
  refine hK.out _ _ (HSS.out _ (Bx.below K0_3.out HBR1.out) (Bx.below K7_3.out HBR1.out)) (fun hHeld => ?_)
  clear hK K
  (try simp only [Act.put, List.getElem_toArray, List.getElem_cons_zero, List.getElem_cons_succ, List.setIfInBounds_toArray, List.set_cons_zero, List.set_cons_succ])
  have A_e := Lib.hid (A_3.out.trans (Below.mono HBR1.out A_3.out.size)); have K0_e := Lib.hid (Bx.below K0_3.out HBR1.out); have K2_e := Lib.hid (Bx.below K2_3.out HBR1.out); have K3_e := Lib.hid (Bx.below K3_3.out HBR1.out); have K7_e := Lib.hid (Bx.below K7_3.out HBR1.out)
  obtain ⟨u0, u1, u2, u3, u4, u5, u6, u7, u8, u9⟩ := Bx.cells10 K2_e.out
  obtain ⟨v0, v1, v2, v3, v4, v5⟩ := Bx.cells6 K3_e.out
  have l2 := Bx.lt K2_e.out; have l3 := Bx.lt K3_e.out; have f0 := Bx.froz K2_e.out 0; have f1 := Bx.froz K2_e.out 1; have f2 := Bx.froz K2_e.out 2; have f3 := Bx.froz K2_e.out 3; have f4 := Bx.froz K2_e.out 4; have f5 := Bx.froz K2_e.out 5; have f6 := Bx.froz K2_e.out 6; have f7 := Bx.froz K2_e.out 7; have f8 := Bx.froz K2_e.out 8; have f9 := Bx.froz K2_e.out 9; have g0 := Bx.froz K3_e.out 0; have g1 := Bx.froz K3_e.out 1; have g2 := Bx.froz K3_e.out 2; have g3 := Bx.froz K3_e.out 3; have g4 := Bx.froz K3_e.out 4; have g5 := Bx.froz K3_e.out 5
  refine wpAnyH_ready (rs := [3]) (by kernel_rfl) (by simp) ?_
  refine AllReadyH.cons (o := _) rfl (fun K hK => ?_) AllReadyH.nil
  go_simp
  clear hHeld
  refine hK.out _ _ (HSS.out _ ((st10_other _ b2 _ _ _ _ _ _ _ _ _ _ b0 n02).trans K0_e.out) ((st10_other _ b2 _ _ _ _ _ _ _ _ _ _ b7 n72).trans K7_e.out)) (fun hHeld => ?_)
  clear hK K
  (try simp only [Act.put, List.getElem_toArray, List.getElem_cons_zero, List.getElem_cons_succ, List.setIfInBounds_toArray, List.set_cons_zero, List.set_cons_succ])
  refine wpAnyH_ready (rs := [4]) (by kernel_rfl) (by simp) ?_
  refine AllReadyH.cons (o := _) rfl (fun K hK => ?_) AllReadyH.nil
  go_simp
  clear hHeld
  refine hK.out _ _ (HSS.out _ ((st6_other _ b3 _ _ _ _ _ _ b0 n03).trans ((st10_other _ b2 _ _ _ _ _ _ _ _ _ _ b0 n02).trans K0_e.out)) ((st6_other _ b3 _ _ _ _ _ _ b7 n73).trans ((st10_other _ b2 _ _ _ _ _ _ _ _ _ _ b7 n72).trans K7_e.out))) (fun hHeld => ?_)
  clear hK K
  (try simp only [Act.put, List.getElem_toArray, List.getElem_cons_zero, List.getElem_cons_succ, List.setIfInBounds_toArray, List.set_cons_zero, List.set_cons_succ])
  refine wpAnyH_take (i := 5) (v := ?_) rfl (by kernel_rfl) (by kernel_rfl) (by kernel_rfl) (fun _ _ _ h => h) (Or.inl ⟨by rfl, ?_⟩) (by assumption) ?_
  rotate_left
  · (intro w hSw; (try dsimp only at hSw); go_simp; try with_reducible rfl)
  (try simp only [Act.put, List.getElem_toArray, List.getElem_cons_zero, List.getElem_cons_succ, List.setIfInBounds_toArray, List.set_cons_zero, List.set_cons_succ])
  refine wpAnyH_done (by kernel_rfl) ?_ _
  clear hHeld
  go_wp2_with fail
  have EE := Lib.hid (endQ A_e.out HBW.out.2.1 HBW.out.2.2 K2_e.out K3_e.out n23 (cm) (qm) (⟨1, got, ⟨-1, 0, 0⟩, 0⟩) CM.out PM2.out PM3.out)
  simp only [stCO] at EE
  exact bodyPost_ret (v := .tuple #[chV (cm) (qm), outV (⟨1, got, ⟨-1, 0, 0⟩, 0⟩), .int .i64 0]) (by rw [res_cc1 Try.results26 _ (by rfl) (EE.out.1.load Try.underlying27 infC) (by rfl) (EE.out.2.1.load Try.underlying50 infO)]; rfl) rfl ⟨qm, by rw [← HCM.out], by rw [← HCM.out]; exact EE.out.2.2.1, EE.out.2.2.2⟩
end Go.Proofs.Ytfolhgpbplfilaa
namespace Go.Proofs.Ytfolhgpbplfilaa
open Go.RowKit
set_option linter.unusedSimpArgs false
set_option linter.unusedVariables false
set_option maxRecDepth 100000 in
set_option maxHeartbeats 4000000 in
theorem refRecv_push_has (cap_ rc rf : Int) (zs : List Int) (rk sent got : Int) (sends recvs : List Wt) (q : CAt) (x : Wt) (w : World) (h : Cha w ⟨cap_, false, rc, rf, zs, rk, sent, got, sends, recvs⟩ q) (hx : WtOk x) (hcap : 0 ≤ cap_) (hf : firstW sends x.g = none) (hk : ¬ 0 < rk) (hh : hasW recvs x.g x.c = true) :
    Calls Try.prog 26 #[chV ⟨cap_, false, rc, rf, zs, rk, sent, got, sends, recvs⟩ q, wV x] w (GotQ w zeroC zeroO 7) := by
  have HPU := Lib.hid (fun W (H : Cha W ⟨cap_, false, rc, rf, zs, rk, sent, got, sends, recvs⟩ q) => refPush_has q.ra q.rn q.rq recvs x W H.recvs hx hh)
  unfold NoL at HPU
  clear hh
  have hcb : (cap_ == -1) = false := by rw [beq_eq_false_iff_ne]; omega
  have HF := Lib.hid (fun W (H : Cha W ⟨cap_, false, rc, rf, zs, rk, sent, got, sends, recvs⟩ q) => refFirst_any q.sa q.sn q.sc sends x.g W H.sends)
  have HXO := Lib.hid hx
  have AX := Lib.hid ((((below_alloc w (.cells (chC ⟨cap_, false, rc, rf, zs, rk, sent, got, sends, recvs⟩ q) 27)).alloc (by simp) (.cells #[.int .i64 x.g, .int .i64 x.c, .int .i64 x.s] 48)).alloc (by simp; omega) (.cells zero10 27)).alloc (by simp; omega) (.cells zero6 50))
  have K0 := Lib.hid ((((Bx.new w (chC ⟨cap_, false, rc, rf, zs, rk, sent, got, sends, recvs⟩ q) 27).below (below_alloc _ (.cells #[.int .i64 x.g, .int .i64 x.c, .int .i64 x.s] 48))).below (below_alloc _ (.cells zero10 27))).below (below_alloc _ (.cells zero6 50)))
  have K1 := Lib.hid (((box3_two w (.cells (chC ⟨cap_, false, rc, rf, zs, rk, sent, got, sends, recvs⟩ q) 27) x).below (below_alloc _ (.cells zero10 27))).below (below_alloc _ (.cells zero6 50)))
  have K2 := Lib.hid ((Bx.new3 w (.cells (chC ⟨cap_, false, rc, rf, zs, rk, sent, got, sends, recvs⟩ q) 27) (.cells #[.int .i64 x.g, .int .i64 x.c, .int .i64 x.s] 48) zero10 27).below (below_alloc _ (.cells zero6 50)))
  have K3 := Lib.hid (Bx.new4 w (.cells (chC ⟨cap_, false, rc, rf, zs, rk, sent, got, sends, recvs⟩ q) 27) (.cells #[.int .i64 x.g, .int .i64 x.c, .int .i64 x.s] 48) (.cells zero10 27) zero6 50)
  have HX0 := Lib.hid (h.below AX.out)
  go_enter Try.func26, Try.ntmps26
  go_wp2_with fail
  obtain ⟨X, hX⟩ : ∃ X, X = (((w.alloc (.cells (chC ⟨cap_, false, rc, rf, zs, rk, sent, got, sends, recvs⟩ q) 27)).alloc (.cells #[.int .i64 x.g, .int .i64 x.c, .int .i64 x.s] 48)).alloc (.cells zero10 27)).alloc (.cells zero6 50) := ⟨_, rfl⟩
  rw [← hX] at AX K0 K1 K2 K3 HX0 ⊢
  try rw [show w.heap.size + 1 + 1 + 1 = w.heap.size + 3 from rfl]
  try rw [show w.heap.size + 1 + 1 = w.heap.size + 2 from rfl]
  obtain ⟨b3, h3⟩ : ∃ b, b = w.heap.size + 3 := ⟨_, rfl⟩
  obtain ⟨b2, h2⟩ : ∃ b, b = w.heap.size + 2 := ⟨_, rfl⟩
  obtain ⟨b1, hb1⟩ : ∃ b, b = w.heap.size + 1 := ⟨_, rfl⟩
  obtain ⟨b0, h0⟩ : ∃ b, b = w.heap.size := ⟨_, rfl⟩
  have HBW := Lib.hid (show w.heap.size ≤ b0 ∧ w.heap.size ≤ b2 ∧ w.heap.size ≤ b3 by omega)
  have AP0 := Lib.hid (show Ap q b0 from h.ap (by omega)); have AP2 := Lib.hid (show Ap q b2 from h.ap (by omega)); have AP3 := Lib.hid (show Ap q b3 from h.ap (by omega))
  rw [← h3] at K3 ⊢
  rw [← h2] at K2 ⊢
  rw [← hb1] at K1 ⊢
  rw [← h0] at K0 ⊢
  have n01 : b0 ≠ b1 := by omega
  have n02 : b0 ≠ b2 := by omega
  have n03 : b0 ≠ b3 := by omega
  have n20 : b2 ≠ b0 := by omega
  have n30 : b3 ≠ b0 := by omega
  have n10 : b1 ≠ b0 := by omega
  have n12 : b1 ≠ b2 := by omega
  have n13 : b1 ≠ b3 := by omega
  have n23 : b2 ≠ b3 := by omega
  have n32 : b3 ≠ b2 := by omega
  clear hX h3 h2 hb1 h0 h
  refine (refNobody_any _).mono ?_
  rintro e wa ⟨rfl, hb⟩
  have AXa := Lib.hid (AX.out.trans (Below.mono hb AX.out.size)); have K0a := Lib.hid (K0.out.below hb); have K1a := Lib.hid (K1.out.below hb); have K2a := Lib.hid (K2.out.below hb); have K3a := Lib.hid (K3.out.below hb); have HXa := Lib.hid (HX0.out.below hb)
  clear hb AX K0 K1 K2 K3 HX0
  have hb := below_alloc wa (.cells #[.int .i64 0, .int .i64 0, .int .i64 (-1), .int .i64 0, .int .i64 0, .int .i64 0] 50)
  have A_0 := Lib.hid (AXa.out.trans (Below.mono hb AXa.out.size)); have K0_0 := Lib.hid (K0a.out.below hb); have K1_0 := Lib.hid (K1a.out.below hb); have K2_0 := Lib.hid (K2a.out.below hb); have K3_0 := Lib.hid (K3a.out.below hb); have H_0 := Lib.hid (HXa.out.below hb)
  have K7_0 := Lib.hid (Bx.new wa #[.int .i64 0, .int .i64 0, .int .i64 (-1), .int .i64 0, .int .i64 0, .int .i64 0] 50)
  have m0 := K0a.out.lt; have m2 := K2a.out.lt; have m3 := K3a.out.lt
  have m1 : b1 < wa.heap.size := (Array.getElem?_eq_some_iff.1 K1a.out).1
  clear hb
  go_upto_region 2 with (fail)
  obtain ⟨W0, hW0⟩ : ∃ x, x = wa.alloc (.cells #[.int .i64 0, .int .i64 0, .int .i64 (-1), .int .i64 0, .int .i64 0, .int .i64 0] 50) := ⟨_, rfl⟩
  obtain ⟨b7, h7⟩ : ∃ b, b = wa.heap.size := ⟨_, rfl⟩
  have HB7 := Lib.hid (show w.heap.size ≤ b7 by rw [h7]; exact AXa.out.size)
  have AP7 := Lib.hid (show Ap q b7 by rw [h7]; exact HXa.out.ap (Nat.le_refl _))
  rw [← hW0] at A_0 K0_0 K1_0 K2_0 K3_0 H_0 K7_0 ⊢
  rw [← h7] at K7_0 m0 m1 m2 m3 ⊢
  have n70 : b7 ≠ b0 := by omega
  have n71 : b7 ≠ b1 := by omega
  have n72 : b7 ≠ b2 := by omega
  have n73 : b7 ≠ b3 := by omega
  have n07 : b0 ≠ b7 := by omega
  have n17 : b1 ≠ b7 := by omega
  have n27 : b2 ≠ b7 := by omega
  have n37 : b3 ≠ b7 := by omega
  clear hW0 h7 m0 m1 m2 m3 AXa K0a K1a K2a K3a HXa
  obtain ⟨t0, t1, t2, t3, t4, t5, t6, t7, t8, t9⟩ := K0_0.out.cells10
  obtain ⟨y0, y1, y2⟩ := K1_0.out.cells
  go_wp2_with fail
  refine (HF.out _ H_0.out).mono ?_
  rintro e wf ⟨⟨i, rfl, hi⟩, hb⟩
  clear t0 t1 t2 t3 t4 t5 t6 t7 t8 t9 y0 y1 y2 hx
  have A_1 := Lib.hid (A_0.out.trans (Below.mono hb A_0.out.size)); have K0_1 := Lib.hid (Bx.below K0_0.out hb); have K1_1 := Lib.hid (show Box3 wf b1 x from (Bx.below (show Bx W0 b1 _ 48 from K1_0.out) hb)); have K2_1 := Lib.hid (Bx.below K2_0.out hb); have K3_1 := Lib.hid (Bx.below K3_0.out hb); have H_1 := Lib.hid (H_0.out.below hb); have K7_1 := Lib.hid (Bx.below K7_0.out hb)
  obtain ⟨W1, hW⟩ : ∃ x, x = wf := ⟨_, rfl⟩
  rw [← hW] at A_1 K7_1 K0_1 K1_1 K2_1 K3_1 H_1 hb ⊢
  clear hW hb A_0 K7_0 K0_0 K1_0 K2_0 K3_0 H_0 HF
  have hi' : i = -1 := by
    rcases hi with ⟨rfl, _⟩ | ⟨_, z, _, _, _, hz⟩
    · rfl
    · rw [hf] at hz; cases hz
  subst hi'
  clear hi hf
  obtain ⟨t0, t1, t2, t3, t4, t5, t6, t7, t8, t9⟩ := Bx.cells10 K0_1.out
  obtain ⟨y0, y1, y2⟩ := K1_1.out.cells
  go_wp2_with fail
  refine (HPU.out _ H_1.out).mono ?_
  rintro e wf2 ⟨rfl, hb⟩
  clear t0 t1 t2 t3 t4 t5 t6 t7 t8 t9 y0 y1 y2
  have A_2 := Lib.hid (A_1.out.trans (Below.mono hb A_1.out.size)); have K0_2 := Lib.hid (Bx.below K0_1.out hb); have K1_2 := Lib.hid (show Box3 wf2 b1 x from (Bx.below (show Bx W1 b1 _ 48 from K1_1.out) hb)); have K2_2 := Lib.hid (Bx.below K2_1.out hb); have K3_2 := Lib.hid (Bx.below K3_1.out hb); have H_2 := Lib.hid (H_1.out.below hb); have K7_2 := Lib.hid (Bx.below K7_1.out hb)
  obtain ⟨W2, hW⟩ : ∃ x, x = wf2 := ⟨_, rfl⟩
  rw [← hW] at A_2 K7_2 K0_2 K1_2 K2_2 K3_2 H_2 hb ⊢
  clear hW hb A_1 K7_1 K0_1 K1_1 K2_1 K3_1 H_1
  have CZ := Lib.hid (Cha.zero W2)
  have PZ2 := Lib.hid (show Ap zeroA b2 from ⟨(fun y h => by cases h), (fun y h => by cases h), (fun y h => by cases h)⟩)
  have PZ3 := Lib.hid (show Ap zeroA b3 from ⟨(fun y h => by cases h), (fun y h => by cases h), (fun y h => by cases h)⟩)
  simp only [zeroC, zeroA] at CZ PZ2 PZ3
  obtain ⟨t0, t1, t2, t3, t4, t5, t6, t7, t8, t9⟩ := Bx.cells10 K0_2.out
  obtain ⟨u0, u1, u2, u3, u4, u5, u6, u7, u8, u9⟩ := Bx.cells10 K2_2.out
  obtain ⟨v0, v1, v2, v3, v4, v5⟩ := Bx.cells6 K3_2.out
  obtain ⟨z0, z1, z2, z3, z4, z5⟩ := Bx.cells6 K7_2.out
  have l2 := Bx.lt K2_2.out; have l3 := Bx.lt K3_2.out; have f0 := Bx.froz K2_2.out 0; have f1 := Bx.froz K2_2.out 1; have f2 := Bx.froz K2_2.out 2; have f3 := Bx.froz K2_2.out 3; have f4 := Bx.froz K2_2.out 4; have f5 := Bx.froz K2_2.out 5; have f6 := Bx.froz K2_2.out 6; have f7 := Bx.froz K2_2.out 7; have f8 := Bx.froz K2_2.out 8; have f9 := Bx.froz K2_2.out 9; have g0 := Bx.froz K3_2.out 0; have g1 := Bx.froz K3_2.out 1; have g2 := Bx.froz K3_2.out 2; have g3 := Bx.froz K3_2.out 3; have g4 := Bx.froz K3_2.out 4; have g5 := Bx.froz K3_2.out 5
  go_wp2_with fail
  have EE := Lib.hid (endQ A_2.out HBW.out.2.1 HBW.out.2.2 K2_2.out K3_2.out n23 (⟨0, false, 0, 0, [], 0, 0, 0, [], []⟩) (⟨none, 0, 0, none, 0, 0, none, 0, 0⟩) (⟨0, 0, ⟨0, 0, 0⟩, 0⟩) CZ.out PZ2.out PZ3.out)
  simp only [stCO] at EE
  exact bodyPost_ret (v := .tuple #[chV (⟨0, false, 0, 0, [], 0, 0, 0, [], []⟩) (⟨none, 0, 0, none, 0, 0, none, 0, 0⟩), outV (⟨0, 0, ⟨0, 0, 0⟩, 0⟩), .int .i64 7]) (by rw [res_cc1 Try.results26 _ (by rfl) (EE.out.1.load Try.underlying27 infC) (by rfl) (EE.out.2.1.load Try.underlying50 infO)]; rfl) rfl ⟨⟨none, 0, 0, none, 0, 0, none, 0, 0⟩, rfl, EE.out.2.2.1, EE.out.2.2.2⟩
set_option maxRecDepth 100000 in
set_option maxHeartbeats 4000000 in
theorem refRecv_push_full (cap_ rc rf : Int) (zs : List Int) (rk sent got : Int) (sends recvs : List Wt) (q : CAt) (x : Wt) (w : World) (h : Cha w ⟨cap_, false, rc, rf, zs, rk, sent, got, sends, recvs⟩ q) (hx : WtOk x) (hcap : 0 ≤ cap_) (hf : firstW sends x.g = none) (hk : ¬ 0 < rk) (hh : hasW recvs x.g x.c = false) (h64 : q.rn = 64) :
    Calls Try.prog 26 #[chV ⟨cap_, false, rc, rf, zs, rk, sent, got, sends, recvs⟩ q, wV x] w (GotQ w zeroC zeroO 5) := by
  have HPU := Lib.hid (fun W (H : Cha W ⟨cap_, false, rc, rf, zs, rk, sent, got, sends, recvs⟩ q) => (by have := refPush_full q.ra q.rq recvs x W (by rw [← h64]; exact H.recvs) hx hh; rw [← h64] at this; exact this))
  unfold NoL at HPU
  clear hh
  clear h64
  have hcb : (cap_ == -1) = false := by rw [beq_eq_false_iff_ne]; omega
  have HF := Lib.hid (fun W (H : Cha W ⟨cap_, false, rc, rf, zs, rk, sent, got, sends, recvs⟩ q) => refFirst_any q.sa q.sn q.sc sends x.g W H.sends)
  have HXO := Lib.hid hx
  have AX := Lib.hid ((((below_alloc w (.cells (chC ⟨cap_, false, rc, rf, zs, rk, sent, got, sends, recvs⟩ q) 27)).alloc (by simp) (.cells #[.int .i64 x.g, .int .i64 x.c, .int .i64 x.s] 48)).alloc (by simp; omega) (.cells zero10 27)).alloc (by simp; omega) (.cells zero6 50))
  have K0 := Lib.hid ((((Bx.new w (chC ⟨cap_, false, rc, rf, zs, rk, sent, got, sends, recvs⟩ q) 27).below (below_alloc _ (.cells #[.int .i64 x.g, .int .i64 x.c, .int .i64 x.s] 48))).below (below_alloc _ (.cells zero10 27))).below (below_alloc _ (.cells zero6 50)))
  have K1 := Lib.hid (((box3_two w (.cells (chC ⟨cap_, false, rc, rf, zs, rk, sent, got, sends, recvs⟩ q) 27) x).below (below_alloc _ (.cells zero10 27))).below (below_alloc _ (.cells zero6 50)))
  have K2 := Lib.hid ((Bx.new3 w (.cells (chC ⟨cap_, false, rc, rf, zs, rk, sent, got, sends, recvs⟩ q) 27) (.cells #[.int .i64 x.g, .int .i64 x.c, .int .i64 x.s] 48) zero10 27).below (below_alloc _ (.cells zero6 50)))
  have K3 := Lib.hid (Bx.new4 w (.cells (chC ⟨cap_, false, rc, rf, zs, rk, sent, got, sends, recvs⟩ q) 27) (.cells #[.int .i64 x.g, .int .i64 x.c, .int .i64 x.s] 48) (.cells zero10 27) zero6 50)
  have HX0 := Lib.hid (h.below AX.out)
  go_enter Try.func26, Try.ntmps26
  go_wp2_with fail
  obtain ⟨X, hX⟩ : ∃ X, X = (((w.alloc (.cells (chC ⟨cap_, false, rc, rf, zs, rk, sent, got, sends, recvs⟩ q) 27)).alloc (.cells #[.int .i64 x.g, .int .i64 x.c, .int .i64 x.s] 48)).alloc (.cells zero10 27)).alloc (.cells zero6 50) := ⟨_, rfl⟩
  rw [← hX] at AX K0 K1 K2 K3 HX0 ⊢
  try rw [show w.heap.size + 1 + 1 + 1 = w.heap.size + 3 from rfl]
  try rw [show w.heap.size + 1 + 1 = w.heap.size + 2 from rfl]
  obtain ⟨b3, h3⟩ : ∃ b, b = w.heap.size + 3 := ⟨_, rfl⟩
  obtain ⟨b2, h2⟩ : ∃ b, b = w.heap.size + 2 := ⟨_, rfl⟩
  obtain ⟨b1, hb1⟩ : ∃ b, b = w.heap.size + 1 := ⟨_, rfl⟩
  obtain ⟨b0, h0⟩ : ∃ b, b = w.heap.size := ⟨_, rfl⟩
  have HBW := Lib.hid (show w.heap.size ≤ b0 ∧ w.heap.size ≤ b2 ∧ w.heap.size ≤ b3 by omega)
  have AP0 := Lib.hid (show Ap q b0 from h.ap (by omega)); have AP2 := Lib.hid (show Ap q b2 from h.ap (by omega)); have AP3 := Lib.hid (show Ap q b3 from h.ap (by omega))
  rw [← h3] at K3 ⊢
  rw [← h2] at K2 ⊢
  rw [← hb1] at K1 ⊢
  rw [← h0] at K0 ⊢
  have n01 : b0 ≠ b1 := by omega
  have n02 : b0 ≠ b2 := by omega
  have n03 : b0 ≠ b3 := by omega
  have n20 : b2 ≠ b0 := by omega
  have n30 : b3 ≠ b0 := by omega
  have n10 : b1 ≠ b0 := by omega
  have n12 : b1 ≠ b2 := by omega
  have n13 : b1 ≠ b3 := by omega
  have n23 : b2 ≠ b3 := by omega
  have n32 : b3 ≠ b2 := by omega
  clear hX h3 h2 hb1 h0 h
  refine (refNobody_any _).mono ?_
  rintro e wa ⟨rfl, hb⟩
  have AXa := Lib.hid (AX.out.trans (Below.mono hb AX.out.size)); have K0a := Lib.hid (K0.out.below hb); have K1a := Lib.hid (K1.out.below hb); have K2a := Lib.hid (K2.out.below hb); have K3a := Lib.hid (K3.out.below hb); have HXa := Lib.hid (HX0.out.below hb)
  clear hb AX K0 K1 K2 K3 HX0
  have hb := below_alloc wa (.cells #[.int .i64 0, .int .i64 0, .int .i64 (-1), .int .i64 0, .int .i64 0, .int .i64 0] 50)
  have A_0 := Lib.hid (AXa.out.trans (Below.mono hb AXa.out.size)); have K0_0 := Lib.hid (K0a.out.below hb); have K1_0 := Lib.hid (K1a.out.below hb); have K2_0 := Lib.hid (K2a.out.below hb); have K3_0 := Lib.hid (K3a.out.below hb); have H_0 := Lib.hid (HXa.out.below hb)
  have K7_0 := Lib.hid (Bx.new wa #[.int .i64 0, .int .i64 0, .int .i64 (-1), .int .i64 0, .int .i64 0, .int .i64 0] 50)
  have m0 := K0a.out.lt; have m2 := K2a.out.lt; have m3 := K3a.out.lt
  have m1 : b1 < wa.heap.size := (Array.getElem?_eq_some_iff.1 K1a.out).1
  clear hb
  go_upto_region 2 with (fail)
  obtain ⟨W0, hW0⟩ : ∃ x, x = wa.alloc (.cells #[.int .i64 0, .int .i64 0, .int .i64 (-1), .int .i64 0, .int .i64 0, .int .i64 0] 50) := ⟨_, rfl⟩
  obtain ⟨b7, h7⟩ : ∃ b, b = wa.heap.size := ⟨_, rfl⟩
  have HB7 := Lib.hid (show w.heap.size ≤ b7 by rw [h7]; exact AXa.out.size)
  have AP7 := Lib.hid (show Ap q b7 by rw [h7]; exact HXa.out.ap (Nat.le_refl _))
  rw [← hW0] at A_0 K0_0 K1_0 K2_0 K3_0 H_0 K7_0 ⊢
  rw [← h7] at K7_0 m0 m1 m2 m3 ⊢
  have n70 : b7 ≠ b0 := by omega
  have n71 : b7 ≠ b1 := by omega
  have n72 : b7 ≠ b2 := by omega
  have n73 : b7 ≠ b3 := by omega
  have n07 : b0 ≠ b7 := by omega
  have n17 : b1 ≠ b7 := by omega
  have n27 : b2 ≠ b7 := by omega
  have n37 : b3 ≠ b7 := by omega
  clear hW0 h7 m0 m1 m2 m3 AXa K0a K1a K2a K3a HXa
  obtain ⟨t0, t1, t2, t3, t4, t5, t6, t7, t8, t9⟩ := K0_0.out.cells10
  obtain ⟨y0, y1, y2⟩ := K1_0.out.cells
  go_wp2_with fail
  refine (HF.out _ H_0.out).mono ?_
  rintro e wf ⟨⟨i, rfl, hi⟩, hb⟩
  clear t0 t1 t2 t3 t4 t5 t6 t7 t8 t9 y0 y1 y2 hx
  have A_1 := Lib.hid (A_0.out.trans (Below.mono hb A_0.out.size)); have K0_1 := Lib.hid (Bx.below K0_0.out hb); have K1_1 := Lib.hid (show Box3 wf b1 x from (Bx.below (show Bx W0 b1 _ 48 from K1_0.out) hb)); have K2_1 := Lib.hid (Bx.below K2_0.out hb); have K3_1 := Lib.hid (Bx.below K3_0.out hb); have H_1 := Lib.hid (H_0.out.below hb); have K7_1 := Lib.hid (Bx.below K7_0.out hb)
  obtain ⟨W1, hW⟩ : ∃ x, x = wf := ⟨_, rfl⟩
  rw [← hW] at A_1 K7_1 K0_1 K1_1 K2_1 K3_1 H_1 hb ⊢
  clear hW hb A_0 K7_0 K0_0 K1_0 K2_0 K3_0 H_0 HF
  have hi' : i = -1 := by
    rcases hi with ⟨rfl, _⟩ | ⟨_, z, _, _, _, hz⟩
    · rfl
    · rw [hf] at hz; cases hz
  subst hi'
  clear hi hf
  obtain ⟨t0, t1, t2, t3, t4, t5, t6, t7, t8, t9⟩ := Bx.cells10 K0_1.out
  obtain ⟨y0, y1, y2⟩ := K1_1.out.cells
  go_wp2_with fail
  refine (HPU.out _ H_1.out).mono ?_
  rintro e wf2 ⟨rfl, hb⟩
  clear t0 t1 t2 t3 t4 t5 t6 t7 t8 t9 y0 y1 y2
  have A_2 := Lib.hid (A_1.out.trans (Below.mono hb A_1.out.size)); have K0_2 := Lib.hid (Bx.below K0_1.out hb); have K1_2 := Lib.hid (show Box3 wf2 b1 x from (Bx.below (show Bx W1 b1 _ 48 from K1_1.out) hb)); have K2_2 := Lib.hid (Bx.below K2_1.out hb); have K3_2 := Lib.hid (Bx.below K3_1.out hb); have H_2 := Lib.hid (H_1.out.below hb); have K7_2 := Lib.hid (Bx.below K7_1.out hb)
  obtain ⟨W2, hW⟩ : ∃ x, x = wf2 := ⟨_, rfl⟩
  rw [← hW] at A_2 K7_2 K0_2 K1_2 K2_2 K3_2 H_2 hb ⊢
  clear hW hb A_1 K7_1 K0_1 K1_1 K2_1 K3_1 H_1
  have CZ := Lib.hid (Cha.zero W2)
  have PZ2 := Lib.hid (show Ap zeroA b2 from ⟨(fun y h => by cases h), (fun y h => by cases h), (fun y h => by cases h)⟩)
  have PZ3 := Lib.hid (show Ap zeroA b3 from ⟨(fun y h => by cases h), (fun y h => by cases h), (fun y h => by cases h)⟩)
  simp only [zeroC, zeroA] at CZ PZ2 PZ3
  obtain ⟨t0, t1, t2, t3, t4, t5, t6, t7, t8, t9⟩ := Bx.cells10 K0_2.out
  obtain ⟨u0, u1, u2, u3, u4, u5, u6, u7, u8, u9⟩ := Bx.cells10 K2_2.out
  obtain ⟨v0, v1, v2, v3, v4, v5⟩ := Bx.cells6 K3_2.out
  obtain ⟨z0, z1, z2, z3, z4, z5⟩ := Bx.cells6 K7_2.out
  have l2 := Bx.lt K2_2.out; have l3 := Bx.lt K3_2.out; have f0 := Bx.froz K2_2.out 0; have f1 := Bx.froz K2_2.out 1; have f2 := Bx.froz K2_2.out 2; have f3 := Bx.froz K2_2.out 3; have f4 := Bx.froz K2_2.out 4; have f5 := Bx.froz K2_2.out 5; have f6 := Bx.froz K2_2.out 6; have f7 := Bx.froz K2_2.out 7; have f8 := Bx.froz K2_2.out 8; have f9 := Bx.froz K2_2.out 9; have g0 := Bx.froz K3_2.out 0; have g1 := Bx.froz K3_2.out 1; have g2 := Bx.froz K3_2.out 2; have g3 := Bx.froz K3_2.out 3; have g4 := Bx.froz K3_2.out 4; have g5 := Bx.froz K3_2.out 5
  go_wp2_with fail
  have EE := Lib.hid (endQ A_2.out HBW.out.2.1 HBW.out.2.2 K2_2.out K3_2.out n23 (⟨0, false, 0, 0, [], 0, 0, 0, [], []⟩) (⟨none, 0, 0, none, 0, 0, none, 0, 0⟩) (⟨0, 0, ⟨0, 0, 0⟩, 0⟩) CZ.out PZ2.out PZ3.out)
  simp only [stCO] at EE
  exact bodyPost_ret (v := .tuple #[chV (⟨0, false, 0, 0, [], 0, 0, 0, [], []⟩) (⟨none, 0, 0, none, 0, 0, none, 0, 0⟩), outV (⟨0, 0, ⟨0, 0, 0⟩, 0⟩), .int .i64 5]) (by rw [res_cc1 Try.results26 _ (by rfl) (EE.out.1.load Try.underlying27 infC) (by rfl) (EE.out.2.1.load Try.underlying50 infO)]; rfl) rfl ⟨⟨none, 0, 0, none, 0, 0, none, 0, 0⟩, rfl, EE.out.2.2.1, EE.out.2.2.2⟩
set_option maxRecDepth 100000 in
set_option maxHeartbeats 4000000 in
theorem refRecv_push_ok (cap_ rc rf : Int) (zs : List Int) (rk sent got : Int) (sends recvs : List Wt) (q : CAt) (x : Wt) (w : World) (h : Cha w ⟨cap_, false, rc, rf, zs, rk, sent, got, sends, recvs⟩ q) (hx : WtOk x) (hcap : 0 ≤ cap_) (hf : firstW sends x.g = none) (hk : ¬ 0 < rk) (hh : hasW recvs x.g x.c = false) (hle : q.rn ≤ 64) (hne : q.rn ≠ 64) :
    Calls Try.prog 26 #[chV ⟨cap_, false, rc, rf, zs, rk, sent, got, sends, recvs⟩ q, wV x] w (GotQ w ⟨cap_, false, rc, rf, zs, rk, sent, got, sends, recvs ++ [x]⟩ (aloneO 0) 0) := by
  have HPU := Lib.hid (fun W (H : Cha W ⟨cap_, false, rc, rf, zs, rk, sent, got, sends, recvs⟩ q) => refPush_ok q.ra q.rn q.rq recvs x W H.recvs hx hh hle hne)
  unfold GotF at HPU
  clear hh
  have hcb : (cap_ == -1) = false := by rw [beq_eq_false_iff_ne]; omega
  have HF := Lib.hid (fun W (H : Cha W ⟨cap_, false, rc, rf, zs, rk, sent, got, sends, recvs⟩ q) => refFirst_any q.sa q.sn q.sc sends x.g W H.sends)
  have HXO := Lib.hid hx
  have AX := Lib.hid ((((below_alloc w (.cells (chC ⟨cap_, false, rc, rf, zs, rk, sent, got, sends, recvs⟩ q) 27)).alloc (by simp) (.cells #[.int .i64 x.g, .int .i64 x.c, .int .i64 x.s] 48)).alloc (by simp; omega) (.cells zero10 27)).alloc (by simp; omega) (.cells zero6 50))
  have K0 := Lib.hid ((((Bx.new w (chC ⟨cap_, false, rc, rf, zs, rk, sent, got, sends, recvs⟩ q) 27).below (below_alloc _ (.cells #[.int .i64 x.g, .int .i64 x.c, .int .i64 x.s] 48))).below (below_alloc _ (.cells zero10 27))).below (below_alloc _ (.cells zero6 50)))
  have K1 := Lib.hid (((box3_two w (.cells (chC ⟨cap_, false, rc, rf, zs, rk, sent, got, sends, recvs⟩ q) 27) x).below (below_alloc _ (.cells zero10 27))).below (below_alloc _ (.cells zero6 50)))
  have K2 := Lib.hid ((Bx.new3 w (.cells (chC ⟨cap_, false, rc, rf, zs, rk, sent, got, sends, recvs⟩ q) 27) (.cells #[.int .i64 x.g, .int .i64 x.c, .int .i64 x.s] 48) zero10 27).below (below_alloc _ (.cells zero6 50)))
  have K3 := Lib.hid (Bx.new4 w (.cells (chC ⟨cap_, false, rc, rf, zs, rk, sent, got, sends, recvs⟩ q) 27) (.cells #[.int .i64 x.g, .int .i64 x.c, .int .i64 x.s] 48) (.cells zero10 27) zero6 50)
  have HX0 := Lib.hid (h.below AX.out)
  go_enter Try.func26, Try.ntmps26
  go_wp2_with fail
  obtain ⟨X, hX⟩ : ∃ X, X = (((w.alloc (.cells (chC ⟨cap_, false, rc, rf, zs, rk, sent, got, sends, recvs⟩ q) 27)).alloc (.cells #[.int .i64 x.g, .int .i64 x.c, .int .i64 x.s] 48)).alloc (.cells zero10 27)).alloc (.cells zero6 50) := ⟨_, rfl⟩
  rw [← hX] at AX K0 K1 K2 K3 HX0 ⊢
  try rw [show w.heap.size + 1 + 1 + 1 = w.heap.size + 3 from rfl]
  try rw [show w.heap.size + 1 + 1 = w.heap.size + 2 from rfl]
  obtain ⟨b3, h3⟩ : ∃ b, b = w.heap.size + 3 := ⟨_, rfl⟩
  obtain ⟨b2, h2⟩ : ∃ b, b = w.heap.size + 2 := ⟨_, rfl⟩
  obtain ⟨b1, hb1⟩ : ∃ b, b = w.heap.size + 1 := ⟨_, rfl⟩
  obtain ⟨b0, h0⟩ : ∃ b, b = w.heap.size := ⟨_, rfl⟩
  have HBW := Lib.hid (show w.heap.size ≤ b0 ∧ w.heap.size ≤ b2 ∧ w.heap.size ≤ b3 by omega)
  have AP0 := Lib.hid (show Ap q b0 from h.ap (by omega)); have AP2 := Lib.hid (show Ap q b2 from h.ap (by omega)); have AP3 := Lib.hid (show Ap q b3 from h.ap (by omega))
  rw [← h3] at K3 ⊢
  rw [← h2] at K2 ⊢
  rw [← hb1] at K1 ⊢
  rw [← h0] at K0 ⊢
  have n01 : b0 ≠ b1 := by omega
  have n02 : b0 ≠ b2 := by omega
  have n03 : b0 ≠ b3 := by omega
  have n20 : b2 ≠ b0 := by omega
  have n30 : b3 ≠ b0 := by omega
  have n10 : b1 ≠ b0 := by omega
  have n12 : b1 ≠ b2 := by omega
  have n13 : b1 ≠ b3 := by omega
  have n23 : b2 ≠ b3 := by omega
  have n32 : b3 ≠ b2 := by omega
  clear hX h3 h2 hb1 h0 h
  refine (refNobody_any _).mono ?_
  rintro e wa ⟨rfl, hb⟩
  have AXa := Lib.hid (AX.out.trans (Below.mono hb AX.out.size)); have K0a := Lib.hid (K0.out.below hb); have K1a := Lib.hid (K1.out.below hb); have K2a := Lib.hid (K2.out.below hb); have K3a := Lib.hid (K3.out.below hb); have HXa := Lib.hid (HX0.out.below hb)
  clear hb AX K0 K1 K2 K3 HX0
  have hb := below_alloc wa (.cells #[.int .i64 0, .int .i64 0, .int .i64 (-1), .int .i64 0, .int .i64 0, .int .i64 0] 50)
  have A_0 := Lib.hid (AXa.out.trans (Below.mono hb AXa.out.size)); have K0_0 := Lib.hid (K0a.out.below hb); have K1_0 := Lib.hid (K1a.out.below hb); have K2_0 := Lib.hid (K2a.out.below hb); have K3_0 := Lib.hid (K3a.out.below hb); have H_0 := Lib.hid (HXa.out.below hb)
  have K7_0 := Lib.hid (Bx.new wa #[.int .i64 0, .int .i64 0, .int .i64 (-1), .int .i64 0, .int .i64 0, .int .i64 0] 50)
  have m0 := K0a.out.lt; have m2 := K2a.out.lt; have m3 := K3a.out.lt
  have m1 : b1 < wa.heap.size := (Array.getElem?_eq_some_iff.1 K1a.out).1
  clear hb
  go_upto_region 2 with (fail)
  obtain ⟨W0, hW0⟩ : ∃ x, x = wa.alloc (.cells #[.int .i64 0, .int .i64 0, .int .i64 (-1), .int .i64 0, .int .i64 0, .int .i64 0] 50) := ⟨_, rfl⟩
  obtain ⟨b7, h7⟩ : ∃ b, b = wa.heap.size := ⟨_, rfl⟩
  have HB7 := Lib.hid (show w.heap.size ≤ b7 by rw [h7]; exact AXa.out.size)
  have AP7 := Lib.hid (show Ap q b7 by rw [h7]; exact HXa.out.ap (Nat.le_refl _))
  rw [← hW0] at A_0 K0_0 K1_0 K2_0 K3_0 H_0 K7_0 ⊢
  rw [← h7] at K7_0 m0 m1 m2 m3 ⊢
  have n70 : b7 ≠ b0 := by omega
  have n71 : b7 ≠ b1 := by omega
  have n72 : b7 ≠ b2 := by omega
  have n73 : b7 ≠ b3 := by omega
  have n07 : b0 ≠ b7 := by omega
  have n17 : b1 ≠ b7 := by omega
  have n27 : b2 ≠ b7 := by omega
  have n37 : b3 ≠ b7 := by omega
  clear hW0 h7 m0 m1 m2 m3 AXa K0a K1a K2a K3a HXa
  obtain ⟨t0, t1, t2, t3, t4, t5, t6, t7, t8, t9⟩ := K0_0.out.cells10
  obtain ⟨y0, y1, y2⟩ := K1_0.out.cells
  go_wp2_with fail
  refine (HF.out _ H_0.out).mono ?_
  rintro e wf ⟨⟨i, rfl, hi⟩, hb⟩
  clear t0 t1 t2 t3 t4 t5 t6 t7 t8 t9 y0 y1 y2 hx
  have A_1 := Lib.hid (A_0.out.trans (Below.mono hb A_0.out.size)); have K0_1 := Lib.hid (Bx.below K0_0.out hb); have K1_1 := Lib.hid (show Box3 wf b1 x from (Bx.below (show Bx W0 b1 _ 48 from K1_0.out) hb)); have K2_1 := Lib.hid (Bx.below K2_0.out hb); have K3_1 := Lib.hid (Bx.below K3_0.out hb); have H_1 := Lib.hid (H_0.out.below hb); have K7_1 := Lib.hid (Bx.below K7_0.out hb)
  obtain ⟨W1, hW⟩ : ∃ x, x = wf := ⟨_, rfl⟩
  rw [← hW] at A_1 K7_1 K0_1 K1_1 K2_1 K3_1 H_1 hb ⊢
  clear hW hb A_0 K7_0 K0_0 K1_0 K2_0 K3_0 H_0 HF
  have hi' : i = -1 := by
    rcases hi with ⟨rfl, _⟩ | ⟨_, z, _, _, _, hz⟩
    · rfl
    · rw [hf] at hz; cases hz
  subst hi'
  clear hi hf
  obtain ⟨t0, t1, t2, t3, t4, t5, t6, t7, t8, t9⟩ := Bx.cells10 K0_1.out
  obtain ⟨y0, y1, y2⟩ := K1_1.out.cells
  go_wp2_with fail
  refine (HPU.out _ H_1.out).mono ?_
  rintro e wf2 ⟨ga, gn, gc, rfl, hw, hb, hfr⟩
  clear t0 t1 t2 t3 t4 t5 t6 t7 t8 t9 y0 y1 y2
  have PF := Lib.hid (show ∀ B, B < W1.heap.size → ∀ y, ga = some y → 0 < gn → y.block ≠ B from fun B hB y hy _ => by have := hfr y hy; omega)
  have HL0 := Lib.hid (show b0 < W1.heap.size ∧ b2 < W1.heap.size ∧ b3 < W1.heap.size from ⟨Bx.lt K0_1.out, Bx.lt K2_1.out, Bx.lt K3_1.out⟩)
  have A_2 := Lib.hid (A_1.out.trans (Below.mono hb A_1.out.size)); have K0_2 := Lib.hid (Bx.below K0_1.out hb); have K1_2 := Lib.hid (show Box3 wf2 b1 x from (Bx.below (show Bx W1 b1 _ 48 from K1_1.out) hb)); have K2_2 := Lib.hid (Bx.below K2_1.out hb); have K3_2 := Lib.hid (Bx.below K3_1.out hb); have H_2 := Lib.hid (H_1.out.below hb); have K7_2 := Lib.hid (Bx.below K7_1.out hb)
  obtain ⟨W2, hW⟩ : ∃ x, x = wf2 := ⟨_, rfl⟩
  rw [← hW] at A_2 K7_2 K0_2 K1_2 K2_2 K3_2 H_2 hb ⊢
  rw [← hW] at hw
  have WL := Lib.hid hw
  clear hW hb hw hfr A_1 K7_1 K0_1 K1_1 K2_1 K3_1 H_1
  obtain ⟨t0, t1, t2, t3, t4, t5, t6, t7, t8, t9⟩ := Bx.cells10 K0_2.out
  have l0 := Bx.lt K0_2.out; have f0 := Bx.froz K0_2.out 9
  go_upto_region 22 with (fail)
  clear t0 t1 t2 t3 t4 t5 t6 t7 t8 t9 l0 f0
  have G := Lib.hid (grow_setCell W2 b0 9 (.slice ga gn gc))
  have A_3 := Lib.hid (A_2.out.setCell (p := ⟨b0, 9, none⟩) HBW.out.1 (.slice ga gn gc))
  have K0_3 := Lib.hid (Bx.set K0_2.out 9 (.slice ga gn gc))
  have K7_3 := Lib.hid (Bx.other K7_2.out G.out (fun e => n70 (by cases e; rfl)))
  have K2_3 := Lib.hid (Bx.other K2_2.out G.out (fun e => n20 (by cases e; rfl)))
  have K3_3 := Lib.hid (Bx.other K3_2.out G.out (fun e => n30 (by cases e; rfl)))
  have H_3 := Lib.hid (H_2.out.other AP0.out G.out)
  have WL3 := Lib.hid (WL.out.other (PF.out b0 HL0.out.1) G.out)
  obtain ⟨W3, hW⟩ : ∃ x, x = W2.setCell ⟨b0, 9, none⟩ (.slice ga gn gc) := ⟨_, rfl⟩
  rw [← hW] at A_3 K0_3 K7_3 K2_3 K3_3 H_3 WL3 ⊢
  clear hW G A_2 K7_2 K0_2 K1_2 K2_2 K3_2 H_2
  have HN := Lib.hid (show Cha W3 ⟨cap_, false, rc, rf, zs, rk, sent, got, sends, recvs ++ [x]⟩ ⟨q.za, q.zn, q.zc, q.sa, q.sn, q.sc, ga, gn, gc⟩ from ⟨H_3.out.cap, H_3.out.rc, H_3.out.rf, H_3.out.rk, H_3.out.sent, H_3.out.got, H_3.out.zs, H_3.out.sends, WL3.out⟩)
  have PN2 := Lib.hid (show Ap ⟨q.za, q.zn, q.zc, q.sa, q.sn, q.sc, ga, gn, gc⟩ b2 from ⟨AP2.out.az, AP2.out.asn, PF.out b2 HL0.out.2.1⟩)
  have PN3 := Lib.hid (show Ap ⟨q.za, q.zn, q.zc, q.sa, q.sn, q.sc, ga, gn, gc⟩ b3 from ⟨AP3.out.az, AP3.out.asn, PF.out b3 HL0.out.2.2⟩)
  obtain ⟨t0, t1, t2, t3, t4, t5, t6, t7, t8, t9⟩ := Bx.cells10 K0_3.out
  obtain ⟨u0, u1, u2, u3, u4, u5, u6, u7, u8, u9⟩ := Bx.cells10 K2_3.out
  obtain ⟨v0, v1, v2, v3, v4, v5⟩ := Bx.cells6 K3_3.out
  obtain ⟨z0, z1, z2, z3, z4, z5⟩ := Bx.cells6 K7_3.out
  have l2 := Bx.lt K2_3.out; have l3 := Bx.lt K3_3.out; have f0 := Bx.froz K2_3.out 0; have f1 := Bx.froz K2_3.out 1; have f2 := Bx.froz K2_3.out 2; have f3 := Bx.froz K2_3.out 3; have f4 := Bx.froz K2_3.out 4; have f5 := Bx.froz K2_3.out 5; have f6 := Bx.froz K2_3.out 6; have f7 := Bx.froz K2_3.out 7; have f8 := Bx.froz K2_3.out 8; have f9 := Bx.froz K2_3.out 9; have g0 := Bx.froz K3_3.out 0; have g1 := Bx.froz K3_3.out 1; have g2 := Bx.froz K3_3.out 2; have g3 := Bx.froz K3_3.out 3; have g4 := Bx.froz K3_3.out 4; have g5 := Bx.froz K3_3.out 5
  go_wp2_with fail
  go_region
  go_wp2_with fail
  have EE := Lib.hid (endQd (endQ A_3.out HBW.out.2.1 HBW.out.2.2 K2_3.out K3_3.out n23 (⟨cap_, false, rc, rf, zs, rk, sent, got, sends, recvs ++ [x]⟩) (⟨q.za, q.zn, q.zc, q.sa, q.sn, q.sc, ga, gn, gc⟩) (⟨0, 0, ⟨-1, 0, 0⟩, 0⟩) HN.out PN2.out PN3.out))
  simp only [stCO] at EE
  exact bodyPost_ret (v := .tuple #[chV (⟨cap_, false, rc, rf, zs, rk, sent, got, sends, recvs ++ [x]⟩) (⟨q.za, q.zn, q.zc, q.sa, q.sn, q.sc, ga, gn, gc⟩), outV (⟨0, 0, ⟨-1, 0, 0⟩, 0⟩), .int .i64 0]) (by rw [res_cc1 Try.results26 _ (by rfl) (EE.out.1.load Try.underlying27 infC) (by rfl) (EE.out.2.1.load Try.underlying50 infO)]; rfl) rfl ⟨⟨q.za, q.zn, q.zc, q.sa, q.sn, q.sc, ga, gn, gc⟩, rfl, EE.out.2.2.1, EE.out.2.2.2⟩
end Go.Proofs.Ytfolhgpbplfilaa
