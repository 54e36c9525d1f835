/- Send and Recv that are refused. -/
import Derived.Test.YtfolhgpbplfilaaHT
import Derived.Test.YtfolhgpbplfilaaD1
namespace Go.Proofs.Ytfolhgpbplfilaa
open Go.RowKit
set_option linter.unusedSimpArgs false
set_option linter.unusedVariables false
set_option maxRecDepth 100000 in
set_option maxHeartbeats 4000000 in
theorem Send_badr (c : Chn) (q : CAt) (x : Wt) (w : World) (h : Cha w c q) (hx : WtOk x) (hr : rightC c = false) :
    Calls Try.prog 22 #[chV c q, wV x] w (GotQ w zeroC zeroO 1) := by
  have HRC := Lib.hid (fun W (H : Cha W c q) => Right_c c q W H)
  rw [hr] at HRC
  have AX := Lib.hid ((((below_alloc w (.cells (chC c q) 27)).alloc (by simp) (.cells #[.int .i64 x.g, .int .i64 x.c, .int .i64 x.s] 48)).alloc (by simp; omega) (.cells zero10 27)).alloc (by simp; omega) (.cells zero6 50))
  have K0 := Lib.hid ((((Bx.new w (chC c q) 27).below (below_alloc _ (.cells #[.int .i64 x.g, .int .i64 x.c, .int .i64 x.s] 48))).below (below_alloc _ (.cells zero10 27))).below (below_alloc _ (.cells zero6 50)))
  have K1 := Lib.hid (((box3_two w (.cells (chC c q) 27) x).below (below_alloc _ (.cells zero10 27))).below (below_alloc _ (.cells zero6 50)))
  have K2 := Lib.hid ((Bx.new3 w (.cells (chC c q) 27) (.cells #[.int .i64 x.g, .int .i64 x.c, .int .i64 x.s] 48) zero10 27).below (below_alloc _ (.cells zero6 50)))
  have K3 := Lib.hid (Bx.new4 w (.cells (chC c q) 27) (.cells #[.int .i64 x.g, .int .i64 x.c, .int .i64 x.s] 48) (.cells zero10 27) zero6 50)
  have HX0 := Lib.hid (h.below AX.out)
  go_enter Try.func22, Try.ntmps22
  go_wp2_with fail
  obtain ⟨X, hX⟩ : ∃ X, X = (((w.alloc (.cells (chC c q) 27)).alloc (.cells #[.int .i64 x.g, .int .i64 x.c, .int .i64 x.s] 48)).alloc (.cells zero10 27)).alloc (.cells zero6 50) := ⟨_, rfl⟩
  rw [← hX] at AX K0 K1 K2 K3 HX0 ⊢
  try rw [show w.heap.size + 1 + 1 + 1 = w.heap.size + 3 from rfl]
  try rw [show w.heap.size + 1 + 1 = w.heap.size + 2 from rfl]
  obtain ⟨b3, h3⟩ : ∃ b, b = w.heap.size + 3 := ⟨_, rfl⟩
  obtain ⟨b2, h2⟩ : ∃ b, b = w.heap.size + 2 := ⟨_, rfl⟩
  obtain ⟨b1, hb1⟩ : ∃ b, b = w.heap.size + 1 := ⟨_, rfl⟩
  obtain ⟨b0, h0⟩ : ∃ b, b = w.heap.size := ⟨_, rfl⟩
  have HBW := Lib.hid (show w.heap.size ≤ b0 ∧ w.heap.size ≤ b2 ∧ w.heap.size ≤ b3 by omega)
  have AP0 := Lib.hid (show Ap q b0 from h.ap (by omega)); have AP2 := Lib.hid (show Ap q b2 from h.ap (by omega)); have AP3 := Lib.hid (show Ap q b3 from h.ap (by omega))
  rw [← h3] at K3 ⊢
  rw [← h2] at K2 ⊢
  rw [← hb1] at K1 ⊢
  rw [← h0] at K0 ⊢
  have n01 : b0 ≠ b1 := by omega
  have n02 : b0 ≠ b2 := by omega
  have n03 : b0 ≠ b3 := by omega
  have n20 : b2 ≠ b0 := by omega
  have n30 : b3 ≠ b0 := by omega
  have n10 : b1 ≠ b0 := by omega
  have n12 : b1 ≠ b2 := by omega
  have n13 : b1 ≠ b3 := by omega
  have n23 : b2 ≠ b3 := by omega
  have n32 : b3 ≠ b2 := by omega
  clear hX h3 h2 hb1 h0 h
  clear hr
  refine (HRC.out _ HX0.out).mono ?_
  rintro e W0 ⟨rfl, hb⟩
  have A_0 := Lib.hid (AX.out.trans (Below.mono hb AX.out.size)); have K1_0 := Lib.hid (show Box3 W0 b1 x from Bx.below (show Bx X b1 _ 48 from K1.out) hb); have K2_0 := Lib.hid (K2.out.below hb); have K3_0 := Lib.hid (K3.out.below hb)
  clear hb AX K0 K1 K2 K3 HX0
  obtain ⟨u0, u1, u2, u3, u4, u5, u6, u7, u8, u9⟩ := Bx.cells10 K2_0.out
  obtain ⟨v0, v1, v2, v3, v4, v5⟩ := Bx.cells6 K3_0.out
  have l2 := Bx.lt K2_0.out; have l3 := Bx.lt K3_0.out; have f0 := Bx.froz K2_0.out 0; have f1 := Bx.froz K2_0.out 1; have f2 := Bx.froz K2_0.out 2; have f3 := Bx.froz K2_0.out 3; have f4 := Bx.froz K2_0.out 4; have f5 := Bx.froz K2_0.out 5; have f6 := Bx.froz K2_0.out 6; have f7 := Bx.froz K2_0.out 7; have f8 := Bx.froz K2_0.out 8; have f9 := Bx.froz K2_0.out 9; have g0 := Bx.froz K3_0.out 0; have g1 := Bx.froz K3_0.out 1; have g2 := Bx.froz K3_0.out 2; have g3 := Bx.froz K3_0.out 3; have g4 := Bx.froz K3_0.out 4; have g5 := Bx.froz K3_0.out 5
  have CZ := Lib.hid (Cha.zero W0)
  have PZ2 := Lib.hid (show Ap zeroA b2 from ⟨(fun y h => by cases h), (fun y h => by cases h), (fun y h => by cases h)⟩)
  have PZ3 := Lib.hid (show Ap zeroA b3 from ⟨(fun y h => by cases h), (fun y h => by cases h), (fun y h => by cases h)⟩)
  simp only [zeroC, zeroA] at CZ PZ2 PZ3
  go_wp2_with fail
  have EE := Lib.hid (endQ A_0.out HBW.out.2.1 HBW.out.2.2 K2_0.out K3_0.out n23 (⟨0, false, 0, 0, [], 0, 0, 0, [], []⟩) (⟨none, 0, 0, none, 0, 0, none, 0, 0⟩) (⟨0, 0, ⟨0, 0, 0⟩, 0⟩) CZ.out PZ2.out PZ3.out)
  simp only [stCO] at EE
  exact bodyPost_ret (v := .tuple #[chV (⟨0, false, 0, 0, [], 0, 0, 0, [], []⟩) (⟨none, 0, 0, none, 0, 0, none, 0, 0⟩), outV (⟨0, 0, ⟨0, 0, 0⟩, 0⟩), .int .i64 1]) (by rw [res_cc1 Try.results22 _ (by rfl) (EE.out.1.load Try.underlying27 infC) (by rfl) (EE.out.2.1.load Try.underlying50 infO)]; rfl) rfl ⟨⟨none, 0, 0, none, 0, 0, none, 0, 0⟩, rfl, EE.out.2.2.1, EE.out.2.2.2⟩
set_option maxRecDepth 100000 in
set_option maxHeartbeats 4000000 in
theorem Send_badm (c : Chn) (q : CAt) (x : Wt) (w : World) (h : Cha w c q) (hx : WtOk x) (hr : rightC c = true) (hmy : mayW x = false) :
    Calls Try.prog 22 #[chV c q, wV x] w (GotQ w zeroC zeroO 1) := by
  have HRC := Lib.hid (fun W (H : Cha W c q) => Right_c c q W H)
  rw [hr] at HRC
  have HMY := Lib.hid (fun W => cmay_any x W hx)
  rw [hmy] at HMY
  have AX := Lib.hid ((((below_alloc w (.cells (chC c q) 27)).alloc (by simp) (.cells #[.int .i64 x.g, .int .i64 x.c, .int .i64 x.s] 48)).alloc (by simp; omega) (.cells zero10 27)).alloc (by simp; omega) (.cells zero6 50))
  have K0 := Lib.hid ((((Bx.new w (chC c q) 27).below (below_alloc _ (.cells #[.int .i64 x.g, .int .i64 x.c, .int .i64 x.s] 48))).below (below_alloc _ (.cells zero10 27))).below (below_alloc _ (.cells zero6 50)))
  have K1 := Lib.hid (((box3_two w (.cells (chC c q) 27) x).below (below_alloc _ (.cells zero10 27))).below (below_alloc _ (.cells zero6 50)))
  have K2 := Lib.hid ((Bx.new3 w (.cells (chC c q) 27) (.cells #[.int .i64 x.g, .int .i64 x.c, .int .i64 x.s] 48) zero10 27).below (below_alloc _ (.cells zero6 50)))
  have K3 := Lib.hid (Bx.new4 w (.cells (chC c q) 27) (.cells #[.int .i64 x.g, .int .i64 x.c, .int .i64 x.s] 48) (.cells zero10 27) zero6 50)
  have HX0 := Lib.hid (h.below AX.out)
  go_enter Try.func22, Try.ntmps22
  go_wp2_with fail
  obtain ⟨X, hX⟩ : ∃ X, X = (((w.alloc (.cells (chC c q) 27)).alloc (.cells #[.int .i64 x.g, .int .i64 x.c, .int .i64 x.s] 48)).alloc (.cells zero10 27)).alloc (.cells zero6 50) := ⟨_, rfl⟩
  rw [← hX] at AX K0 K1 K2 K3 HX0 ⊢
  try rw [show w.heap.size + 1 + 1 + 1 = w.heap.size + 3 from rfl]
  try rw [show w.heap.size + 1 + 1 = w.heap.size + 2 from rfl]
  obtain ⟨b3, h3⟩ : ∃ b, b = w.heap.size + 3 := ⟨_, rfl⟩
  obtain ⟨b2, h2⟩ : ∃ b, b = w.heap.size + 2 := ⟨_, rfl⟩
  obtain ⟨b1, hb1⟩ : ∃ b, b = w.heap.size + 1 := ⟨_, rfl⟩
  obtain ⟨b0, h0⟩ : ∃ b, b = w.heap.size := ⟨_, rfl⟩
  have HBW := Lib.hid (show w.heap.size ≤ b0 ∧ w.heap.size ≤ b2 ∧ w.heap.size ≤ b3 by omega)
  have AP0 := Lib.hid (show Ap q b0 from h.ap (by omega)); have AP2 := Lib.hid (show Ap q b2 from h.ap (by omega)); have AP3 := Lib.hid (show Ap q b3 from h.ap (by omega))
  rw [← h3] at K3 ⊢
  rw [← h2] at K2 ⊢
  rw [← hb1] at K1 ⊢
  rw [← h0] at K0 ⊢
  have n01 : b0 ≠ b1 := by omega
  have n02 : b0 ≠ b2 := by omega
  have n03 : b0 ≠ b3 := by omega
  have n20 : b2 ≠ b0 := by omega
  have n30 : b3 ≠ b0 := by omega
  have n10 : b1 ≠ b0 := by omega
  have n12 : b1 ≠ b2 := by omega
  have n13 : b1 ≠ b3 := by omega
  have n23 : b2 ≠ b3 := by omega
  have n32 : b3 ≠ b2 := by omega
  clear hX h3 h2 hb1 h0 h
  clear hr
  refine (HRC.out _ HX0.out).mono ?_
  rintro e W0 ⟨rfl, hb⟩
  have A_0 := Lib.hid (AX.out.trans (Below.mono hb AX.out.size)); have K1_0 := Lib.hid (show Box3 W0 b1 x from Bx.below (show Bx X b1 _ 48 from K1.out) hb); have K2_0 := Lib.hid (K2.out.below hb); have K3_0 := Lib.hid (K3.out.below hb)
  clear hb AX K0 K1 K2 K3 HX0
  clear hmy
  obtain ⟨y0, y1, y2⟩ := K1_0.out.cells
  go_wp2_with fail
  refine (HMY.out _).mono ?_
  rintro e W1 ⟨rfl, hb⟩
  have A_1 := Lib.hid (A_0.out.trans (Below.mono hb A_0.out.size)); have K2_1 := Lib.hid (K2_0.out.below hb); have K3_1 := Lib.hid (K3_0.out.below hb)
  clear hb A_0 K1_0 K2_0 K3_0 y0 y1 y2
  obtain ⟨u0, u1, u2, u3, u4, u5, u6, u7, u8, u9⟩ := Bx.cells10 K2_1.out
  obtain ⟨v0, v1, v2, v3, v4, v5⟩ := Bx.cells6 K3_1.out
  have l2 := Bx.lt K2_1.out; have l3 := Bx.lt K3_1.out; have f0 := Bx.froz K2_1.out 0; have f1 := Bx.froz K2_1.out 1; have f2 := Bx.froz K2_1.out 2; have f3 := Bx.froz K2_1.out 3; have f4 := Bx.froz K2_1.out 4; have f5 := Bx.froz K2_1.out 5; have f6 := Bx.froz K2_1.out 6; have f7 := Bx.froz K2_1.out 7; have f8 := Bx.froz K2_1.out 8; have f9 := Bx.froz K2_1.out 9; have g0 := Bx.froz K3_1.out 0; have g1 := Bx.froz K3_1.out 1; have g2 := Bx.froz K3_1.out 2; have g3 := Bx.froz K3_1.out 3; have g4 := Bx.froz K3_1.out 4; have g5 := Bx.froz K3_1.out 5
  have CZ := Lib.hid (Cha.zero W1)
  have PZ2 := Lib.hid (show Ap zeroA b2 from ⟨(fun y h => by cases h), (fun y h => by cases h), (fun y h => by cases h)⟩)
  have PZ3 := Lib.hid (show Ap zeroA b3 from ⟨(fun y h => by cases h), (fun y h => by cases h), (fun y h => by cases h)⟩)
  simp only [zeroC, zeroA] at CZ PZ2 PZ3
  go_wp2_with fail
  have EE := Lib.hid (endQ A_1.out HBW.out.2.1 HBW.out.2.2 K2_1.out K3_1.out n23 (⟨0, false, 0, 0, [], 0, 0, 0, [], []⟩) (⟨none, 0, 0, none, 0, 0, none, 0, 0⟩) (⟨0, 0, ⟨0, 0, 0⟩, 0⟩) CZ.out PZ2.out PZ3.out)
  simp only [stCO] at EE
  exact bodyPost_ret (v := .tuple #[chV (⟨0, false, 0, 0, [], 0, 0, 0, [], []⟩) (⟨none, 0, 0, none, 0, 0, none, 0, 0⟩), outV (⟨0, 0, ⟨0, 0, 0⟩, 0⟩), .int .i64 1]) (by rw [res_cc1 Try.results22 _ (by rfl) (EE.out.1.load Try.underlying27 infC) (by rfl) (EE.out.2.1.load Try.underlying50 infO)]; rfl) rfl ⟨⟨none, 0, 0, none, 0, 0, none, 0, 0⟩, rfl, EE.out.2.2.1, EE.out.2.2.2⟩
set_option maxRecDepth 100000 in
set_option maxHeartbeats 4000000 in
theorem Recv_badr (c : Chn) (q : CAt) (x : Wt) (w : World) (h : Cha w c q) (hx : WtOk x) (hr : rightC c = false) :
    Calls Try.prog 23 #[chV c q, wV x] w (GotQ w zeroC zeroO 1) := by
  have HRC := Lib.hid (fun W (H : Cha W c q) => Right_c c q W H)
  rw [hr] at HRC
  have AX := Lib.hid ((((below_alloc w (.cells (chC c q) 27)).alloc (by simp) (.cells #[.int .i64 x.g, .int .i64 x.c, .int .i64 x.s] 48)).alloc (by simp; omega) (.cells zero10 27)).alloc (by simp; omega) (.cells zero6 50))
  have K0 := Lib.hid ((((Bx.new w (chC c q) 27).below (below_alloc _ (.cells #[.int .i64 x.g, .int .i64 x.c, .int .i64 x.s] 48))).below (below_alloc _ (.cells zero10 27))).below (below_alloc _ (.cells zero6 50)))
  have K1 := Lib.hid (((box3_two w (.cells (chC c q) 27) x).below (below_alloc _ (.cells zero10 27))).below (below_alloc _ (.cells zero6 50)))
  have K2 := Lib.hid ((Bx.new3 w (.cells (chC c q) 27) (.cells #[.int .i64 x.g, .int .i64 x.c, .int .i64 x.s] 48) zero10 27).below (below_alloc _ (.cells zero6 50)))
  have K3 := Lib.hid (Bx.new4 w (.cells (chC c q) 27) (.cells #[.int .i64 x.g, .int .i64 x.c, .int .i64 x.s] 48) (.cells zero10 27) zero6 50)
  have HX0 := Lib.hid (h.below AX.out)
  go_enter Try.func23, Try.ntmps23
  go_wp2_with fail
  obtain ⟨X, hX⟩ : ∃ X, X = (((w.alloc (.cells (chC c q) 27)).alloc (.cells #[.int .i64 x.g, .int .i64 x.c, .int .i64 x.s] 48)).alloc (.cells zero10 27)).alloc (.cells zero6 50) := ⟨_, rfl⟩
  rw [← hX] at AX K0 K1 K2 K3 HX0 ⊢
  try rw [show w.heap.size + 1 + 1 + 1 = w.heap.size + 3 from rfl]
  try rw [show w.heap.size + 1 + 1 = w.heap.size + 2 from rfl]
  obtain ⟨b3, h3⟩ : ∃ b, b = w.heap.size + 3 := ⟨_, rfl⟩
  obtain ⟨b2, h2⟩ : ∃ b, b = w.heap.size + 2 := ⟨_, rfl⟩
  obtain ⟨b1, hb1⟩ : ∃ b, b = w.heap.size + 1 := ⟨_, rfl⟩
  obtain ⟨b0, h0⟩ : ∃ b, b = w.heap.size := ⟨_, rfl⟩
  have HBW := Lib.hid (show w.heap.size ≤ b0 ∧ w.heap.size ≤ b2 ∧ w.heap.size ≤ b3 by omega)
  have AP0 := Lib.hid (show Ap q b0 from h.ap (by omega)); have AP2 := Lib.hid (show Ap q b2 from h.ap (by omega)); have AP3 := Lib.hid (show Ap q b3 from h.ap (by omega))
  rw [← h3] at K3 ⊢
  rw [← h2] at K2 ⊢
  rw [← hb1] at K1 ⊢
  rw [← h0] at K0 ⊢
  have n01 : b0 ≠ b1 := by omega
  have n02 : b0 ≠ b2 := by omega
  have n03 : b0 ≠ b3 := by omega
  have n20 : b2 ≠ b0 := by omega
  have n30 : b3 ≠ b0 := by omega
  have n10 : b1 ≠ b0 := by omega
  have n12 : b1 ≠ b2 := by omega
  have n13 : b1 ≠ b3 := by omega
  have n23 : b2 ≠ b3 := by omega
  have n32 : b3 ≠ b2 := by omega
  clear hX h3 h2 hb1 h0 h
  clear hr
  refine (HRC.out _ HX0.out).mono ?_
  rintro e W0 ⟨rfl, hb⟩
  have A_0 := Lib.hid (AX.out.trans (Below.mono hb AX.out.size)); have K1_0 := Lib.hid (show Box3 W0 b1 x from Bx.below (show Bx X b1 _ 48 from K1.out) hb); have K2_0 := Lib.hid (K2.out.below hb); have K3_0 := Lib.hid (K3.out.below hb)
  clear hb AX K0 K1 K2 K3 HX0
  obtain ⟨u0, u1, u2, u3, u4, u5, u6, u7, u8, u9⟩ := Bx.cells10 K2_0.out
  obtain ⟨v0, v1, v2, v3, v4, v5⟩ := Bx.cells6 K3_0.out
  have l2 := Bx.lt K2_0.out; have l3 := Bx.lt K3_0.out; have f0 := Bx.froz K2_0.out 0; have f1 := Bx.froz K2_0.out 1; have f2 := Bx.froz K2_0.out 2; have f3 := Bx.froz K2_0.out 3; have f4 := Bx.froz K2_0.out 4; have f5 := Bx.froz K2_0.out 5; have f6 := Bx.froz K2_0.out 6; have f7 := Bx.froz K2_0.out 7; have f8 := Bx.froz K2_0.out 8; have f9 := Bx.froz K2_0.out 9; have g0 := Bx.froz K3_0.out 0; have g1 := Bx.froz K3_0.out 1; have g2 := Bx.froz K3_0.out 2; have g3 := Bx.froz K3_0.out 3; have g4 := Bx.froz K3_0.out 4; have g5 := Bx.froz K3_0.out 5
  have CZ := Lib.hid (Cha.zero W0)
  have PZ2 := Lib.hid (show Ap zeroA b2 from ⟨(fun y h => by cases h), (fun y h => by cases h), (fun y h => by cases h)⟩)
  have PZ3 := Lib.hid (show Ap zeroA b3 from ⟨(fun y h => by cases h), (fun y h => by cases h), (fun y h => by cases h)⟩)
  simp only [zeroC, zeroA] at CZ PZ2 PZ3
  go_wp2_with fail
  have EE := Lib.hid (endQ A_0.out HBW.out.2.1 HBW.out.2.2 K2_0.out K3_0.out n23 (⟨0, false, 0, 0, [], 0, 0, 0, [], []⟩) (⟨none, 0, 0, none, 0, 0, none, 0, 0⟩) (⟨0, 0, ⟨0, 0, 0⟩, 0⟩) CZ.out PZ2.out PZ3.out)
  simp only [stCO] at EE
  exact bodyPost_ret (v := .tuple #[chV (⟨0, false, 0, 0, [], 0, 0, 0, [], []⟩) (⟨none, 0, 0, none, 0, 0, none, 0, 0⟩), outV (⟨0, 0, ⟨0, 0, 0⟩, 0⟩), .int .i64 1]) (by rw [res_cc1 Try.results23 _ (by rfl) (EE.out.1.load Try.underlying27 infC) (by rfl) (EE.out.2.1.load Try.underlying50 infO)]; rfl) rfl ⟨⟨none, 0, 0, none, 0, 0, none, 0, 0⟩, rfl, EE.out.2.2.1, EE.out.2.2.2⟩
set_option maxRecDepth 100000 in
set_option maxHeartbeats 4000000 in
theorem Recv_badm (c : Chn) (q : CAt) (x : Wt) (w : World) (h : Cha w c q) (hx : WtOk x) (hr : rightC c = true) (hmy : mayW x = false) :
    Calls Try.prog 23 #[chV c q, wV x] w (GotQ w zeroC zeroO 1) := by
  have HRC := Lib.hid (fun W (H : Cha W c q) => Right_c c q W H)
  rw [hr] at HRC
  have HMY := Lib.hid (fun W => cmay_any x W hx)
  rw [hmy] at HMY
  have AX := Lib.hid ((((below_alloc w (.cells (chC c q) 27)).alloc (by simp) (.cells #[.int .i64 x.g, .int .i64 x.c, .int .i64 x.s] 48)).alloc (by simp; omega) (.cells zero10 27)).alloc (by simp; omega) (.cells zero6 50))
  have K0 := Lib.hid ((((Bx.new w (chC c q) 27).below (below_alloc _ (.cells #[.int .i64 x.g, .int .i64 x.c, .int .i64 x.s] 48))).below (below_alloc _ (.cells zero10 27))).below (below_alloc _ (.cells zero6 50)))
  have K1 := Lib.hid (((box3_two w (.cells (chC c q) 27) x).below (below_alloc _ (.cells zero10 27))).below (below_alloc _ (.cells zero6 50)))
  have K2 := Lib.hid ((Bx.new3 w (.cells (chC c q) 27) (.cells #[.int .i64 x.g, .int .i64 x.c, .int .i64 x.s] 48) zero10 27).below (below_alloc _ (.cells zero6 50)))
  have K3 := Lib.hid (Bx.new4 w (.cells (chC c q) 27) (.cells #[.int .i64 x.g, .int .i64 x.c, .int .i64 x.s] 48) (.cells zero10 27) zero6 50)
  have HX0 := Lib.hid (h.below AX.out)
  go_enter Try.func23, Try.ntmps23
  go_wp2_with fail
  obtain ⟨X, hX⟩ : ∃ X, X = (((w.alloc (.cells (chC c q) 27)).alloc (.cells #[.int .i64 x.g, .int .i64 x.c, .int .i64 x.s] 48)).alloc (.cells zero10 27)).alloc (.cells zero6 50) := ⟨_, rfl⟩
  rw [← hX] at AX K0 K1 K2 K3 HX0 ⊢
  try rw [show w.heap.size + 1 + 1 + 1 = w.heap.size + 3 from rfl]
  try rw [show w.heap.size + 1 + 1 = w.heap.size + 2 from rfl]
  obtain ⟨b3, h3⟩ : ∃ b, b = w.heap.size + 3 := ⟨_, rfl⟩
  obtain ⟨b2, h2⟩ : ∃ b, b = w.heap.size + 2 := ⟨_, rfl⟩
  obtain ⟨b1, hb1⟩ : ∃ b, b = w.heap.size + 1 := ⟨_, rfl⟩
  obtain ⟨b0, h0⟩ : ∃ b, b = w.heap.size := ⟨_, rfl⟩
  have HBW := Lib.hid (show w.heap.size ≤ b0 ∧ w.heap.size ≤ b2 ∧ w.heap.size ≤ b3 by omega)
  have AP0 := Lib.hid (show Ap q b0 from h.ap (by omega)); have AP2 := Lib.hid (show Ap q b2 from h.ap (by omega)); have AP3 := Lib.hid (show Ap q b3 from h.ap (by omega))
  rw [← h3] at K3 ⊢
  rw [← h2] at K2 ⊢
  rw [← hb1] at K1 ⊢
  rw [← h0] at K0 ⊢
  have n01 : b0 ≠ b1 := by omega
  have n02 : b0 ≠ b2 := by omega
  have n03 : b0 ≠ b3 := by omega
  have n20 : b2 ≠ b0 := by omega
  have n30 : b3 ≠ b0 := by omega
  have n10 : b1 ≠ b0 := by omega
  have n12 : b1 ≠ b2 := by omega
  have n13 : b1 ≠ b3 := by omega
  have n23 : b2 ≠ b3 := by omega
  have n32 : b3 ≠ b2 := by omega
  clear hX h3 h2 hb1 h0 h
  clear hr
  refine (HRC.out _ HX0.out).mono ?_
  rintro e W0 ⟨rfl, hb⟩
  have A_0 := Lib.hid (AX.out.trans (Below.mono hb AX.out.size)); have K1_0 := Lib.hid (show Box3 W0 b1 x from Bx.below (show Bx X b1 _ 48 from K1.out) hb); have K2_0 := Lib.hid (K2.out.below hb); have K3_0 := Lib.hid (K3.out.below hb)
  clear hb AX K0 K1 K2 K3 HX0
  clear hmy
  obtain ⟨y0, y1, y2⟩ := K1_0.out.cells
  go_wp2_with fail
  refine (HMY.out _).mono ?_
  rintro e W1 ⟨rfl, hb⟩
  have A_1 := Lib.hid (A_0.out.trans (Below.mono hb A_0.out.size)); have K2_1 := Lib.hid (K2_0.out.below hb); have K3_1 := Lib.hid (K3_0.out.below hb)
  clear hb A_0 K1_0 K2_0 K3_0 y0 y1 y2
  obtain ⟨u0, u1, u2, u3, u4, u5, u6, u7, u8, u9⟩ := Bx.cells10 K2_1.out
  obtain ⟨v0, v1, v2, v3, v4, v5⟩ := Bx.cells6 K3_1.out
  have l2 := Bx.lt K2_1.out; have l3 := Bx.lt K3_1.out; have f0 := Bx.froz K2_1.out 0; have f1 := Bx.froz K2_1.out 1; have f2 := Bx.froz K2_1.out 2; have f3 := Bx.froz K2_1.out 3; have f4 := Bx.froz K2_1.out 4; have f5 := Bx.froz K2_1.out 5; have f6 := Bx.froz K2_1.out 6; have f7 := Bx.froz K2_1.out 7; have f8 := Bx.froz K2_1.out 8; have f9 := Bx.froz K2_1.out 9; have g0 := Bx.froz K3_1.out 0; have g1 := Bx.froz K3_1.out 1; have g2 := Bx.froz K3_1.out 2; have g3 := Bx.froz K3_1.out 3; have g4 := Bx.froz K3_1.out 4; have g5 := Bx.froz K3_1.out 5
  have CZ := Lib.hid (Cha.zero W1)
  have PZ2 := Lib.hid (show Ap zeroA b2 from ⟨(fun y h => by cases h), (fun y h => by cases h), (fun y h => by cases h)⟩)
  have PZ3 := Lib.hid (show Ap zeroA b3 from ⟨(fun y h => by cases h), (fun y h => by cases h), (fun y h => by cases h)⟩)
  simp only [zeroC, zeroA] at CZ PZ2 PZ3
  go_wp2_with fail
  have EE := Lib.hid (endQ A_1.out HBW.out.2.1 HBW.out.2.2 K2_1.out K3_1.out n23 (⟨0, false, 0, 0, [], 0, 0, 0, [], []⟩) (⟨none, 0, 0, none, 0, 0, none, 0, 0⟩) (⟨0, 0, ⟨0, 0, 0⟩, 0⟩) CZ.out PZ2.out PZ3.out)
  simp only [stCO] at EE
  exact bodyPost_ret (v := .tuple #[chV (⟨0, false, 0, 0, [], 0, 0, 0, [], []⟩) (⟨none, 0, 0, none, 0, 0, none, 0, 0⟩), outV (⟨0, 0, ⟨0, 0, 0⟩, 0⟩), .int .i64 1]) (by rw [res_cc1 Try.results23 _ (by rfl) (EE.out.1.load Try.underlying27 infC) (by rfl) (EE.out.2.1.load Try.underlying50 infO)]; rfl) rfl ⟨⟨none, 0, 0, none, 0, 0, none, 0, 0⟩, rfl, EE.out.2.2.1, EE.out.2.2.2⟩
end Go.Proofs.Ytfolhgpbplfilaa
