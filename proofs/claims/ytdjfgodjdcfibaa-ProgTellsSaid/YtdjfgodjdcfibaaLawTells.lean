/- ProgTells: the walk. -/
import Derived.Test.YtdjfgodjdcfibaaLawCounts
import Derived.Test.YtdjfgodjdcfibaaP7
import Derived.Test.YtdjfgodjdcfibaaR3
namespace Go.Proofs.Ytdjfgodjdcfibaa
open Go.RowKit
set_option maxRecDepth 100000 in
set_option maxHeartbeats 8000000 in
theorem Count_word (p : Pr) (q : PAt) (op : Int) (w : World) (h : Prg w p q) (hr : rightP p = true) (h0 : op < 0 ∨ 14 ≤ op) :
    Calls Try.prog 8 #[prV p q, .int .i64 op] w (Says2 w 0 11) := by
  have B_0 := Lib.hid (below_alloc w (.cells (prC p q) 26))
  have HR := Lib.hid (Right_any p q _ (h.below B_0.out))
  rw [hr] at HR
  clear h hr
  go_enter Try.func8, Try.ntmps8
  go_wp2_with fail
  refine HR.out.mono ?_
  rintro e w1 ⟨rfl, hb⟩
  have B_1 := Lib.hid (B_0.out.trans (Below.mono hb B_0.out.size))
  clear hb
  rcases h0 with h0 | h0
  all_goals
    go_wp2_with fail
    go_ret2
    exact ⟨rfl, B_1.out⟩
set_option maxRecDepth 100000 in
set_option maxHeartbeats 8000000 in
theorem tells_bad (p0 : Pr) (q0 : PAt) (op : Int) (w : World) (h : Prg w p0 q0) (hr : rightP (fewP p0) = false) : Calls Try.prog 3 #[prV p0 q0, .int .i64 op] w (Says w) := by
  have B_0 := Lib.hid (below_alloc w (.cells (prC p0 q0) 26))
  have K_0 := Lib.hid (Bx.new w (prC p0 q0) 26)
  have HF := Lib.hid (few_any p0 q0 w _ h B_0.out)
  obtain ⟨p, hpe⟩ : ∃ p, p = fewP p0 := ⟨_, rfl⟩
  rw [← hpe] at HF hr
  unfold GotP at HF
  clear h hpe
  have HRT := Lib.hid hr
  go_enter Try.func3, Try.ntmps3
  go_wp2_with fail
  refine HF.out.mono ?_
  rintro e w1 ⟨q, rfl, hp, hb⟩
  have K_1 := Lib.hid (K_0.out.below hb); have B_1 := Lib.hid (B_0.out.trans (Below.mono hb B_0.out.size)); have HP := Lib.hid hp
  clear hb hp
  obtain ⟨BK, hBK⟩ : ∃ x, x = w.heap.size := ⟨_, rfl⟩
  have HBK := Lib.hid hBK
  rw [← hBK] at K_1 ⊢
  clear hBK
  obtain ⟨k0, k1, k2, k3, k4, k5⟩ := K_1.out.cells6
  have lk := K_1.out.lt
  have f0 := K_1.out.froz 0; have f1 := K_1.out.froz 1; have f2 := K_1.out.froz 2; have f3 := K_1.out.froz 3; have f4 := K_1.out.froz 4; have f5 := K_1.out.froz 5
  go_wp2_with fail
  obtain ⟨X2, hX2⟩ : ∃ x, x = set6 w1 BK (.slice q.ca q.cn q.cc) (.int .i64 p.mu) (.int .i64 p.on) (.int .i64 p.va) (.slice q.sa q.sn q.sc) (.slice q.ba q.bn q.bc) := ⟨_, rfl⟩
  have B_2 := Lib.hid (show Below w.heap.size w X2 by rw [hX2]; exact set6_below B_1.out (by have := HBK.out; omega) _ _ _ _ _ _)
  have K_2 := Lib.hid (show Bx X2 BK (prC p q) 26 by rw [hX2]; exact set6_at K_1.out _ _ _ _ _ _)
  have P_2 := Lib.hid (HP.out X2 B_2.out (fun g hg => by rw [hX2]; exact set6_other _ _ _ _ _ _ _ _ g (by have := HBK.out; simp at hg; omega)))
  unfold set6 at hX2
  rw [← hX2]
  clear hX2 k0 k1 k2 k3 k4 k5 lk f0 f1 f2 f3 f4 f5
  have HZ := Lib.hid (show ((wrongZ p).2.2 == 0) = false from hr)
  have HW1 := Lib.hid (fun W (H : Prg W p q) => Wrong_any p q W H)
  have HW2 := Lib.hid (fun W (H : Prg W p q) => refWrong_any p q W H)
  unfold Says4 at HW1 HW2
  obtain ⟨zb, hzb⟩ : ∃ z, z = (wrongZ p).1 := ⟨_, rfl⟩
  obtain ⟨zk, hzk⟩ : ∃ z, z = (wrongZ p).2.1 := ⟨_, rfl⟩
  obtain ⟨ze, hze⟩ : ∃ z, z = (wrongZ p).2.2 := ⟨_, rfl⟩
  rw [← hzb, ← hzk, ← hze] at HW1 HW2
  rw [← hze] at HZ
  clear hzb hzk hze hr
  have hze : (ze == 0) = false := HZ.out
  have hz0 : ¬ ze = 0 := by simpa using HZ.out
  have HZ0 := Lib.hid hz0; have HZE := Lib.hid hze
  clear hz0 hze HZ
  refine (HW1.out _ P_2.out).mono ?_
  rintro e w3 ⟨rfl, hb⟩
  have K_3 := Lib.hid (K_2.out.below hb); have P_3 := Lib.hid (P_2.out.below hb); have B_3 := Lib.hid (B_2.out.trans (Below.mono hb B_2.out.size))
  clear hb
  obtain ⟨k0, k1, k2, k3, k4, k5⟩ := K_3.out.cells6
  go_wp2_with fail
  clear k0 k1 k2 k3 k4 k5
  refine (Reach_arg p q _ P_3.out HRT.out).mono ?_
  rintro e w4 ⟨rfl, hb⟩
  have K_4 := Lib.hid (K_3.out.below hb); have P_4 := Lib.hid (P_3.out.below hb); have B_4 := Lib.hid (B_3.out.trans (Below.mono hb B_3.out.size))
  clear hb
  have HCn := Lib.hid (fun W (H : Prg W p q) => Count_arg p q op W H HRT.out)
  unfold Says2 at HCn
  obtain ⟨k0, k1, k2, k3, k4, k5⟩ := K_4.out.cells6
  go_wp2_with fail
  clear k0 k1 k2 k3 k4 k5
  refine (HCn.out _ P_4.out).mono ?_
  rintro e w5 ⟨rfl, hb⟩
  have K_5 := Lib.hid (K_4.out.below hb); have P_5 := Lib.hid (P_4.out.below hb); have B_5 := Lib.hid (B_4.out.trans (Below.mono hb B_4.out.size))
  clear hb
  obtain ⟨k0, k1, k2, k3, k4, k5⟩ := K_5.out.cells6
  go_wp2_with fail
  clear k0 k1 k2 k3 k4 k5
  refine (HW2.out _ P_5.out).mono ?_
  rintro e w6 ⟨rfl, hb⟩
  have K_6 := Lib.hid (K_5.out.below hb); have P_6 := Lib.hid (P_5.out.below hb); have B_6 := Lib.hid (B_5.out.trans (Below.mono hb B_5.out.size))
  clear hb
  have hze := HZE.out
  have HR := Lib.hid (Right_any p q _ P_6.out)
  rw [HRT.out] at HR
  obtain ⟨k0, k1, k2, k3, k4, k5⟩ := K_6.out.cells6
  go_wp2_with fail
  clear k0 k1 k2 k3 k4 k5
  refine (HR.out).mono ?_
  rintro e w7 ⟨rfl, hb⟩
  have K_7 := Lib.hid (K_6.out.below hb); have P_7 := Lib.hid (P_6.out.below hb); have B_7 := Lib.hid (B_6.out.trans (Below.mono hb B_6.out.size))
  clear hb
  go_wp2_with fail
  refine (alive_any _).mono ?_
  rintro e w8 ⟨rfl, hb⟩
  have K_8 := Lib.hid (K_7.out.below hb); have P_8 := Lib.hid (P_7.out.below hb); have B_8 := Lib.hid (B_7.out.trans (Below.mono hb B_7.out.size))
  clear hb
  go_wp2_with fail
  go_ret
  exact ⟨rfl, B_8.out⟩
set_option maxRecDepth 100000 in
set_option maxHeartbeats 8000000 in
theorem tells_lo (p0 : Pr) (q0 : PAt) (op : Int) (w : World) (h : Prg w p0 q0) (hr : rightP (fewP p0) = true) (h0 : op < 0) : Calls Try.prog 3 #[prV p0 q0, .int .i64 op] w (Says w) := by
  have B_0 := Lib.hid (below_alloc w (.cells (prC p0 q0) 26))
  have K_0 := Lib.hid (Bx.new w (prC p0 q0) 26)
  have HF := Lib.hid (few_any p0 q0 w _ h B_0.out)
  obtain ⟨p, hpe⟩ : ∃ p, p = fewP p0 := ⟨_, rfl⟩
  rw [← hpe] at HF hr
  unfold GotP at HF
  clear h hpe
  have HRT := Lib.hid hr
  go_enter Try.func3, Try.ntmps3
  go_wp2_with fail
  refine HF.out.mono ?_
  rintro e w1 ⟨q, rfl, hp, hb⟩
  have K_1 := Lib.hid (K_0.out.below hb); have B_1 := Lib.hid (B_0.out.trans (Below.mono hb B_0.out.size)); have HP := Lib.hid hp
  clear hb hp
  obtain ⟨BK, hBK⟩ : ∃ x, x = w.heap.size := ⟨_, rfl⟩
  have HBK := Lib.hid hBK
  rw [← hBK] at K_1 ⊢
  clear hBK
  obtain ⟨k0, k1, k2, k3, k4, k5⟩ := K_1.out.cells6
  have lk := K_1.out.lt
  have f0 := K_1.out.froz 0; have f1 := K_1.out.froz 1; have f2 := K_1.out.froz 2; have f3 := K_1.out.froz 3; have f4 := K_1.out.froz 4; have f5 := K_1.out.froz 5
  go_wp2_with fail
  obtain ⟨X2, hX2⟩ : ∃ x, x = set6 w1 BK (.slice q.ca q.cn q.cc) (.int .i64 p.mu) (.int .i64 p.on) (.int .i64 p.va) (.slice q.sa q.sn q.sc) (.slice q.ba q.bn q.bc) := ⟨_, rfl⟩
  have B_2 := Lib.hid (show Below w.heap.size w X2 by rw [hX2]; exact set6_below B_1.out (by have := HBK.out; omega) _ _ _ _ _ _)
  have K_2 := Lib.hid (show Bx X2 BK (prC p q) 26 by rw [hX2]; exact set6_at K_1.out _ _ _ _ _ _)
  have P_2 := Lib.hid (HP.out X2 B_2.out (fun g hg => by rw [hX2]; exact set6_other _ _ _ _ _ _ _ _ g (by have := HBK.out; simp at hg; omega)))
  unfold set6 at hX2
  rw [← hX2]
  clear hX2 k0 k1 k2 k3 k4 k5 lk f0 f1 f2 f3 f4 f5
  have HZ := Lib.hid (show ((wrongZ p).2.2 == 0) = true from hr)
  have HW1 := Lib.hid (fun W (H : Prg W p q) => Wrong_any p q W H)
  have HW2 := Lib.hid (fun W (H : Prg W p q) => refWrong_any p q W H)
  unfold Says4 at HW1 HW2
  obtain ⟨zb, hzb⟩ : ∃ z, z = (wrongZ p).1 := ⟨_, rfl⟩
  obtain ⟨zk, hzk⟩ : ∃ z, z = (wrongZ p).2.1 := ⟨_, rfl⟩
  obtain ⟨ze, hze⟩ : ∃ z, z = (wrongZ p).2.2 := ⟨_, rfl⟩
  rw [← hzb, ← hzk, ← hze] at HW1 HW2
  rw [← hze] at HZ
  clear hzb hzk hze hr
  have hz0 : ze = 0 := by simpa using HZ.out
  subst hz0
  clear HZ
  refine (HW1.out _ P_2.out).mono ?_
  rintro e w3 ⟨rfl, hb⟩
  have K_3 := Lib.hid (K_2.out.below hb); have P_3 := Lib.hid (P_2.out.below hb); have B_3 := Lib.hid (B_2.out.trans (Below.mono hb B_2.out.size))
  clear hb
  obtain ⟨k0, k1, k2, k3, k4, k5⟩ := K_3.out.cells6
  go_wp2_with fail
  clear k0 k1 k2 k3 k4 k5
  refine (Reach_go p q _ P_3.out HRT.out).mono ?_
  rintro e w4 ⟨ra, rn, rc, rfl, hi, hb⟩
  have K_4 := Lib.hid (K_3.out.below hb); have P_4 := Lib.hid (P_3.out.below hb); have B_4 := Lib.hid (B_3.out.trans (Below.mono hb B_3.out.size))
  have I_4 := Lib.hid hi
  clear hi
  clear hb
  have HCn := Lib.hid (fun W (H : Prg W p q) => Count_word p q op W H HRT.out (.inl h0))
  unfold Says2 at HCn
  obtain ⟨k0, k1, k2, k3, k4, k5⟩ := K_4.out.cells6
  go_wp2_with fail
  clear k0 k1 k2 k3 k4 k5
  refine (HCn.out _ P_4.out).mono ?_
  rintro e w5 ⟨rfl, hb⟩
  have K_5 := Lib.hid (K_4.out.below hb); have P_5 := Lib.hid (P_4.out.below hb); have B_5 := Lib.hid (B_4.out.trans (Below.mono hb B_4.out.size))
  have I_5 := Lib.hid (I_4.out.below hb)
  clear hb
  obtain ⟨k0, k1, k2, k3, k4, k5⟩ := K_5.out.cells6
  go_wp2_with fail
  clear k0 k1 k2 k3 k4 k5
  refine (HW2.out _ P_5.out).mono ?_
  rintro e w6 ⟨rfl, hb⟩
  have K_6 := Lib.hid (K_5.out.below hb); have P_6 := Lib.hid (P_5.out.below hb); have B_6 := Lib.hid (B_5.out.trans (Below.mono hb B_5.out.size))
  have I_6 := Lib.hid (I_5.out.below hb)
  clear hb
  have HR := Lib.hid (Right_any p q _ P_6.out)
  rw [HRT.out] at HR
  obtain ⟨k0, k1, k2, k3, k4, k5⟩ := K_6.out.cells6
  go_wp2_with fail
  clear k0 k1 k2 k3 k4 k5
  refine (HR.out).mono ?_
  rintro e w7 ⟨rfl, hb⟩
  have K_7 := Lib.hid (K_6.out.below hb); have P_7 := Lib.hid (P_6.out.below hb); have B_7 := Lib.hid (B_6.out.trans (Below.mono hb B_6.out.size))
  have I_7 := Lib.hid (I_6.out.below hb)
  clear hb
  go_wp2_with fail
  refine (alive_any _).mono ?_
  rintro e w8 ⟨rfl, hb⟩
  have K_8 := Lib.hid (K_7.out.below hb); have P_8 := Lib.hid (P_7.out.below hb); have B_8 := Lib.hid (B_7.out.trans (Below.mono hb B_7.out.size))
  have I_8 := Lib.hid (I_7.out.below hb)
  clear hb
  obtain ⟨k0, k1, k2, k3, k4, k5⟩ := K_8.out.cells6
  go_wp2_with fail
  clear k0 k1 k2 k3 k4 k5
  refine (refReach_any p q _ P_8.out HRT.out).mono ?_
  rintro e w9 ⟨ra2, rn2, rc2, rfl, hi, hb⟩
  have K_9 := Lib.hid (K_8.out.below hb); have P_9 := Lib.hid (P_8.out.below hb); have B_9 := Lib.hid (B_8.out.trans (Below.mono hb B_8.out.size))
  have I_9 := Lib.hid (I_8.out.below hb)
  have J_9 := Lib.hid hi
  clear hi
  clear hb
  have HRO := Lib.hid (rows_any _ _ _ _ _ _ _ _ _ I_9.out J_9.out)
  rw [decide_eq_true rfl] at HRO
  go_wp2_with fail
  refine (HRO.out).mono ?_
  rintro e w10 ⟨rfl, hb⟩
  have K_10 := Lib.hid (K_9.out.below hb); have P_10 := Lib.hid (P_9.out.below hb); have B_10 := Lib.hid (B_9.out.trans (Below.mono hb B_9.out.size))
  clear hb
  go_wp2_with fail
  go_ret
  exact ⟨rfl, B_10.out⟩
set_option maxRecDepth 100000 in
set_option maxHeartbeats 8000000 in
theorem tells_hi (p0 : Pr) (q0 : PAt) (op : Int) (w : World) (h : Prg w p0 q0) (hr : rightP (fewP p0) = true) (h0 : 14 ≤ op) : Calls Try.prog 3 #[prV p0 q0, .int .i64 op] w (Says w) := by
  have B_0 := Lib.hid (below_alloc w (.cells (prC p0 q0) 26))
  have K_0 := Lib.hid (Bx.new w (prC p0 q0) 26)
  have HF := Lib.hid (few_any p0 q0 w _ h B_0.out)
  obtain ⟨p, hpe⟩ : ∃ p, p = fewP p0 := ⟨_, rfl⟩
  rw [← hpe] at HF hr
  unfold GotP at HF
  clear h hpe
  have HRT := Lib.hid hr
  go_enter Try.func3, Try.ntmps3
  go_wp2_with fail
  refine HF.out.mono ?_
  rintro e w1 ⟨q, rfl, hp, hb⟩
  have K_1 := Lib.hid (K_0.out.below hb); have B_1 := Lib.hid (B_0.out.trans (Below.mono hb B_0.out.size)); have HP := Lib.hid hp
  clear hb hp
  obtain ⟨BK, hBK⟩ : ∃ x, x = w.heap.size := ⟨_, rfl⟩
  have HBK := Lib.hid hBK
  rw [← hBK] at K_1 ⊢
  clear hBK
  obtain ⟨k0, k1, k2, k3, k4, k5⟩ := K_1.out.cells6
  have lk := K_1.out.lt
  have f0 := K_1.out.froz 0; have f1 := K_1.out.froz 1; have f2 := K_1.out.froz 2; have f3 := K_1.out.froz 3; have f4 := K_1.out.froz 4; have f5 := K_1.out.froz 5
  go_wp2_with fail
  obtain ⟨X2, hX2⟩ : ∃ x, x = set6 w1 BK (.slice q.ca q.cn q.cc) (.int .i64 p.mu) (.int .i64 p.on) (.int .i64 p.va) (.slice q.sa q.sn q.sc) (.slice q.ba q.bn q.bc) := ⟨_, rfl⟩
  have B_2 := Lib.hid (show Below w.heap.size w X2 by rw [hX2]; exact set6_below B_1.out (by have := HBK.out; omega) _ _ _ _ _ _)
  have K_2 := Lib.hid (show Bx X2 BK (prC p q) 26 by rw [hX2]; exact set6_at K_1.out _ _ _ _ _ _)
  have P_2 := Lib.hid (HP.out X2 B_2.out (fun g hg => by rw [hX2]; exact set6_other _ _ _ _ _ _ _ _ g (by have := HBK.out; simp at hg; omega)))
  unfold set6 at hX2
  rw [← hX2]
  clear hX2 k0 k1 k2 k3 k4 k5 lk f0 f1 f2 f3 f4 f5
  have HZ := Lib.hid (show ((wrongZ p).2.2 == 0) = true from hr)
  have HW1 := Lib.hid (fun W (H : Prg W p q) => Wrong_any p q W H)
  have HW2 := Lib.hid (fun W (H : Prg W p q) => refWrong_any p q W H)
  unfold Says4 at HW1 HW2
  obtain ⟨zb, hzb⟩ : ∃ z, z = (wrongZ p).1 := ⟨_, rfl⟩
  obtain ⟨zk, hzk⟩ : ∃ z, z = (wrongZ p).2.1 := ⟨_, rfl⟩
  obtain ⟨ze, hze⟩ : ∃ z, z = (wrongZ p).2.2 := ⟨_, rfl⟩
  rw [← hzb, ← hzk, ← hze] at HW1 HW2
  rw [← hze] at HZ
  clear hzb hzk hze hr
  have hz0 : ze = 0 := by simpa using HZ.out
  subst hz0
  clear HZ
  refine (HW1.out _ P_2.out).mono ?_
  rintro e w3 ⟨rfl, hb⟩
  have K_3 := Lib.hid (K_2.out.below hb); have P_3 := Lib.hid (P_2.out.below hb); have B_3 := Lib.hid (B_2.out.trans (Below.mono hb B_2.out.size))
  clear hb
  obtain ⟨k0, k1, k2, k3, k4, k5⟩ := K_3.out.cells6
  go_wp2_with fail
  clear k0 k1 k2 k3 k4 k5
  refine (Reach_go p q _ P_3.out HRT.out).mono ?_
  rintro e w4 ⟨ra, rn, rc, rfl, hi, hb⟩
  have K_4 := Lib.hid (K_3.out.below hb); have P_4 := Lib.hid (P_3.out.below hb); have B_4 := Lib.hid (B_3.out.trans (Below.mono hb B_3.out.size))
  have I_4 := Lib.hid hi
  clear hi
  clear hb
  have HCn := Lib.hid (fun W (H : Prg W p q) => Count_word p q op W H HRT.out (.inr h0))
  unfold Says2 at HCn
  obtain ⟨k0, k1, k2, k3, k4, k5⟩ := K_4.out.cells6
  go_wp2_with fail
  clear k0 k1 k2 k3 k4 k5
  refine (HCn.out _ P_4.out).mono ?_
  rintro e w5 ⟨rfl, hb⟩
  have K_5 := Lib.hid (K_4.out.below hb); have P_5 := Lib.hid (P_4.out.below hb); have B_5 := Lib.hid (B_4.out.trans (Below.mono hb B_4.out.size))
  have I_5 := Lib.hid (I_4.out.below hb)
  clear hb
  obtain ⟨k0, k1, k2, k3, k4, k5⟩ := K_5.out.cells6
  go_wp2_with fail
  clear k0 k1 k2 k3 k4 k5
  refine (HW2.out _ P_5.out).mono ?_
  rintro e w6 ⟨rfl, hb⟩
  have K_6 := Lib.hid (K_5.out.below hb); have P_6 := Lib.hid (P_5.out.below hb); have B_6 := Lib.hid (B_5.out.trans (Below.mono hb B_5.out.size))
  have I_6 := Lib.hid (I_5.out.below hb)
  clear hb
  have HR := Lib.hid (Right_any p q _ P_6.out)
  rw [HRT.out] at HR
  obtain ⟨k0, k1, k2, k3, k4, k5⟩ := K_6.out.cells6
  go_wp2_with fail
  clear k0 k1 k2 k3 k4 k5
  refine (HR.out).mono ?_
  rintro e w7 ⟨rfl, hb⟩
  have K_7 := Lib.hid (K_6.out.below hb); have P_7 := Lib.hid (P_6.out.below hb); have B_7 := Lib.hid (B_6.out.trans (Below.mono hb B_6.out.size))
  have I_7 := Lib.hid (I_6.out.below hb)
  clear hb
  go_wp2_with fail
  refine (alive_any _).mono ?_
  rintro e w8 ⟨rfl, hb⟩
  have K_8 := Lib.hid (K_7.out.below hb); have P_8 := Lib.hid (P_7.out.below hb); have B_8 := Lib.hid (B_7.out.trans (Below.mono hb B_7.out.size))
  have I_8 := Lib.hid (I_7.out.below hb)
  clear hb
  obtain ⟨k0, k1, k2, k3, k4, k5⟩ := K_8.out.cells6
  go_wp2_with fail
  clear k0 k1 k2 k3 k4 k5
  refine (refReach_any p q _ P_8.out HRT.out).mono ?_
  rintro e w9 ⟨ra2, rn2, rc2, rfl, hi, hb⟩
  have K_9 := Lib.hid (K_8.out.below hb); have P_9 := Lib.hid (P_8.out.below hb); have B_9 := Lib.hid (B_8.out.trans (Below.mono hb B_8.out.size))
  have I_9 := Lib.hid (I_8.out.below hb)
  have J_9 := Lib.hid hi
  clear hi
  clear hb
  have HRO := Lib.hid (rows_any _ _ _ _ _ _ _ _ _ I_9.out J_9.out)
  rw [decide_eq_true rfl] at HRO
  go_wp2_with fail
  refine (HRO.out).mono ?_
  rintro e w10 ⟨rfl, hb⟩
  have K_10 := Lib.hid (K_9.out.below hb); have P_10 := Lib.hid (P_9.out.below hb); have B_10 := Lib.hid (B_9.out.trans (Below.mono hb B_9.out.size))
  clear hb
  go_wp2_with fail
  go_ret
  exact ⟨rfl, B_10.out⟩
set_option maxRecDepth 100000 in
set_option maxHeartbeats 8000000 in
theorem tells_ok (p0 : Pr) (q0 : PAt) (op : Int) (w : World) (h : Prg w p0 q0) (hr : rightP (fewP p0) = true) (h0 : 0 ≤ op) (h1 : op < 14) : Calls Try.prog 3 #[prV p0 q0, .int .i64 op] w (Says w) := by
  have B_0 := Lib.hid (below_alloc w (.cells (prC p0 q0) 26))
  have K_0 := Lib.hid (Bx.new w (prC p0 q0) 26)
  have HF := Lib.hid (few_any p0 q0 w _ h B_0.out)
  obtain ⟨p, hpe⟩ : ∃ p, p = fewP p0 := ⟨_, rfl⟩
  rw [← hpe] at HF hr
  unfold GotP at HF
  clear h hpe
  have HRT := Lib.hid hr
  go_enter Try.func3, Try.ntmps3
  go_wp2_with fail
  refine HF.out.mono ?_
  rintro e w1 ⟨q, rfl, hp, hb⟩
  have K_1 := Lib.hid (K_0.out.below hb); have B_1 := Lib.hid (B_0.out.trans (Below.mono hb B_0.out.size)); have HP := Lib.hid hp
  clear hb hp
  obtain ⟨BK, hBK⟩ : ∃ x, x = w.heap.size := ⟨_, rfl⟩
  have HBK := Lib.hid hBK
  rw [← hBK] at K_1 ⊢
  clear hBK
  obtain ⟨k0, k1, k2, k3, k4, k5⟩ := K_1.out.cells6
  have lk := K_1.out.lt
  have f0 := K_1.out.froz 0; have f1 := K_1.out.froz 1; have f2 := K_1.out.froz 2; have f3 := K_1.out.froz 3; have f4 := K_1.out.froz 4; have f5 := K_1.out.froz 5
  go_wp2_with fail
  obtain ⟨X2, hX2⟩ : ∃ x, x = set6 w1 BK (.slice q.ca q.cn q.cc) (.int .i64 p.mu) (.int .i64 p.on) (.int .i64 p.va) (.slice q.sa q.sn q.sc) (.slice q.ba q.bn q.bc) := ⟨_, rfl⟩
  have B_2 := Lib.hid (show Below w.heap.size w X2 by rw [hX2]; exact set6_below B_1.out (by have := HBK.out; omega) _ _ _ _ _ _)
  have K_2 := Lib.hid (show Bx X2 BK (prC p q) 26 by rw [hX2]; exact set6_at K_1.out _ _ _ _ _ _)
  have P_2 := Lib.hid (HP.out X2 B_2.out (fun g hg => by rw [hX2]; exact set6_other _ _ _ _ _ _ _ _ g (by have := HBK.out; simp at hg; omega)))
  unfold set6 at hX2
  rw [← hX2]
  clear hX2 k0 k1 k2 k3 k4 k5 lk f0 f1 f2 f3 f4 f5
  have HZ := Lib.hid (show ((wrongZ p).2.2 == 0) = true from hr)
  have HW1 := Lib.hid (fun W (H : Prg W p q) => Wrong_any p q W H)
  have HW2 := Lib.hid (fun W (H : Prg W p q) => refWrong_any p q W H)
  unfold Says4 at HW1 HW2
  obtain ⟨zb, hzb⟩ : ∃ z, z = (wrongZ p).1 := ⟨_, rfl⟩
  obtain ⟨zk, hzk⟩ : ∃ z, z = (wrongZ p).2.1 := ⟨_, rfl⟩
  obtain ⟨ze, hze⟩ : ∃ z, z = (wrongZ p).2.2 := ⟨_, rfl⟩
  rw [← hzb, ← hzk, ← hze] at HW1 HW2
  rw [← hze] at HZ
  clear hzb hzk hze hr
  have hz0 : ze = 0 := by simpa using HZ.out
  subst hz0
  clear HZ
  refine (HW1.out _ P_2.out).mono ?_
  rintro e w3 ⟨rfl, hb⟩
  have K_3 := Lib.hid (K_2.out.below hb); have P_3 := Lib.hid (P_2.out.below hb); have B_3 := Lib.hid (B_2.out.trans (Below.mono hb B_2.out.size))
  clear hb
  obtain ⟨k0, k1, k2, k3, k4, k5⟩ := K_3.out.cells6
  go_wp2_with fail
  clear k0 k1 k2 k3 k4 k5
  refine (Reach_go p q _ P_3.out HRT.out).mono ?_
  rintro e w4 ⟨ra, rn, rc, rfl, hi, hb⟩
  have K_4 := Lib.hid (K_3.out.below hb); have P_4 := Lib.hid (P_3.out.below hb); have B_4 := Lib.hid (B_3.out.trans (Below.mono hb B_3.out.size))
  have I_4 := Lib.hid hi
  clear hi
  clear hb
  have HCn := Lib.hid (fun W (H : Prg W p q) => Count_go p q op W H HRT.out h0 h1)
  unfold Says2 at HCn
  obtain ⟨k0, k1, k2, k3, k4, k5⟩ := K_4.out.cells6
  go_wp2_with fail
  clear k0 k1 k2 k3 k4 k5
  refine (HCn.out _ P_4.out).mono ?_
  rintro e w5 ⟨rfl, hb⟩
  have K_5 := Lib.hid (K_4.out.below hb); have P_5 := Lib.hid (P_4.out.below hb); have B_5 := Lib.hid (B_4.out.trans (Below.mono hb B_4.out.size))
  have I_5 := Lib.hid (I_4.out.below hb)
  clear hb
  obtain ⟨k0, k1, k2, k3, k4, k5⟩ := K_5.out.cells6
  go_wp2_with fail
  clear k0 k1 k2 k3 k4 k5
  refine (HW2.out _ P_5.out).mono ?_
  rintro e w6 ⟨rfl, hb⟩
  have K_6 := Lib.hid (K_5.out.below hb); have P_6 := Lib.hid (P_5.out.below hb); have B_6 := Lib.hid (B_5.out.trans (Below.mono hb B_5.out.size))
  have I_6 := Lib.hid (I_5.out.below hb)
  clear hb
  have HR := Lib.hid (Right_any p q _ P_6.out)
  rw [HRT.out] at HR
  have HRC := Lib.hid (fun W (H : Prg W p q) => refCount_go p q op W H HRT.out)
  unfold Says3 at HRC
  obtain ⟨c0, hc0⟩ : ∃ c, c = (cntB p.blks op : Int) := ⟨_, rfl⟩
  rw [← hc0] at HRC ⊢
  clear hc0
  obtain ⟨k0, k1, k2, k3, k4, k5⟩ := K_6.out.cells6
  go_wp2_with fail
  clear k0 k1 k2 k3 k4 k5
  refine (HR.out).mono ?_
  rintro e w7 ⟨rfl, hb⟩
  have K_7 := Lib.hid (K_6.out.below hb); have P_7 := Lib.hid (P_6.out.below hb); have B_7 := Lib.hid (B_6.out.trans (Below.mono hb B_6.out.size))
  have I_7 := Lib.hid (I_6.out.below hb)
  clear hb
  go_wp2_with fail
  refine (alive_any _).mono ?_
  rintro e w8 ⟨rfl, hb⟩
  have K_8 := Lib.hid (K_7.out.below hb); have P_8 := Lib.hid (P_7.out.below hb); have B_8 := Lib.hid (B_7.out.trans (Below.mono hb B_7.out.size))
  have I_8 := Lib.hid (I_7.out.below hb)
  clear hb
  obtain ⟨k0, k1, k2, k3, k4, k5⟩ := K_8.out.cells6
  go_wp2_with fail
  clear k0 k1 k2 k3 k4 k5
  refine (refReach_any p q _ P_8.out HRT.out).mono ?_
  rintro e w9 ⟨ra2, rn2, rc2, rfl, hi, hb⟩
  have K_9 := Lib.hid (K_8.out.below hb); have P_9 := Lib.hid (P_8.out.below hb); have B_9 := Lib.hid (B_8.out.trans (Below.mono hb B_8.out.size))
  have I_9 := Lib.hid (I_8.out.below hb)
  have J_9 := Lib.hid hi
  clear hi
  clear hb
  have HRO := Lib.hid (rows_any _ _ _ _ _ _ _ _ _ I_9.out J_9.out)
  rw [decide_eq_true rfl] at HRO
  go_wp2_with fail
  refine (HRO.out).mono ?_
  rintro e w10 ⟨rfl, hb⟩
  have K_10 := Lib.hid (K_9.out.below hb); have P_10 := Lib.hid (P_9.out.below hb); have B_10 := Lib.hid (B_9.out.trans (Below.mono hb B_9.out.size))
  clear hb
  obtain ⟨k0, k1, k2, k3, k4, k5⟩ := K_10.out.cells6
  go_wp2_with fail
  clear k0 k1 k2 k3 k4 k5
  refine (HRC.out _ P_10.out).mono ?_
  rintro e w11 ⟨rfl, hb⟩
  have K_11 := Lib.hid (K_10.out.below hb); have P_11 := Lib.hid (P_10.out.below hb); have B_11 := Lib.hid (B_10.out.trans (Below.mono hb B_10.out.size))
  clear hb
  have hee : (c0 == c0) = true := by simp
  go_wp2_with fail
  go_ret
  exact ⟨rfl, B_11.out⟩
theorem tells_any (p0 : Pr) (q0 : PAt) (op : Int) (w : World) (h : Prg w p0 q0) (_ : I64 op) : Calls Try.prog 3 #[prV p0 q0, .int .i64 op] w (Says w) := by
  cases hr : rightP (fewP p0) with
  | false => exact tells_bad p0 q0 op w h hr
  | true =>
    by_cases h0 : op < 0
    · exact tells_lo p0 q0 op w h hr h0
    · by_cases h1 : op < 14
      · exact tells_ok p0 q0 op w h hr (by omega) h1
      · exact tells_hi p0 q0 op w h hr (by omega)
end Go.Proofs.Ytdjfgodjdcfibaa
