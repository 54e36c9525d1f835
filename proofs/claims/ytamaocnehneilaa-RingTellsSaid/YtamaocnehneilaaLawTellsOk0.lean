/- RingTells: the walk, where n is ok, 0. -/
import Derived.Test.YtamaocnehneilaaHelp
import Derived.Deep.DeepCutAuto
namespace Go.Proofs.Ytamaocnehneilaa
open Go.RowKit
set_option maxRecDepth 100000 in
set_option maxHeartbeats 8000000 in
theorem tells_ok_full_none (c first count : Nat) (a : Option Addr) (len cap : Nat) (zs : List Int) (n : Nat) (v : Int) (w : World) (hl2 : c = min len 12) (hI : Ints w a c cap zs) (hlc : len ≤ cap) (hc8 : c ≤ 8) (hf : first < max c 1) (hkc : count = c) (hk0 : count = 0) (hn : n ≤ 8) (hnc : count ≤ n) (hvI : I64 v) :
    Calls Try.prog 3 #[ringV c first (.slice a len cap) count, .int .i64 (n : Int), .int .i64 v] w (Says w) := by
  have hcm := hI.cap_le
  unfold maxLen at hcm
  have hFew := Lib.hid (fun W => few_any c first count a len cap W hlc (by omega))
  rw [← hl2] at hFew
  have hRi := Lib.hid (fun W => Right_any c first count a c cap W ⟨by omega, by omega⟩ ⟨by omega, by omega⟩ ⟨by omega, by omega⟩ (by omega))
  have hRr := Lib.hid (fun W => refRight_any c first count a c cap W ⟨by omega, by omega⟩ ⟨by omega, by omega⟩ ⟨by omega, by omega⟩ (by omega))
  rw [show rightZ c first c count = true by rw [rightZ, decide_eq_true_eq]; omega] at hRi hRr
  have HI := Lib.hid hI; clear hI
  have hEm := Lib.hid empty_zero
  have hIt := Lib.hid (fun W (h : Ints W a c cap zs) => Items_ok c first count a cap zs W h hc8 hf (by omega))
  have hRt := Lib.hid (fun W (h : Ints W a c cap zs) => refItems_ok c first count a cap zs W h hc8 hf (by omega))
  have HTL := Lib.hid (taken_len c first count zs)
  have HTB := Lib.hid (taken_i64 (c := c) (first := first) (count := count) HI.out.bound)
  have hNe := Lib.hid (fun W => New_ok n W hn)
  unfold GotRing at hNe
  have hn8 : (n : Int) ≤ 8 := by omega
  have hGr := Lib.hid (fun W (h : Ints W a c cap zs) => Grow_ok c first count n a cap zs W h hc8 hf (by omega) hnc hn)
  unfold GotRing at hGr
  have hnc1 : (count : Int) ≤ (n : Int) := by omega
  have hPu := Lib.hid (fun W => Push_full' c first count a cap v W hc8 hf hkc)
  unfold NoRing at hPu
  have hbf : ((count : Int) == (c : Int)) = true := by rw [beq_iff_eq]; omega
  have hPo := Lib.hid (fun W => Pop_none' c first count a cap W hc8 hf hk0)
  unfold NoPop at hPo
  have hbn : ((count : Int) == 0) = true := by rw [beq_iff_eq]; omega
  have HK0 := Lib.hid hk0; have HKC := Lib.hid hkc
  have hkcl : count ≤ c := by omega
  clear hk0 hl2 hkc
  have hvI2 := hvI
  unfold I64 at hvI2
  obtain ⟨T, hT⟩ : ∃ T, T = takenL c first count zs := ⟨_, rfl⟩
  rw [← hT] at hIt hRt HTL HTB
  have HT := Lib.hid hT
  clear hT
  unfold GotItems at hIt
  unfold GotInts at hRt
  have hcc : ((c : Int) != (c : Int)) = false := by simp
  unfold ringV at *
  go_enter Try.func3, Try.ntmps3
  go_wp2_with fail
  refine (hFew.out _).mono ?_
  rintro e w1 ⟨rfl, hb1⟩
  obtain ⟨h1, hB, hsz⟩ := box1 _ _ hb1
  obtain ⟨q0, q1, q2, q3⟩ := cells4 h1
  obtain ⟨f0, f1, f2, f3⟩ := froz4 h1
  have hR2 := set4_at h1 (.int .i64 c) (.int .i64 first) (.slice a c cap) (.int .i64 count)
  have hb2 := set4_below hB (Nat.le_refl _) (.int .i64 c) (.int .i64 first) (.slice a c cap) (.int .i64 count)
  have RI_0 := Lib.hid (HI.out.below hb2)
  have BR_0 : Hid (Box4 _ _ _ _ _ _) := Lib.hid hR2
  have BEL_0 := Lib.hid hb2
  clear h1 hB hb1 hb2 hR2
  go_wp2_with fail
  clear q0 q1 q2 q3 f0 f1 f2 f3
  obtain ⟨X0, hX0⟩ : ∃ x, x = set4 w1 w.heap.size (.int .i64 c) (.int .i64 first) (.slice a c cap) (.int .i64 count) := ⟨_, rfl⟩
  rw [← hX0] at RI_0 BR_0 BEL_0
  unfold set4 at hX0
  rw [← hX0]
  clear hX0
  refine (hNe.out _).mono ?_
  rintro e w1 ⟨na, ncap, rfl, hi, hb, hfr⟩
  have RI_1 := Lib.hid (RI_0.out.below hb)
  have BR_1 := Lib.hid (BR_0.out.below hb)
  have BEL_1 := Lib.hid (BEL_0.out.trans (Below.mono hb BEL_0.out.size))
  clear RI_0 BR_0 BEL_0
  have NI_1 := Lib.hid (hi)
  clear hb hi
  clear hfr
  obtain ⟨pBR0, pBR1, pBR2, pBR3⟩ := BR_1.out.cells
  have lBR := BR_1.out.lt
  go_wp2_with fail
  have hb := below_alloc w1 (.cells #[.int .i64 n, .int .i64 0, .slice na n ncap, .int .i64 0] 24)
  have RI_2 := Lib.hid (RI_1.out.below hb)
  have BR_2 := Lib.hid (BR_1.out.below hb)
  have NI_2 := Lib.hid (NI_1.out.below hb)
  have BEL_2 := Lib.hid (BEL_1.out.trans (Below.mono hb BEL_1.out.size))
  clear RI_1 BR_1 NI_1 BEL_1
  have BN_2 := Lib.hid (Box4.new w1 (.int .i64 n) (.int .i64 0) (.slice na n ncap) (.int .i64 0))
  clear hb
  clear pBR0 pBR1 pBR2 pBR3 lBR
  obtain ⟨X2, hX2⟩ : ∃ x, x = w1.alloc (.cells #[.int .i64 n, .int .i64 0, .slice na n ncap, .int .i64 0] 24) := ⟨_, rfl⟩
  obtain ⟨BBN, hBBN⟩ : ∃ x, x = w1.heap.size := ⟨_, rfl⟩
  rw [← hX2] at RI_2 BR_2 NI_2 BN_2 BEL_2 ⊢
  rw [← hBBN] at BN_2 ⊢
  clear hX2 hBBN
  refine (hPu.out _).mono ?_
  rintro e w3 ⟨rfl, hb⟩
  have RI_3 := Lib.hid (RI_2.out.below hb)
  have BR_3 := Lib.hid (BR_2.out.below hb)
  have NI_3 := Lib.hid (NI_2.out.below hb)
  have BN_3 := Lib.hid (BN_2.out.below hb)
  have BEL_3 := Lib.hid (BEL_2.out.trans (Below.mono hb BEL_2.out.size))
  clear RI_2 BR_2 NI_2 BN_2 BEL_2
  clear hb
  obtain ⟨pBR0, pBR1, pBR2, pBR3⟩ := BR_3.out.cells
  have lBR := BR_3.out.lt
  go_wp2_with fail
  have hb := below_alloc w3 (.cells #[.int .i64 0, .int .i64 0, .slice none 0 0, .int .i64 0] 24)
  have RI_4 := Lib.hid (RI_3.out.below hb)
  have BR_4 := Lib.hid (BR_3.out.below hb)
  have NI_4 := Lib.hid (NI_3.out.below hb)
  have BN_4 := Lib.hid (BN_3.out.below hb)
  have BEL_4 := Lib.hid (BEL_3.out.trans (Below.mono hb BEL_3.out.size))
  clear RI_3 BR_3 NI_3 BN_3 BEL_3
  have BP_4 := Lib.hid (Box4.new w3 (.int .i64 0) (.int .i64 0) (.slice none 0 0) (.int .i64 0))
  clear hb
  clear pBR0 pBR1 pBR2 pBR3 lBR
  obtain ⟨X4, hX4⟩ : ∃ x, x = w3.alloc (.cells #[.int .i64 0, .int .i64 0, .slice none 0 0, .int .i64 0] 24) := ⟨_, rfl⟩
  obtain ⟨BBP, hBBP⟩ : ∃ x, x = w3.heap.size := ⟨_, rfl⟩
  rw [← hX4] at RI_4 BR_4 NI_4 BN_4 BP_4 BEL_4 ⊢
  rw [← hBBP] at BP_4 ⊢
  clear hX4 hBBP
  refine (hPo.out _).mono ?_
  rintro e w5 ⟨rfl, hb⟩
  have RI_5 := Lib.hid (RI_4.out.below hb)
  have BR_5 := Lib.hid (BR_4.out.below hb)
  have NI_5 := Lib.hid (NI_4.out.below hb)
  have BN_5 := Lib.hid (BN_4.out.below hb)
  have BP_5 := Lib.hid (BP_4.out.below hb)
  have BEL_5 := Lib.hid (BEL_4.out.trans (Below.mono hb BEL_4.out.size))
  clear RI_4 BR_4 NI_4 BN_4 BP_4 BEL_4
  clear hb
  obtain ⟨pBR0, pBR1, pBR2, pBR3⟩ := BR_5.out.cells
  have lBR := BR_5.out.lt
  go_wp2_with fail
  have hb := below_alloc w5 (.cells #[.int .i64 0, .int .i64 0, .slice none 0 0, .int .i64 0] 24)
  have RI_6 := Lib.hid (RI_5.out.below hb)
  have BR_6 := Lib.hid (BR_5.out.below hb)
  have NI_6 := Lib.hid (NI_5.out.below hb)
  have BN_6 := Lib.hid (BN_5.out.below hb)
  have BP_6 := Lib.hid (BP_5.out.below hb)
  have BEL_6 := Lib.hid (BEL_5.out.trans (Below.mono hb BEL_5.out.size))
  clear RI_5 BR_5 NI_5 BN_5 BP_5 BEL_5
  have BO_6 := Lib.hid (Box4.new w5 (.int .i64 0) (.int .i64 0) (.slice none 0 0) (.int .i64 0))
  clear hb
  clear pBR0 pBR1 pBR2 pBR3 lBR
  obtain ⟨X6, hX6⟩ : ∃ x, x = w5.alloc (.cells #[.int .i64 0, .int .i64 0, .slice none 0 0, .int .i64 0] 24) := ⟨_, rfl⟩
  obtain ⟨BBO, hBBO⟩ : ∃ x, x = w5.heap.size := ⟨_, rfl⟩
  rw [← hX6] at RI_6 BR_6 NI_6 BN_6 BP_6 BO_6 BEL_6 ⊢
  rw [← hBBO] at BO_6 ⊢
  clear hX6 hBBO
  refine (hIt.out _ RI_6.out).mono ?_
  rintro e w7 ⟨ia, inn, icap, rfl, hi, hb⟩
  have RI_7 := Lib.hid (RI_6.out.below hb)
  have BR_7 := Lib.hid (BR_6.out.below hb)
  have NI_7 := Lib.hid (NI_6.out.below hb)
  have BN_7 := Lib.hid (BN_6.out.below hb)
  have BP_7 := Lib.hid (BP_6.out.below hb)
  have BO_7 := Lib.hid (BO_6.out.below hb)
  have BEL_7 := Lib.hid (BEL_6.out.trans (Below.mono hb BEL_6.out.size))
  clear RI_6 BR_6 NI_6 BN_6 BP_6 BO_6 BEL_6
  have II_7 := Lib.hid (hi)
  clear hb hi
  obtain ⟨pBR0, pBR1, pBR2, pBR3⟩ := BR_7.out.cells
  have lBR := BR_7.out.lt
  go_wp2_with fail
  clear pBR0 pBR1 pBR2 pBR3 lBR
  refine (hGr.out _ RI_7.out).mono ?_
  rintro e w8 ⟨ga, gcap, rfl, hi, hb, hfr⟩
  have RI_8 := Lib.hid (RI_7.out.below hb)
  have BR_8 := Lib.hid (BR_7.out.below hb)
  have NI_8 := Lib.hid (NI_7.out.below hb)
  have BN_8 := Lib.hid (BN_7.out.below hb)
  have BP_8 := Lib.hid (BP_7.out.below hb)
  have BO_8 := Lib.hid (BO_7.out.below hb)
  have II_8 := Lib.hid (II_7.out.below hb)
  have BEL_8 := Lib.hid (BEL_7.out.trans (Below.mono hb BEL_7.out.size))
  clear RI_7 BR_7 NI_7 BN_7 BP_7 BO_7 II_7 BEL_7
  have GI_8 := Lib.hid (hi)
  clear hb hi
  clear hfr
  obtain ⟨pBR0, pBR1, pBR2, pBR3⟩ := BR_8.out.cells
  have lBR := BR_8.out.lt
  go_wp2_with fail
  have hb := below_alloc w8 (.cells #[.int .i64 n, .int .i64 0, .slice ga n gcap, .int .i64 count] 24)
  have RI_9 := Lib.hid (RI_8.out.below hb)
  have BR_9 := Lib.hid (BR_8.out.below hb)
  have NI_9 := Lib.hid (NI_8.out.below hb)
  have BN_9 := Lib.hid (BN_8.out.below hb)
  have BP_9 := Lib.hid (BP_8.out.below hb)
  have BO_9 := Lib.hid (BO_8.out.below hb)
  have II_9 := Lib.hid (II_8.out.below hb)
  have GI_9 := Lib.hid (GI_8.out.below hb)
  have BEL_9 := Lib.hid (BEL_8.out.trans (Below.mono hb BEL_8.out.size))
  clear RI_8 BR_8 NI_8 BN_8 BP_8 BO_8 II_8 GI_8 BEL_8
  have BG_9 := Lib.hid (Box4.new w8 (.int .i64 n) (.int .i64 0) (.slice ga n gcap) (.int .i64 count))
  clear hb
  clear pBR0 pBR1 pBR2 pBR3 lBR
  obtain ⟨X9, hX9⟩ : ∃ x, x = w8.alloc (.cells #[.int .i64 n, .int .i64 0, .slice ga n gcap, .int .i64 count] 24) := ⟨_, rfl⟩
  obtain ⟨BBG, hBBG⟩ : ∃ x, x = w8.heap.size := ⟨_, rfl⟩
  rw [← hX9] at RI_9 BR_9 NI_9 BN_9 BP_9 BO_9 II_9 GI_9 BG_9 BEL_9 ⊢
  rw [← hBBG] at BG_9 ⊢
  clear hX9 hBBG
  refine (hRr.out _).mono ?_
  rintro e w10 ⟨rfl, hb⟩
  have RI_10 := Lib.hid (RI_9.out.below hb)
  have BR_10 := Lib.hid (BR_9.out.below hb)
  have NI_10 := Lib.hid (NI_9.out.below hb)
  have BN_10 := Lib.hid (BN_9.out.below hb)
  have BP_10 := Lib.hid (BP_9.out.below hb)
  have BO_10 := Lib.hid (BO_9.out.below hb)
  have II_10 := Lib.hid (II_9.out.below hb)
  have GI_10 := Lib.hid (GI_9.out.below hb)
  have BG_10 := Lib.hid (BG_9.out.below hb)
  have BEL_10 := Lib.hid (BEL_9.out.trans (Below.mono hb BEL_9.out.size))
  clear RI_9 BR_9 NI_9 BN_9 BP_9 BO_9 II_9 GI_9 BG_9 BEL_9
  clear hb
  obtain ⟨pBR0, pBR1, pBR2, pBR3⟩ := BR_10.out.cells
  have lBR := BR_10.out.lt
  go_wp2_with fail
  clear pBR0 pBR1 pBR2 pBR3 lBR
  refine (hRi.out _).mono ?_
  rintro e w11 ⟨rfl, hb⟩
  have RI_11 := Lib.hid (RI_10.out.below hb)
  have BR_11 := Lib.hid (BR_10.out.below hb)
  have NI_11 := Lib.hid (NI_10.out.below hb)
  have BN_11 := Lib.hid (BN_10.out.below hb)
  have BP_11 := Lib.hid (BP_10.out.below hb)
  have BO_11 := Lib.hid (BO_10.out.below hb)
  have II_11 := Lib.hid (II_10.out.below hb)
  have GI_11 := Lib.hid (GI_10.out.below hb)
  have BG_11 := Lib.hid (BG_10.out.below hb)
  have BEL_11 := Lib.hid (BEL_10.out.trans (Below.mono hb BEL_10.out.size))
  clear RI_10 BR_10 NI_10 BN_10 BP_10 BO_10 II_10 GI_10 BG_10 BEL_10
  clear hb
  go_wp2_with fail
  refine (alive_any _).mono ?_
  rintro e w12 ⟨rfl, hb⟩
  have RI_12 := Lib.hid (RI_11.out.below hb)
  have BR_12 := Lib.hid (BR_11.out.below hb)
  have NI_12 := Lib.hid (NI_11.out.below hb)
  have BN_12 := Lib.hid (BN_11.out.below hb)
  have BP_12 := Lib.hid (BP_11.out.below hb)
  have BO_12 := Lib.hid (BO_11.out.below hb)
  have II_12 := Lib.hid (II_11.out.below hb)
  have GI_12 := Lib.hid (GI_11.out.below hb)
  have BG_12 := Lib.hid (BG_11.out.below hb)
  have BEL_12 := Lib.hid (BEL_11.out.trans (Below.mono hb BEL_11.out.size))
  clear RI_11 BR_11 NI_11 BN_11 BP_11 BO_11 II_11 GI_11 BG_11 BEL_11
  clear hb
  obtain ⟨pBN0, pBN1, pBN2, pBN3⟩ := BN_12.out.cells
  have lBN := BN_12.out.lt
  go_wp2_with fail
  clear pBN0 pBN1 pBN2 pBN3 lBN
  have hIs := Lib.hid (fun W la (hL : Ints W la 0 0 []) (h : Ints W na n ncap (List.replicate n 0)) => Is_yes n 0 0 na ncap (List.replicate n 0) la 0 W h hn (by omega) (by omega) hL)
  unfold ringV at hIs
  refine (hIs.out _ none (Ints.nil _) NI_12.out).mono ?_
  rintro e w13 ⟨rfl, hb⟩
  have RI_13 := Lib.hid (RI_12.out.below hb)
  have BR_13 := Lib.hid (BR_12.out.below hb)
  have NI_13 := Lib.hid (NI_12.out.below hb)
  have BN_13 := Lib.hid (BN_12.out.below hb)
  have BP_13 := Lib.hid (BP_12.out.below hb)
  have BO_13 := Lib.hid (BO_12.out.below hb)
  have II_13 := Lib.hid (II_12.out.below hb)
  have GI_13 := Lib.hid (GI_12.out.below hb)
  have BG_13 := Lib.hid (BG_12.out.below hb)
  have BEL_13 := Lib.hid (BEL_12.out.trans (Below.mono hb BEL_12.out.size))
  clear RI_12 BR_12 NI_12 BN_12 BP_12 BO_12 II_12 GI_12 BG_12 BEL_12
  clear hb
  obtain ⟨pBR0, pBR1, pBR2, pBR3⟩ := BR_13.out.cells
  have lBR := BR_13.out.lt
  go_wp2_with fail
  clear pBR0 pBR1 pBR2 pBR3 lBR
  refine (hRt.out _ RI_13.out).mono ?_
  rintro e w14 ⟨ha, hn2, hcap, rfl, hi, hb⟩
  have RI_14 := Lib.hid (RI_13.out.below hb)
  have BR_14 := Lib.hid (BR_13.out.below hb)
  have NI_14 := Lib.hid (NI_13.out.below hb)
  have BN_14 := Lib.hid (BN_13.out.below hb)
  have BP_14 := Lib.hid (BP_13.out.below hb)
  have BO_14 := Lib.hid (BO_13.out.below hb)
  have II_14 := Lib.hid (II_13.out.below hb)
  have GI_14 := Lib.hid (GI_13.out.below hb)
  have BG_14 := Lib.hid (BG_13.out.below hb)
  have BEL_14 := Lib.hid (BEL_13.out.trans (Below.mono hb BEL_13.out.size))
  clear RI_13 BR_13 NI_13 BN_13 BP_13 BO_13 II_13 GI_13 BG_13 BEL_13
  have HS_14 := Lib.hid (hi)
  clear hb hi
  obtain rfl : hn2 = count := by rw [← HS_14.out.len_eq, HTL.out]
  have hn28 : (hn2 : Int) ≤ 8 := by omega
  go_wp2_with fail
  refine (rows_any _ _ _ _ _ _ _ _ _ II_14.out HS_14.out).mono ?_
  rintro e w15 ⟨rfl, hb⟩
  have RI_15 := Lib.hid (RI_14.out.below hb)
  have BR_15 := Lib.hid (BR_14.out.below hb)
  have NI_15 := Lib.hid (NI_14.out.below hb)
  have BN_15 := Lib.hid (BN_14.out.below hb)
  have BP_15 := Lib.hid (BP_14.out.below hb)
  have BO_15 := Lib.hid (BO_14.out.below hb)
  have II_15 := Lib.hid (II_14.out.below hb)
  have GI_15 := Lib.hid (GI_14.out.below hb)
  have BG_15 := Lib.hid (BG_14.out.below hb)
  have HS_15 := Lib.hid (HS_14.out.below hb)
  have BEL_15 := Lib.hid (BEL_14.out.trans (Below.mono hb BEL_14.out.size))
  clear RI_14 BR_14 NI_14 BN_14 BP_14 BO_14 II_14 GI_14 BG_14 HS_14 BEL_14
  clear hb
  rw [decide_eq_true (show T = T from rfl)]
  obtain ⟨pBR0, pBR1, pBR2, pBR3⟩ := BR_15.out.cells
  have lBR := BR_15.out.lt
  obtain ⟨pBP0, pBP1, pBP2, pBP3⟩ := BP_15.out.cells
  have lBP := BP_15.out.lt
  go_wp2_with fail
  clear pBR0 pBR1 pBR2 pBR3 lBR pBP0 pBP1 pBP2 pBP3 lBP
  refine (hEm.out _).mono ?_
  rintro e w16 ⟨rfl, hb⟩
  have RI_16 := Lib.hid (RI_15.out.below hb)
  have BR_16 := Lib.hid (BR_15.out.below hb)
  have NI_16 := Lib.hid (NI_15.out.below hb)
  have BN_16 := Lib.hid (BN_15.out.below hb)
  have BP_16 := Lib.hid (BP_15.out.below hb)
  have BO_16 := Lib.hid (BO_15.out.below hb)
  have II_16 := Lib.hid (II_15.out.below hb)
  have GI_16 := Lib.hid (GI_15.out.below hb)
  have BG_16 := Lib.hid (BG_15.out.below hb)
  have HS_16 := Lib.hid (HS_15.out.below hb)
  have BEL_16 := Lib.hid (BEL_15.out.trans (Below.mono hb BEL_15.out.size))
  clear RI_15 BR_15 NI_15 BN_15 BP_15 BO_15 II_15 GI_15 BG_15 HS_15 BEL_15
  clear hb
  obtain ⟨pBO0, pBO1, pBO2, pBO3⟩ := BO_16.out.cells
  have lBO := BO_16.out.lt
  go_wp2_with fail
  clear pBO0 pBO1 pBO2 pBO3 lBO
  refine (hEm.out _).mono ?_
  rintro e w17 ⟨rfl, hb⟩
  have RI_17 := Lib.hid (RI_16.out.below hb)
  have BR_17 := Lib.hid (BR_16.out.below hb)
  have NI_17 := Lib.hid (NI_16.out.below hb)
  have BN_17 := Lib.hid (BN_16.out.below hb)
  have BP_17 := Lib.hid (BP_16.out.below hb)
  have BO_17 := Lib.hid (BO_16.out.below hb)
  have II_17 := Lib.hid (II_16.out.below hb)
  have GI_17 := Lib.hid (GI_16.out.below hb)
  have BG_17 := Lib.hid (BG_16.out.below hb)
  have HS_17 := Lib.hid (HS_16.out.below hb)
  have BEL_17 := Lib.hid (BEL_16.out.trans (Below.mono hb BEL_16.out.size))
  clear RI_16 BR_16 NI_16 BN_16 BP_16 BO_16 II_16 GI_16 BG_16 HS_16 BEL_16
  clear hb
  have hIs4 := Lib.hid (fun W la lcap (hL : Ints W la hn2 lcap T) (h : Ints W ga n gcap (T ++ List.replicate (n - hn2) 0)) => Is_yes n 0 hn2 ga gcap (T ++ List.replicate (n - hn2) 0) la lcap W h hn (by omega) hnc (by rw [taken_grow HTL.out hnc]; exact hL))
  unfold ringV at hIs4
  have HGI2 : Hid (Ints w17 ga n gcap (T ++ List.replicate (n - hn2) 0)) := by have := GI_17.out; rw [← HT.out] at this; exact this
  obtain ⟨pBG0, pBG1, pBG2, pBG3⟩ := BG_17.out.cells
  have lBG := BG_17.out.lt
  go_wp2_with fail
  clear pBG0 pBG1 pBG2 pBG3 lBG
  refine (hIs4.out _ _ _ HS_17.out HGI2.out).mono ?_
  rintro e w18 ⟨rfl, hb⟩
  have RI_18 := Lib.hid (RI_17.out.below hb)
  have BR_18 := Lib.hid (BR_17.out.below hb)
  have NI_18 := Lib.hid (NI_17.out.below hb)
  have BN_18 := Lib.hid (BN_17.out.below hb)
  have BP_18 := Lib.hid (BP_17.out.below hb)
  have BO_18 := Lib.hid (BO_17.out.below hb)
  have II_18 := Lib.hid (II_17.out.below hb)
  have GI_18 := Lib.hid (GI_17.out.below hb)
  have BG_18 := Lib.hid (BG_17.out.below hb)
  have HS_18 := Lib.hid (HS_17.out.below hb)
  have BEL_18 := Lib.hid (BEL_17.out.trans (Below.mono hb BEL_17.out.size))
  clear RI_17 BR_17 NI_17 BN_17 BP_17 BO_17 II_17 GI_17 BG_17 HS_17 BEL_17
  clear hb
  go_wp2_with fail
  go_ret
  exact ⟨ret_bool rfl, BEL_18.out⟩
end Go.Proofs.Ytamaocnehneilaa
