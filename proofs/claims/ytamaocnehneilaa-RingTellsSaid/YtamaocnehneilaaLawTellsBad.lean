/- RingTells: the walk, where the ring may not be. -/
import Derived.Test.YtamaocnehneilaaHelp
import Derived.Deep.DeepCutAuto
namespace Go.Proofs.Ytamaocnehneilaa
open Go.RowKit
set_option maxRecDepth 100000 in
set_option maxHeartbeats 4000000 in
theorem tells_bad_lo (c first count : Int) (a : Option Addr) (len l2 cap : Nat) (L : List Int) (n : Int) (v : Int) (w : World) (hc : I64 c) (hf : I64 first) (hk : I64 count) (hl2 : l2 = min len 12) (hI : Ints w a l2 cap L) (hlc : len ≤ cap) (hn : n < 0) (hnI : I64 n) (hvI : I64 v) (hbad : rightZ c first l2 count = false) :
    Calls Try.prog 3 #[ringV c first (.slice a len cap) count, .int .i64 n, .int .i64 v] w (Says w) := by
  have hcm := hI.cap_le
  unfold maxLen at hcm
  have hll := hI.len_le
  have hFew := Lib.hid (fun W => few_any c first count a len cap W hlc (by omega))
  rw [← hl2] at hFew
  have HI := Lib.hid hI; clear hI
  have hPu := Lib.hid (fun W => Push_bad c first count a l2 cap v W hc hf hk (by omega) hbad)
  have hPo := Lib.hid (fun W => Pop_bad c first count a l2 cap W hc hf hk (by omega) hbad)
  have hIt := Lib.hid (fun W => Items_bad c first count a l2 cap W hc hf hk (by omega) hbad)
  have hRi := Lib.hid (fun W => Right_any c first count a l2 cap W hc hf hk (by omega))
  have hRr := Lib.hid (fun W => refRight_any c first count a l2 cap W hc hf hk (by omega))
  rw [hbad] at hRi hRr
  have hEm := Lib.hid empty_zero
  have hNe := Lib.hid (fun W => New_no n W (by omega) hnI)
  have hGr := Lib.hid (fun W => Grow_bad c first count a l2 cap n W hc hf hk (by omega) hbad)
  unfold NoRing at hNe
  unfold I64 at hnI
  clear hbad hl2
  unfold NoRing at hPu hGr
  unfold NoPop at hPo
  unfold NoItems at hIt
  unfold ringV at *
  go_enter Try.func3, Try.ntmps3
  go_wp2_with fail
  refine (hFew.out _).mono ?_
  rintro e w1 ⟨rfl, hb1⟩
  obtain ⟨h1, hB, hsz⟩ := box1 _ _ hb1
  obtain ⟨q0, q1, q2, q3⟩ := cells4 h1
  obtain ⟨f0, f1, f2, f3⟩ := froz4 h1
  have hR2 := set4_at h1 (.int .i64 c) (.int .i64 first) (.slice a l2 cap) (.int .i64 count)
  have hb2 := set4_below hB (Nat.le_refl _) (.int .i64 c) (.int .i64 first) (.slice a l2 cap) (.int .i64 count)
  have RI_0 := Lib.hid (HI.out.below hb2)
  have BR_0 : Hid (Box4 _ _ _ _ _ _) := Lib.hid hR2
  have BEL_0 := Lib.hid hb2
  clear h1 hB hb1 hb2 hR2
  go_wp2_with fail
  clear q0 q1 q2 q3 f0 f1 f2 f3
  obtain ⟨X0, hX0⟩ : ∃ x, x = set4 w1 w.heap.size (.int .i64 c) (.int .i64 first) (.slice a l2 cap) (.int .i64 count) := ⟨_, rfl⟩
  rw [← hX0] at RI_0 BR_0 BEL_0
  unfold set4 at hX0
  rw [← hX0]
  clear hX0
  refine (hNe.out _).mono ?_
  rintro e w1 ⟨rfl, hb⟩
  have RI_1 := Lib.hid (RI_0.out.below hb)
  have BR_1 := Lib.hid (BR_0.out.below hb)
  have BEL_1 := Lib.hid (BEL_0.out.trans (Below.mono hb BEL_0.out.size))
  clear RI_0 BR_0 BEL_0
  clear hb
  obtain ⟨pBR0, pBR1, pBR2, pBR3⟩ := BR_1.out.cells
  have lBR := BR_1.out.lt
  go_wp2_with fail
  have hb := below_alloc w1 (.cells #[.int .i64 0, .int .i64 0, .slice none 0 0, .int .i64 0] 24)
  have RI_2 := Lib.hid (RI_1.out.below hb)
  have BR_2 := Lib.hid (BR_1.out.below hb)
  have BEL_2 := Lib.hid (BEL_1.out.trans (Below.mono hb BEL_1.out.size))
  clear RI_1 BR_1 BEL_1
  have BN_2 := Lib.hid (Box4.new w1 (.int .i64 0) (.int .i64 0) (.slice none 0 0) (.int .i64 0))
  clear hb
  clear pBR0 pBR1 pBR2 pBR3 lBR
  obtain ⟨X2, hX2⟩ : ∃ x, x = w1.alloc (.cells #[.int .i64 0, .int .i64 0, .slice none 0 0, .int .i64 0] 24) := ⟨_, rfl⟩
  obtain ⟨BBN, hBBN⟩ : ∃ x, x = w1.heap.size := ⟨_, rfl⟩
  rw [← hX2] at RI_2 BR_2 BN_2 BEL_2 ⊢
  rw [← hBBN] at BN_2 ⊢
  clear hX2 hBBN
  refine (hPu.out _).mono ?_
  rintro e w3 ⟨rfl, hb⟩
  have RI_3 := Lib.hid (RI_2.out.below hb)
  have BR_3 := Lib.hid (BR_2.out.below hb)
  have BN_3 := Lib.hid (BN_2.out.below hb)
  have BEL_3 := Lib.hid (BEL_2.out.trans (Below.mono hb BEL_2.out.size))
  clear RI_2 BR_2 BN_2 BEL_2
  clear hb
  obtain ⟨pBR0, pBR1, pBR2, pBR3⟩ := BR_3.out.cells
  have lBR := BR_3.out.lt
  go_wp2_with fail
  have hb := below_alloc w3 (.cells #[.int .i64 0, .int .i64 0, .slice none 0 0, .int .i64 0] 24)
  have RI_4 := Lib.hid (RI_3.out.below hb)
  have BR_4 := Lib.hid (BR_3.out.below hb)
  have BN_4 := Lib.hid (BN_3.out.below hb)
  have BEL_4 := Lib.hid (BEL_3.out.trans (Below.mono hb BEL_3.out.size))
  clear RI_3 BR_3 BN_3 BEL_3
  have BP_4 := Lib.hid (Box4.new w3 (.int .i64 0) (.int .i64 0) (.slice none 0 0) (.int .i64 0))
  clear hb
  clear pBR0 pBR1 pBR2 pBR3 lBR
  obtain ⟨X4, hX4⟩ : ∃ x, x = w3.alloc (.cells #[.int .i64 0, .int .i64 0, .slice none 0 0, .int .i64 0] 24) := ⟨_, rfl⟩
  obtain ⟨BBP, hBBP⟩ : ∃ x, x = w3.heap.size := ⟨_, rfl⟩
  rw [← hX4] at RI_4 BR_4 BN_4 BP_4 BEL_4 ⊢
  rw [← hBBP] at BP_4 ⊢
  clear hX4 hBBP
  refine (hPo.out _).mono ?_
  rintro e w5 ⟨rfl, hb⟩
  have RI_5 := Lib.hid (RI_4.out.below hb)
  have BR_5 := Lib.hid (BR_4.out.below hb)
  have BN_5 := Lib.hid (BN_4.out.below hb)
  have BP_5 := Lib.hid (BP_4.out.below hb)
  have BEL_5 := Lib.hid (BEL_4.out.trans (Below.mono hb BEL_4.out.size))
  clear RI_4 BR_4 BN_4 BP_4 BEL_4
  clear hb
  obtain ⟨pBR0, pBR1, pBR2, pBR3⟩ := BR_5.out.cells
  have lBR := BR_5.out.lt
  go_wp2_with fail
  have hb := below_alloc w5 (.cells #[.int .i64 0, .int .i64 0, .slice none 0 0, .int .i64 0] 24)
  have RI_6 := Lib.hid (RI_5.out.below hb)
  have BR_6 := Lib.hid (BR_5.out.below hb)
  have BN_6 := Lib.hid (BN_5.out.below hb)
  have BP_6 := Lib.hid (BP_5.out.below hb)
  have BEL_6 := Lib.hid (BEL_5.out.trans (Below.mono hb BEL_5.out.size))
  clear RI_5 BR_5 BN_5 BP_5 BEL_5
  have BO_6 := Lib.hid (Box4.new w5 (.int .i64 0) (.int .i64 0) (.slice none 0 0) (.int .i64 0))
  clear hb
  clear pBR0 pBR1 pBR2 pBR3 lBR
  obtain ⟨X6, hX6⟩ : ∃ x, x = w5.alloc (.cells #[.int .i64 0, .int .i64 0, .slice none 0 0, .int .i64 0] 24) := ⟨_, rfl⟩
  obtain ⟨BBO, hBBO⟩ : ∃ x, x = w5.heap.size := ⟨_, rfl⟩
  rw [← hX6] at RI_6 BR_6 BN_6 BP_6 BO_6 BEL_6 ⊢
  rw [← hBBO] at BO_6 ⊢
  clear hX6 hBBO
  refine (hIt.out _).mono ?_
  rintro e w7 ⟨rfl, hb⟩
  have RI_7 := Lib.hid (RI_6.out.below hb)
  have BR_7 := Lib.hid (BR_6.out.below hb)
  have BN_7 := Lib.hid (BN_6.out.below hb)
  have BP_7 := Lib.hid (BP_6.out.below hb)
  have BO_7 := Lib.hid (BO_6.out.below hb)
  have BEL_7 := Lib.hid (BEL_6.out.trans (Below.mono hb BEL_6.out.size))
  clear RI_6 BR_6 BN_6 BP_6 BO_6 BEL_6
  clear hb
  obtain ⟨pBR0, pBR1, pBR2, pBR3⟩ := BR_7.out.cells
  have lBR := BR_7.out.lt
  go_wp2_with fail
  clear pBR0 pBR1 pBR2 pBR3 lBR
  refine (hGr.out _).mono ?_
  rintro e w8 ⟨rfl, hb⟩
  have RI_8 := Lib.hid (RI_7.out.below hb)
  have BR_8 := Lib.hid (BR_7.out.below hb)
  have BN_8 := Lib.hid (BN_7.out.below hb)
  have BP_8 := Lib.hid (BP_7.out.below hb)
  have BO_8 := Lib.hid (BO_7.out.below hb)
  have BEL_8 := Lib.hid (BEL_7.out.trans (Below.mono hb BEL_7.out.size))
  clear RI_7 BR_7 BN_7 BP_7 BO_7 BEL_7
  clear hb
  obtain ⟨pBR0, pBR1, pBR2, pBR3⟩ := BR_8.out.cells
  have lBR := BR_8.out.lt
  go_wp2_with fail
  have hb := below_alloc w8 (.cells #[.int .i64 0, .int .i64 0, .slice none 0 0, .int .i64 0] 24)
  have RI_9 := Lib.hid (RI_8.out.below hb)
  have BR_9 := Lib.hid (BR_8.out.below hb)
  have BN_9 := Lib.hid (BN_8.out.below hb)
  have BP_9 := Lib.hid (BP_8.out.below hb)
  have BO_9 := Lib.hid (BO_8.out.below hb)
  have BEL_9 := Lib.hid (BEL_8.out.trans (Below.mono hb BEL_8.out.size))
  clear RI_8 BR_8 BN_8 BP_8 BO_8 BEL_8
  have BG_9 := Lib.hid (Box4.new w8 (.int .i64 0) (.int .i64 0) (.slice none 0 0) (.int .i64 0))
  clear hb
  clear pBR0 pBR1 pBR2 pBR3 lBR
  obtain ⟨X9, hX9⟩ : ∃ x, x = w8.alloc (.cells #[.int .i64 0, .int .i64 0, .slice none 0 0, .int .i64 0] 24) := ⟨_, rfl⟩
  obtain ⟨BBG, hBBG⟩ : ∃ x, x = w8.heap.size := ⟨_, rfl⟩
  rw [← hX9] at RI_9 BR_9 BN_9 BP_9 BO_9 BG_9 BEL_9 ⊢
  rw [← hBBG] at BG_9 ⊢
  clear hX9 hBBG
  refine (hRr.out _).mono ?_
  rintro e w10 ⟨rfl, hb⟩
  have RI_10 := Lib.hid (RI_9.out.below hb)
  have BR_10 := Lib.hid (BR_9.out.below hb)
  have BN_10 := Lib.hid (BN_9.out.below hb)
  have BP_10 := Lib.hid (BP_9.out.below hb)
  have BO_10 := Lib.hid (BO_9.out.below hb)
  have BG_10 := Lib.hid (BG_9.out.below hb)
  have BEL_10 := Lib.hid (BEL_9.out.trans (Below.mono hb BEL_9.out.size))
  clear RI_9 BR_9 BN_9 BP_9 BO_9 BG_9 BEL_9
  clear hb
  obtain ⟨pBR0, pBR1, pBR2, pBR3⟩ := BR_10.out.cells
  have lBR := BR_10.out.lt
  go_wp2_with fail
  clear pBR0 pBR1 pBR2 pBR3 lBR
  refine (hRi.out _).mono ?_
  rintro e w11 ⟨rfl, hb⟩
  have RI_11 := Lib.hid (RI_10.out.below hb)
  have BR_11 := Lib.hid (BR_10.out.below hb)
  have BN_11 := Lib.hid (BN_10.out.below hb)
  have BP_11 := Lib.hid (BP_10.out.below hb)
  have BO_11 := Lib.hid (BO_10.out.below hb)
  have BG_11 := Lib.hid (BG_10.out.below hb)
  have BEL_11 := Lib.hid (BEL_10.out.trans (Below.mono hb BEL_10.out.size))
  clear RI_10 BR_10 BN_10 BP_10 BO_10 BG_10 BEL_10
  clear hb
  go_wp2_with fail
  refine (alive_any _).mono ?_
  rintro e w12 ⟨rfl, hb⟩
  have RI_12 := Lib.hid (RI_11.out.below hb)
  have BR_12 := Lib.hid (BR_11.out.below hb)
  have BN_12 := Lib.hid (BN_11.out.below hb)
  have BP_12 := Lib.hid (BP_11.out.below hb)
  have BO_12 := Lib.hid (BO_11.out.below hb)
  have BG_12 := Lib.hid (BG_11.out.below hb)
  have BEL_12 := Lib.hid (BEL_11.out.trans (Below.mono hb BEL_11.out.size))
  clear RI_11 BR_11 BN_11 BP_11 BO_11 BG_11 BEL_11
  clear hb
  obtain ⟨pBN0, pBN1, pBN2, pBN3⟩ := BN_12.out.cells
  have lBN := BN_12.out.lt
  go_wp2_with fail
  clear pBN0 pBN1 pBN2 pBN3 lBN
  refine (hEm.out _).mono ?_
  rintro e w13 ⟨rfl, hb⟩
  have RI_13 := Lib.hid (RI_12.out.below hb)
  have BR_13 := Lib.hid (BR_12.out.below hb)
  have BN_13 := Lib.hid (BN_12.out.below hb)
  have BP_13 := Lib.hid (BP_12.out.below hb)
  have BO_13 := Lib.hid (BO_12.out.below hb)
  have BG_13 := Lib.hid (BG_12.out.below hb)
  have BEL_13 := Lib.hid (BEL_12.out.trans (Below.mono hb BEL_12.out.size))
  clear RI_12 BR_12 BN_12 BP_12 BO_12 BG_12 BEL_12
  clear hb
  obtain ⟨pBP0, pBP1, pBP2, pBP3⟩ := BP_13.out.cells
  have lBP := BP_13.out.lt
  go_wp2_with fail
  clear pBP0 pBP1 pBP2 pBP3 lBP
  refine (hEm.out _).mono ?_
  rintro e w14 ⟨rfl, hb⟩
  have RI_14 := Lib.hid (RI_13.out.below hb)
  have BR_14 := Lib.hid (BR_13.out.below hb)
  have BN_14 := Lib.hid (BN_13.out.below hb)
  have BP_14 := Lib.hid (BP_13.out.below hb)
  have BO_14 := Lib.hid (BO_13.out.below hb)
  have BG_14 := Lib.hid (BG_13.out.below hb)
  have BEL_14 := Lib.hid (BEL_13.out.trans (Below.mono hb BEL_13.out.size))
  clear RI_13 BR_13 BN_13 BP_13 BO_13 BG_13 BEL_13
  clear hb
  obtain ⟨pBO0, pBO1, pBO2, pBO3⟩ := BO_14.out.cells
  have lBO := BO_14.out.lt
  go_wp2_with fail
  clear pBO0 pBO1 pBO2 pBO3 lBO
  refine (hEm.out _).mono ?_
  rintro e w15 ⟨rfl, hb⟩
  have RI_15 := Lib.hid (RI_14.out.below hb)
  have BR_15 := Lib.hid (BR_14.out.below hb)
  have BN_15 := Lib.hid (BN_14.out.below hb)
  have BP_15 := Lib.hid (BP_14.out.below hb)
  have BO_15 := Lib.hid (BO_14.out.below hb)
  have BG_15 := Lib.hid (BG_14.out.below hb)
  have BEL_15 := Lib.hid (BEL_14.out.trans (Below.mono hb BEL_14.out.size))
  clear RI_14 BR_14 BN_14 BP_14 BO_14 BG_14 BEL_14
  clear hb
  obtain ⟨pBG0, pBG1, pBG2, pBG3⟩ := BG_15.out.cells
  have lBG := BG_15.out.lt
  go_wp2_with fail
  clear pBG0 pBG1 pBG2 pBG3 lBG
  refine (hEm.out _).mono ?_
  rintro e w16 ⟨rfl, hb⟩
  have RI_16 := Lib.hid (RI_15.out.below hb)
  have BR_16 := Lib.hid (BR_15.out.below hb)
  have BN_16 := Lib.hid (BN_15.out.below hb)
  have BP_16 := Lib.hid (BP_15.out.below hb)
  have BO_16 := Lib.hid (BO_15.out.below hb)
  have BG_16 := Lib.hid (BG_15.out.below hb)
  have BEL_16 := Lib.hid (BEL_15.out.trans (Below.mono hb BEL_15.out.size))
  clear RI_15 BR_15 BN_15 BP_15 BO_15 BG_15 BEL_15
  clear hb
  go_wp2_with fail
  go_ret
  exact ⟨ret_bool rfl, BEL_16.out⟩
set_option maxRecDepth 100000 in
set_option maxHeartbeats 4000000 in
theorem tells_bad_hi (c first count : Int) (a : Option Addr) (len l2 cap : Nat) (L : List Int) (n : Int) (v : Int) (w : World) (hc : I64 c) (hf : I64 first) (hk : I64 count) (hl2 : l2 = min len 12) (hI : Ints w a l2 cap L) (hlc : len ≤ cap) (hn : 8 < n) (hnI : I64 n) (hvI : I64 v) (hbad : rightZ c first l2 count = false) :
    Calls Try.prog 3 #[ringV c first (.slice a len cap) count, .int .i64 n, .int .i64 v] w (Says w) := by
  have hcm := hI.cap_le
  unfold maxLen at hcm
  have hll := hI.len_le
  have hFew := Lib.hid (fun W => few_any c first count a len cap W hlc (by omega))
  rw [← hl2] at hFew
  have HI := Lib.hid hI; clear hI
  have hPu := Lib.hid (fun W => Push_bad c first count a l2 cap v W hc hf hk (by omega) hbad)
  have hPo := Lib.hid (fun W => Pop_bad c first count a l2 cap W hc hf hk (by omega) hbad)
  have hIt := Lib.hid (fun W => Items_bad c first count a l2 cap W hc hf hk (by omega) hbad)
  have hRi := Lib.hid (fun W => Right_any c first count a l2 cap W hc hf hk (by omega))
  have hRr := Lib.hid (fun W => refRight_any c first count a l2 cap W hc hf hk (by omega))
  rw [hbad] at hRi hRr
  have hEm := Lib.hid empty_zero
  have hNe := Lib.hid (fun W => New_no n W (by omega) hnI)
  have hGr := Lib.hid (fun W => Grow_bad c first count a l2 cap n W hc hf hk (by omega) hbad)
  unfold NoRing at hNe
  unfold I64 at hnI
  clear hbad hl2
  unfold NoRing at hPu hGr
  unfold NoPop at hPo
  unfold NoItems at hIt
  unfold ringV at *
  go_enter Try.func3, Try.ntmps3
  go_wp2_with fail
  refine (hFew.out _).mono ?_
  rintro e w1 ⟨rfl, hb1⟩
  obtain ⟨h1, hB, hsz⟩ := box1 _ _ hb1
  obtain ⟨q0, q1, q2, q3⟩ := cells4 h1
  obtain ⟨f0, f1, f2, f3⟩ := froz4 h1
  have hR2 := set4_at h1 (.int .i64 c) (.int .i64 first) (.slice a l2 cap) (.int .i64 count)
  have hb2 := set4_below hB (Nat.le_refl _) (.int .i64 c) (.int .i64 first) (.slice a l2 cap) (.int .i64 count)
  have RI_0 := Lib.hid (HI.out.below hb2)
  have BR_0 : Hid (Box4 _ _ _ _ _ _) := Lib.hid hR2
  have BEL_0 := Lib.hid hb2
  clear h1 hB hb1 hb2 hR2
  go_wp2_with fail
  clear q0 q1 q2 q3 f0 f1 f2 f3
  obtain ⟨X0, hX0⟩ : ∃ x, x = set4 w1 w.heap.size (.int .i64 c) (.int .i64 first) (.slice a l2 cap) (.int .i64 count) := ⟨_, rfl⟩
  rw [← hX0] at RI_0 BR_0 BEL_0
  unfold set4 at hX0
  rw [← hX0]
  clear hX0
  refine (hNe.out _).mono ?_
  rintro e w1 ⟨rfl, hb⟩
  have RI_1 := Lib.hid (RI_0.out.below hb)
  have BR_1 := Lib.hid (BR_0.out.below hb)
  have BEL_1 := Lib.hid (BEL_0.out.trans (Below.mono hb BEL_0.out.size))
  clear RI_0 BR_0 BEL_0
  clear hb
  obtain ⟨pBR0, pBR1, pBR2, pBR3⟩ := BR_1.out.cells
  have lBR := BR_1.out.lt
  go_wp2_with fail
  have hb := below_alloc w1 (.cells #[.int .i64 0, .int .i64 0, .slice none 0 0, .int .i64 0] 24)
  have RI_2 := Lib.hid (RI_1.out.below hb)
  have BR_2 := Lib.hid (BR_1.out.below hb)
  have BEL_2 := Lib.hid (BEL_1.out.trans (Below.mono hb BEL_1.out.size))
  clear RI_1 BR_1 BEL_1
  have BN_2 := Lib.hid (Box4.new w1 (.int .i64 0) (.int .i64 0) (.slice none 0 0) (.int .i64 0))
  clear hb
  clear pBR0 pBR1 pBR2 pBR3 lBR
  obtain ⟨X2, hX2⟩ : ∃ x, x = w1.alloc (.cells #[.int .i64 0, .int .i64 0, .slice none 0 0, .int .i64 0] 24) := ⟨_, rfl⟩
  obtain ⟨BBN, hBBN⟩ : ∃ x, x = w1.heap.size := ⟨_, rfl⟩
  rw [← hX2] at RI_2 BR_2 BN_2 BEL_2 ⊢
  rw [← hBBN] at BN_2 ⊢
  clear hX2 hBBN
  refine (hPu.out _).mono ?_
  rintro e w3 ⟨rfl, hb⟩
  have RI_3 := Lib.hid (RI_2.out.below hb)
  have BR_3 := Lib.hid (BR_2.out.below hb)
  have BN_3 := Lib.hid (BN_2.out.below hb)
  have BEL_3 := Lib.hid (BEL_2.out.trans (Below.mono hb BEL_2.out.size))
  clear RI_2 BR_2 BN_2 BEL_2
  clear hb
  obtain ⟨pBR0, pBR1, pBR2, pBR3⟩ := BR_3.out.cells
  have lBR := BR_3.out.lt
  go_wp2_with fail
  have hb := below_alloc w3 (.cells #[.int .i64 0, .int .i64 0, .slice none 0 0, .int .i64 0] 24)
  have RI_4 := Lib.hid (RI_3.out.below hb)
  have BR_4 := Lib.hid (BR_3.out.below hb)
  have BN_4 := Lib.hid (BN_3.out.below hb)
  have BEL_4 := Lib.hid (BEL_3.out.trans (Below.mono hb BEL_3.out.size))
  clear RI_3 BR_3 BN_3 BEL_3
  have BP_4 := Lib.hid (Box4.new w3 (.int .i64 0) (.int .i64 0) (.slice none 0 0) (.int .i64 0))
  clear hb
  clear pBR0 pBR1 pBR2 pBR3 lBR
  obtain ⟨X4, hX4⟩ : ∃ x, x = w3.alloc (.cells #[.int .i64 0, .int .i64 0, .slice none 0 0, .int .i64 0] 24) := ⟨_, rfl⟩
  obtain ⟨BBP, hBBP⟩ : ∃ x, x = w3.heap.size := ⟨_, rfl⟩
  rw [← hX4] at RI_4 BR_4 BN_4 BP_4 BEL_4 ⊢
  rw [← hBBP] at BP_4 ⊢
  clear hX4 hBBP
  refine (hPo.out _).mono ?_
  rintro e w5 ⟨rfl, hb⟩
  have RI_5 := Lib.hid (RI_4.out.below hb)
  have BR_5 := Lib.hid (BR_4.out.below hb)
  have BN_5 := Lib.hid (BN_4.out.below hb)
  have BP_5 := Lib.hid (BP_4.out.below hb)
  have BEL_5 := Lib.hid (BEL_4.out.trans (Below.mono hb BEL_4.out.size))
  clear RI_4 BR_4 BN_4 BP_4 BEL_4
  clear hb
  obtain ⟨pBR0, pBR1, pBR2, pBR3⟩ := BR_5.out.cells
  have lBR := BR_5.out.lt
  go_wp2_with fail
  have hb := below_alloc w5 (.cells #[.int .i64 0, .int .i64 0, .slice none 0 0, .int .i64 0] 24)
  have RI_6 := Lib.hid (RI_5.out.below hb)
  have BR_6 := Lib.hid (BR_5.out.below hb)
  have BN_6 := Lib.hid (BN_5.out.below hb)
  have BP_6 := Lib.hid (BP_5.out.below hb)
  have BEL_6 := Lib.hid (BEL_5.out.trans (Below.mono hb BEL_5.out.size))
  clear RI_5 BR_5 BN_5 BP_5 BEL_5
  have BO_6 := Lib.hid (Box4.new w5 (.int .i64 0) (.int .i64 0) (.slice none 0 0) (.int .i64 0))
  clear hb
  clear pBR0 pBR1 pBR2 pBR3 lBR
  obtain ⟨X6, hX6⟩ : ∃ x, x = w5.alloc (.cells #[.int .i64 0, .int .i64 0, .slice none 0 0, .int .i64 0] 24) := ⟨_, rfl⟩
  obtain ⟨BBO, hBBO⟩ : ∃ x, x = w5.heap.size := ⟨_, rfl⟩
  rw [← hX6] at RI_6 BR_6 BN_6 BP_6 BO_6 BEL_6 ⊢
  rw [← hBBO] at BO_6 ⊢
  clear hX6 hBBO
  refine (hIt.out _).mono ?_
  rintro e w7 ⟨rfl, hb⟩
  have RI_7 := Lib.hid (RI_6.out.below hb)
  have BR_7 := Lib.hid (BR_6.out.below hb)
  have BN_7 := Lib.hid (BN_6.out.below hb)
  have BP_7 := Lib.hid (BP_6.out.below hb)
  have BO_7 := Lib.hid (BO_6.out.below hb)
  have BEL_7 := Lib.hid (BEL_6.out.trans (Below.mono hb BEL_6.out.size))
  clear RI_6 BR_6 BN_6 BP_6 BO_6 BEL_6
  clear hb
  obtain ⟨pBR0, pBR1, pBR2, pBR3⟩ := BR_7.out.cells
  have lBR := BR_7.out.lt
  go_wp2_with fail
  clear pBR0 pBR1 pBR2 pBR3 lBR
  refine (hGr.out _).mono ?_
  rintro e w8 ⟨rfl, hb⟩
  have RI_8 := Lib.hid (RI_7.out.below hb)
  have BR_8 := Lib.hid (BR_7.out.below hb)
  have BN_8 := Lib.hid (BN_7.out.below hb)
  have BP_8 := Lib.hid (BP_7.out.below hb)
  have BO_8 := Lib.hid (BO_7.out.below hb)
  have BEL_8 := Lib.hid (BEL_7.out.trans (Below.mono hb BEL_7.out.size))
  clear RI_7 BR_7 BN_7 BP_7 BO_7 BEL_7
  clear hb
  obtain ⟨pBR0, pBR1, pBR2, pBR3⟩ := BR_8.out.cells
  have lBR := BR_8.out.lt
  go_wp2_with fail
  have hb := below_alloc w8 (.cells #[.int .i64 0, .int .i64 0, .slice none 0 0, .int .i64 0] 24)
  have RI_9 := Lib.hid (RI_8.out.below hb)
  have BR_9 := Lib.hid (BR_8.out.below hb)
  have BN_9 := Lib.hid (BN_8.out.below hb)
  have BP_9 := Lib.hid (BP_8.out.below hb)
  have BO_9 := Lib.hid (BO_8.out.below hb)
  have BEL_9 := Lib.hid (BEL_8.out.trans (Below.mono hb BEL_8.out.size))
  clear RI_8 BR_8 BN_8 BP_8 BO_8 BEL_8
  have BG_9 := Lib.hid (Box4.new w8 (.int .i64 0) (.int .i64 0) (.slice none 0 0) (.int .i64 0))
  clear hb
  clear pBR0 pBR1 pBR2 pBR3 lBR
  obtain ⟨X9, hX9⟩ : ∃ x, x = w8.alloc (.cells #[.int .i64 0, .int .i64 0, .slice none 0 0, .int .i64 0] 24) := ⟨_, rfl⟩
  obtain ⟨BBG, hBBG⟩ : ∃ x, x = w8.heap.size := ⟨_, rfl⟩
  rw [← hX9] at RI_9 BR_9 BN_9 BP_9 BO_9 BG_9 BEL_9 ⊢
  rw [← hBBG] at BG_9 ⊢
  clear hX9 hBBG
  refine (hRr.out _).mono ?_
  rintro e w10 ⟨rfl, hb⟩
  have RI_10 := Lib.hid (RI_9.out.below hb)
  have BR_10 := Lib.hid (BR_9.out.below hb)
  have BN_10 := Lib.hid (BN_9.out.below hb)
  have BP_10 := Lib.hid (BP_9.out.below hb)
  have BO_10 := Lib.hid (BO_9.out.below hb)
  have BG_10 := Lib.hid (BG_9.out.below hb)
  have BEL_10 := Lib.hid (BEL_9.out.trans (Below.mono hb BEL_9.out.size))
  clear RI_9 BR_9 BN_9 BP_9 BO_9 BG_9 BEL_9
  clear hb
  obtain ⟨pBR0, pBR1, pBR2, pBR3⟩ := BR_10.out.cells
  have lBR := BR_10.out.lt
  go_wp2_with fail
  clear pBR0 pBR1 pBR2 pBR3 lBR
  refine (hRi.out _).mono ?_
  rintro e w11 ⟨rfl, hb⟩
  have RI_11 := Lib.hid (RI_10.out.below hb)
  have BR_11 := Lib.hid (BR_10.out.below hb)
  have BN_11 := Lib.hid (BN_10.out.below hb)
  have BP_11 := Lib.hid (BP_10.out.below hb)
  have BO_11 := Lib.hid (BO_10.out.below hb)
  have BG_11 := Lib.hid (BG_10.out.below hb)
  have BEL_11 := Lib.hid (BEL_10.out.trans (Below.mono hb BEL_10.out.size))
  clear RI_10 BR_10 BN_10 BP_10 BO_10 BG_10 BEL_10
  clear hb
  go_wp2_with fail
  refine (alive_any _).mono ?_
  rintro e w12 ⟨rfl, hb⟩
  have RI_12 := Lib.hid (RI_11.out.below hb)
  have BR_12 := Lib.hid (BR_11.out.below hb)
  have BN_12 := Lib.hid (BN_11.out.below hb)
  have BP_12 := Lib.hid (BP_11.out.below hb)
  have BO_12 := Lib.hid (BO_11.out.below hb)
  have BG_12 := Lib.hid (BG_11.out.below hb)
  have BEL_12 := Lib.hid (BEL_11.out.trans (Below.mono hb BEL_11.out.size))
  clear RI_11 BR_11 BN_11 BP_11 BO_11 BG_11 BEL_11
  clear hb
  obtain ⟨pBN0, pBN1, pBN2, pBN3⟩ := BN_12.out.cells
  have lBN := BN_12.out.lt
  go_wp2_with fail
  clear pBN0 pBN1 pBN2 pBN3 lBN
  refine (hEm.out _).mono ?_
  rintro e w13 ⟨rfl, hb⟩
  have RI_13 := Lib.hid (RI_12.out.below hb)
  have BR_13 := Lib.hid (BR_12.out.below hb)
  have BN_13 := Lib.hid (BN_12.out.below hb)
  have BP_13 := Lib.hid (BP_12.out.below hb)
  have BO_13 := Lib.hid (BO_12.out.below hb)
  have BG_13 := Lib.hid (BG_12.out.below hb)
  have BEL_13 := Lib.hid (BEL_12.out.trans (Below.mono hb BEL_12.out.size))
  clear RI_12 BR_12 BN_12 BP_12 BO_12 BG_12 BEL_12
  clear hb
  obtain ⟨pBP0, pBP1, pBP2, pBP3⟩ := BP_13.out.cells
  have lBP := BP_13.out.lt
  go_wp2_with fail
  clear pBP0 pBP1 pBP2 pBP3 lBP
  refine (hEm.out _).mono ?_
  rintro e w14 ⟨rfl, hb⟩
  have RI_14 := Lib.hid (RI_13.out.below hb)
  have BR_14 := Lib.hid (BR_13.out.below hb)
  have BN_14 := Lib.hid (BN_13.out.below hb)
  have BP_14 := Lib.hid (BP_13.out.below hb)
  have BO_14 := Lib.hid (BO_13.out.below hb)
  have BG_14 := Lib.hid (BG_13.out.below hb)
  have BEL_14 := Lib.hid (BEL_13.out.trans (Below.mono hb BEL_13.out.size))
  clear RI_13 BR_13 BN_13 BP_13 BO_13 BG_13 BEL_13
  clear hb
  obtain ⟨pBO0, pBO1, pBO2, pBO3⟩ := BO_14.out.cells
  have lBO := BO_14.out.lt
  go_wp2_with fail
  clear pBO0 pBO1 pBO2 pBO3 lBO
  refine (hEm.out _).mono ?_
  rintro e w15 ⟨rfl, hb⟩
  have RI_15 := Lib.hid (RI_14.out.below hb)
  have BR_15 := Lib.hid (BR_14.out.below hb)
  have BN_15 := Lib.hid (BN_14.out.below hb)
  have BP_15 := Lib.hid (BP_14.out.below hb)
  have BO_15 := Lib.hid (BO_14.out.below hb)
  have BG_15 := Lib.hid (BG_14.out.below hb)
  have BEL_15 := Lib.hid (BEL_14.out.trans (Below.mono hb BEL_14.out.size))
  clear RI_14 BR_14 BN_14 BP_14 BO_14 BG_14 BEL_14
  clear hb
  obtain ⟨pBG0, pBG1, pBG2, pBG3⟩ := BG_15.out.cells
  have lBG := BG_15.out.lt
  go_wp2_with fail
  clear pBG0 pBG1 pBG2 pBG3 lBG
  refine (hEm.out _).mono ?_
  rintro e w16 ⟨rfl, hb⟩
  have RI_16 := Lib.hid (RI_15.out.below hb)
  have BR_16 := Lib.hid (BR_15.out.below hb)
  have BN_16 := Lib.hid (BN_15.out.below hb)
  have BP_16 := Lib.hid (BP_15.out.below hb)
  have BO_16 := Lib.hid (BO_15.out.below hb)
  have BG_16 := Lib.hid (BG_15.out.below hb)
  have BEL_16 := Lib.hid (BEL_15.out.trans (Below.mono hb BEL_15.out.size))
  clear RI_15 BR_15 BN_15 BP_15 BO_15 BG_15 BEL_15
  clear hb
  go_wp2_with fail
  go_ret
  exact ⟨ret_bool rfl, BEL_16.out⟩
set_option maxRecDepth 100000 in
set_option maxHeartbeats 4000000 in
theorem tells_bad_ok (c first count : Int) (a : Option Addr) (len l2 cap : Nat) (L : List Int) (n : Nat) (v : Int) (w : World) (hc : I64 c) (hf : I64 first) (hk : I64 count) (hl2 : l2 = min len 12) (hI : Ints w a l2 cap L) (hlc : len ≤ cap) (hn : n ≤ 8) (hvI : I64 v) (hbad : rightZ c first l2 count = false) :
    Calls Try.prog 3 #[ringV c first (.slice a len cap) count, .int .i64 (n : Int), .int .i64 v] w (Says w) := by
  have hcm := hI.cap_le
  unfold maxLen at hcm
  have hll := hI.len_le
  have hFew := Lib.hid (fun W => few_any c first count a len cap W hlc (by omega))
  rw [← hl2] at hFew
  have HI := Lib.hid hI; clear hI
  have hPu := Lib.hid (fun W => Push_bad c first count a l2 cap v W hc hf hk (by omega) hbad)
  have hPo := Lib.hid (fun W => Pop_bad c first count a l2 cap W hc hf hk (by omega) hbad)
  have hIt := Lib.hid (fun W => Items_bad c first count a l2 cap W hc hf hk (by omega) hbad)
  have hRi := Lib.hid (fun W => Right_any c first count a l2 cap W hc hf hk (by omega))
  have hRr := Lib.hid (fun W => refRight_any c first count a l2 cap W hc hf hk (by omega))
  rw [hbad] at hRi hRr
  have hEm := Lib.hid empty_zero
  have hNe := Lib.hid (fun W => New_ok n W hn)
  have hGr := Lib.hid (fun W => Grow_bad c first count a l2 cap n W hc hf hk (by omega) hbad)
  unfold GotRing at hNe
  have hn8 : (n : Int) ≤ 8 := by omega
  clear hbad hl2
  unfold NoRing at hPu hGr
  unfold NoPop at hPo
  unfold NoItems at hIt
  unfold ringV at *
  go_enter Try.func3, Try.ntmps3
  go_wp2_with fail
  refine (hFew.out _).mono ?_
  rintro e w1 ⟨rfl, hb1⟩
  obtain ⟨h1, hB, hsz⟩ := box1 _ _ hb1
  obtain ⟨q0, q1, q2, q3⟩ := cells4 h1
  obtain ⟨f0, f1, f2, f3⟩ := froz4 h1
  have hR2 := set4_at h1 (.int .i64 c) (.int .i64 first) (.slice a l2 cap) (.int .i64 count)
  have hb2 := set4_below hB (Nat.le_refl _) (.int .i64 c) (.int .i64 first) (.slice a l2 cap) (.int .i64 count)
  have RI_0 := Lib.hid (HI.out.below hb2)
  have BR_0 : Hid (Box4 _ _ _ _ _ _) := Lib.hid hR2
  have BEL_0 := Lib.hid hb2
  clear h1 hB hb1 hb2 hR2
  go_wp2_with fail
  clear q0 q1 q2 q3 f0 f1 f2 f3
  obtain ⟨X0, hX0⟩ : ∃ x, x = set4 w1 w.heap.size (.int .i64 c) (.int .i64 first) (.slice a l2 cap) (.int .i64 count) := ⟨_, rfl⟩
  rw [← hX0] at RI_0 BR_0 BEL_0
  unfold set4 at hX0
  rw [← hX0]
  clear hX0
  refine (hNe.out _).mono ?_
  rintro e w1 ⟨na, ncap, rfl, hi, hb, hfr⟩
  have RI_1 := Lib.hid (RI_0.out.below hb)
  have BR_1 := Lib.hid (BR_0.out.below hb)
  have BEL_1 := Lib.hid (BEL_0.out.trans (Below.mono hb BEL_0.out.size))
  clear RI_0 BR_0 BEL_0
  have NI_1 := Lib.hid (hi)
  clear hb hi
  clear hfr
  obtain ⟨pBR0, pBR1, pBR2, pBR3⟩ := BR_1.out.cells
  have lBR := BR_1.out.lt
  go_wp2_with fail
  have hb := below_alloc w1 (.cells #[.int .i64 n, .int .i64 0, .slice na n ncap, .int .i64 0] 24)
  have RI_2 := Lib.hid (RI_1.out.below hb)
  have BR_2 := Lib.hid (BR_1.out.below hb)
  have NI_2 := Lib.hid (NI_1.out.below hb)
  have BEL_2 := Lib.hid (BEL_1.out.trans (Below.mono hb BEL_1.out.size))
  clear RI_1 BR_1 NI_1 BEL_1
  have BN_2 := Lib.hid (Box4.new w1 (.int .i64 n) (.int .i64 0) (.slice na n ncap) (.int .i64 0))
  clear hb
  clear pBR0 pBR1 pBR2 pBR3 lBR
  obtain ⟨X2, hX2⟩ : ∃ x, x = w1.alloc (.cells #[.int .i64 n, .int .i64 0, .slice na n ncap, .int .i64 0] 24) := ⟨_, rfl⟩
  obtain ⟨BBN, hBBN⟩ : ∃ x, x = w1.heap.size := ⟨_, rfl⟩
  rw [← hX2] at RI_2 BR_2 NI_2 BN_2 BEL_2 ⊢
  rw [← hBBN] at BN_2 ⊢
  clear hX2 hBBN
  refine (hPu.out _).mono ?_
  rintro e w3 ⟨rfl, hb⟩
  have RI_3 := Lib.hid (RI_2.out.below hb)
  have BR_3 := Lib.hid (BR_2.out.below hb)
  have NI_3 := Lib.hid (NI_2.out.below hb)
  have BN_3 := Lib.hid (BN_2.out.below hb)
  have BEL_3 := Lib.hid (BEL_2.out.trans (Below.mono hb BEL_2.out.size))
  clear RI_2 BR_2 NI_2 BN_2 BEL_2
  clear hb
  obtain ⟨pBR0, pBR1, pBR2, pBR3⟩ := BR_3.out.cells
  have lBR := BR_3.out.lt
  go_wp2_with fail
  have hb := below_alloc w3 (.cells #[.int .i64 0, .int .i64 0, .slice none 0 0, .int .i64 0] 24)
  have RI_4 := Lib.hid (RI_3.out.below hb)
  have BR_4 := Lib.hid (BR_3.out.below hb)
  have NI_4 := Lib.hid (NI_3.out.below hb)
  have BN_4 := Lib.hid (BN_3.out.below hb)
  have BEL_4 := Lib.hid (BEL_3.out.trans (Below.mono hb BEL_3.out.size))
  clear RI_3 BR_3 NI_3 BN_3 BEL_3
  have BP_4 := Lib.hid (Box4.new w3 (.int .i64 0) (.int .i64 0) (.slice none 0 0) (.int .i64 0))
  clear hb
  clear pBR0 pBR1 pBR2 pBR3 lBR
  obtain ⟨X4, hX4⟩ : ∃ x, x = w3.alloc (.cells #[.int .i64 0, .int .i64 0, .slice none 0 0, .int .i64 0] 24) := ⟨_, rfl⟩
  obtain ⟨BBP, hBBP⟩ : ∃ x, x = w3.heap.size := ⟨_, rfl⟩
  rw [← hX4] at RI_4 BR_4 NI_4 BN_4 BP_4 BEL_4 ⊢
  rw [← hBBP] at BP_4 ⊢
  clear hX4 hBBP
  refine (hPo.out _).mono ?_
  rintro e w5 ⟨rfl, hb⟩
  have RI_5 := Lib.hid (RI_4.out.below hb)
  have BR_5 := Lib.hid (BR_4.out.below hb)
  have NI_5 := Lib.hid (NI_4.out.below hb)
  have BN_5 := Lib.hid (BN_4.out.below hb)
  have BP_5 := Lib.hid (BP_4.out.below hb)
  have BEL_5 := Lib.hid (BEL_4.out.trans (Below.mono hb BEL_4.out.size))
  clear RI_4 BR_4 NI_4 BN_4 BP_4 BEL_4
  clear hb
  obtain ⟨pBR0, pBR1, pBR2, pBR3⟩ := BR_5.out.cells
  have lBR := BR_5.out.lt
  go_wp2_with fail
  have hb := below_alloc w5 (.cells #[.int .i64 0, .int .i64 0, .slice none 0 0, .int .i64 0] 24)
  have RI_6 := Lib.hid (RI_5.out.below hb)
  have BR_6 := Lib.hid (BR_5.out.below hb)
  have NI_6 := Lib.hid (NI_5.out.below hb)
  have BN_6 := Lib.hid (BN_5.out.below hb)
  have BP_6 := Lib.hid (BP_5.out.below hb)
  have BEL_6 := Lib.hid (BEL_5.out.trans (Below.mono hb BEL_5.out.size))
  clear RI_5 BR_5 NI_5 BN_5 BP_5 BEL_5
  have BO_6 := Lib.hid (Box4.new w5 (.int .i64 0) (.int .i64 0) (.slice none 0 0) (.int .i64 0))
  clear hb
  clear pBR0 pBR1 pBR2 pBR3 lBR
  obtain ⟨X6, hX6⟩ : ∃ x, x = w5.alloc (.cells #[.int .i64 0, .int .i64 0, .slice none 0 0, .int .i64 0] 24) := ⟨_, rfl⟩
  obtain ⟨BBO, hBBO⟩ : ∃ x, x = w5.heap.size := ⟨_, rfl⟩
  rw [← hX6] at RI_6 BR_6 NI_6 BN_6 BP_6 BO_6 BEL_6 ⊢
  rw [← hBBO] at BO_6 ⊢
  clear hX6 hBBO
  refine (hIt.out _).mono ?_
  rintro e w7 ⟨rfl, hb⟩
  have RI_7 := Lib.hid (RI_6.out.below hb)
  have BR_7 := Lib.hid (BR_6.out.below hb)
  have NI_7 := Lib.hid (NI_6.out.below hb)
  have BN_7 := Lib.hid (BN_6.out.below hb)
  have BP_7 := Lib.hid (BP_6.out.below hb)
  have BO_7 := Lib.hid (BO_6.out.below hb)
  have BEL_7 := Lib.hid (BEL_6.out.trans (Below.mono hb BEL_6.out.size))
  clear RI_6 BR_6 NI_6 BN_6 BP_6 BO_6 BEL_6
  clear hb
  obtain ⟨pBR0, pBR1, pBR2, pBR3⟩ := BR_7.out.cells
  have lBR := BR_7.out.lt
  go_wp2_with fail
  clear pBR0 pBR1 pBR2 pBR3 lBR
  refine (hGr.out _).mono ?_
  rintro e w8 ⟨rfl, hb⟩
  have RI_8 := Lib.hid (RI_7.out.below hb)
  have BR_8 := Lib.hid (BR_7.out.below hb)
  have NI_8 := Lib.hid (NI_7.out.below hb)
  have BN_8 := Lib.hid (BN_7.out.below hb)
  have BP_8 := Lib.hid (BP_7.out.below hb)
  have BO_8 := Lib.hid (BO_7.out.below hb)
  have BEL_8 := Lib.hid (BEL_7.out.trans (Below.mono hb BEL_7.out.size))
  clear RI_7 BR_7 NI_7 BN_7 BP_7 BO_7 BEL_7
  clear hb
  obtain ⟨pBR0, pBR1, pBR2, pBR3⟩ := BR_8.out.cells
  have lBR := BR_8.out.lt
  go_wp2_with fail
  have hb := below_alloc w8 (.cells #[.int .i64 0, .int .i64 0, .slice none 0 0, .int .i64 0] 24)
  have RI_9 := Lib.hid (RI_8.out.below hb)
  have BR_9 := Lib.hid (BR_8.out.below hb)
  have NI_9 := Lib.hid (NI_8.out.below hb)
  have BN_9 := Lib.hid (BN_8.out.below hb)
  have BP_9 := Lib.hid (BP_8.out.below hb)
  have BO_9 := Lib.hid (BO_8.out.below hb)
  have BEL_9 := Lib.hid (BEL_8.out.trans (Below.mono hb BEL_8.out.size))
  clear RI_8 BR_8 NI_8 BN_8 BP_8 BO_8 BEL_8
  have BG_9 := Lib.hid (Box4.new w8 (.int .i64 0) (.int .i64 0) (.slice none 0 0) (.int .i64 0))
  clear hb
  clear pBR0 pBR1 pBR2 pBR3 lBR
  obtain ⟨X9, hX9⟩ : ∃ x, x = w8.alloc (.cells #[.int .i64 0, .int .i64 0, .slice none 0 0, .int .i64 0] 24) := ⟨_, rfl⟩
  obtain ⟨BBG, hBBG⟩ : ∃ x, x = w8.heap.size := ⟨_, rfl⟩
  rw [← hX9] at RI_9 BR_9 NI_9 BN_9 BP_9 BO_9 BG_9 BEL_9 ⊢
  rw [← hBBG] at BG_9 ⊢
  clear hX9 hBBG
  refine (hRr.out _).mono ?_
  rintro e w10 ⟨rfl, hb⟩
  have RI_10 := Lib.hid (RI_9.out.below hb)
  have BR_10 := Lib.hid (BR_9.out.below hb)
  have NI_10 := Lib.hid (NI_9.out.below hb)
  have BN_10 := Lib.hid (BN_9.out.below hb)
  have BP_10 := Lib.hid (BP_9.out.below hb)
  have BO_10 := Lib.hid (BO_9.out.below hb)
  have BG_10 := Lib.hid (BG_9.out.below hb)
  have BEL_10 := Lib.hid (BEL_9.out.trans (Below.mono hb BEL_9.out.size))
  clear RI_9 BR_9 NI_9 BN_9 BP_9 BO_9 BG_9 BEL_9
  clear hb
  obtain ⟨pBR0, pBR1, pBR2, pBR3⟩ := BR_10.out.cells
  have lBR := BR_10.out.lt
  go_wp2_with fail
  clear pBR0 pBR1 pBR2 pBR3 lBR
  refine (hRi.out _).mono ?_
  rintro e w11 ⟨rfl, hb⟩
  have RI_11 := Lib.hid (RI_10.out.below hb)
  have BR_11 := Lib.hid (BR_10.out.below hb)
  have NI_11 := Lib.hid (NI_10.out.below hb)
  have BN_11 := Lib.hid (BN_10.out.below hb)
  have BP_11 := Lib.hid (BP_10.out.below hb)
  have BO_11 := Lib.hid (BO_10.out.below hb)
  have BG_11 := Lib.hid (BG_10.out.below hb)
  have BEL_11 := Lib.hid (BEL_10.out.trans (Below.mono hb BEL_10.out.size))
  clear RI_10 BR_10 NI_10 BN_10 BP_10 BO_10 BG_10 BEL_10
  clear hb
  go_wp2_with fail
  refine (alive_any _).mono ?_
  rintro e w12 ⟨rfl, hb⟩
  have RI_12 := Lib.hid (RI_11.out.below hb)
  have BR_12 := Lib.hid (BR_11.out.below hb)
  have NI_12 := Lib.hid (NI_11.out.below hb)
  have BN_12 := Lib.hid (BN_11.out.below hb)
  have BP_12 := Lib.hid (BP_11.out.below hb)
  have BO_12 := Lib.hid (BO_11.out.below hb)
  have BG_12 := Lib.hid (BG_11.out.below hb)
  have BEL_12 := Lib.hid (BEL_11.out.trans (Below.mono hb BEL_11.out.size))
  clear RI_11 BR_11 NI_11 BN_11 BP_11 BO_11 BG_11 BEL_11
  clear hb
  obtain ⟨pBN0, pBN1, pBN2, pBN3⟩ := BN_12.out.cells
  have lBN := BN_12.out.lt
  go_wp2_with fail
  clear pBN0 pBN1 pBN2 pBN3 lBN
  have hIs := Lib.hid (fun W la (hL : Ints W la 0 0 []) (h : Ints W na n ncap (List.replicate n 0)) => Is_yes n 0 0 na ncap (List.replicate n 0) la 0 W h hn (by omega) (by omega) hL)
  unfold ringV at hIs
  refine (hIs.out _ none (Ints.nil _) NI_12.out).mono ?_
  rintro e w13 ⟨rfl, hb⟩
  have RI_13 := Lib.hid (RI_12.out.below hb)
  have BR_13 := Lib.hid (BR_12.out.below hb)
  have NI_13 := Lib.hid (NI_12.out.below hb)
  have BN_13 := Lib.hid (BN_12.out.below hb)
  have BP_13 := Lib.hid (BP_12.out.below hb)
  have BO_13 := Lib.hid (BO_12.out.below hb)
  have BG_13 := Lib.hid (BG_12.out.below hb)
  have BEL_13 := Lib.hid (BEL_12.out.trans (Below.mono hb BEL_12.out.size))
  clear RI_12 BR_12 NI_12 BN_12 BP_12 BO_12 BG_12 BEL_12
  clear hb
  obtain ⟨pBP0, pBP1, pBP2, pBP3⟩ := BP_13.out.cells
  have lBP := BP_13.out.lt
  go_wp2_with fail
  clear pBP0 pBP1 pBP2 pBP3 lBP
  refine (hEm.out _).mono ?_
  rintro e w14 ⟨rfl, hb⟩
  have RI_14 := Lib.hid (RI_13.out.below hb)
  have BR_14 := Lib.hid (BR_13.out.below hb)
  have NI_14 := Lib.hid (NI_13.out.below hb)
  have BN_14 := Lib.hid (BN_13.out.below hb)
  have BP_14 := Lib.hid (BP_13.out.below hb)
  have BO_14 := Lib.hid (BO_13.out.below hb)
  have BG_14 := Lib.hid (BG_13.out.below hb)
  have BEL_14 := Lib.hid (BEL_13.out.trans (Below.mono hb BEL_13.out.size))
  clear RI_13 BR_13 NI_13 BN_13 BP_13 BO_13 BG_13 BEL_13
  clear hb
  obtain ⟨pBO0, pBO1, pBO2, pBO3⟩ := BO_14.out.cells
  have lBO := BO_14.out.lt
  go_wp2_with fail
  clear pBO0 pBO1 pBO2 pBO3 lBO
  refine (hEm.out _).mono ?_
  rintro e w15 ⟨rfl, hb⟩
  have RI_15 := Lib.hid (RI_14.out.below hb)
  have BR_15 := Lib.hid (BR_14.out.below hb)
  have NI_15 := Lib.hid (NI_14.out.below hb)
  have BN_15 := Lib.hid (BN_14.out.below hb)
  have BP_15 := Lib.hid (BP_14.out.below hb)
  have BO_15 := Lib.hid (BO_14.out.below hb)
  have BG_15 := Lib.hid (BG_14.out.below hb)
  have BEL_15 := Lib.hid (BEL_14.out.trans (Below.mono hb BEL_14.out.size))
  clear RI_14 BR_14 NI_14 BN_14 BP_14 BO_14 BG_14 BEL_14
  clear hb
  obtain ⟨pBG0, pBG1, pBG2, pBG3⟩ := BG_15.out.cells
  have lBG := BG_15.out.lt
  go_wp2_with fail
  clear pBG0 pBG1 pBG2 pBG3 lBG
  refine (hEm.out _).mono ?_
  rintro e w16 ⟨rfl, hb⟩
  have RI_16 := Lib.hid (RI_15.out.below hb)
  have BR_16 := Lib.hid (BR_15.out.below hb)
  have NI_16 := Lib.hid (NI_15.out.below hb)
  have BN_16 := Lib.hid (BN_15.out.below hb)
  have BP_16 := Lib.hid (BP_15.out.below hb)
  have BO_16 := Lib.hid (BO_15.out.below hb)
  have BG_16 := Lib.hid (BG_15.out.below hb)
  have BEL_16 := Lib.hid (BEL_15.out.trans (Below.mono hb BEL_15.out.size))
  clear RI_15 BR_15 NI_15 BN_15 BP_15 BO_15 BG_15 BEL_15
  clear hb
  go_wp2_with fail
  go_ret
  exact ⟨ret_bool rfl, BEL_16.out⟩
end Go.Proofs.Ytamaocnehneilaa
