/- RingGrows: the walk, where it grows. -/
import Derived.Test.YtamaocnehneilaaLawGrows
namespace Go.Proofs.Ytamaocnehneilaa
open Go.RowKit
set_option maxRecDepth 100000 in
set_option maxHeartbeats 8000000 in
theorem grows_zero_none (c first count n : Nat) (a : Option Addr) (len cap : Nat) (zs : List Int) (v : Int) (w : World) (hl2 : c = min len 12) (hI : Ints w a c cap zs) (hlc : len ≤ cap) (hc8 : c ≤ 8) (hf : first < max c 1) (hkc : count ≤ c) (hn8 : n ≤ 8) (hnc : count ≤ n) (hnz : n = 0) (hlz : count = 0) (hvI : I64 v) :
    Calls Try.prog 5 #[ringV c first (.slice a len cap) count, .int .i64 n, .int .i64 v] w (Says w) := by
  have hcm := hI.cap_le
  unfold maxLen at hcm
  have hFew := Lib.hid (fun W => few_any c first count a len cap W hlc (by omega))
  rw [← hl2] at hFew
  have HI := Lib.hid hI; clear hI
  have hIt := Lib.hid (fun W (h : Ints W a c cap zs) => Items_ok c first count a cap zs W h hc8 hf hkc)
  have hGr := Lib.hid (fun W (h : Ints W a c cap zs) => Grow_ok c first count n a cap zs W h hc8 hf (by omega) hnc hn8)
  have HTL := Lib.hid (taken_len c first count zs)
  have HTB := Lib.hid (taken_i64 (c := c) (first := first) (count := count) HI.out.bound)
  obtain ⟨T, hT⟩ : ∃ T, T = takenL c first count zs := ⟨_, rfl⟩
  rw [← hT] at hIt HTL HTB
  have HT := Lib.hid hT
  clear hT hl2
  unfold GotItems at hIt
  unfold GotRing at hGr
  rw [← HT.out] at hGr
  have HTG := Lib.hid (taken_grow HTL.out hnc)
  have hGit := Lib.hid (fun W ga gcap (h : Ints W ga n gcap (T ++ List.replicate (n - count) 0)) => Items_ok n 0 count ga gcap (T ++ List.replicate (n - count) 0) W h hn8 (by omega) hnc)
  rw [HTG.out] at hGit
  unfold GotItems at hGit
  unfold ringV at hGit
  obtain ⟨d, hd⟩ : ∃ d : Nat, (n : Int) - (count : Int) = (d : Int) := ⟨n - count, by omega⟩
  have hn8I : (n : Int) ≤ 8 := by omega
  have hncI : (count : Int) ≤ (n : Int) := by omega
  have hd1 : decide ((n : Int) < (count : Int)) = false := by rw [decide_eq_false_iff_not]; omega
  have hd2 : decide (n < count) = false := by rw [decide_eq_false_iff_not]; omega
  have hd3 : decide ((8 : Int) < (n : Int)) = false := by rw [decide_eq_false_iff_not]; omega
  have hd4 : decide (8 < n) = false := by rw [decide_eq_false_iff_not]; omega
  have hnb : ((n : Int) == 0) = true := by rw [beq_iff_eq]; omega
  have HNZ := Lib.hid hnz; have HLZ := Lib.hid hlz
  clear hnz hlz
  unfold ringV at *
  go_enter Try.func5, Try.ntmps5
  go_wp2_with fail
  refine (hFew.out _).mono ?_
  rintro e w1 ⟨rfl, hb1⟩
  obtain ⟨h1, hB, hsz⟩ := box1 _ _ hb1
  obtain ⟨q0, q1, q2, q3⟩ := cells4 h1
  obtain ⟨f0, f1, f2, f3⟩ := froz4 h1
  have hR2 := set4_at h1 (.int .i64 c) (.int .i64 first) (.slice a c cap) (.int .i64 count)
  have hb2 := set4_below hB (Nat.le_refl _) (.int .i64 c) (.int .i64 first) (.slice a c cap) (.int .i64 count)
  have RI_0 := Lib.hid (HI.out.below hb2)
  have BR_0 : Hid (Box4 _ _ _ _ _ _) := Lib.hid hR2
  have BEL_0 := Lib.hid hb2
  clear h1 hB hb1 hb2 hR2
  go_wp2_with fail
  clear q0 q1 q2 q3 f0 f1 f2 f3
  obtain ⟨X0, hX0⟩ : ∃ x, x = set4 w1 w.heap.size (.int .i64 c) (.int .i64 first) (.slice a c cap) (.int .i64 count) := ⟨_, rfl⟩
  rw [← hX0] at RI_0 BR_0 BEL_0
  unfold set4 at hX0
  rw [← hX0]
  clear hX0
  refine (hIt.out _ RI_0.out).mono ?_
  rintro e w1 ⟨ia, inn, icap, rfl, hi, hb⟩
  have RI_1 := Lib.hid (RI_0.out.below hb)
  have BR_1 := Lib.hid (BR_0.out.below hb)
  have BEL_1 := Lib.hid (BEL_0.out.trans (Below.mono hb BEL_0.out.size))
  clear RI_0 BR_0 BEL_0
  have II_1 := Lib.hid (hi)
  clear hb hi
  obtain rfl : inn = count := by rw [← II_1.out.len_eq, HTL.out]
  obtain ⟨pBR0, pBR1, pBR2, pBR3⟩ := BR_1.out.cells
  have lBR := BR_1.out.lt
  go_wp2_with fail
  clear pBR0 pBR1 pBR2 pBR3 lBR
  refine (hGr.out _ RI_1.out).mono ?_
  rintro e w2 ⟨ga, gcap, rfl, hi, hb, hfr⟩
  have RI_2 := Lib.hid (RI_1.out.below hb)
  have BR_2 := Lib.hid (BR_1.out.below hb)
  have II_2 := Lib.hid (II_1.out.below hb)
  have BEL_2 := Lib.hid (BEL_1.out.trans (Below.mono hb BEL_1.out.size))
  clear RI_1 BR_1 II_1 BEL_1
  have GI_2 := Lib.hid (hi)
  clear hb hi
  clear hfr
  obtain ⟨pBR0, pBR1, pBR2, pBR3⟩ := BR_2.out.cells
  have lBR := BR_2.out.lt
  go_wp2_with fail
  have hialt := Lib.hid (II_2.out.lt2)
  have HBW0 := Lib.hid (BEL_2.out.size)
  have hb := below_alloc w2 (.cells #[.int .i64 n, .int .i64 0, .slice ga n gcap, .int .i64 inn] 24)
  have RI_3 := Lib.hid (RI_2.out.below hb)
  have BR_3 := Lib.hid (BR_2.out.below hb)
  have II_3 := Lib.hid (II_2.out.below hb)
  have GI_3 := Lib.hid (GI_2.out.below hb)
  have BEL_3 := Lib.hid (BEL_2.out.trans (Below.mono hb BEL_2.out.size))
  clear RI_2 BR_2 II_2 GI_2 BEL_2
  have BA_3 := Lib.hid (Box4.new w2 (.int .i64 n) (.int .i64 0) (.slice ga n gcap) (.int .i64 inn))
  clear hb
  clear pBR0 pBR1 pBR2 pBR3 lBR
  obtain ⟨X3, hX3⟩ : ∃ x, x = w2.alloc (.cells #[.int .i64 n, .int .i64 0, .slice ga n gcap, .int .i64 inn] 24) := ⟨_, rfl⟩
  obtain ⟨BBA, hBBA⟩ : ∃ x, x = w2.heap.size := ⟨_, rfl⟩
  rw [← hX3] at RI_3 BR_3 II_3 GI_3 BA_3 BEL_3 ⊢
  rw [← hBBA] at BA_3 ⊢
  have HIA : Hid (∀ x, ia = some x → 0 < inn → x.block < BBA) := Lib.hid (by rw [hBBA]; exact hialt.out)
  have HBAw : Hid (w.heap.size ≤ BBA) := Lib.hid (by rw [hBBA]; exact HBW0.out)
  clear hX3 hBBA
  refine (hGit.out _ ga gcap GI_3.out).mono ?_
  rintro e w4 ⟨ma, mn, mcap, rfl, hi, hb⟩
  have RI_4 := Lib.hid (RI_3.out.below hb)
  have BR_4 := Lib.hid (BR_3.out.below hb)
  have II_4 := Lib.hid (II_3.out.below hb)
  have GI_4 := Lib.hid (GI_3.out.below hb)
  have BA_4 := Lib.hid (BA_3.out.below hb)
  have BEL_4 := Lib.hid (BEL_3.out.trans (Below.mono hb BEL_3.out.size))
  clear RI_3 BR_3 II_3 GI_3 BA_3 BEL_3
  have MI_4 := Lib.hid (hi)
  clear hb hi
  go_wp2_with fail
  refine (rows_any _ _ _ _ _ _ _ _ _ II_4.out MI_4.out).mono ?_
  rintro e w5 ⟨rfl, hb⟩
  have RI_5 := Lib.hid (RI_4.out.below hb)
  have BR_5 := Lib.hid (BR_4.out.below hb)
  have II_5 := Lib.hid (II_4.out.below hb)
  have GI_5 := Lib.hid (GI_4.out.below hb)
  have BA_5 := Lib.hid (BA_4.out.below hb)
  have MI_5 := Lib.hid (MI_4.out.below hb)
  have BEL_5 := Lib.hid (BEL_4.out.trans (Below.mono hb BEL_4.out.size))
  clear RI_4 BR_4 II_4 GI_4 BA_4 MI_4 BEL_4
  clear hb
  rw [decide_eq_true (show T = T from rfl)]
  go_wp2_with fail
  refine (alive_any _).mono ?_
  rintro e w6 ⟨rfl, hb⟩
  have RI_6 := Lib.hid (RI_5.out.below hb)
  have BR_6 := Lib.hid (BR_5.out.below hb)
  have II_6 := Lib.hid (II_5.out.below hb)
  have GI_6 := Lib.hid (GI_5.out.below hb)
  have BA_6 := Lib.hid (BA_5.out.below hb)
  have MI_6 := Lib.hid (MI_5.out.below hb)
  have BEL_6 := Lib.hid (BEL_5.out.trans (Below.mono hb BEL_5.out.size))
  clear RI_5 BR_5 II_5 GI_5 BA_5 MI_5 BEL_5
  clear hb
  go_wp2_with fail
  have HINV := Lib.hid (show GInv w BBA n inn ga gcap (T ++ List.replicate (n - inn) 0) T w6 from ⟨BA_6.out, GI_6.out, HTG.out, BEL_6.out, HBAw.out⟩)
  go_loopw [79] (fun i wr => ∃ (k cnt : Nat) (sa : Option Addr) (scap : Nat) (zk M : List Int), k ≤ d ∧ i = .int .i64 k ∧ Hid (cnt = inn + k) ∧ GInv w BBA n cnt sa scap zk (T ++ M) wr ∧ M.length = k ∧ (0 < k → M.head? = some v) ∧ Ints wr ia inn icap T) (fun i _ => d - (intOf i).toNat)
  case atStart => exact ⟨0, inn, _, _, _, [], Nat.zero_le _, rfl, rfl, by rw [List.append_nil]; exact HINV.out, rfl, fun h => absurd h (by omega), II_6.out⟩
  case round =>
    obtain ⟨k, cnt, sa, scap, zk, M, hk, rfl, HCN, hinv, hml, hhd, hbl⟩ := hrel
    have HV := Lib.hid hinv; have HHD := Lib.hid hhd; have HBL := Lib.hid hbl; have hMl := Lib.hid hml; clear hinv hhd hbl hml
    by_cases hlt : k < d
    · have hlt' : (k : Int) < (d : Int) := by omega
      obtain ⟨y, hy⟩ : ∃ y, wrap64 (v + (k : Int)) = y := ⟨_, rfl⟩
      have hyI : I64 y := by rw [← hy]; exact wrap64_i64 _
      have hy0 := Lib.hid (show k = 0 → y = v by intro h; subst h; rw [← hy]; unfold I64 at hvI; unfold wrap64; omega)
      have hcn : cnt < n := by have := HCN.out; omega
      have hPu := Lib.hid (fun W (h : Ints W sa n scap zk) => Push_ok n 0 cnt sa scap zk y W h hn8 (by omega) hcn hyI)
      unfold GotRing ringV at hPu
      have HTP := Lib.hid (taken_push n 0 cnt zk y HV.out.slots.len_eq hcn)
      obtain ⟨p0, p1, p2, p3⟩ := HV.out.box.cells
      go_wp2_with fail
      refine (hPu.out _ HV.out.slots).mono ?_
      rintro e w2 ⟨pa, pcap, rfl, hi, hb, hfr⟩
      have HV2 := Lib.hid (HV.out.later hb)
      have HB2 := Lib.hid hb; have HS2 := Lib.hid hi; have HF2 := Lib.hid hfr
      have hlA := HV2.out.box.lt
      clear p0 p1 p2 p3 hb hi hfr
      obtain ⟨p0, p1, p2, p3⟩ := HV2.out.box.cells
      obtain ⟨f0, f1, f2, f3⟩ := HV2.out.box.froz
      go_wp2_with fail
      have HNX := Lib.hid ((ginv_set (cnt := cnt + 1) (L := T ++ (M ++ [y])) HV2.out.box HS2.out (fun x hx e => by have h1 := HF2.out x hx; have h2 := HV.out.box.lt; omega) (by rw [HTP.out, HV.out.tak, List.append_assoc]) HV2.out.below HV.out.base).later (below_alloc _ (.cells #[.int .i64 n, .int .i64 0, .slice pa n pcap, .int .i64 ((cnt : Int) + 1)] 24)))
      have HB3 := Lib.hid (((HBL.out.below HB2.out).kept4 BBA (fun x hx hp => by have := HIA.out x hx hp; omega) (.int .i64 n) (.int .i64 0) (.slice pa n pcap) (.int .i64 ((cnt : Int) + 1))).below (below_alloc _ (.cells #[.int .i64 n, .int .i64 0, .slice pa n pcap, .int .i64 ((cnt : Int) + 1)] 24)))
      clear p0 p1 p2 p3 f0 f1 f2 f3
      go_roundw
      case rel => exact ⟨k + 1, cnt + 1, _, _, _, M ++ [y], by omega, by go_num, by have := HCN.out; show _ = _; omega, HNX.out, by have := hMl.out; simp [this], fun _ => head_snoc (k := k) HHD.out hMl.out hy0.out, HB3.out⟩
      case measure => simp [intOf]; omega
    · have hkd : k = d := by omega
      subst hkd
      have hcn : cnt = n := by have := HCN.out; omega
      have HCNN := Lib.hid hcn; clear hcn
      have hPf := Lib.hid (fun W => Push_full' n 0 cnt sa scap v W hn8 (by omega) HCNN.out)
      unfold NoRing ringV at hPf
      have HRB := Lib.hid (HV.out.tak)
      have hPo := Lib.hid (fun W => Pop_none' n 0 cnt sa scap W hn8 (by omega) (by have := HNZ.out; have := HCNN.out; omega))
      unfold NoPop ringV at hPo
      obtain ⟨p0, p1, p2, p3⟩ := HV.out.box.cells
      go_wp2_with fail
      refine (hPf.out _).mono ?_
      rintro e w2 ⟨rfl, hb⟩
      have HV2 := Lib.hid (HV.out.later hb); have HL2 := Lib.hid (HBL.out.below hb)
      have lA := HV2.out.box.lt
      clear p0 p1 p2 p3 hb
      obtain ⟨p0, p1, p2, p3⟩ := HV2.out.box.cells
      go_wp2_with fail
      have HV3 := Lib.hid (HV2.out.later (below_alloc w2 (.cells #[.int .i64 0, .int .i64 0, .slice none 0 0, .int .i64 0] 24))); have HL3 := Lib.hid (HL2.out.below (below_alloc w2 (.cells #[.int .i64 0, .int .i64 0, .slice none 0 0, .int .i64 0] 24)))
      clear p0 p1 p2 p3
      refine (hPo.out _).mono ?_
      rintro e w4 ⟨rfl, hb⟩
      have HV4 := Lib.hid (HV3.out.later hb)
      clear hb
      go_wp2_with fail
      go_ret
      exact ⟨ret_bool rfl, HV4.out.below.alloc HV4.out.below.size _⟩
set_option maxRecDepth 100000 in
set_option maxHeartbeats 8000000 in
theorem grows_pos_none (c first count n : Nat) (a : Option Addr) (len cap : Nat) (zs : List Int) (v : Int) (w : World) (hl2 : c = min len 12) (hI : Ints w a c cap zs) (hlc : len ≤ cap) (hc8 : c ≤ 8) (hf : first < max c 1) (hkc : count ≤ c) (hn8 : n ≤ 8) (hnc : count ≤ n) (hnz : 0 < n) (hlz : count = 0) (hvI : I64 v) :
    Calls Try.prog 5 #[ringV c first (.slice a len cap) count, .int .i64 n, .int .i64 v] w (Says w) := by
  have hcm := hI.cap_le
  unfold maxLen at hcm
  have hFew := Lib.hid (fun W => few_any c first count a len cap W hlc (by omega))
  rw [← hl2] at hFew
  have HI := Lib.hid hI; clear hI
  have hIt := Lib.hid (fun W (h : Ints W a c cap zs) => Items_ok c first count a cap zs W h hc8 hf hkc)
  have hGr := Lib.hid (fun W (h : Ints W a c cap zs) => Grow_ok c first count n a cap zs W h hc8 hf (by omega) hnc hn8)
  have HTL := Lib.hid (taken_len c first count zs)
  have HTB := Lib.hid (taken_i64 (c := c) (first := first) (count := count) HI.out.bound)
  obtain ⟨T, hT⟩ : ∃ T, T = takenL c first count zs := ⟨_, rfl⟩
  rw [← hT] at hIt HTL HTB
  have HT := Lib.hid hT
  clear hT hl2
  unfold GotItems at hIt
  unfold GotRing at hGr
  rw [← HT.out] at hGr
  have HTG := Lib.hid (taken_grow HTL.out hnc)
  have hGit := Lib.hid (fun W ga gcap (h : Ints W ga n gcap (T ++ List.replicate (n - count) 0)) => Items_ok n 0 count ga gcap (T ++ List.replicate (n - count) 0) W h hn8 (by omega) hnc)
  rw [HTG.out] at hGit
  unfold GotItems at hGit
  unfold ringV at hGit
  obtain ⟨d, hd⟩ : ∃ d : Nat, (n : Int) - (count : Int) = (d : Int) := ⟨n - count, by omega⟩
  have hn8I : (n : Int) ≤ 8 := by omega
  have hncI : (count : Int) ≤ (n : Int) := by omega
  have hd1 : decide ((n : Int) < (count : Int)) = false := by rw [decide_eq_false_iff_not]; omega
  have hd2 : decide (n < count) = false := by rw [decide_eq_false_iff_not]; omega
  have hd3 : decide ((8 : Int) < (n : Int)) = false := by rw [decide_eq_false_iff_not]; omega
  have hd4 : decide (8 < n) = false := by rw [decide_eq_false_iff_not]; omega
  have hnb : ((n : Int) == 0) = false := by rw [beq_eq_false_iff_ne]; omega
  have HNZ := Lib.hid hnz; have HLZ := Lib.hid hlz
  clear hnz hlz
  unfold ringV at *
  go_enter Try.func5, Try.ntmps5
  go_wp2_with fail
  refine (hFew.out _).mono ?_
  rintro e w1 ⟨rfl, hb1⟩
  obtain ⟨h1, hB, hsz⟩ := box1 _ _ hb1
  obtain ⟨q0, q1, q2, q3⟩ := cells4 h1
  obtain ⟨f0, f1, f2, f3⟩ := froz4 h1
  have hR2 := set4_at h1 (.int .i64 c) (.int .i64 first) (.slice a c cap) (.int .i64 count)
  have hb2 := set4_below hB (Nat.le_refl _) (.int .i64 c) (.int .i64 first) (.slice a c cap) (.int .i64 count)
  have RI_0 := Lib.hid (HI.out.below hb2)
  have BR_0 : Hid (Box4 _ _ _ _ _ _) := Lib.hid hR2
  have BEL_0 := Lib.hid hb2
  clear h1 hB hb1 hb2 hR2
  go_wp2_with fail
  clear q0 q1 q2 q3 f0 f1 f2 f3
  obtain ⟨X0, hX0⟩ : ∃ x, x = set4 w1 w.heap.size (.int .i64 c) (.int .i64 first) (.slice a c cap) (.int .i64 count) := ⟨_, rfl⟩
  rw [← hX0] at RI_0 BR_0 BEL_0
  unfold set4 at hX0
  rw [← hX0]
  clear hX0
  refine (hIt.out _ RI_0.out).mono ?_
  rintro e w1 ⟨ia, inn, icap, rfl, hi, hb⟩
  have RI_1 := Lib.hid (RI_0.out.below hb)
  have BR_1 := Lib.hid (BR_0.out.below hb)
  have BEL_1 := Lib.hid (BEL_0.out.trans (Below.mono hb BEL_0.out.size))
  clear RI_0 BR_0 BEL_0
  have II_1 := Lib.hid (hi)
  clear hb hi
  obtain rfl : inn = count := by rw [← II_1.out.len_eq, HTL.out]
  obtain ⟨pBR0, pBR1, pBR2, pBR3⟩ := BR_1.out.cells
  have lBR := BR_1.out.lt
  go_wp2_with fail
  clear pBR0 pBR1 pBR2 pBR3 lBR
  refine (hGr.out _ RI_1.out).mono ?_
  rintro e w2 ⟨ga, gcap, rfl, hi, hb, hfr⟩
  have RI_2 := Lib.hid (RI_1.out.below hb)
  have BR_2 := Lib.hid (BR_1.out.below hb)
  have II_2 := Lib.hid (II_1.out.below hb)
  have BEL_2 := Lib.hid (BEL_1.out.trans (Below.mono hb BEL_1.out.size))
  clear RI_1 BR_1 II_1 BEL_1
  have GI_2 := Lib.hid (hi)
  clear hb hi
  clear hfr
  obtain ⟨pBR0, pBR1, pBR2, pBR3⟩ := BR_2.out.cells
  have lBR := BR_2.out.lt
  go_wp2_with fail
  have hialt := Lib.hid (II_2.out.lt2)
  have HBW0 := Lib.hid (BEL_2.out.size)
  have hb := below_alloc w2 (.cells #[.int .i64 n, .int .i64 0, .slice ga n gcap, .int .i64 inn] 24)
  have RI_3 := Lib.hid (RI_2.out.below hb)
  have BR_3 := Lib.hid (BR_2.out.below hb)
  have II_3 := Lib.hid (II_2.out.below hb)
  have GI_3 := Lib.hid (GI_2.out.below hb)
  have BEL_3 := Lib.hid (BEL_2.out.trans (Below.mono hb BEL_2.out.size))
  clear RI_2 BR_2 II_2 GI_2 BEL_2
  have BA_3 := Lib.hid (Box4.new w2 (.int .i64 n) (.int .i64 0) (.slice ga n gcap) (.int .i64 inn))
  clear hb
  clear pBR0 pBR1 pBR2 pBR3 lBR
  obtain ⟨X3, hX3⟩ : ∃ x, x = w2.alloc (.cells #[.int .i64 n, .int .i64 0, .slice ga n gcap, .int .i64 inn] 24) := ⟨_, rfl⟩
  obtain ⟨BBA, hBBA⟩ : ∃ x, x = w2.heap.size := ⟨_, rfl⟩
  rw [← hX3] at RI_3 BR_3 II_3 GI_3 BA_3 BEL_3 ⊢
  rw [← hBBA] at BA_3 ⊢
  have HIA : Hid (∀ x, ia = some x → 0 < inn → x.block < BBA) := Lib.hid (by rw [hBBA]; exact hialt.out)
  have HBAw : Hid (w.heap.size ≤ BBA) := Lib.hid (by rw [hBBA]; exact HBW0.out)
  clear hX3 hBBA
  refine (hGit.out _ ga gcap GI_3.out).mono ?_
  rintro e w4 ⟨ma, mn, mcap, rfl, hi, hb⟩
  have RI_4 := Lib.hid (RI_3.out.below hb)
  have BR_4 := Lib.hid (BR_3.out.below hb)
  have II_4 := Lib.hid (II_3.out.below hb)
  have GI_4 := Lib.hid (GI_3.out.below hb)
  have BA_4 := Lib.hid (BA_3.out.below hb)
  have BEL_4 := Lib.hid (BEL_3.out.trans (Below.mono hb BEL_3.out.size))
  clear RI_3 BR_3 II_3 GI_3 BA_3 BEL_3
  have MI_4 := Lib.hid (hi)
  clear hb hi
  go_wp2_with fail
  refine (rows_any _ _ _ _ _ _ _ _ _ II_4.out MI_4.out).mono ?_
  rintro e w5 ⟨rfl, hb⟩
  have RI_5 := Lib.hid (RI_4.out.below hb)
  have BR_5 := Lib.hid (BR_4.out.below hb)
  have II_5 := Lib.hid (II_4.out.below hb)
  have GI_5 := Lib.hid (GI_4.out.below hb)
  have BA_5 := Lib.hid (BA_4.out.below hb)
  have MI_5 := Lib.hid (MI_4.out.below hb)
  have BEL_5 := Lib.hid (BEL_4.out.trans (Below.mono hb BEL_4.out.size))
  clear RI_4 BR_4 II_4 GI_4 BA_4 MI_4 BEL_4
  clear hb
  rw [decide_eq_true (show T = T from rfl)]
  go_wp2_with fail
  refine (alive_any _).mono ?_
  rintro e w6 ⟨rfl, hb⟩
  have RI_6 := Lib.hid (RI_5.out.below hb)
  have BR_6 := Lib.hid (BR_5.out.below hb)
  have II_6 := Lib.hid (II_5.out.below hb)
  have GI_6 := Lib.hid (GI_5.out.below hb)
  have BA_6 := Lib.hid (BA_5.out.below hb)
  have MI_6 := Lib.hid (MI_5.out.below hb)
  have BEL_6 := Lib.hid (BEL_5.out.trans (Below.mono hb BEL_5.out.size))
  clear RI_5 BR_5 II_5 GI_5 BA_5 MI_5 BEL_5
  clear hb
  go_wp2_with fail
  have HINV := Lib.hid (show GInv w BBA n inn ga gcap (T ++ List.replicate (n - inn) 0) T w6 from ⟨BA_6.out, GI_6.out, HTG.out, BEL_6.out, HBAw.out⟩)
  go_loopw [79] (fun i wr => ∃ (k cnt : Nat) (sa : Option Addr) (scap : Nat) (zk M : List Int), k ≤ d ∧ i = .int .i64 k ∧ Hid (cnt = inn + k) ∧ GInv w BBA n cnt sa scap zk (T ++ M) wr ∧ M.length = k ∧ (0 < k → M.head? = some v) ∧ Ints wr ia inn icap T) (fun i _ => d - (intOf i).toNat)
  case atStart => exact ⟨0, inn, _, _, _, [], Nat.zero_le _, rfl, rfl, by rw [List.append_nil]; exact HINV.out, rfl, fun h => absurd h (by omega), II_6.out⟩
  case round =>
    obtain ⟨k, cnt, sa, scap, zk, M, hk, rfl, HCN, hinv, hml, hhd, hbl⟩ := hrel
    have HV := Lib.hid hinv; have HHD := Lib.hid hhd; have HBL := Lib.hid hbl; have hMl := Lib.hid hml; clear hinv hhd hbl hml
    by_cases hlt : k < d
    · have hlt' : (k : Int) < (d : Int) := by omega
      obtain ⟨y, hy⟩ : ∃ y, wrap64 (v + (k : Int)) = y := ⟨_, rfl⟩
      have hyI : I64 y := by rw [← hy]; exact wrap64_i64 _
      have hy0 := Lib.hid (show k = 0 → y = v by intro h; subst h; rw [← hy]; unfold I64 at hvI; unfold wrap64; omega)
      have hcn : cnt < n := by have := HCN.out; omega
      have hPu := Lib.hid (fun W (h : Ints W sa n scap zk) => Push_ok n 0 cnt sa scap zk y W h hn8 (by omega) hcn hyI)
      unfold GotRing ringV at hPu
      have HTP := Lib.hid (taken_push n 0 cnt zk y HV.out.slots.len_eq hcn)
      obtain ⟨p0, p1, p2, p3⟩ := HV.out.box.cells
      go_wp2_with fail
      refine (hPu.out _ HV.out.slots).mono ?_
      rintro e w2 ⟨pa, pcap, rfl, hi, hb, hfr⟩
      have HV2 := Lib.hid (HV.out.later hb)
      have HB2 := Lib.hid hb; have HS2 := Lib.hid hi; have HF2 := Lib.hid hfr
      have hlA := HV2.out.box.lt
      clear p0 p1 p2 p3 hb hi hfr
      obtain ⟨p0, p1, p2, p3⟩ := HV2.out.box.cells
      obtain ⟨f0, f1, f2, f3⟩ := HV2.out.box.froz
      go_wp2_with fail
      have HNX := Lib.hid ((ginv_set (cnt := cnt + 1) (L := T ++ (M ++ [y])) HV2.out.box HS2.out (fun x hx e => by have h1 := HF2.out x hx; have h2 := HV.out.box.lt; omega) (by rw [HTP.out, HV.out.tak, List.append_assoc]) HV2.out.below HV.out.base).later (below_alloc _ (.cells #[.int .i64 n, .int .i64 0, .slice pa n pcap, .int .i64 ((cnt : Int) + 1)] 24)))
      have HB3 := Lib.hid (((HBL.out.below HB2.out).kept4 BBA (fun x hx hp => by have := HIA.out x hx hp; omega) (.int .i64 n) (.int .i64 0) (.slice pa n pcap) (.int .i64 ((cnt : Int) + 1))).below (below_alloc _ (.cells #[.int .i64 n, .int .i64 0, .slice pa n pcap, .int .i64 ((cnt : Int) + 1)] 24)))
      clear p0 p1 p2 p3 f0 f1 f2 f3
      go_roundw
      case rel => exact ⟨k + 1, cnt + 1, _, _, _, M ++ [y], by omega, by go_num, by have := HCN.out; show _ = _; omega, HNX.out, by have := hMl.out; simp [this], fun _ => head_snoc (k := k) HHD.out hMl.out hy0.out, HB3.out⟩
      case measure => simp [intOf]; omega
    · have hkd : k = d := by omega
      subst hkd
      have hcn : cnt = n := by have := HCN.out; omega
      have HCNN := Lib.hid hcn; clear hcn
      have hPf := Lib.hid (fun W => Push_full' n 0 cnt sa scap v W hn8 (by omega) HCNN.out)
      unfold NoRing ringV at hPf
      have HRB := Lib.hid (HV.out.tak)
      obtain ⟨k1, hk1⟩ : ∃ k1, cnt = k1 + 1 := ⟨cnt - 1, by have := HNZ.out; have := HCNN.out; omega⟩
      have hn0 := HNZ.out
      have hPo := Lib.hid (fun W (h : Ints W sa n scap zk) => Pop_ok n 0 k1 cnt hk1 sa scap zk W h hn8 hn0 (by have := HCNN.out; omega) (by omega))
      unfold PopRing ringV at hPo
      have hIr := Lib.hid (fun W oa ocap (h : Ints W oa n ocap (zk.set 0 0)) => Items_ok n ((0 + 1) % n) k1 oa ocap (zk.set 0 0) W h hn8 (by have := Nat.mod_lt (0 + 1) hn0; omega) (by have := HCNN.out; omega))
      have HTK := Lib.hid (taken_len n ((0 + 1) % n) k1 (zk.set 0 0))
      unfold GotItems ringV at hIr
      have HHE := Lib.hid (head_of HV.out.slots.len_eq HV.out.tak hk1 (by have := HCNN.out; omega) (fun e => HHD.out (by have h1 := HTL.out; rw [e] at h1; simp at h1; have := HCN.out; have := HNZ.out; have := HCNN.out; omega)))
      obtain ⟨x, hx⟩ : ∃ x, x = en zk 0 := ⟨_, rfl⟩
      obtain ⟨q, hq⟩ : ∃ q, q = (0 + 1) % n := ⟨_, rfl⟩
      rw [← hx, ← hq] at hPo
      rw [← hq] at hIr HTK
      rw [← hx] at HHE
      have hkb : ((k1 : Int) == (n : Int) - 1) = true := by rw [beq_iff_eq]; have := HCNN.out; omega
      have HK1 := Lib.hid hk1
      clear hx hq hk1
      have hxv : x = v := by have h1 := HHE.out; rw [if_neg (by rw [HTL.out]; have := HLZ.out; omega)] at h1; exact h1
      subst hxv
      have hlz0 : decide ((0 : Int) < (inn : Int)) = false := by rw [decide_eq_false_iff_not]; have := HLZ.out; omega
      have hlz1 : (inn : Int) ≤ 0 := by have := HLZ.out; omega
      have hxx : (x == x) = true := by simp
      obtain ⟨p0, p1, p2, p3⟩ := HV.out.box.cells
      go_wp2_with fail
      refine (hPf.out _).mono ?_
      rintro e w2 ⟨rfl, hb⟩
      have HV2 := Lib.hid (HV.out.later hb); have HL2 := Lib.hid (HBL.out.below hb)
      have lA := HV2.out.box.lt
      clear p0 p1 p2 p3 hb
      obtain ⟨p0, p1, p2, p3⟩ := HV2.out.box.cells
      go_wp2_with fail
      have HV3 := Lib.hid (HV2.out.later (below_alloc w2 (.cells #[.int .i64 0, .int .i64 0, .slice none 0 0, .int .i64 0] 24))); have HL3 := Lib.hid (HL2.out.below (below_alloc w2 (.cells #[.int .i64 0, .int .i64 0, .slice none 0 0, .int .i64 0] 24)))
      clear p0 p1 p2 p3
      refine (hPo.out _ HV3.out.slots).mono ?_
      rintro e w4 ⟨oa, ocap, rfl, hi, hb, hfr⟩
      have HV4 := Lib.hid (HV3.out.later hb); have HL4 := Lib.hid (HL3.out.below hb); have HO4 := Lib.hid hi
      clear hb hi hfr
      go_wp2_with fail
      have HV5 := Lib.hid (HV4.out.later (below_alloc w4 (.cells #[.int .i64 n, .int .i64 q, .slice oa n ocap, .int .i64 k1] 24))); have HL5 := Lib.hid (HL4.out.below (below_alloc w4 (.cells #[.int .i64 n, .int .i64 q, .slice oa n ocap, .int .i64 k1] 24))); have HO5 := Lib.hid (HO4.out.below (below_alloc w4 (.cells #[.int .i64 n, .int .i64 q, .slice oa n ocap, .int .i64 k1] 24)))
      refine (hIr.out _ _ _ HO5.out).mono ?_
      rintro e w6 ⟨ra, rn, rcap, rfl, hi, hb⟩
      obtain rfl : rn = k1 := by rw [← hi.len_eq, HTK.out]
      have HV6 := Lib.hid (HV5.out.later hb); have HL6 := Lib.hid (HL5.out.below hb)
      clear hb hi
      go_wp2_with fail
      go_ret
      exact ⟨ret_bool rfl, HV6.out.below⟩
set_option maxRecDepth 100000 in
set_option maxHeartbeats 8000000 in
theorem grows_pos_some (c first count n : Nat) (a : Option Addr) (len cap : Nat) (zs : List Int) (v : Int) (w : World) (hl2 : c = min len 12) (hI : Ints w a c cap zs) (hlc : len ≤ cap) (hc8 : c ≤ 8) (hf : first < max c 1) (hkc : count ≤ c) (hn8 : n ≤ 8) (hnc : count ≤ n) (hnz : 0 < n) (hlz : 0 < count) (hvI : I64 v) :
    Calls Try.prog 5 #[ringV c first (.slice a len cap) count, .int .i64 n, .int .i64 v] w (Says w) := by
  have hcm := hI.cap_le
  unfold maxLen at hcm
  have hFew := Lib.hid (fun W => few_any c first count a len cap W hlc (by omega))
  rw [← hl2] at hFew
  have HI := Lib.hid hI; clear hI
  have hIt := Lib.hid (fun W (h : Ints W a c cap zs) => Items_ok c first count a cap zs W h hc8 hf hkc)
  have hGr := Lib.hid (fun W (h : Ints W a c cap zs) => Grow_ok c first count n a cap zs W h hc8 hf (by omega) hnc hn8)
  have HTL := Lib.hid (taken_len c first count zs)
  have HTB := Lib.hid (taken_i64 (c := c) (first := first) (count := count) HI.out.bound)
  obtain ⟨T, hT⟩ : ∃ T, T = takenL c first count zs := ⟨_, rfl⟩
  rw [← hT] at hIt HTL HTB
  have HT := Lib.hid hT
  clear hT hl2
  unfold GotItems at hIt
  unfold GotRing at hGr
  rw [← HT.out] at hGr
  have HTG := Lib.hid (taken_grow HTL.out hnc)
  have hGit := Lib.hid (fun W ga gcap (h : Ints W ga n gcap (T ++ List.replicate (n - count) 0)) => Items_ok n 0 count ga gcap (T ++ List.replicate (n - count) 0) W h hn8 (by omega) hnc)
  rw [HTG.out] at hGit
  unfold GotItems at hGit
  unfold ringV at hGit
  obtain ⟨d, hd⟩ : ∃ d : Nat, (n : Int) - (count : Int) = (d : Int) := ⟨n - count, by omega⟩
  have hn8I : (n : Int) ≤ 8 := by omega
  have hncI : (count : Int) ≤ (n : Int) := by omega
  have hd1 : decide ((n : Int) < (count : Int)) = false := by rw [decide_eq_false_iff_not]; omega
  have hd2 : decide (n < count) = false := by rw [decide_eq_false_iff_not]; omega
  have hd3 : decide ((8 : Int) < (n : Int)) = false := by rw [decide_eq_false_iff_not]; omega
  have hd4 : decide (8 < n) = false := by rw [decide_eq_false_iff_not]; omega
  have hnb : ((n : Int) == 0) = false := by rw [beq_eq_false_iff_ne]; omega
  have HNZ := Lib.hid hnz; have HLZ := Lib.hid hlz
  clear hnz hlz
  unfold ringV at *
  go_enter Try.func5, Try.ntmps5
  go_wp2_with fail
  refine (hFew.out _).mono ?_
  rintro e w1 ⟨rfl, hb1⟩
  obtain ⟨h1, hB, hsz⟩ := box1 _ _ hb1
  obtain ⟨q0, q1, q2, q3⟩ := cells4 h1
  obtain ⟨f0, f1, f2, f3⟩ := froz4 h1
  have hR2 := set4_at h1 (.int .i64 c) (.int .i64 first) (.slice a c cap) (.int .i64 count)
  have hb2 := set4_below hB (Nat.le_refl _) (.int .i64 c) (.int .i64 first) (.slice a c cap) (.int .i64 count)
  have RI_0 := Lib.hid (HI.out.below hb2)
  have BR_0 : Hid (Box4 _ _ _ _ _ _) := Lib.hid hR2
  have BEL_0 := Lib.hid hb2
  clear h1 hB hb1 hb2 hR2
  go_wp2_with fail
  clear q0 q1 q2 q3 f0 f1 f2 f3
  obtain ⟨X0, hX0⟩ : ∃ x, x = set4 w1 w.heap.size (.int .i64 c) (.int .i64 first) (.slice a c cap) (.int .i64 count) := ⟨_, rfl⟩
  rw [← hX0] at RI_0 BR_0 BEL_0
  unfold set4 at hX0
  rw [← hX0]
  clear hX0
  refine (hIt.out _ RI_0.out).mono ?_
  rintro e w1 ⟨ia, inn, icap, rfl, hi, hb⟩
  have RI_1 := Lib.hid (RI_0.out.below hb)
  have BR_1 := Lib.hid (BR_0.out.below hb)
  have BEL_1 := Lib.hid (BEL_0.out.trans (Below.mono hb BEL_0.out.size))
  clear RI_0 BR_0 BEL_0
  have II_1 := Lib.hid (hi)
  clear hb hi
  obtain rfl : inn = count := by rw [← II_1.out.len_eq, HTL.out]
  obtain ⟨pBR0, pBR1, pBR2, pBR3⟩ := BR_1.out.cells
  have lBR := BR_1.out.lt
  go_wp2_with fail
  clear pBR0 pBR1 pBR2 pBR3 lBR
  refine (hGr.out _ RI_1.out).mono ?_
  rintro e w2 ⟨ga, gcap, rfl, hi, hb, hfr⟩
  have RI_2 := Lib.hid (RI_1.out.below hb)
  have BR_2 := Lib.hid (BR_1.out.below hb)
  have II_2 := Lib.hid (II_1.out.below hb)
  have BEL_2 := Lib.hid (BEL_1.out.trans (Below.mono hb BEL_1.out.size))
  clear RI_1 BR_1 II_1 BEL_1
  have GI_2 := Lib.hid (hi)
  clear hb hi
  clear hfr
  obtain ⟨pBR0, pBR1, pBR2, pBR3⟩ := BR_2.out.cells
  have lBR := BR_2.out.lt
  go_wp2_with fail
  have hialt := Lib.hid (II_2.out.lt2)
  have HBW0 := Lib.hid (BEL_2.out.size)
  have hb := below_alloc w2 (.cells #[.int .i64 n, .int .i64 0, .slice ga n gcap, .int .i64 inn] 24)
  have RI_3 := Lib.hid (RI_2.out.below hb)
  have BR_3 := Lib.hid (BR_2.out.below hb)
  have II_3 := Lib.hid (II_2.out.below hb)
  have GI_3 := Lib.hid (GI_2.out.below hb)
  have BEL_3 := Lib.hid (BEL_2.out.trans (Below.mono hb BEL_2.out.size))
  clear RI_2 BR_2 II_2 GI_2 BEL_2
  have BA_3 := Lib.hid (Box4.new w2 (.int .i64 n) (.int .i64 0) (.slice ga n gcap) (.int .i64 inn))
  clear hb
  clear pBR0 pBR1 pBR2 pBR3 lBR
  obtain ⟨X3, hX3⟩ : ∃ x, x = w2.alloc (.cells #[.int .i64 n, .int .i64 0, .slice ga n gcap, .int .i64 inn] 24) := ⟨_, rfl⟩
  obtain ⟨BBA, hBBA⟩ : ∃ x, x = w2.heap.size := ⟨_, rfl⟩
  rw [← hX3] at RI_3 BR_3 II_3 GI_3 BA_3 BEL_3 ⊢
  rw [← hBBA] at BA_3 ⊢
  have HIA : Hid (∀ x, ia = some x → 0 < inn → x.block < BBA) := Lib.hid (by rw [hBBA]; exact hialt.out)
  have HBAw : Hid (w.heap.size ≤ BBA) := Lib.hid (by rw [hBBA]; exact HBW0.out)
  clear hX3 hBBA
  refine (hGit.out _ ga gcap GI_3.out).mono ?_
  rintro e w4 ⟨ma, mn, mcap, rfl, hi, hb⟩
  have RI_4 := Lib.hid (RI_3.out.below hb)
  have BR_4 := Lib.hid (BR_3.out.below hb)
  have II_4 := Lib.hid (II_3.out.below hb)
  have GI_4 := Lib.hid (GI_3.out.below hb)
  have BA_4 := Lib.hid (BA_3.out.below hb)
  have BEL_4 := Lib.hid (BEL_3.out.trans (Below.mono hb BEL_3.out.size))
  clear RI_3 BR_3 II_3 GI_3 BA_3 BEL_3
  have MI_4 := Lib.hid (hi)
  clear hb hi
  go_wp2_with fail
  refine (rows_any _ _ _ _ _ _ _ _ _ II_4.out MI_4.out).mono ?_
  rintro e w5 ⟨rfl, hb⟩
  have RI_5 := Lib.hid (RI_4.out.below hb)
  have BR_5 := Lib.hid (BR_4.out.below hb)
  have II_5 := Lib.hid (II_4.out.below hb)
  have GI_5 := Lib.hid (GI_4.out.below hb)
  have BA_5 := Lib.hid (BA_4.out.below hb)
  have MI_5 := Lib.hid (MI_4.out.below hb)
  have BEL_5 := Lib.hid (BEL_4.out.trans (Below.mono hb BEL_4.out.size))
  clear RI_4 BR_4 II_4 GI_4 BA_4 MI_4 BEL_4
  clear hb
  rw [decide_eq_true (show T = T from rfl)]
  go_wp2_with fail
  refine (alive_any _).mono ?_
  rintro e w6 ⟨rfl, hb⟩
  have RI_6 := Lib.hid (RI_5.out.below hb)
  have BR_6 := Lib.hid (BR_5.out.below hb)
  have II_6 := Lib.hid (II_5.out.below hb)
  have GI_6 := Lib.hid (GI_5.out.below hb)
  have BA_6 := Lib.hid (BA_5.out.below hb)
  have MI_6 := Lib.hid (MI_5.out.below hb)
  have BEL_6 := Lib.hid (BEL_5.out.trans (Below.mono hb BEL_5.out.size))
  clear RI_5 BR_5 II_5 GI_5 BA_5 MI_5 BEL_5
  clear hb
  go_wp2_with fail
  have HINV := Lib.hid (show GInv w BBA n inn ga gcap (T ++ List.replicate (n - inn) 0) T w6 from ⟨BA_6.out, GI_6.out, HTG.out, BEL_6.out, HBAw.out⟩)
  go_loopw [79] (fun i wr => ∃ (k cnt : Nat) (sa : Option Addr) (scap : Nat) (zk M : List Int), k ≤ d ∧ i = .int .i64 k ∧ Hid (cnt = inn + k) ∧ GInv w BBA n cnt sa scap zk (T ++ M) wr ∧ M.length = k ∧ (0 < k → M.head? = some v) ∧ Ints wr ia inn icap T) (fun i _ => d - (intOf i).toNat)
  case atStart => exact ⟨0, inn, _, _, _, [], Nat.zero_le _, rfl, rfl, by rw [List.append_nil]; exact HINV.out, rfl, fun h => absurd h (by omega), II_6.out⟩
  case round =>
    obtain ⟨k, cnt, sa, scap, zk, M, hk, rfl, HCN, hinv, hml, hhd, hbl⟩ := hrel
    have HV := Lib.hid hinv; have HHD := Lib.hid hhd; have HBL := Lib.hid hbl; have hMl := Lib.hid hml; clear hinv hhd hbl hml
    by_cases hlt : k < d
    · have hlt' : (k : Int) < (d : Int) := by omega
      obtain ⟨y, hy⟩ : ∃ y, wrap64 (v + (k : Int)) = y := ⟨_, rfl⟩
      have hyI : I64 y := by rw [← hy]; exact wrap64_i64 _
      have hy0 := Lib.hid (show k = 0 → y = v by intro h; subst h; rw [← hy]; unfold I64 at hvI; unfold wrap64; omega)
      have hcn : cnt < n := by have := HCN.out; omega
      have hPu := Lib.hid (fun W (h : Ints W sa n scap zk) => Push_ok n 0 cnt sa scap zk y W h hn8 (by omega) hcn hyI)
      unfold GotRing ringV at hPu
      have HTP := Lib.hid (taken_push n 0 cnt zk y HV.out.slots.len_eq hcn)
      obtain ⟨p0, p1, p2, p3⟩ := HV.out.box.cells
      go_wp2_with fail
      refine (hPu.out _ HV.out.slots).mono ?_
      rintro e w2 ⟨pa, pcap, rfl, hi, hb, hfr⟩
      have HV2 := Lib.hid (HV.out.later hb)
      have HB2 := Lib.hid hb; have HS2 := Lib.hid hi; have HF2 := Lib.hid hfr
      have hlA := HV2.out.box.lt
      clear p0 p1 p2 p3 hb hi hfr
      obtain ⟨p0, p1, p2, p3⟩ := HV2.out.box.cells
      obtain ⟨f0, f1, f2, f3⟩ := HV2.out.box.froz
      go_wp2_with fail
      have HNX := Lib.hid ((ginv_set (cnt := cnt + 1) (L := T ++ (M ++ [y])) HV2.out.box HS2.out (fun x hx e => by have h1 := HF2.out x hx; have h2 := HV.out.box.lt; omega) (by rw [HTP.out, HV.out.tak, List.append_assoc]) HV2.out.below HV.out.base).later (below_alloc _ (.cells #[.int .i64 n, .int .i64 0, .slice pa n pcap, .int .i64 ((cnt : Int) + 1)] 24)))
      have HB3 := Lib.hid (((HBL.out.below HB2.out).kept4 BBA (fun x hx hp => by have := HIA.out x hx hp; omega) (.int .i64 n) (.int .i64 0) (.slice pa n pcap) (.int .i64 ((cnt : Int) + 1))).below (below_alloc _ (.cells #[.int .i64 n, .int .i64 0, .slice pa n pcap, .int .i64 ((cnt : Int) + 1)] 24)))
      clear p0 p1 p2 p3 f0 f1 f2 f3
      go_roundw
      case rel => exact ⟨k + 1, cnt + 1, _, _, _, M ++ [y], by omega, by go_num, by have := HCN.out; show _ = _; omega, HNX.out, by have := hMl.out; simp [this], fun _ => head_snoc (k := k) HHD.out hMl.out hy0.out, HB3.out⟩
      case measure => simp [intOf]; omega
    · have hkd : k = d := by omega
      subst hkd
      have hcn : cnt = n := by have := HCN.out; omega
      have HCNN := Lib.hid hcn; clear hcn
      have hPf := Lib.hid (fun W => Push_full' n 0 cnt sa scap v W hn8 (by omega) HCNN.out)
      unfold NoRing ringV at hPf
      have HRB := Lib.hid (HV.out.tak)
      obtain ⟨k1, hk1⟩ : ∃ k1, cnt = k1 + 1 := ⟨cnt - 1, by have := HNZ.out; have := HCNN.out; omega⟩
      have hn0 := HNZ.out
      have hPo := Lib.hid (fun W (h : Ints W sa n scap zk) => Pop_ok n 0 k1 cnt hk1 sa scap zk W h hn8 hn0 (by have := HCNN.out; omega) (by omega))
      unfold PopRing ringV at hPo
      have hIr := Lib.hid (fun W oa ocap (h : Ints W oa n ocap (zk.set 0 0)) => Items_ok n ((0 + 1) % n) k1 oa ocap (zk.set 0 0) W h hn8 (by have := Nat.mod_lt (0 + 1) hn0; omega) (by have := HCNN.out; omega))
      have HTK := Lib.hid (taken_len n ((0 + 1) % n) k1 (zk.set 0 0))
      unfold GotItems ringV at hIr
      have HHE := Lib.hid (head_of HV.out.slots.len_eq HV.out.tak hk1 (by have := HCNN.out; omega) (fun e => HHD.out (by have h1 := HTL.out; rw [e] at h1; simp at h1; have := HCN.out; have := HNZ.out; have := HCNN.out; omega)))
      obtain ⟨x, hx⟩ : ∃ x, x = en zk 0 := ⟨_, rfl⟩
      obtain ⟨q, hq⟩ : ∃ q, q = (0 + 1) % n := ⟨_, rfl⟩
      rw [← hx, ← hq] at hPo
      rw [← hq] at hIr HTK
      rw [← hx] at HHE
      have hkb : ((k1 : Int) == (n : Int) - 1) = true := by rw [beq_iff_eq]; have := HCNN.out; omega
      have HK1 := Lib.hid hk1
      clear hx hq hk1
      have hi0 := HLZ.out
      have hi0' : (0 : Int) < (inn : Int) := by omega
      have hxT : x = en T 0 := by have h1 := HHE.out; rw [if_pos (by rw [HTL.out]; exact hi0)] at h1; exact h1
      have HXT := Lib.hid hxT; clear hxT
      have hxx : (x == x) = true := by simp
      obtain ⟨p0, p1, p2, p3⟩ := HV.out.box.cells
      go_wp2_with fail
      refine (hPf.out _).mono ?_
      rintro e w2 ⟨rfl, hb⟩
      have HV2 := Lib.hid (HV.out.later hb); have HL2 := Lib.hid (HBL.out.below hb)
      have lA := HV2.out.box.lt
      clear p0 p1 p2 p3 hb
      obtain ⟨p0, p1, p2, p3⟩ := HV2.out.box.cells
      go_wp2_with fail
      have HV3 := Lib.hid (HV2.out.later (below_alloc w2 (.cells #[.int .i64 0, .int .i64 0, .slice none 0 0, .int .i64 0] 24))); have HL3 := Lib.hid (HL2.out.below (below_alloc w2 (.cells #[.int .i64 0, .int .i64 0, .slice none 0 0, .int .i64 0] 24)))
      clear p0 p1 p2 p3
      refine (hPo.out _ HV3.out.slots).mono ?_
      rintro e w4 ⟨oa, ocap, rfl, hi, hb, hfr⟩
      have HV4 := Lib.hid (HV3.out.later hb); have HL4 := Lib.hid (HL3.out.below hb); have HO4 := Lib.hid hi
      clear hb hi hfr
      go_wp2_with fail
      have HV5 := Lib.hid (HV4.out.later (below_alloc w4 (.cells #[.int .i64 n, .int .i64 q, .slice oa n ocap, .int .i64 k1] 24))); have HL5 := Lib.hid (HL4.out.below (below_alloc w4 (.cells #[.int .i64 n, .int .i64 q, .slice oa n ocap, .int .i64 k1] 24))); have HO5 := Lib.hid (HO4.out.below (below_alloc w4 (.cells #[.int .i64 n, .int .i64 q, .slice oa n ocap, .int .i64 k1] 24)))
      refine (hIr.out _ _ _ HO5.out).mono ?_
      rintro e w6 ⟨ra, rn, rcap, rfl, hi, hb⟩
      obtain rfl : rn = k1 := by rw [← hi.len_eq, HTK.out]
      have HV6 := Lib.hid (HV5.out.later hb); have HL6 := Lib.hid (HL5.out.below hb)
      clear hb hi
      obtain ⟨b0, off0, rfl, hc0⟩ := HL6.out.cell 0 hi0
      rw [← HXT.out, Nat.add_zero] at hc0
      go_wp2_with fail
      go_ret
      exact ⟨ret_bool rfl, HV6.out.below⟩
end Go.Proofs.Ytamaocnehneilaa
