/- VarintBack: the walk. -/
import Derived.Test.YtmmhjdpodagkhaaBack
namespace Go.Proofs.Ytmmhjdpodagkhaa
open Go.RowKit

set_option maxRecDepth 100000 in
set_option maxHeartbeats 4000000 in
theorem back_011 (n : Int) (a : Option Addr) (len cap : Nat) (l : List Int) (s : ByteArray) (p : Int) (w : World) (x : Int) (hx : wrap64 ((IntKind.u64.wrap n).tmod 2147483648) = x) (x0 : 0 ≤ x) (x1 : x ≤ 2147483647) (h : Ints w a len cap l) (hlt : len ≤ 60)
    (hfew : Calls Try.prog 8 #[.string s] w fun e w' => ∃ s' : ByteArray, e = .returned (.string s') ∧ s'.size ≤ 200 ∧ (getZ (tx s') p).2.2 = 0 ∧ (everyL (tx s')).2 = 0 ∧ w = w') : Calls Try.prog 5 #[.int .i64 n, .slice a len cap, .string s, .int .i64 p] w (Says w) := by
  have hI := h.take 60
  rw [Nat.min_eq_left (by omega)] at hI
  have hle := h.len_le
  have hlc := h.le_cap
  have hcm := h.cap_le
  have hnn := h.none_
  unfold maxLen at hcm
  clear h
  obtain ⟨L, hL⟩ : ∃ L, L = l.take 60 := ⟨_, rfl⟩
  rw [← hL] at hI
  clear hL
  have hltI : (len : Int) ≤ 60 := by omega
  have LE := Lib.hid hI.len_eq
  have HI := Lib.hid hI
  have MS := Lib.hid (mods_succ L)
  have ML := Lib.hid (mods_len L)
  have MM := Lib.hid (mods_small L)
  clear hI
  have P0 : -1073741824 ≤ x - 1073741824 := by omega
  have P1 : x - 1073741824 < 1073741824 := by omega
  have GA := Lib.hid (get_again x x0 x1)
  have SA := Lib.hid (signed_again (x - 1073741824) P0 P1)
  have hs5 : (strOf (putL x)).size ≤ 5 := by rw [strOf_size]; exact (putL_len x).2
  have ht5 : (strOf (putL (foldZ (x - 1073741824)))).size ≤ 5 := by rw [strOf_size]; exact (putL_len _).2
  obtain ⟨S, hS⟩ : ∃ S, S = strOf (putL x) := ⟨_, rfl⟩
  obtain ⟨T, hT⟩ : ∃ S, S = strOf (putL (foldZ (x - 1073741824))) := ⟨_, rfl⟩
  have HS := Lib.hid hS; have HT := Lib.hid hT
  rw [← hS] at GA hs5; rw [← hT] at SA ht5
  clear hS hT
  have hs5' : (S.size : Int) ≤ 5 := by omega
  have HF := Lib.hid hfew; clear hfew
  go_enter Try.func5, Try.ntmps5
  go_wp2_with fail
  refine HF.out.mono ?_
  rintro e w' ⟨s', rfl, hz, hgc, hec, rfl⟩
  have hz' : s'.size ≤ 1000000 := by omega
  have TO := getZ_out (tx s') p
  rw [tx_len] at TO
  obtain ⟨P, rfl⟩ : ∃ P : Nat, p = P := by
    by_cases ho : p < 0 ∨ (s'.size : Int) < p
    · rw [TO ho] at hgc; simp at hgc
    · exact Int.eq_ofNat_of_zero_le (by omega)
  have hpz : P ≤ s'.size := by
    by_cases ho : (P : Int) < 0 ∨ (s'.size : Int) < P
    · rw [TO ho] at hgc; simp at hgc
    · omega
  have GI := getZ_in (tx s') P (by rw [tx_len]; exact hpz)
  obtain ⟨gx, k, c, hg⟩ : ∃ a b c, getS ((tx s').drop P) = (a, b, c) := ⟨_, _, _, rfl⟩
  rw [hg] at GI
  simp only [] at GI
  rw [GI] at hgc
  simp only [] at hgc
  subst hgc
  rw [if_pos rfl] at GI
  have GZ := Lib.hid GI
  obtain ⟨g0, g1, gk, gt⟩ := text_again s' P gx k hpz hg
  obtain ⟨U, hU⟩ : ∃ S, S = strOf (putL gx) := ⟨_, rfl⟩
  rw [← hU] at gt
  have HU := Lib.hid hU
  clear TO GI hg hU
  obtain ⟨e1, e2, e3⟩ := every_text s' hec
  obtain ⟨E, ec, he⟩ : ∃ a b, everyL (tx s') = (a, b) := ⟨_, _, rfl⟩
  rw [he] at hec e1 e2 e3
  simp only [] at hec e1 e2 e3
  subst hec
  have HE := Lib.hid he; have E1 := Lib.hid e1; have E2 := Lib.hid e2
  have e4 : E.length ≤ 1000 := by omega
  clear he e1 e2 e3
  go_wp2_with fail
  refine (Put_ok _ _ x0 x1).mono ?_
  rintro e w1 ⟨rfl, hb1⟩
  have HI_1 := Lib.hid (HI.out.below hb1)
  have HBW1 := Lib.hid hb1
  clear hb1 HI
  rw [← HS.out]
  go_wp2_with fail
  refine (get_any _ _ _ (by omega)).mono ?_
  rintro e w' ⟨rfl, rfl⟩
  rw [GA.out]
  go_wp2_with fail
  refine (Sign_ok _ _ P0 P1).mono ?_
  rintro e w2 ⟨rfl, hb2⟩
  have HI_2 := Lib.hid (HI_1.out.below hb2)
  have HBW2 := Lib.hid (HBW1.out.trans (hb2.mono HBW1.out.size))
  clear hb2 HI_1
  rw [← HT.out]
  go_wp2_with fail
  refine (signed_any _ _ _ (by omega)).mono ?_
  rintro e w' ⟨rfl, rfl⟩
  rw [SA.out]
  go_wp2_with fail
  refine (alive_any _).mono ?_
  rintro e w3 ⟨rfl, hb3⟩
  have HI_3 := Lib.hid (HI_2.out.below hb3)
  have HBW3 := Lib.hid (HBW2.out.trans (hb3.mono HBW2.out.size))
  clear hb3 HI_2
  go_wp2_with fail
  refine (get_any _ _ _ hz').mono ?_
  rintro e w' ⟨rfl, rfl⟩
  rw [GZ.out]
  go_wp2_with fail
  refine (Put_ok _ _ g0 g1).mono ?_
  rintro e w4 ⟨rfl, hb4⟩
  have HI_4 := Lib.hid (HI_3.out.below hb4)
  have HBW4 := Lib.hid (HBW3.out.trans (hb4.mono HBW3.out.size))
  clear hb4 HI_3
  rw [← HU.out]
  go_wp2_with fail
  refine (every_any _ _ hz').mono ?_
  rintro e w5 ⟨m, mn, mc, rfl, hm, hb5⟩
  rw [HE.out] at hm
  have HI_5 := Lib.hid (HI_4.out.below hb5)
  have HM_5 := Lib.hid hm
  have HBW5 := Lib.hid (HBW4.out.trans (hb5.mono HBW4.out.size))
  clear hb5 hm HI_4
  rw [HE.out]
  go_wp2_with fail
  refine (all_ok _ _ _ _ _ HM_5.out (by have := HM_5.out.len_eq; omega) (smalls_all E1.out)).mono ?_
  rintro e w6 ⟨rfl, hb6⟩
  have HI_6 := Lib.hid (HI_5.out.below hb6)
  have HM_6 := Lib.hid (HM_5.out.below hb6)
  have HBW6 := Lib.hid (HBW5.out.trans (hb6.mono HBW5.out.size))
  clear hb6 HI_5 HM_5
  rw [E2.out]
  go_wp2_with fail
  go_loopw [30, 179] (fun v i wr => ∃ k : Nat, k ≤ len ∧ i = .int .i64 k ∧ Own wr w6.heap.size v (mods (L.take k)) ∧ Below w6.heap.size w6 wr) (fun _ i _ => len - (intOf i).toNat)
  case atStart => exact ⟨0, Nat.zero_le _, rfl, World.ownsRow_nil _ _ _ _, Below.refl _ _⟩
  case round =>
    obtain ⟨k, hk, rfl, ho, hb⟩ := hrel
    have HO := Lib.hid ho; have HB := Lib.hid hb; clear ho hb
    by_cases hlt : k < len
    · obtain ⟨b, off, rfl, hc⟩ := (HI_6.out.below HB.out).cell k hlt
      have hlt' : (k : Int) < (len : Int) := by omega
      have SUC := Lib.hid (MS.out k (by rw [LE.out]; exact hlt))
      have hwm := wrap_mod (en L k) (HI_6.out.bound k)
      have hlen : (mods (L.take k)).length ≤ 1000000 := by rw [mods_len, List.length_take]; omega
      obtain ⟨m, hm⟩ : ∃ m, m = en L k := ⟨_, rfl⟩
      rw [← hm] at hc SUC hwm
      have HLEN := Lib.hid hlen
      clear hm hlen
      have hsz := HB.out.size
      go_wp2_with (at_builtin; refine app1 rfl (.tmp 183) (.tmp 188) rfl w6.heap.size _ _ rfl HO.out (m % 2147483648) rfl HLEN.out w6 HB.out hsz ?_; intro v' w3 ho3 hb3)
      go_roundw
      case rel => exact ⟨k + 1, by omega, by go_num, by rw [SUC.out]; exact ho3.out, hb3.out⟩
      case measure => simp [intOf]; omega
    · have hkm : L.take k = L := List.take_of_length_le (by rw [LE.out]; omega)
      rw [hkm] at HO
      obtain ⟨sa, sc, rfl, hsi⟩ := HO.out.ints MM.out.i64
      have HSI := Lib.hid hsi
      have hml : (mods L).length ≤ 60 := by rw [ML.out, LE.out]; omega
      have HBT := Lib.hid (HBW6.out.trans (HB.out.mono HBW6.out.size))
      have EV := Lib.hid (every_again _ MM.out)
      have ZB := Lib.hid (strOf_size (allL (mods L)))
      have ZC := allL_len (mods L)
      have hzz : (strOf (allL (mods L))).size ≤ 1000000 := by rw [ZB.out]; omega
      clear hkm hsi
      go_wp2_with fail
      refine (all_ok _ _ _ _ _ HSI.out (by omega) (smalls_all MM.out)).mono ?_
      rintro e w7 ⟨rfl, hb7⟩
      have HSI_7 := Lib.hid (HSI.out.below hb7)
      have HBW7 := Lib.hid (HBT.out.trans (hb7.mono HBT.out.size))
      clear hb7 HSI
      go_wp2_with fail
      refine (every_any _ _ hzz).mono ?_
      rintro e w8 ⟨m2, mn2, mc2, rfl, hm2, hb8⟩
      rw [EV.out] at hm2
      have HSI_8 := Lib.hid (HSI_7.out.below hb8)
      have HM2_8 := Lib.hid hm2
      have HBW8 := Lib.hid (HBW7.out.trans (hb8.mono HBW7.out.size))
      clear hb8 hm2 HSI_7
      rw [EV.out]
      go_wp2_with fail
      refine (rows_any _ _ _ _ _ _ _ _ _ HM2_8.out HSI_8.out).mono ?_
      rintro e w9 ⟨rfl, hb9⟩
      have HSI_9 := Lib.hid (HSI_8.out.below hb9)
      have HM2_9 := Lib.hid (HM2_8.out.below hb9)
      have HBW9 := Lib.hid (HBW8.out.trans (hb9.mono HBW8.out.size))
      clear hb9 HSI_8 HM2_8
      rw [decide_eq_true (show mods L = mods L from rfl)]
      go_wp2_with fail
      go_ret
      exact ⟨ret_bool rfl, HBW9.out⟩

set_option maxRecDepth 100000 in
set_option maxHeartbeats 4000000 in
theorem back_010 (n : Int) (a : Option Addr) (len cap : Nat) (l : List Int) (s : ByteArray) (p : Int) (w : World) (x : Int) (hx : wrap64 ((IntKind.u64.wrap n).tmod 2147483648) = x) (x0 : 0 ≤ x) (x1 : x ≤ 2147483647) (h : Ints w a len cap l) (hlt : len ≤ 60)
    (hfew : Calls Try.prog 8 #[.string s] w fun e w' => ∃ s' : ByteArray, e = .returned (.string s') ∧ s'.size ≤ 200 ∧ (getZ (tx s') p).2.2 = 0 ∧ (everyL (tx s')).2 ≠ 0 ∧ w = w') : Calls Try.prog 5 #[.int .i64 n, .slice a len cap, .string s, .int .i64 p] w (Says w) := by
  have hI := h.take 60
  rw [Nat.min_eq_left (by omega)] at hI
  have hle := h.len_le
  have hlc := h.le_cap
  have hcm := h.cap_le
  have hnn := h.none_
  unfold maxLen at hcm
  clear h
  obtain ⟨L, hL⟩ : ∃ L, L = l.take 60 := ⟨_, rfl⟩
  rw [← hL] at hI
  clear hL
  have hltI : (len : Int) ≤ 60 := by omega
  have LE := Lib.hid hI.len_eq
  have HI := Lib.hid hI
  have MS := Lib.hid (mods_succ L)
  have ML := Lib.hid (mods_len L)
  have MM := Lib.hid (mods_small L)
  clear hI
  have P0 : -1073741824 ≤ x - 1073741824 := by omega
  have P1 : x - 1073741824 < 1073741824 := by omega
  have GA := Lib.hid (get_again x x0 x1)
  have SA := Lib.hid (signed_again (x - 1073741824) P0 P1)
  have hs5 : (strOf (putL x)).size ≤ 5 := by rw [strOf_size]; exact (putL_len x).2
  have ht5 : (strOf (putL (foldZ (x - 1073741824)))).size ≤ 5 := by rw [strOf_size]; exact (putL_len _).2
  obtain ⟨S, hS⟩ : ∃ S, S = strOf (putL x) := ⟨_, rfl⟩
  obtain ⟨T, hT⟩ : ∃ S, S = strOf (putL (foldZ (x - 1073741824))) := ⟨_, rfl⟩
  have HS := Lib.hid hS; have HT := Lib.hid hT
  rw [← hS] at GA hs5; rw [← hT] at SA ht5
  clear hS hT
  have hs5' : (S.size : Int) ≤ 5 := by omega
  have HF := Lib.hid hfew; clear hfew
  go_enter Try.func5, Try.ntmps5
  go_wp2_with fail
  refine HF.out.mono ?_
  rintro e w' ⟨s', rfl, hz, hgc, hec, rfl⟩
  have hz' : s'.size ≤ 1000000 := by omega
  have TO := getZ_out (tx s') p
  rw [tx_len] at TO
  obtain ⟨P, rfl⟩ : ∃ P : Nat, p = P := by
    by_cases ho : p < 0 ∨ (s'.size : Int) < p
    · rw [TO ho] at hgc; simp at hgc
    · exact Int.eq_ofNat_of_zero_le (by omega)
  have hpz : P ≤ s'.size := by
    by_cases ho : (P : Int) < 0 ∨ (s'.size : Int) < P
    · rw [TO ho] at hgc; simp at hgc
    · omega
  have GI := getZ_in (tx s') P (by rw [tx_len]; exact hpz)
  obtain ⟨gx, k, c, hg⟩ : ∃ a b c, getS ((tx s').drop P) = (a, b, c) := ⟨_, _, _, rfl⟩
  rw [hg] at GI
  simp only [] at GI
  rw [GI] at hgc
  simp only [] at hgc
  subst hgc
  rw [if_pos rfl] at GI
  have GZ := Lib.hid GI
  obtain ⟨g0, g1, gk, gt⟩ := text_again s' P gx k hpz hg
  obtain ⟨U, hU⟩ : ∃ S, S = strOf (putL gx) := ⟨_, rfl⟩
  rw [← hU] at gt
  have HU := Lib.hid hU
  clear TO GI hg hU
  obtain ⟨E, ec, he⟩ : ∃ a b, everyL (tx s') = (a, b) := ⟨_, _, rfl⟩
  rw [he] at hec
  simp only [] at hec
  have heb : (ec == 0) = false := by rw [beq_eq_false_iff_ne]; exact hec
  have HE := Lib.hid he
  clear he hec
  go_wp2_with fail
  refine (Put_ok _ _ x0 x1).mono ?_
  rintro e w1 ⟨rfl, hb1⟩
  have HI_1 := Lib.hid (HI.out.below hb1)
  have HBW1 := Lib.hid hb1
  clear hb1 HI
  rw [← HS.out]
  go_wp2_with fail
  refine (get_any _ _ _ (by omega)).mono ?_
  rintro e w' ⟨rfl, rfl⟩
  rw [GA.out]
  go_wp2_with fail
  refine (Sign_ok _ _ P0 P1).mono ?_
  rintro e w2 ⟨rfl, hb2⟩
  have HI_2 := Lib.hid (HI_1.out.below hb2)
  have HBW2 := Lib.hid (HBW1.out.trans (hb2.mono HBW1.out.size))
  clear hb2 HI_1
  rw [← HT.out]
  go_wp2_with fail
  refine (signed_any _ _ _ (by omega)).mono ?_
  rintro e w' ⟨rfl, rfl⟩
  rw [SA.out]
  go_wp2_with fail
  refine (alive_any _).mono ?_
  rintro e w3 ⟨rfl, hb3⟩
  have HI_3 := Lib.hid (HI_2.out.below hb3)
  have HBW3 := Lib.hid (HBW2.out.trans (hb3.mono HBW2.out.size))
  clear hb3 HI_2
  go_wp2_with fail
  refine (get_any _ _ _ hz').mono ?_
  rintro e w' ⟨rfl, rfl⟩
  rw [GZ.out]
  go_wp2_with fail
  refine (Put_ok _ _ g0 g1).mono ?_
  rintro e w4 ⟨rfl, hb4⟩
  have HI_4 := Lib.hid (HI_3.out.below hb4)
  have HBW4 := Lib.hid (HBW3.out.trans (hb4.mono HBW3.out.size))
  clear hb4 HI_3
  rw [← HU.out]
  go_wp2_with fail
  refine (every_any _ _ hz').mono ?_
  rintro e w5 ⟨m, mn, mc, rfl, hm, hb5⟩
  rw [HE.out] at hm
  have HI_5 := Lib.hid (HI_4.out.below hb5)
  have HM_5 := Lib.hid hm
  have HBW5 := Lib.hid (HBW4.out.trans (hb5.mono HBW4.out.size))
  clear hb5 hm HI_4
  rw [HE.out]
  go_wp2_with fail
  go_loopw [30, 179] (fun v i wr => ∃ k : Nat, k ≤ len ∧ i = .int .i64 k ∧ Own wr w5.heap.size v (mods (L.take k)) ∧ Below w5.heap.size w5 wr) (fun _ i _ => len - (intOf i).toNat)
  case atStart => exact ⟨0, Nat.zero_le _, rfl, World.ownsRow_nil _ _ _ _, Below.refl _ _⟩
  case round =>
    obtain ⟨k, hk, rfl, ho, hb⟩ := hrel
    have HO := Lib.hid ho; have HB := Lib.hid hb; clear ho hb
    by_cases hlt : k < len
    · obtain ⟨b, off, rfl, hc⟩ := (HI_5.out.below HB.out).cell k hlt
      have hlt' : (k : Int) < (len : Int) := by omega
      have SUC := Lib.hid (MS.out k (by rw [LE.out]; exact hlt))
      have hwm := wrap_mod (en L k) (HI_5.out.bound k)
      have hlen : (mods (L.take k)).length ≤ 1000000 := by rw [mods_len, List.length_take]; omega
      obtain ⟨m, hm⟩ : ∃ m, m = en L k := ⟨_, rfl⟩
      rw [← hm] at hc SUC hwm
      have HLEN := Lib.hid hlen
      clear hm hlen
      have hsz := HB.out.size
      go_wp2_with (at_builtin; refine app1 rfl (.tmp 183) (.tmp 188) rfl w5.heap.size _ _ rfl HO.out (m % 2147483648) rfl HLEN.out w5 HB.out hsz ?_; intro v' w3 ho3 hb3)
      go_roundw
      case rel => exact ⟨k + 1, by omega, by go_num, by rw [SUC.out]; exact ho3.out, hb3.out⟩
      case measure => simp [intOf]; omega
    · have hkm : L.take k = L := List.take_of_length_le (by rw [LE.out]; omega)
      rw [hkm] at HO
      obtain ⟨sa, sc, rfl, hsi⟩ := HO.out.ints MM.out.i64
      have HSI := Lib.hid hsi
      have hml : (mods L).length ≤ 60 := by rw [ML.out, LE.out]; omega
      have HBT := Lib.hid (HBW5.out.trans (HB.out.mono HBW5.out.size))
      have EV := Lib.hid (every_again _ MM.out)
      have ZB := Lib.hid (strOf_size (allL (mods L)))
      have ZC := allL_len (mods L)
      have hzz : (strOf (allL (mods L))).size ≤ 1000000 := by rw [ZB.out]; omega
      clear hkm hsi
      go_wp2_with fail
      refine (all_ok _ _ _ _ _ HSI.out (by omega) (smalls_all MM.out)).mono ?_
      rintro e w6 ⟨rfl, hb6⟩
      have HSI_6 := Lib.hid (HSI.out.below hb6)
      have HBW6 := Lib.hid (HBT.out.trans (hb6.mono HBT.out.size))
      clear hb6 HSI
      go_wp2_with fail
      refine (every_any _ _ hzz).mono ?_
      rintro e w7 ⟨m2, mn2, mc2, rfl, hm2, hb7⟩
      rw [EV.out] at hm2
      have HSI_7 := Lib.hid (HSI_6.out.below hb7)
      have HM2_7 := Lib.hid hm2
      have HBW7 := Lib.hid (HBW6.out.trans (hb7.mono HBW6.out.size))
      clear hb7 hm2 HSI_6
      rw [EV.out]
      go_wp2_with fail
      refine (rows_any _ _ _ _ _ _ _ _ _ HM2_7.out HSI_7.out).mono ?_
      rintro e w8 ⟨rfl, hb8⟩
      have HSI_8 := Lib.hid (HSI_7.out.below hb8)
      have HM2_8 := Lib.hid (HM2_7.out.below hb8)
      have HBW8 := Lib.hid (HBW7.out.trans (hb8.mono HBW7.out.size))
      clear hb8 HSI_7 HM2_7
      rw [decide_eq_true (show mods L = mods L from rfl)]
      go_wp2_with fail
      go_ret
      exact ⟨ret_bool rfl, HBW8.out⟩

set_option maxRecDepth 100000 in
set_option maxHeartbeats 4000000 in
theorem back_001 (n : Int) (a : Option Addr) (len cap : Nat) (l : List Int) (s : ByteArray) (p : Int) (w : World) (x : Int) (hx : wrap64 ((IntKind.u64.wrap n).tmod 2147483648) = x) (x0 : 0 ≤ x) (x1 : x ≤ 2147483647) (h : Ints w a len cap l) (hlt : len ≤ 60)
    (hfew : Calls Try.prog 8 #[.string s] w fun e w' => ∃ s' : ByteArray, e = .returned (.string s') ∧ s'.size ≤ 200 ∧ (getZ (tx s') p).2.2 ≠ 0 ∧ (everyL (tx s')).2 = 0 ∧ w = w') : Calls Try.prog 5 #[.int .i64 n, .slice a len cap, .string s, .int .i64 p] w (Says w) := by
  have hI := h.take 60
  rw [Nat.min_eq_left (by omega)] at hI
  have hle := h.len_le
  have hlc := h.le_cap
  have hcm := h.cap_le
  have hnn := h.none_
  unfold maxLen at hcm
  clear h
  obtain ⟨L, hL⟩ : ∃ L, L = l.take 60 := ⟨_, rfl⟩
  rw [← hL] at hI
  clear hL
  have hltI : (len : Int) ≤ 60 := by omega
  have LE := Lib.hid hI.len_eq
  have HI := Lib.hid hI
  have MS := Lib.hid (mods_succ L)
  have ML := Lib.hid (mods_len L)
  have MM := Lib.hid (mods_small L)
  clear hI
  have P0 : -1073741824 ≤ x - 1073741824 := by omega
  have P1 : x - 1073741824 < 1073741824 := by omega
  have GA := Lib.hid (get_again x x0 x1)
  have SA := Lib.hid (signed_again (x - 1073741824) P0 P1)
  have hs5 : (strOf (putL x)).size ≤ 5 := by rw [strOf_size]; exact (putL_len x).2
  have ht5 : (strOf (putL (foldZ (x - 1073741824)))).size ≤ 5 := by rw [strOf_size]; exact (putL_len _).2
  obtain ⟨S, hS⟩ : ∃ S, S = strOf (putL x) := ⟨_, rfl⟩
  obtain ⟨T, hT⟩ : ∃ S, S = strOf (putL (foldZ (x - 1073741824))) := ⟨_, rfl⟩
  have HS := Lib.hid hS; have HT := Lib.hid hT
  rw [← hS] at GA hs5; rw [← hT] at SA ht5
  clear hS hT
  have hs5' : (S.size : Int) ≤ 5 := by omega
  have HF := Lib.hid hfew; clear hfew
  go_enter Try.func5, Try.ntmps5
  go_wp2_with fail
  refine HF.out.mono ?_
  rintro e w' ⟨s', rfl, hz, hgc, hec, rfl⟩
  have hz' : s'.size ≤ 1000000 := by omega
  obtain ⟨gx, gt, gc, hg⟩ : ∃ a b c, getZ (tx s') p = (a, b, c) := ⟨_, _, _, rfl⟩
  rw [hg] at hgc
  simp only [] at hgc
  have GZ := Lib.hid hg
  have hcb : (gc == 0) = false := by rw [beq_eq_false_iff_ne]; exact hgc
  clear hg hgc
  obtain ⟨e1, e2, e3⟩ := every_text s' hec
  obtain ⟨E, ec, he⟩ : ∃ a b, everyL (tx s') = (a, b) := ⟨_, _, rfl⟩
  rw [he] at hec e1 e2 e3
  simp only [] at hec e1 e2 e3
  subst hec
  have HE := Lib.hid he; have E1 := Lib.hid e1; have E2 := Lib.hid e2
  have e4 : E.length ≤ 1000 := by omega
  clear he e1 e2 e3
  go_wp2_with fail
  refine (Put_ok _ _ x0 x1).mono ?_
  rintro e w1 ⟨rfl, hb1⟩
  have HI_1 := Lib.hid (HI.out.below hb1)
  have HBW1 := Lib.hid hb1
  clear hb1 HI
  rw [← HS.out]
  go_wp2_with fail
  refine (get_any _ _ _ (by omega)).mono ?_
  rintro e w' ⟨rfl, rfl⟩
  rw [GA.out]
  go_wp2_with fail
  refine (Sign_ok _ _ P0 P1).mono ?_
  rintro e w2 ⟨rfl, hb2⟩
  have HI_2 := Lib.hid (HI_1.out.below hb2)
  have HBW2 := Lib.hid (HBW1.out.trans (hb2.mono HBW1.out.size))
  clear hb2 HI_1
  rw [← HT.out]
  go_wp2_with fail
  refine (signed_any _ _ _ (by omega)).mono ?_
  rintro e w' ⟨rfl, rfl⟩
  rw [SA.out]
  go_wp2_with fail
  refine (alive_any _).mono ?_
  rintro e w3 ⟨rfl, hb3⟩
  have HI_3 := Lib.hid (HI_2.out.below hb3)
  have HBW3 := Lib.hid (HBW2.out.trans (hb3.mono HBW2.out.size))
  clear hb3 HI_2
  go_wp2_with fail
  refine (get_any _ _ _ hz').mono ?_
  rintro e w' ⟨rfl, rfl⟩
  rw [GZ.out]
  go_wp2_with fail
  refine (every_any _ _ hz').mono ?_
  rintro e w4 ⟨m, mn, mc, rfl, hm, hb4⟩
  rw [HE.out] at hm
  have HI_4 := Lib.hid (HI_3.out.below hb4)
  have HM_4 := Lib.hid hm
  have HBW4 := Lib.hid (HBW3.out.trans (hb4.mono HBW3.out.size))
  clear hb4 hm HI_3
  rw [HE.out]
  go_wp2_with fail
  refine (all_ok _ _ _ _ _ HM_4.out (by have := HM_4.out.len_eq; omega) (smalls_all E1.out)).mono ?_
  rintro e w5 ⟨rfl, hb5⟩
  have HI_5 := Lib.hid (HI_4.out.below hb5)
  have HM_5 := Lib.hid (HM_4.out.below hb5)
  have HBW5 := Lib.hid (HBW4.out.trans (hb5.mono HBW4.out.size))
  clear hb5 HI_4 HM_4
  rw [E2.out]
  go_wp2_with fail
  go_loopw [30, 179] (fun v i wr => ∃ k : Nat, k ≤ len ∧ i = .int .i64 k ∧ Own wr w5.heap.size v (mods (L.take k)) ∧ Below w5.heap.size w5 wr) (fun _ i _ => len - (intOf i).toNat)
  case atStart => exact ⟨0, Nat.zero_le _, rfl, World.ownsRow_nil _ _ _ _, Below.refl _ _⟩
  case round =>
    obtain ⟨k, hk, rfl, ho, hb⟩ := hrel
    have HO := Lib.hid ho; have HB := Lib.hid hb; clear ho hb
    by_cases hlt : k < len
    · obtain ⟨b, off, rfl, hc⟩ := (HI_5.out.below HB.out).cell k hlt
      have hlt' : (k : Int) < (len : Int) := by omega
      have SUC := Lib.hid (MS.out k (by rw [LE.out]; exact hlt))
      have hwm := wrap_mod (en L k) (HI_5.out.bound k)
      have hlen : (mods (L.take k)).length ≤ 1000000 := by rw [mods_len, List.length_take]; omega
      obtain ⟨m, hm⟩ : ∃ m, m = en L k := ⟨_, rfl⟩
      rw [← hm] at hc SUC hwm
      have HLEN := Lib.hid hlen
      clear hm hlen
      have hsz := HB.out.size
      go_wp2_with (at_builtin; refine app1 rfl (.tmp 183) (.tmp 188) rfl w5.heap.size _ _ rfl HO.out (m % 2147483648) rfl HLEN.out w5 HB.out hsz ?_; intro v' w3 ho3 hb3)
      go_roundw
      case rel => exact ⟨k + 1, by omega, by go_num, by rw [SUC.out]; exact ho3.out, hb3.out⟩
      case measure => simp [intOf]; omega
    · have hkm : L.take k = L := List.take_of_length_le (by rw [LE.out]; omega)
      rw [hkm] at HO
      obtain ⟨sa, sc, rfl, hsi⟩ := HO.out.ints MM.out.i64
      have HSI := Lib.hid hsi
      have hml : (mods L).length ≤ 60 := by rw [ML.out, LE.out]; omega
      have HBT := Lib.hid (HBW5.out.trans (HB.out.mono HBW5.out.size))
      have EV := Lib.hid (every_again _ MM.out)
      have ZB := Lib.hid (strOf_size (allL (mods L)))
      have ZC := allL_len (mods L)
      have hzz : (strOf (allL (mods L))).size ≤ 1000000 := by rw [ZB.out]; omega
      clear hkm hsi
      go_wp2_with fail
      refine (all_ok _ _ _ _ _ HSI.out (by omega) (smalls_all MM.out)).mono ?_
      rintro e w6 ⟨rfl, hb6⟩
      have HSI_6 := Lib.hid (HSI.out.below hb6)
      have HBW6 := Lib.hid (HBT.out.trans (hb6.mono HBT.out.size))
      clear hb6 HSI
      go_wp2_with fail
      refine (every_any _ _ hzz).mono ?_
      rintro e w7 ⟨m2, mn2, mc2, rfl, hm2, hb7⟩
      rw [EV.out] at hm2
      have HSI_7 := Lib.hid (HSI_6.out.below hb7)
      have HM2_7 := Lib.hid hm2
      have HBW7 := Lib.hid (HBW6.out.trans (hb7.mono HBW6.out.size))
      clear hb7 hm2 HSI_6
      rw [EV.out]
      go_wp2_with fail
      refine (rows_any _ _ _ _ _ _ _ _ _ HM2_7.out HSI_7.out).mono ?_
      rintro e w8 ⟨rfl, hb8⟩
      have HSI_8 := Lib.hid (HSI_7.out.below hb8)
      have HM2_8 := Lib.hid (HM2_7.out.below hb8)
      have HBW8 := Lib.hid (HBW7.out.trans (hb8.mono HBW7.out.size))
      clear hb8 HSI_7 HM2_7
      rw [decide_eq_true (show mods L = mods L from rfl)]
      go_wp2_with fail
      go_ret
      exact ⟨ret_bool rfl, HBW8.out⟩

set_option maxRecDepth 100000 in
set_option maxHeartbeats 4000000 in
theorem back_000 (n : Int) (a : Option Addr) (len cap : Nat) (l : List Int) (s : ByteArray) (p : Int) (w : World) (x : Int) (hx : wrap64 ((IntKind.u64.wrap n).tmod 2147483648) = x) (x0 : 0 ≤ x) (x1 : x ≤ 2147483647) (h : Ints w a len cap l) (hlt : len ≤ 60)
    (hfew : Calls Try.prog 8 #[.string s] w fun e w' => ∃ s' : ByteArray, e = .returned (.string s') ∧ s'.size ≤ 200 ∧ (getZ (tx s') p).2.2 ≠ 0 ∧ (everyL (tx s')).2 ≠ 0 ∧ w = w') : Calls Try.prog 5 #[.int .i64 n, .slice a len cap, .string s, .int .i64 p] w (Says w) := by
  have hI := h.take 60
  rw [Nat.min_eq_left (by omega)] at hI
  have hle := h.len_le
  have hlc := h.le_cap
  have hcm := h.cap_le
  have hnn := h.none_
  unfold maxLen at hcm
  clear h
  obtain ⟨L, hL⟩ : ∃ L, L = l.take 60 := ⟨_, rfl⟩
  rw [← hL] at hI
  clear hL
  have hltI : (len : Int) ≤ 60 := by omega
  have LE := Lib.hid hI.len_eq
  have HI := Lib.hid hI
  have MS := Lib.hid (mods_succ L)
  have ML := Lib.hid (mods_len L)
  have MM := Lib.hid (mods_small L)
  clear hI
  have P0 : -1073741824 ≤ x - 1073741824 := by omega
  have P1 : x - 1073741824 < 1073741824 := by omega
  have GA := Lib.hid (get_again x x0 x1)
  have SA := Lib.hid (signed_again (x - 1073741824) P0 P1)
  have hs5 : (strOf (putL x)).size ≤ 5 := by rw [strOf_size]; exact (putL_len x).2
  have ht5 : (strOf (putL (foldZ (x - 1073741824)))).size ≤ 5 := by rw [strOf_size]; exact (putL_len _).2
  obtain ⟨S, hS⟩ : ∃ S, S = strOf (putL x) := ⟨_, rfl⟩
  obtain ⟨T, hT⟩ : ∃ S, S = strOf (putL (foldZ (x - 1073741824))) := ⟨_, rfl⟩
  have HS := Lib.hid hS; have HT := Lib.hid hT
  rw [← hS] at GA hs5; rw [← hT] at SA ht5
  clear hS hT
  have hs5' : (S.size : Int) ≤ 5 := by omega
  have HF := Lib.hid hfew; clear hfew
  go_enter Try.func5, Try.ntmps5
  go_wp2_with fail
  refine HF.out.mono ?_
  rintro e w' ⟨s', rfl, hz, hgc, hec, rfl⟩
  have hz' : s'.size ≤ 1000000 := by omega
  obtain ⟨gx, gt, gc, hg⟩ : ∃ a b c, getZ (tx s') p = (a, b, c) := ⟨_, _, _, rfl⟩
  rw [hg] at hgc
  simp only [] at hgc
  have GZ := Lib.hid hg
  have hcb : (gc == 0) = false := by rw [beq_eq_false_iff_ne]; exact hgc
  clear hg hgc
  obtain ⟨E, ec, he⟩ : ∃ a b, everyL (tx s') = (a, b) := ⟨_, _, rfl⟩
  rw [he] at hec
  simp only [] at hec
  have heb : (ec == 0) = false := by rw [beq_eq_false_iff_ne]; exact hec
  have HE := Lib.hid he
  clear he hec
  go_wp2_with fail
  refine (Put_ok _ _ x0 x1).mono ?_
  rintro e w1 ⟨rfl, hb1⟩
  have HI_1 := Lib.hid (HI.out.below hb1)
  have HBW1 := Lib.hid hb1
  clear hb1 HI
  rw [← HS.out]
  go_wp2_with fail
  refine (get_any _ _ _ (by omega)).mono ?_
  rintro e w' ⟨rfl, rfl⟩
  rw [GA.out]
  go_wp2_with fail
  refine (Sign_ok _ _ P0 P1).mono ?_
  rintro e w2 ⟨rfl, hb2⟩
  have HI_2 := Lib.hid (HI_1.out.below hb2)
  have HBW2 := Lib.hid (HBW1.out.trans (hb2.mono HBW1.out.size))
  clear hb2 HI_1
  rw [← HT.out]
  go_wp2_with fail
  refine (signed_any _ _ _ (by omega)).mono ?_
  rintro e w' ⟨rfl, rfl⟩
  rw [SA.out]
  go_wp2_with fail
  refine (alive_any _).mono ?_
  rintro e w3 ⟨rfl, hb3⟩
  have HI_3 := Lib.hid (HI_2.out.below hb3)
  have HBW3 := Lib.hid (HBW2.out.trans (hb3.mono HBW2.out.size))
  clear hb3 HI_2
  go_wp2_with fail
  refine (get_any _ _ _ hz').mono ?_
  rintro e w' ⟨rfl, rfl⟩
  rw [GZ.out]
  go_wp2_with fail
  refine (every_any _ _ hz').mono ?_
  rintro e w4 ⟨m, mn, mc, rfl, hm, hb4⟩
  rw [HE.out] at hm
  have HI_4 := Lib.hid (HI_3.out.below hb4)
  have HM_4 := Lib.hid hm
  have HBW4 := Lib.hid (HBW3.out.trans (hb4.mono HBW3.out.size))
  clear hb4 hm HI_3
  rw [HE.out]
  go_wp2_with fail
  go_loopw [30, 179] (fun v i wr => ∃ k : Nat, k ≤ len ∧ i = .int .i64 k ∧ Own wr w4.heap.size v (mods (L.take k)) ∧ Below w4.heap.size w4 wr) (fun _ i _ => len - (intOf i).toNat)
  case atStart => exact ⟨0, Nat.zero_le _, rfl, World.ownsRow_nil _ _ _ _, Below.refl _ _⟩
  case round =>
    obtain ⟨k, hk, rfl, ho, hb⟩ := hrel
    have HO := Lib.hid ho; have HB := Lib.hid hb; clear ho hb
    by_cases hlt : k < len
    · obtain ⟨b, off, rfl, hc⟩ := (HI_4.out.below HB.out).cell k hlt
      have hlt' : (k : Int) < (len : Int) := by omega
      have SUC := Lib.hid (MS.out k (by rw [LE.out]; exact hlt))
      have hwm := wrap_mod (en L k) (HI_4.out.bound k)
      have hlen : (mods (L.take k)).length ≤ 1000000 := by rw [mods_len, List.length_take]; omega
      obtain ⟨m, hm⟩ : ∃ m, m = en L k := ⟨_, rfl⟩
      rw [← hm] at hc SUC hwm
      have HLEN := Lib.hid hlen
      clear hm hlen
      have hsz := HB.out.size
      go_wp2_with (at_builtin; refine app1 rfl (.tmp 183) (.tmp 188) rfl w4.heap.size _ _ rfl HO.out (m % 2147483648) rfl HLEN.out w4 HB.out hsz ?_; intro v' w3 ho3 hb3)
      go_roundw
      case rel => exact ⟨k + 1, by omega, by go_num, by rw [SUC.out]; exact ho3.out, hb3.out⟩
      case measure => simp [intOf]; omega
    · have hkm : L.take k = L := List.take_of_length_le (by rw [LE.out]; omega)
      rw [hkm] at HO
      obtain ⟨sa, sc, rfl, hsi⟩ := HO.out.ints MM.out.i64
      have HSI := Lib.hid hsi
      have hml : (mods L).length ≤ 60 := by rw [ML.out, LE.out]; omega
      have HBT := Lib.hid (HBW4.out.trans (HB.out.mono HBW4.out.size))
      have EV := Lib.hid (every_again _ MM.out)
      have ZB := Lib.hid (strOf_size (allL (mods L)))
      have ZC := allL_len (mods L)
      have hzz : (strOf (allL (mods L))).size ≤ 1000000 := by rw [ZB.out]; omega
      clear hkm hsi
      go_wp2_with fail
      refine (all_ok _ _ _ _ _ HSI.out (by omega) (smalls_all MM.out)).mono ?_
      rintro e w5 ⟨rfl, hb5⟩
      have HSI_5 := Lib.hid (HSI.out.below hb5)
      have HBW5 := Lib.hid (HBT.out.trans (hb5.mono HBT.out.size))
      clear hb5 HSI
      go_wp2_with fail
      refine (every_any _ _ hzz).mono ?_
      rintro e w6 ⟨m2, mn2, mc2, rfl, hm2, hb6⟩
      rw [EV.out] at hm2
      have HSI_6 := Lib.hid (HSI_5.out.below hb6)
      have HM2_6 := Lib.hid hm2
      have HBW6 := Lib.hid (HBW5.out.trans (hb6.mono HBW5.out.size))
      clear hb6 hm2 HSI_5
      rw [EV.out]
      go_wp2_with fail
      refine (rows_any _ _ _ _ _ _ _ _ _ HM2_6.out HSI_6.out).mono ?_
      rintro e w7 ⟨rfl, hb7⟩
      have HSI_7 := Lib.hid (HSI_6.out.below hb7)
      have HM2_7 := Lib.hid (HM2_6.out.below hb7)
      have HBW7 := Lib.hid (HBW6.out.trans (hb7.mono HBW6.out.size))
      clear hb7 HSI_6 HM2_6
      rw [decide_eq_true (show mods L = mods L from rfl)]
      go_wp2_with fail
      go_ret
      exact ⟨ret_bool rfl, HBW7.out⟩

set_option maxRecDepth 100000 in
set_option maxHeartbeats 4000000 in
theorem back_111 (n : Int) (a : Option Addr) (len cap : Nat) (l : List Int) (s : ByteArray) (p : Int) (w : World) (x : Int) (hx : wrap64 ((IntKind.u64.wrap n).tmod 2147483648) = x) (x0 : 0 ≤ x) (x1 : x ≤ 2147483647) (h : Ints w a len cap l) (hlt : 60 < len)
    (hfew : Calls Try.prog 8 #[.string s] w fun e w' => ∃ s' : ByteArray, e = .returned (.string s') ∧ s'.size ≤ 200 ∧ (getZ (tx s') p).2.2 = 0 ∧ (everyL (tx s')).2 = 0 ∧ w = w') : Calls Try.prog 5 #[.int .i64 n, .slice a len cap, .string s, .int .i64 p] w (Says w) := by
  have hI := h.take 60
  rw [Nat.min_eq_right (by omega)] at hI
  have hle := h.len_le
  have hlc := h.le_cap
  have hcm := h.cap_le
  have hnn := h.none_
  unfold maxLen at hcm
  clear h
  obtain ⟨L, hL⟩ : ∃ L, L = l.take 60 := ⟨_, rfl⟩
  rw [← hL] at hI
  clear hL
  have hltI : ¬ (len : Int) ≤ 60 := by omega
  have LE := Lib.hid hI.len_eq
  have HI := Lib.hid hI
  have MS := Lib.hid (mods_succ L)
  have ML := Lib.hid (mods_len L)
  have MM := Lib.hid (mods_small L)
  clear hI
  have P0 : -1073741824 ≤ x - 1073741824 := by omega
  have P1 : x - 1073741824 < 1073741824 := by omega
  have GA := Lib.hid (get_again x x0 x1)
  have SA := Lib.hid (signed_again (x - 1073741824) P0 P1)
  have hs5 : (strOf (putL x)).size ≤ 5 := by rw [strOf_size]; exact (putL_len x).2
  have ht5 : (strOf (putL (foldZ (x - 1073741824)))).size ≤ 5 := by rw [strOf_size]; exact (putL_len _).2
  obtain ⟨S, hS⟩ : ∃ S, S = strOf (putL x) := ⟨_, rfl⟩
  obtain ⟨T, hT⟩ : ∃ S, S = strOf (putL (foldZ (x - 1073741824))) := ⟨_, rfl⟩
  have HS := Lib.hid hS; have HT := Lib.hid hT
  rw [← hS] at GA hs5; rw [← hT] at SA ht5
  clear hS hT
  have hs5' : (S.size : Int) ≤ 5 := by omega
  have HF := Lib.hid hfew; clear hfew
  go_enter Try.func5, Try.ntmps5
  go_wp2_with fail
  refine HF.out.mono ?_
  rintro e w' ⟨s', rfl, hz, hgc, hec, rfl⟩
  have hz' : s'.size ≤ 1000000 := by omega
  have TO := getZ_out (tx s') p
  rw [tx_len] at TO
  obtain ⟨P, rfl⟩ : ∃ P : Nat, p = P := by
    by_cases ho : p < 0 ∨ (s'.size : Int) < p
    · rw [TO ho] at hgc; simp at hgc
    · exact Int.eq_ofNat_of_zero_le (by omega)
  have hpz : P ≤ s'.size := by
    by_cases ho : (P : Int) < 0 ∨ (s'.size : Int) < P
    · rw [TO ho] at hgc; simp at hgc
    · omega
  have GI := getZ_in (tx s') P (by rw [tx_len]; exact hpz)
  obtain ⟨gx, k, c, hg⟩ : ∃ a b c, getS ((tx s').drop P) = (a, b, c) := ⟨_, _, _, rfl⟩
  rw [hg] at GI
  simp only [] at GI
  rw [GI] at hgc
  simp only [] at hgc
  subst hgc
  rw [if_pos rfl] at GI
  have GZ := Lib.hid GI
  obtain ⟨g0, g1, gk, gt⟩ := text_again s' P gx k hpz hg
  obtain ⟨U, hU⟩ : ∃ S, S = strOf (putL gx) := ⟨_, rfl⟩
  rw [← hU] at gt
  have HU := Lib.hid hU
  clear TO GI hg hU
  obtain ⟨e1, e2, e3⟩ := every_text s' hec
  obtain ⟨E, ec, he⟩ : ∃ a b, everyL (tx s') = (a, b) := ⟨_, _, rfl⟩
  rw [he] at hec e1 e2 e3
  simp only [] at hec e1 e2 e3
  subst hec
  have HE := Lib.hid he; have E1 := Lib.hid e1; have E2 := Lib.hid e2
  have e4 : E.length ≤ 1000 := by omega
  clear he e1 e2 e3
  go_wp2_with fail
  refine (Put_ok _ _ x0 x1).mono ?_
  rintro e w1 ⟨rfl, hb1⟩
  have HI_1 := Lib.hid (HI.out.below hb1)
  have HBW1 := Lib.hid hb1
  clear hb1 HI
  rw [← HS.out]
  go_wp2_with fail
  refine (get_any _ _ _ (by omega)).mono ?_
  rintro e w' ⟨rfl, rfl⟩
  rw [GA.out]
  go_wp2_with fail
  refine (Sign_ok _ _ P0 P1).mono ?_
  rintro e w2 ⟨rfl, hb2⟩
  have HI_2 := Lib.hid (HI_1.out.below hb2)
  have HBW2 := Lib.hid (HBW1.out.trans (hb2.mono HBW1.out.size))
  clear hb2 HI_1
  rw [← HT.out]
  go_wp2_with fail
  refine (signed_any _ _ _ (by omega)).mono ?_
  rintro e w' ⟨rfl, rfl⟩
  rw [SA.out]
  go_wp2_with fail
  refine (alive_any _).mono ?_
  rintro e w3 ⟨rfl, hb3⟩
  have HI_3 := Lib.hid (HI_2.out.below hb3)
  have HBW3 := Lib.hid (HBW2.out.trans (hb3.mono HBW2.out.size))
  clear hb3 HI_2
  go_wp2_with fail
  refine (get_any _ _ _ hz').mono ?_
  rintro e w' ⟨rfl, rfl⟩
  rw [GZ.out]
  go_wp2_with fail
  refine (Put_ok _ _ g0 g1).mono ?_
  rintro e w4 ⟨rfl, hb4⟩
  have HI_4 := Lib.hid (HI_3.out.below hb4)
  have HBW4 := Lib.hid (HBW3.out.trans (hb4.mono HBW3.out.size))
  clear hb4 HI_3
  rw [← HU.out]
  go_wp2_with fail
  refine (every_any _ _ hz').mono ?_
  rintro e w5 ⟨m, mn, mc, rfl, hm, hb5⟩
  rw [HE.out] at hm
  have HI_5 := Lib.hid (HI_4.out.below hb5)
  have HM_5 := Lib.hid hm
  have HBW5 := Lib.hid (HBW4.out.trans (hb5.mono HBW4.out.size))
  clear hb5 hm HI_4
  rw [HE.out]
  go_wp2_with fail
  refine (all_ok _ _ _ _ _ HM_5.out (by have := HM_5.out.len_eq; omega) (smalls_all E1.out)).mono ?_
  rintro e w6 ⟨rfl, hb6⟩
  have HI_6 := Lib.hid (HI_5.out.below hb6)
  have HM_6 := Lib.hid (HM_5.out.below hb6)
  have HBW6 := Lib.hid (HBW5.out.trans (hb6.mono HBW5.out.size))
  clear hb6 HI_5 HM_5
  rw [E2.out]
  go_wp2_with fail
  go_loopw [30, 179] (fun v i wr => ∃ k : Nat, k ≤ 60 ∧ i = .int .i64 k ∧ Own wr w6.heap.size v (mods (L.take k)) ∧ Below w6.heap.size w6 wr) (fun _ i _ => 60 - (intOf i).toNat)
  case atStart => exact ⟨0, Nat.zero_le _, rfl, World.ownsRow_nil _ _ _ _, Below.refl _ _⟩
  case round =>
    obtain ⟨k, hk, rfl, ho, hb⟩ := hrel
    have HO := Lib.hid ho; have HB := Lib.hid hb; clear ho hb
    by_cases hlt : k < 60
    · obtain ⟨b, off, rfl, hc⟩ := (HI_6.out.below HB.out).cell k hlt
      have hlt' : (k : Int) < 60 := by omega
      have SUC := Lib.hid (MS.out k (by rw [LE.out]; exact hlt))
      have hwm := wrap_mod (en L k) (HI_6.out.bound k)
      have hlen : (mods (L.take k)).length ≤ 1000000 := by rw [mods_len, List.length_take]; omega
      obtain ⟨m, hm⟩ : ∃ m, m = en L k := ⟨_, rfl⟩
      rw [← hm] at hc SUC hwm
      have HLEN := Lib.hid hlen
      clear hm hlen
      have hsz := HB.out.size
      go_wp2_with (at_builtin; refine app1 rfl (.tmp 183) (.tmp 188) rfl w6.heap.size _ _ rfl HO.out (m % 2147483648) rfl HLEN.out w6 HB.out hsz ?_; intro v' w3 ho3 hb3)
      go_roundw
      case rel => exact ⟨k + 1, by omega, by go_num, by rw [SUC.out]; exact ho3.out, hb3.out⟩
      case measure => simp [intOf]; omega
    · have hkm : L.take k = L := List.take_of_length_le (by rw [LE.out]; omega)
      rw [hkm] at HO
      obtain ⟨sa, sc, rfl, hsi⟩ := HO.out.ints MM.out.i64
      have HSI := Lib.hid hsi
      have hml : (mods L).length ≤ 60 := by rw [ML.out, LE.out]; omega
      have HBT := Lib.hid (HBW6.out.trans (HB.out.mono HBW6.out.size))
      have EV := Lib.hid (every_again _ MM.out)
      have ZB := Lib.hid (strOf_size (allL (mods L)))
      have ZC := allL_len (mods L)
      have hzz : (strOf (allL (mods L))).size ≤ 1000000 := by rw [ZB.out]; omega
      clear hkm hsi
      go_wp2_with fail
      refine (all_ok _ _ _ _ _ HSI.out (by omega) (smalls_all MM.out)).mono ?_
      rintro e w7 ⟨rfl, hb7⟩
      have HSI_7 := Lib.hid (HSI.out.below hb7)
      have HBW7 := Lib.hid (HBT.out.trans (hb7.mono HBT.out.size))
      clear hb7 HSI
      go_wp2_with fail
      refine (every_any _ _ hzz).mono ?_
      rintro e w8 ⟨m2, mn2, mc2, rfl, hm2, hb8⟩
      rw [EV.out] at hm2
      have HSI_8 := Lib.hid (HSI_7.out.below hb8)
      have HM2_8 := Lib.hid hm2
      have HBW8 := Lib.hid (HBW7.out.trans (hb8.mono HBW7.out.size))
      clear hb8 hm2 HSI_7
      rw [EV.out]
      go_wp2_with fail
      refine (rows_any _ _ _ _ _ _ _ _ _ HM2_8.out HSI_8.out).mono ?_
      rintro e w9 ⟨rfl, hb9⟩
      have HSI_9 := Lib.hid (HSI_8.out.below hb9)
      have HM2_9 := Lib.hid (HM2_8.out.below hb9)
      have HBW9 := Lib.hid (HBW8.out.trans (hb9.mono HBW8.out.size))
      clear hb9 HSI_8 HM2_8
      rw [decide_eq_true (show mods L = mods L from rfl)]
      go_wp2_with fail
      go_ret
      exact ⟨ret_bool rfl, HBW9.out⟩

set_option maxRecDepth 100000 in
set_option maxHeartbeats 4000000 in
theorem back_110 (n : Int) (a : Option Addr) (len cap : Nat) (l : List Int) (s : ByteArray) (p : Int) (w : World) (x : Int) (hx : wrap64 ((IntKind.u64.wrap n).tmod 2147483648) = x) (x0 : 0 ≤ x) (x1 : x ≤ 2147483647) (h : Ints w a len cap l) (hlt : 60 < len)
    (hfew : Calls Try.prog 8 #[.string s] w fun e w' => ∃ s' : ByteArray, e = .returned (.string s') ∧ s'.size ≤ 200 ∧ (getZ (tx s') p).2.2 = 0 ∧ (everyL (tx s')).2 ≠ 0 ∧ w = w') : Calls Try.prog 5 #[.int .i64 n, .slice a len cap, .string s, .int .i64 p] w (Says w) := by
  have hI := h.take 60
  rw [Nat.min_eq_right (by omega)] at hI
  have hle := h.len_le
  have hlc := h.le_cap
  have hcm := h.cap_le
  have hnn := h.none_
  unfold maxLen at hcm
  clear h
  obtain ⟨L, hL⟩ : ∃ L, L = l.take 60 := ⟨_, rfl⟩
  rw [← hL] at hI
  clear hL
  have hltI : ¬ (len : Int) ≤ 60 := by omega
  have LE := Lib.hid hI.len_eq
  have HI := Lib.hid hI
  have MS := Lib.hid (mods_succ L)
  have ML := Lib.hid (mods_len L)
  have MM := Lib.hid (mods_small L)
  clear hI
  have P0 : -1073741824 ≤ x - 1073741824 := by omega
  have P1 : x - 1073741824 < 1073741824 := by omega
  have GA := Lib.hid (get_again x x0 x1)
  have SA := Lib.hid (signed_again (x - 1073741824) P0 P1)
  have hs5 : (strOf (putL x)).size ≤ 5 := by rw [strOf_size]; exact (putL_len x).2
  have ht5 : (strOf (putL (foldZ (x - 1073741824)))).size ≤ 5 := by rw [strOf_size]; exact (putL_len _).2
  obtain ⟨S, hS⟩ : ∃ S, S = strOf (putL x) := ⟨_, rfl⟩
  obtain ⟨T, hT⟩ : ∃ S, S = strOf (putL (foldZ (x - 1073741824))) := ⟨_, rfl⟩
  have HS := Lib.hid hS; have HT := Lib.hid hT
  rw [← hS] at GA hs5; rw [← hT] at SA ht5
  clear hS hT
  have hs5' : (S.size : Int) ≤ 5 := by omega
  have HF := Lib.hid hfew; clear hfew
  go_enter Try.func5, Try.ntmps5
  go_wp2_with fail
  refine HF.out.mono ?_
  rintro e w' ⟨s', rfl, hz, hgc, hec, rfl⟩
  have hz' : s'.size ≤ 1000000 := by omega
  have TO := getZ_out (tx s') p
  rw [tx_len] at TO
  obtain ⟨P, rfl⟩ : ∃ P : Nat, p = P := by
    by_cases ho : p < 0 ∨ (s'.size : Int) < p
    · rw [TO ho] at hgc; simp at hgc
    · exact Int.eq_ofNat_of_zero_le (by omega)
  have hpz : P ≤ s'.size := by
    by_cases ho : (P : Int) < 0 ∨ (s'.size : Int) < P
    · rw [TO ho] at hgc; simp at hgc
    · omega
  have GI := getZ_in (tx s') P (by rw [tx_len]; exact hpz)
  obtain ⟨gx, k, c, hg⟩ : ∃ a b c, getS ((tx s').drop P) = (a, b, c) := ⟨_, _, _, rfl⟩
  rw [hg] at GI
  simp only [] at GI
  rw [GI] at hgc
  simp only [] at hgc
  subst hgc
  rw [if_pos rfl] at GI
  have GZ := Lib.hid GI
  obtain ⟨g0, g1, gk, gt⟩ := text_again s' P gx k hpz hg
  obtain ⟨U, hU⟩ : ∃ S, S = strOf (putL gx) := ⟨_, rfl⟩
  rw [← hU] at gt
  have HU := Lib.hid hU
  clear TO GI hg hU
  obtain ⟨E, ec, he⟩ : ∃ a b, everyL (tx s') = (a, b) := ⟨_, _, rfl⟩
  rw [he] at hec
  simp only [] at hec
  have heb : (ec == 0) = false := by rw [beq_eq_false_iff_ne]; exact hec
  have HE := Lib.hid he
  clear he hec
  go_wp2_with fail
  refine (Put_ok _ _ x0 x1).mono ?_
  rintro e w1 ⟨rfl, hb1⟩
  have HI_1 := Lib.hid (HI.out.below hb1)
  have HBW1 := Lib.hid hb1
  clear hb1 HI
  rw [← HS.out]
  go_wp2_with fail
  refine (get_any _ _ _ (by omega)).mono ?_
  rintro e w' ⟨rfl, rfl⟩
  rw [GA.out]
  go_wp2_with fail
  refine (Sign_ok _ _ P0 P1).mono ?_
  rintro e w2 ⟨rfl, hb2⟩
  have HI_2 := Lib.hid (HI_1.out.below hb2)
  have HBW2 := Lib.hid (HBW1.out.trans (hb2.mono HBW1.out.size))
  clear hb2 HI_1
  rw [← HT.out]
  go_wp2_with fail
  refine (signed_any _ _ _ (by omega)).mono ?_
  rintro e w' ⟨rfl, rfl⟩
  rw [SA.out]
  go_wp2_with fail
  refine (alive_any _).mono ?_
  rintro e w3 ⟨rfl, hb3⟩
  have HI_3 := Lib.hid (HI_2.out.below hb3)
  have HBW3 := Lib.hid (HBW2.out.trans (hb3.mono HBW2.out.size))
  clear hb3 HI_2
  go_wp2_with fail
  refine (get_any _ _ _ hz').mono ?_
  rintro e w' ⟨rfl, rfl⟩
  rw [GZ.out]
  go_wp2_with fail
  refine (Put_ok _ _ g0 g1).mono ?_
  rintro e w4 ⟨rfl, hb4⟩
  have HI_4 := Lib.hid (HI_3.out.below hb4)
  have HBW4 := Lib.hid (HBW3.out.trans (hb4.mono HBW3.out.size))
  clear hb4 HI_3
  rw [← HU.out]
  go_wp2_with fail
  refine (every_any _ _ hz').mono ?_
  rintro e w5 ⟨m, mn, mc, rfl, hm, hb5⟩
  rw [HE.out] at hm
  have HI_5 := Lib.hid (HI_4.out.below hb5)
  have HM_5 := Lib.hid hm
  have HBW5 := Lib.hid (HBW4.out.trans (hb5.mono HBW4.out.size))
  clear hb5 hm HI_4
  rw [HE.out]
  go_wp2_with fail
  go_loopw [30, 179] (fun v i wr => ∃ k : Nat, k ≤ 60 ∧ i = .int .i64 k ∧ Own wr w5.heap.size v (mods (L.take k)) ∧ Below w5.heap.size w5 wr) (fun _ i _ => 60 - (intOf i).toNat)
  case atStart => exact ⟨0, Nat.zero_le _, rfl, World.ownsRow_nil _ _ _ _, Below.refl _ _⟩
  case round =>
    obtain ⟨k, hk, rfl, ho, hb⟩ := hrel
    have HO := Lib.hid ho; have HB := Lib.hid hb; clear ho hb
    by_cases hlt : k < 60
    · obtain ⟨b, off, rfl, hc⟩ := (HI_5.out.below HB.out).cell k hlt
      have hlt' : (k : Int) < 60 := by omega
      have SUC := Lib.hid (MS.out k (by rw [LE.out]; exact hlt))
      have hwm := wrap_mod (en L k) (HI_5.out.bound k)
      have hlen : (mods (L.take k)).length ≤ 1000000 := by rw [mods_len, List.length_take]; omega
      obtain ⟨m, hm⟩ : ∃ m, m = en L k := ⟨_, rfl⟩
      rw [← hm] at hc SUC hwm
      have HLEN := Lib.hid hlen
      clear hm hlen
      have hsz := HB.out.size
      go_wp2_with (at_builtin; refine app1 rfl (.tmp 183) (.tmp 188) rfl w5.heap.size _ _ rfl HO.out (m % 2147483648) rfl HLEN.out w5 HB.out hsz ?_; intro v' w3 ho3 hb3)
      go_roundw
      case rel => exact ⟨k + 1, by omega, by go_num, by rw [SUC.out]; exact ho3.out, hb3.out⟩
      case measure => simp [intOf]; omega
    · have hkm : L.take k = L := List.take_of_length_le (by rw [LE.out]; omega)
      rw [hkm] at HO
      obtain ⟨sa, sc, rfl, hsi⟩ := HO.out.ints MM.out.i64
      have HSI := Lib.hid hsi
      have hml : (mods L).length ≤ 60 := by rw [ML.out, LE.out]; omega
      have HBT := Lib.hid (HBW5.out.trans (HB.out.mono HBW5.out.size))
      have EV := Lib.hid (every_again _ MM.out)
      have ZB := Lib.hid (strOf_size (allL (mods L)))
      have ZC := allL_len (mods L)
      have hzz : (strOf (allL (mods L))).size ≤ 1000000 := by rw [ZB.out]; omega
      clear hkm hsi
      go_wp2_with fail
      refine (all_ok _ _ _ _ _ HSI.out (by omega) (smalls_all MM.out)).mono ?_
      rintro e w6 ⟨rfl, hb6⟩
      have HSI_6 := Lib.hid (HSI.out.below hb6)
      have HBW6 := Lib.hid (HBT.out.trans (hb6.mono HBT.out.size))
      clear hb6 HSI
      go_wp2_with fail
      refine (every_any _ _ hzz).mono ?_
      rintro e w7 ⟨m2, mn2, mc2, rfl, hm2, hb7⟩
      rw [EV.out] at hm2
      have HSI_7 := Lib.hid (HSI_6.out.below hb7)
      have HM2_7 := Lib.hid hm2
      have HBW7 := Lib.hid (HBW6.out.trans (hb7.mono HBW6.out.size))
      clear hb7 hm2 HSI_6
      rw [EV.out]
      go_wp2_with fail
      refine (rows_any _ _ _ _ _ _ _ _ _ HM2_7.out HSI_7.out).mono ?_
      rintro e w8 ⟨rfl, hb8⟩
      have HSI_8 := Lib.hid (HSI_7.out.below hb8)
      have HM2_8 := Lib.hid (HM2_7.out.below hb8)
      have HBW8 := Lib.hid (HBW7.out.trans (hb8.mono HBW7.out.size))
      clear hb8 HSI_7 HM2_7
      rw [decide_eq_true (show mods L = mods L from rfl)]
      go_wp2_with fail
      go_ret
      exact ⟨ret_bool rfl, HBW8.out⟩

set_option maxRecDepth 100000 in
set_option maxHeartbeats 4000000 in
theorem back_101 (n : Int) (a : Option Addr) (len cap : Nat) (l : List Int) (s : ByteArray) (p : Int) (w : World) (x : Int) (hx : wrap64 ((IntKind.u64.wrap n).tmod 2147483648) = x) (x0 : 0 ≤ x) (x1 : x ≤ 2147483647) (h : Ints w a len cap l) (hlt : 60 < len)
    (hfew : Calls Try.prog 8 #[.string s] w fun e w' => ∃ s' : ByteArray, e = .returned (.string s') ∧ s'.size ≤ 200 ∧ (getZ (tx s') p).2.2 ≠ 0 ∧ (everyL (tx s')).2 = 0 ∧ w = w') : Calls Try.prog 5 #[.int .i64 n, .slice a len cap, .string s, .int .i64 p] w (Says w) := by
  have hI := h.take 60
  rw [Nat.min_eq_right (by omega)] at hI
  have hle := h.len_le
  have hlc := h.le_cap
  have hcm := h.cap_le
  have hnn := h.none_
  unfold maxLen at hcm
  clear h
  obtain ⟨L, hL⟩ : ∃ L, L = l.take 60 := ⟨_, rfl⟩
  rw [← hL] at hI
  clear hL
  have hltI : ¬ (len : Int) ≤ 60 := by omega
  have LE := Lib.hid hI.len_eq
  have HI := Lib.hid hI
  have MS := Lib.hid (mods_succ L)
  have ML := Lib.hid (mods_len L)
  have MM := Lib.hid (mods_small L)
  clear hI
  have P0 : -1073741824 ≤ x - 1073741824 := by omega
  have P1 : x - 1073741824 < 1073741824 := by omega
  have GA := Lib.hid (get_again x x0 x1)
  have SA := Lib.hid (signed_again (x - 1073741824) P0 P1)
  have hs5 : (strOf (putL x)).size ≤ 5 := by rw [strOf_size]; exact (putL_len x).2
  have ht5 : (strOf (putL (foldZ (x - 1073741824)))).size ≤ 5 := by rw [strOf_size]; exact (putL_len _).2
  obtain ⟨S, hS⟩ : ∃ S, S = strOf (putL x) := ⟨_, rfl⟩
  obtain ⟨T, hT⟩ : ∃ S, S = strOf (putL (foldZ (x - 1073741824))) := ⟨_, rfl⟩
  have HS := Lib.hid hS; have HT := Lib.hid hT
  rw [← hS] at GA hs5; rw [← hT] at SA ht5
  clear hS hT
  have hs5' : (S.size : Int) ≤ 5 := by omega
  have HF := Lib.hid hfew; clear hfew
  go_enter Try.func5, Try.ntmps5
  go_wp2_with fail
  refine HF.out.mono ?_
  rintro e w' ⟨s', rfl, hz, hgc, hec, rfl⟩
  have hz' : s'.size ≤ 1000000 := by omega
  obtain ⟨gx, gt, gc, hg⟩ : ∃ a b c, getZ (tx s') p = (a, b, c) := ⟨_, _, _, rfl⟩
  rw [hg] at hgc
  simp only [] at hgc
  have GZ := Lib.hid hg
  have hcb : (gc == 0) = false := by rw [beq_eq_false_iff_ne]; exact hgc
  clear hg hgc
  obtain ⟨e1, e2, e3⟩ := every_text s' hec
  obtain ⟨E, ec, he⟩ : ∃ a b, everyL (tx s') = (a, b) := ⟨_, _, rfl⟩
  rw [he] at hec e1 e2 e3
  simp only [] at hec e1 e2 e3
  subst hec
  have HE := Lib.hid he; have E1 := Lib.hid e1; have E2 := Lib.hid e2
  have e4 : E.length ≤ 1000 := by omega
  clear he e1 e2 e3
  go_wp2_with fail
  refine (Put_ok _ _ x0 x1).mono ?_
  rintro e w1 ⟨rfl, hb1⟩
  have HI_1 := Lib.hid (HI.out.below hb1)
  have HBW1 := Lib.hid hb1
  clear hb1 HI
  rw [← HS.out]
  go_wp2_with fail
  refine (get_any _ _ _ (by omega)).mono ?_
  rintro e w' ⟨rfl, rfl⟩
  rw [GA.out]
  go_wp2_with fail
  refine (Sign_ok _ _ P0 P1).mono ?_
  rintro e w2 ⟨rfl, hb2⟩
  have HI_2 := Lib.hid (HI_1.out.below hb2)
  have HBW2 := Lib.hid (HBW1.out.trans (hb2.mono HBW1.out.size))
  clear hb2 HI_1
  rw [← HT.out]
  go_wp2_with fail
  refine (signed_any _ _ _ (by omega)).mono ?_
  rintro e w' ⟨rfl, rfl⟩
  rw [SA.out]
  go_wp2_with fail
  refine (alive_any _).mono ?_
  rintro e w3 ⟨rfl, hb3⟩
  have HI_3 := Lib.hid (HI_2.out.below hb3)
  have HBW3 := Lib.hid (HBW2.out.trans (hb3.mono HBW2.out.size))
  clear hb3 HI_2
  go_wp2_with fail
  refine (get_any _ _ _ hz').mono ?_
  rintro e w' ⟨rfl, rfl⟩
  rw [GZ.out]
  go_wp2_with fail
  refine (every_any _ _ hz').mono ?_
  rintro e w4 ⟨m, mn, mc, rfl, hm, hb4⟩
  rw [HE.out] at hm
  have HI_4 := Lib.hid (HI_3.out.below hb4)
  have HM_4 := Lib.hid hm
  have HBW4 := Lib.hid (HBW3.out.trans (hb4.mono HBW3.out.size))
  clear hb4 hm HI_3
  rw [HE.out]
  go_wp2_with fail
  refine (all_ok _ _ _ _ _ HM_4.out (by have := HM_4.out.len_eq; omega) (smalls_all E1.out)).mono ?_
  rintro e w5 ⟨rfl, hb5⟩
  have HI_5 := Lib.hid (HI_4.out.below hb5)
  have HM_5 := Lib.hid (HM_4.out.below hb5)
  have HBW5 := Lib.hid (HBW4.out.trans (hb5.mono HBW4.out.size))
  clear hb5 HI_4 HM_4
  rw [E2.out]
  go_wp2_with fail
  go_loopw [30, 179] (fun v i wr => ∃ k : Nat, k ≤ 60 ∧ i = .int .i64 k ∧ Own wr w5.heap.size v (mods (L.take k)) ∧ Below w5.heap.size w5 wr) (fun _ i _ => 60 - (intOf i).toNat)
  case atStart => exact ⟨0, Nat.zero_le _, rfl, World.ownsRow_nil _ _ _ _, Below.refl _ _⟩
  case round =>
    obtain ⟨k, hk, rfl, ho, hb⟩ := hrel
    have HO := Lib.hid ho; have HB := Lib.hid hb; clear ho hb
    by_cases hlt : k < 60
    · obtain ⟨b, off, rfl, hc⟩ := (HI_5.out.below HB.out).cell k hlt
      have hlt' : (k : Int) < 60 := by omega
      have SUC := Lib.hid (MS.out k (by rw [LE.out]; exact hlt))
      have hwm := wrap_mod (en L k) (HI_5.out.bound k)
      have hlen : (mods (L.take k)).length ≤ 1000000 := by rw [mods_len, List.length_take]; omega
      obtain ⟨m, hm⟩ : ∃ m, m = en L k := ⟨_, rfl⟩
      rw [← hm] at hc SUC hwm
      have HLEN := Lib.hid hlen
      clear hm hlen
      have hsz := HB.out.size
      go_wp2_with (at_builtin; refine app1 rfl (.tmp 183) (.tmp 188) rfl w5.heap.size _ _ rfl HO.out (m % 2147483648) rfl HLEN.out w5 HB.out hsz ?_; intro v' w3 ho3 hb3)
      go_roundw
      case rel => exact ⟨k + 1, by omega, by go_num, by rw [SUC.out]; exact ho3.out, hb3.out⟩
      case measure => simp [intOf]; omega
    · have hkm : L.take k = L := List.take_of_length_le (by rw [LE.out]; omega)
      rw [hkm] at HO
      obtain ⟨sa, sc, rfl, hsi⟩ := HO.out.ints MM.out.i64
      have HSI := Lib.hid hsi
      have hml : (mods L).length ≤ 60 := by rw [ML.out, LE.out]; omega
      have HBT := Lib.hid (HBW5.out.trans (HB.out.mono HBW5.out.size))
      have EV := Lib.hid (every_again _ MM.out)
      have ZB := Lib.hid (strOf_size (allL (mods L)))
      have ZC := allL_len (mods L)
      have hzz : (strOf (allL (mods L))).size ≤ 1000000 := by rw [ZB.out]; omega
      clear hkm hsi
      go_wp2_with fail
      refine (all_ok _ _ _ _ _ HSI.out (by omega) (smalls_all MM.out)).mono ?_
      rintro e w6 ⟨rfl, hb6⟩
      have HSI_6 := Lib.hid (HSI.out.below hb6)
      have HBW6 := Lib.hid (HBT.out.trans (hb6.mono HBT.out.size))
      clear hb6 HSI
      go_wp2_with fail
      refine (every_any _ _ hzz).mono ?_
      rintro e w7 ⟨m2, mn2, mc2, rfl, hm2, hb7⟩
      rw [EV.out] at hm2
      have HSI_7 := Lib.hid (HSI_6.out.below hb7)
      have HM2_7 := Lib.hid hm2
      have HBW7 := Lib.hid (HBW6.out.trans (hb7.mono HBW6.out.size))
      clear hb7 hm2 HSI_6
      rw [EV.out]
      go_wp2_with fail
      refine (rows_any _ _ _ _ _ _ _ _ _ HM2_7.out HSI_7.out).mono ?_
      rintro e w8 ⟨rfl, hb8⟩
      have HSI_8 := Lib.hid (HSI_7.out.below hb8)
      have HM2_8 := Lib.hid (HM2_7.out.below hb8)
      have HBW8 := Lib.hid (HBW7.out.trans (hb8.mono HBW7.out.size))
      clear hb8 HSI_7 HM2_7
      rw [decide_eq_true (show mods L = mods L from rfl)]
      go_wp2_with fail
      go_ret
      exact ⟨ret_bool rfl, HBW8.out⟩

set_option maxRecDepth 100000 in
set_option maxHeartbeats 4000000 in
theorem back_100 (n : Int) (a : Option Addr) (len cap : Nat) (l : List Int) (s : ByteArray) (p : Int) (w : World) (x : Int) (hx : wrap64 ((IntKind.u64.wrap n).tmod 2147483648) = x) (x0 : 0 ≤ x) (x1 : x ≤ 2147483647) (h : Ints w a len cap l) (hlt : 60 < len)
    (hfew : Calls Try.prog 8 #[.string s] w fun e w' => ∃ s' : ByteArray, e = .returned (.string s') ∧ s'.size ≤ 200 ∧ (getZ (tx s') p).2.2 ≠ 0 ∧ (everyL (tx s')).2 ≠ 0 ∧ w = w') : Calls Try.prog 5 #[.int .i64 n, .slice a len cap, .string s, .int .i64 p] w (Says w) := by
  have hI := h.take 60
  rw [Nat.min_eq_right (by omega)] at hI
  have hle := h.len_le
  have hlc := h.le_cap
  have hcm := h.cap_le
  have hnn := h.none_
  unfold maxLen at hcm
  clear h
  obtain ⟨L, hL⟩ : ∃ L, L = l.take 60 := ⟨_, rfl⟩
  rw [← hL] at hI
  clear hL
  have hltI : ¬ (len : Int) ≤ 60 := by omega
  have LE := Lib.hid hI.len_eq
  have HI := Lib.hid hI
  have MS := Lib.hid (mods_succ L)
  have ML := Lib.hid (mods_len L)
  have MM := Lib.hid (mods_small L)
  clear hI
  have P0 : -1073741824 ≤ x - 1073741824 := by omega
  have P1 : x - 1073741824 < 1073741824 := by omega
  have GA := Lib.hid (get_again x x0 x1)
  have SA := Lib.hid (signed_again (x - 1073741824) P0 P1)
  have hs5 : (strOf (putL x)).size ≤ 5 := by rw [strOf_size]; exact (putL_len x).2
  have ht5 : (strOf (putL (foldZ (x - 1073741824)))).size ≤ 5 := by rw [strOf_size]; exact (putL_len _).2
  obtain ⟨S, hS⟩ : ∃ S, S = strOf (putL x) := ⟨_, rfl⟩
  obtain ⟨T, hT⟩ : ∃ S, S = strOf (putL (foldZ (x - 1073741824))) := ⟨_, rfl⟩
  have HS := Lib.hid hS; have HT := Lib.hid hT
  rw [← hS] at GA hs5; rw [← hT] at SA ht5
  clear hS hT
  have hs5' : (S.size : Int) ≤ 5 := by omega
  have HF := Lib.hid hfew; clear hfew
  go_enter Try.func5, Try.ntmps5
  go_wp2_with fail
  refine HF.out.mono ?_
  rintro e w' ⟨s', rfl, hz, hgc, hec, rfl⟩
  have hz' : s'.size ≤ 1000000 := by omega
  obtain ⟨gx, gt, gc, hg⟩ : ∃ a b c, getZ (tx s') p = (a, b, c) := ⟨_, _, _, rfl⟩
  rw [hg] at hgc
  simp only [] at hgc
  have GZ := Lib.hid hg
  have hcb : (gc == 0) = false := by rw [beq_eq_false_iff_ne]; exact hgc
  clear hg hgc
  obtain ⟨E, ec, he⟩ : ∃ a b, everyL (tx s') = (a, b) := ⟨_, _, rfl⟩
  rw [he] at hec
  simp only [] at hec
  have heb : (ec == 0) = false := by rw [beq_eq_false_iff_ne]; exact hec
  have HE := Lib.hid he
  clear he hec
  go_wp2_with fail
  refine (Put_ok _ _ x0 x1).mono ?_
  rintro e w1 ⟨rfl, hb1⟩
  have HI_1 := Lib.hid (HI.out.below hb1)
  have HBW1 := Lib.hid hb1
  clear hb1 HI
  rw [← HS.out]
  go_wp2_with fail
  refine (get_any _ _ _ (by omega)).mono ?_
  rintro e w' ⟨rfl, rfl⟩
  rw [GA.out]
  go_wp2_with fail
  refine (Sign_ok _ _ P0 P1).mono ?_
  rintro e w2 ⟨rfl, hb2⟩
  have HI_2 := Lib.hid (HI_1.out.below hb2)
  have HBW2 := Lib.hid (HBW1.out.trans (hb2.mono HBW1.out.size))
  clear hb2 HI_1
  rw [← HT.out]
  go_wp2_with fail
  refine (signed_any _ _ _ (by omega)).mono ?_
  rintro e w' ⟨rfl, rfl⟩
  rw [SA.out]
  go_wp2_with fail
  refine (alive_any _).mono ?_
  rintro e w3 ⟨rfl, hb3⟩
  have HI_3 := Lib.hid (HI_2.out.below hb3)
  have HBW3 := Lib.hid (HBW2.out.trans (hb3.mono HBW2.out.size))
  clear hb3 HI_2
  go_wp2_with fail
  refine (get_any _ _ _ hz').mono ?_
  rintro e w' ⟨rfl, rfl⟩
  rw [GZ.out]
  go_wp2_with fail
  refine (every_any _ _ hz').mono ?_
  rintro e w4 ⟨m, mn, mc, rfl, hm, hb4⟩
  rw [HE.out] at hm
  have HI_4 := Lib.hid (HI_3.out.below hb4)
  have HM_4 := Lib.hid hm
  have HBW4 := Lib.hid (HBW3.out.trans (hb4.mono HBW3.out.size))
  clear hb4 hm HI_3
  rw [HE.out]
  go_wp2_with fail
  go_loopw [30, 179] (fun v i wr => ∃ k : Nat, k ≤ 60 ∧ i = .int .i64 k ∧ Own wr w4.heap.size v (mods (L.take k)) ∧ Below w4.heap.size w4 wr) (fun _ i _ => 60 - (intOf i).toNat)
  case atStart => exact ⟨0, Nat.zero_le _, rfl, World.ownsRow_nil _ _ _ _, Below.refl _ _⟩
  case round =>
    obtain ⟨k, hk, rfl, ho, hb⟩ := hrel
    have HO := Lib.hid ho; have HB := Lib.hid hb; clear ho hb
    by_cases hlt : k < 60
    · obtain ⟨b, off, rfl, hc⟩ := (HI_4.out.below HB.out).cell k hlt
      have hlt' : (k : Int) < 60 := by omega
      have SUC := Lib.hid (MS.out k (by rw [LE.out]; exact hlt))
      have hwm := wrap_mod (en L k) (HI_4.out.bound k)
      have hlen : (mods (L.take k)).length ≤ 1000000 := by rw [mods_len, List.length_take]; omega
      obtain ⟨m, hm⟩ : ∃ m, m = en L k := ⟨_, rfl⟩
      rw [← hm] at hc SUC hwm
      have HLEN := Lib.hid hlen
      clear hm hlen
      have hsz := HB.out.size
      go_wp2_with (at_builtin; refine app1 rfl (.tmp 183) (.tmp 188) rfl w4.heap.size _ _ rfl HO.out (m % 2147483648) rfl HLEN.out w4 HB.out hsz ?_; intro v' w3 ho3 hb3)
      go_roundw
      case rel => exact ⟨k + 1, by omega, by go_num, by rw [SUC.out]; exact ho3.out, hb3.out⟩
      case measure => simp [intOf]; omega
    · have hkm : L.take k = L := List.take_of_length_le (by rw [LE.out]; omega)
      rw [hkm] at HO
      obtain ⟨sa, sc, rfl, hsi⟩ := HO.out.ints MM.out.i64
      have HSI := Lib.hid hsi
      have hml : (mods L).length ≤ 60 := by rw [ML.out, LE.out]; omega
      have HBT := Lib.hid (HBW4.out.trans (HB.out.mono HBW4.out.size))
      have EV := Lib.hid (every_again _ MM.out)
      have ZB := Lib.hid (strOf_size (allL (mods L)))
      have ZC := allL_len (mods L)
      have hzz : (strOf (allL (mods L))).size ≤ 1000000 := by rw [ZB.out]; omega
      clear hkm hsi
      go_wp2_with fail
      refine (all_ok _ _ _ _ _ HSI.out (by omega) (smalls_all MM.out)).mono ?_
      rintro e w5 ⟨rfl, hb5⟩
      have HSI_5 := Lib.hid (HSI.out.below hb5)
      have HBW5 := Lib.hid (HBT.out.trans (hb5.mono HBT.out.size))
      clear hb5 HSI
      go_wp2_with fail
      refine (every_any _ _ hzz).mono ?_
      rintro e w6 ⟨m2, mn2, mc2, rfl, hm2, hb6⟩
      rw [EV.out] at hm2
      have HSI_6 := Lib.hid (HSI_5.out.below hb6)
      have HM2_6 := Lib.hid hm2
      have HBW6 := Lib.hid (HBW5.out.trans (hb6.mono HBW5.out.size))
      clear hb6 hm2 HSI_5
      rw [EV.out]
      go_wp2_with fail
      refine (rows_any _ _ _ _ _ _ _ _ _ HM2_6.out HSI_6.out).mono ?_
      rintro e w7 ⟨rfl, hb7⟩
      have HSI_7 := Lib.hid (HSI_6.out.below hb7)
      have HM2_7 := Lib.hid (HM2_6.out.below hb7)
      have HBW7 := Lib.hid (HBW6.out.trans (hb7.mono HBW6.out.size))
      clear hb7 HSI_6 HM2_6
      rw [decide_eq_true (show mods L = mods L from rfl)]
      go_wp2_with fail
      go_ret
      exact ⟨ret_bool rfl, HBW7.out⟩

set_option maxRecDepth 100000 in
theorem back_walk (n : Int) (a : Option Addr) (len cap : Nat) (l : List Int) (s : ByteArray) (p : Int) (w : World) (hn : I64 n) (h : Ints w a len cap l) (hs : s.size ≤ maxLen) : Calls Try.prog 5 #[.int .i64 n, .slice a len cap, .string s, .int .i64 p] w (Says w) := by
  have e := wrap_mod n hn
  by_cases hl : len ≤ 60 <;> by_cases h1 : (getZ ((tx s).take 200) p).2.2 = 0 <;> by_cases h2 : (everyL ((tx s).take 200)).2 = 0
  · exact back_011 n a len cap l s p w _ e (by omega) (by omega) h (by omega) ((few_any _ _ hs).mono fun e w' ⟨s', h3, h4, h5, h6⟩ => ⟨s', h3, h5, by rw [h4]; exact h1, by rw [h4]; exact h2, h6⟩)
  · exact back_010 n a len cap l s p w _ e (by omega) (by omega) h (by omega) ((few_any _ _ hs).mono fun e w' ⟨s', h3, h4, h5, h6⟩ => ⟨s', h3, h5, by rw [h4]; exact h1, by rw [h4]; exact h2, h6⟩)
  · exact back_001 n a len cap l s p w _ e (by omega) (by omega) h (by omega) ((few_any _ _ hs).mono fun e w' ⟨s', h3, h4, h5, h6⟩ => ⟨s', h3, h5, by rw [h4]; exact h1, by rw [h4]; exact h2, h6⟩)
  · exact back_000 n a len cap l s p w _ e (by omega) (by omega) h (by omega) ((few_any _ _ hs).mono fun e w' ⟨s', h3, h4, h5, h6⟩ => ⟨s', h3, h5, by rw [h4]; exact h1, by rw [h4]; exact h2, h6⟩)
  · exact back_111 n a len cap l s p w _ e (by omega) (by omega) h (by omega) ((few_any _ _ hs).mono fun e w' ⟨s', h3, h4, h5, h6⟩ => ⟨s', h3, h5, by rw [h4]; exact h1, by rw [h4]; exact h2, h6⟩)
  · exact back_110 n a len cap l s p w _ e (by omega) (by omega) h (by omega) ((few_any _ _ hs).mono fun e w' ⟨s', h3, h4, h5, h6⟩ => ⟨s', h3, h5, by rw [h4]; exact h1, by rw [h4]; exact h2, h6⟩)
  · exact back_101 n a len cap l s p w _ e (by omega) (by omega) h (by omega) ((few_any _ _ hs).mono fun e w' ⟨s', h3, h4, h5, h6⟩ => ⟨s', h3, h5, by rw [h4]; exact h1, by rw [h4]; exact h2, h6⟩)
  · exact back_100 n a len cap l s p w _ e (by omega) (by omega) h (by omega) ((few_any _ _ hs).mono fun e w' ⟨s', h3, h4, h5, h6⟩ => ⟨s', h3, h5, by rw [h4]; exact h1, by rw [h4]; exact h2, h6⟩)
end Go.Proofs.Ytmmhjdpodagkhaa
