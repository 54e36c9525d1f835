/- VarintTells: the walk. -/
import Derived.Test.YtmmhjdpodagkhaaLaw0
namespace Go.Proofs.Ytmmhjdpodagkhaa
open Go.RowKit

set_option maxRecDepth 100000 in
set_option maxHeartbeats 2000000 in
theorem tells_11 (n : Int) (s : ByteArray) (p : Int) (w : World) (hs : s.size ≤ maxLen) (h0 : 0 ≤ n) (h1 : n ≤ 2147483647) (h2 : -1073741824 ≤ n) (h3 : n < 1073741824) : Calls Try.prog 3 #[.int .i64 n, .string s, .int .i64 p] w (Says w) := by
  have SM := Lib.hid (show smallB n = true from smallB_iff.2 ⟨h0, h1⟩)
  obtain ⟨f0, f1⟩ := foldZ_bd h2 h3
  obtain ⟨S2, hS2⟩ : ∃ S, S = strOf (putL (foldZ n)) := ⟨_, rfl⟩
  have HS2 := Lib.hid hS2; clear hS2
  have h2' : ¬ n < -1073741824 := by omega
  obtain ⟨S1, hS1⟩ : ∃ S, S = strOf (putL n) := ⟨_, rfl⟩
  have HS1 := Lib.hid hS1; clear hS1
  go_enter Try.func3, Try.ntmps3
  go_wp2_with fail
  refine (few_any _ _ (by unfold maxLen at hs; omega)).mono ?_
  rintro e w' ⟨s', rfl, hT, hz, rfl⟩
  clear hT
  have hz' : s'.size ≤ 1000000 := by omega
  have GBD := Lib.hid (getZ_bd (tx s') (tx_byt s') p)
  have GOUT := Lib.hid (getZ_out (tx s') p)
  have TL := Lib.hid (tx_len s')
  have SG := Lib.hid (show signedZ (tx s') p = _ from rfl)
  obtain ⟨ga, gb, gc, hg⟩ : ∃ a b c, getZ (tx s') p = (a, b, c) := ⟨_, _, _, rfl⟩
  have GZ := Lib.hid hg
  unfold signedZ at SG
  rw [hg] at SG GBD GOUT
  clear hg
  simp only [] at SG GBD GOUT
  by_cases hout : p < 0 ∨ (s'.size : Int) < p
  · have HO := GOUT.out (by rw [TL.out]; exact hout)
    simp only [Prod.mk.injEq] at HO
    obtain ⟨rfl, rfl, rfl⟩ := HO
    have SZ := Lib.hid (show signedZ (tx s') p = (0, 0, 3) by rw [signedZ, GZ.out]; rfl)
    clear SG GBD GOUT
    rcases hout with hout | hout
    · go_wp2_with fail
      refine (Put_ok _ _ h0 h1).mono ?_
      rintro e w1 ⟨rfl, hb1⟩
      have HBW1 := Lib.hid hb1
      clear hb1
      rw [← HS1.out]
      go_wp2_with fail
      refine (Sign_ok _ _ h2 h3).mono ?_
      rintro e w2 ⟨rfl, hb2⟩
      have HBW2 := Lib.hid (HBW1.out.trans (hb2.mono HBW1.out.size))
      clear hb2
      rw [← HS2.out]
      go_wp2_with fail
      refine (get_any _ _ _ hz').mono ?_
      rintro e w' ⟨rfl, rfl⟩
      rw [GZ.out]
      go_wp2_with fail
      refine (signed_any _ _ _ hz').mono ?_
      rintro e w' ⟨rfl, rfl⟩
      rw [SZ.out]
      go_wp2_with fail
      refine (alive_any _).mono ?_
      rintro e w3 ⟨rfl, hb3⟩
      have HBW3 := Lib.hid (HBW2.out.trans (hb3.mono HBW2.out.size))
      clear hb3
      go_wp2_with fail
      refine (refsmall_any _ _).mono ?_
      rintro e w' ⟨rfl, rfl⟩
      rw [SM.out]
      go_wp2_with fail
      refine (refput4 _ _ h0 h1).mono ?_
      rintro e w4 ⟨rfl, hb4⟩
      have HBW4 := Lib.hid (HBW3.out.trans (hb4.mono HBW3.out.size))
      clear hb4
      rw [← HS1.out]
      go_wp2_with fail
      refine (fold_any _ _ h2 h3).mono ?_
      rintro e w' ⟨rfl, rfl⟩
      go_wp2_with fail
      refine (refput4 _ _ f0 f1).mono ?_
      rintro e w5 ⟨rfl, hb5⟩
      have HBW5 := Lib.hid (HBW4.out.trans (hb5.mono HBW4.out.size))
      clear hb5
      rw [← HS2.out]
      go_wp2_with fail
      go_ret
      exact ⟨ret_bool rfl, HBW5.out⟩
    · go_wp2_with fail
      refine (Put_ok _ _ h0 h1).mono ?_
      rintro e w1 ⟨rfl, hb1⟩
      have HBW1 := Lib.hid hb1
      clear hb1
      rw [← HS1.out]
      go_wp2_with fail
      refine (Sign_ok _ _ h2 h3).mono ?_
      rintro e w2 ⟨rfl, hb2⟩
      have HBW2 := Lib.hid (HBW1.out.trans (hb2.mono HBW1.out.size))
      clear hb2
      rw [← HS2.out]
      go_wp2_with fail
      refine (get_any _ _ _ hz').mono ?_
      rintro e w' ⟨rfl, rfl⟩
      rw [GZ.out]
      go_wp2_with fail
      refine (signed_any _ _ _ hz').mono ?_
      rintro e w' ⟨rfl, rfl⟩
      rw [SZ.out]
      go_wp2_with fail
      refine (alive_any _).mono ?_
      rintro e w3 ⟨rfl, hb3⟩
      have HBW3 := Lib.hid (HBW2.out.trans (hb3.mono HBW2.out.size))
      clear hb3
      go_wp2_with fail
      refine (refsmall_any _ _).mono ?_
      rintro e w' ⟨rfl, rfl⟩
      rw [SM.out]
      go_wp2_with fail
      refine (refput4 _ _ h0 h1).mono ?_
      rintro e w4 ⟨rfl, hb4⟩
      have HBW4 := Lib.hid (HBW3.out.trans (hb4.mono HBW3.out.size))
      clear hb4
      rw [← HS1.out]
      go_wp2_with fail
      refine (fold_any _ _ h2 h3).mono ?_
      rintro e w' ⟨rfl, rfl⟩
      go_wp2_with fail
      refine (refput4 _ _ f0 f1).mono ?_
      rintro e w5 ⟨rfl, hb5⟩
      have HBW5 := Lib.hid (HBW4.out.trans (hb5.mono HBW4.out.size))
      clear hb5
      rw [← HS2.out]
      go_wp2_with fail
      go_ret
      exact ⟨ret_bool rfl, HBW5.out⟩
  · obtain ⟨P, rfl⟩ := Int.eq_ofNat_of_zero_le (show 0 ≤ p by omega)
    have hpz : P ≤ s'.size := by omega
    clear GOUT
    by_cases hcc : gc = 0
    · subst hcc
      obtain ⟨b0, b1⟩ := GBD.out rfl
      have SZ := Lib.hid (show signedZ (tx s') P = (unfZ ga, gb, 0) by rw [signedZ, GZ.out]; rfl)
      clear SG GBD
      go_wp2_with fail
      refine (Put_ok _ _ h0 h1).mono ?_
      rintro e w1 ⟨rfl, hb1⟩
      have HBW1 := Lib.hid hb1
      clear hb1
      rw [← HS1.out]
      go_wp2_with fail
      refine (Sign_ok _ _ h2 h3).mono ?_
      rintro e w2 ⟨rfl, hb2⟩
      have HBW2 := Lib.hid (HBW1.out.trans (hb2.mono HBW1.out.size))
      clear hb2
      rw [← HS2.out]
      go_wp2_with fail
      refine (get_any _ _ _ hz').mono ?_
      rintro e w' ⟨rfl, rfl⟩
      rw [GZ.out]
      go_wp2_with fail
      refine (signed_any _ _ _ hz').mono ?_
      rintro e w' ⟨rfl, rfl⟩
      rw [SZ.out]
      go_wp2_with fail
      refine (alive_any _).mono ?_
      rintro e w3 ⟨rfl, hb3⟩
      have HBW3 := Lib.hid (HBW2.out.trans (hb3.mono HBW2.out.size))
      clear hb3
      go_wp2_with fail
      refine (refsmall_any _ _).mono ?_
      rintro e w' ⟨rfl, rfl⟩
      rw [SM.out]
      go_wp2_with fail
      refine (refput4 _ _ h0 h1).mono ?_
      rintro e w4 ⟨rfl, hb4⟩
      have HBW4 := Lib.hid (HBW3.out.trans (hb4.mono HBW3.out.size))
      clear hb4
      rw [← HS1.out]
      go_wp2_with fail
      refine (fold_any _ _ h2 h3).mono ?_
      rintro e w' ⟨rfl, rfl⟩
      go_wp2_with fail
      refine (refput4 _ _ f0 f1).mono ?_
      rintro e w5 ⟨rfl, hb5⟩
      have HBW5 := Lib.hid (HBW4.out.trans (hb5.mono HBW4.out.size))
      clear hb5
      rw [← HS2.out]
      go_wp2_with fail
      refine (refget_in _ P _ hpz hz').mono ?_
      rintro e w' ⟨rfl, rfl⟩
      rw [GZ.out]
      go_wp2_with fail
      refine (unfold_any _ _ b0 b1).mono ?_
      rintro e w' ⟨rfl, rfl⟩
      go_wp2_with fail
      go_ret
      exact ⟨ret_bool rfl, HBW5.out⟩
    · have SZ := Lib.hid (show signedZ (tx s') P = (0, 0, gc) by rw [signedZ, GZ.out]; exact if_neg hcc)
      clear SG GBD
      have hcb : (gc != 0) = true := by rw [bne_iff_ne]; exact hcc
      clear hcc
      go_wp2_with fail
      refine (Put_ok _ _ h0 h1).mono ?_
      rintro e w1 ⟨rfl, hb1⟩
      have HBW1 := Lib.hid hb1
      clear hb1
      rw [← HS1.out]
      go_wp2_with fail
      refine (Sign_ok _ _ h2 h3).mono ?_
      rintro e w2 ⟨rfl, hb2⟩
      have HBW2 := Lib.hid (HBW1.out.trans (hb2.mono HBW1.out.size))
      clear hb2
      rw [← HS2.out]
      go_wp2_with fail
      refine (get_any _ _ _ hz').mono ?_
      rintro e w' ⟨rfl, rfl⟩
      rw [GZ.out]
      go_wp2_with fail
      refine (signed_any _ _ _ hz').mono ?_
      rintro e w' ⟨rfl, rfl⟩
      rw [SZ.out]
      go_wp2_with fail
      refine (alive_any _).mono ?_
      rintro e w3 ⟨rfl, hb3⟩
      have HBW3 := Lib.hid (HBW2.out.trans (hb3.mono HBW2.out.size))
      clear hb3
      go_wp2_with fail
      refine (refsmall_any _ _).mono ?_
      rintro e w' ⟨rfl, rfl⟩
      rw [SM.out]
      go_wp2_with fail
      refine (refput4 _ _ h0 h1).mono ?_
      rintro e w4 ⟨rfl, hb4⟩
      have HBW4 := Lib.hid (HBW3.out.trans (hb4.mono HBW3.out.size))
      clear hb4
      rw [← HS1.out]
      go_wp2_with fail
      refine (fold_any _ _ h2 h3).mono ?_
      rintro e w' ⟨rfl, rfl⟩
      go_wp2_with fail
      refine (refput4 _ _ f0 f1).mono ?_
      rintro e w5 ⟨rfl, hb5⟩
      have HBW5 := Lib.hid (HBW4.out.trans (hb5.mono HBW4.out.size))
      clear hb5
      rw [← HS2.out]
      go_wp2_with fail
      refine (refget_in _ P _ hpz hz').mono ?_
      rintro e w' ⟨rfl, rfl⟩
      rw [GZ.out]
      go_wp2_with fail
      go_ret
      exact ⟨ret_bool rfl, HBW5.out⟩

set_option maxRecDepth 100000 in
set_option maxHeartbeats 2000000 in
theorem tells_10b (n : Int) (s : ByteArray) (p : Int) (w : World) (hs : s.size ≤ maxLen) (h0 : 0 ≤ n) (h1 : n ≤ 2147483647) (hc : 1073741824 ≤ n) : Calls Try.prog 3 #[.int .i64 n, .string s, .int .i64 p] w (Says w) := by
  have SM := Lib.hid (show smallB n = true from smallB_iff.2 ⟨h0, h1⟩)
  have HC := Lib.hid (show n < -1073741824 ∨ 1073741824 ≤ n from .inr hc)
  obtain ⟨S1, hS1⟩ : ∃ S, S = strOf (putL n) := ⟨_, rfl⟩
  have HS1 := Lib.hid hS1; clear hS1
  have hc0 : ¬ n < -1073741824 := by omega
  go_enter Try.func3, Try.ntmps3
  go_wp2_with fail
  refine (few_any _ _ (by unfold maxLen at hs; omega)).mono ?_
  rintro e w' ⟨s', rfl, hT, hz, rfl⟩
  clear hT
  have hz' : s'.size ≤ 1000000 := by omega
  have GBD := Lib.hid (getZ_bd (tx s') (tx_byt s') p)
  have GOUT := Lib.hid (getZ_out (tx s') p)
  have TL := Lib.hid (tx_len s')
  have SG := Lib.hid (show signedZ (tx s') p = _ from rfl)
  obtain ⟨ga, gb, gc, hg⟩ : ∃ a b c, getZ (tx s') p = (a, b, c) := ⟨_, _, _, rfl⟩
  have GZ := Lib.hid hg
  unfold signedZ at SG
  rw [hg] at SG GBD GOUT
  clear hg
  simp only [] at SG GBD GOUT
  by_cases hout : p < 0 ∨ (s'.size : Int) < p
  · have HO := GOUT.out (by rw [TL.out]; exact hout)
    simp only [Prod.mk.injEq] at HO
    obtain ⟨rfl, rfl, rfl⟩ := HO
    have SZ := Lib.hid (show signedZ (tx s') p = (0, 0, 3) by rw [signedZ, GZ.out]; rfl)
    clear SG GBD GOUT
    rcases hout with hout | hout
    · go_wp2_with fail
      refine (Put_ok _ _ h0 h1).mono ?_
      rintro e w1 ⟨rfl, hb1⟩
      have HBW1 := Lib.hid hb1
      clear hb1
      rw [← HS1.out]
      go_wp2_with fail
      refine (Sign_bad _ _ HC.out).mono ?_
      rintro e w' ⟨rfl, rfl⟩
      go_wp2_with fail
      refine (get_any _ _ _ hz').mono ?_
      rintro e w' ⟨rfl, rfl⟩
      rw [GZ.out]
      go_wp2_with fail
      refine (signed_any _ _ _ hz').mono ?_
      rintro e w' ⟨rfl, rfl⟩
      rw [SZ.out]
      go_wp2_with fail
      refine (alive_any _).mono ?_
      rintro e w2 ⟨rfl, hb2⟩
      have HBW2 := Lib.hid (HBW1.out.trans (hb2.mono HBW1.out.size))
      clear hb2
      go_wp2_with fail
      refine (refsmall_any _ _).mono ?_
      rintro e w' ⟨rfl, rfl⟩
      rw [SM.out]
      go_wp2_with fail
      refine (refput4 _ _ h0 h1).mono ?_
      rintro e w3 ⟨rfl, hb3⟩
      have HBW3 := Lib.hid (HBW2.out.trans (hb3.mono HBW2.out.size))
      clear hb3
      rw [← HS1.out]
      go_wp2_with fail
      go_ret
      exact ⟨ret_bool rfl, HBW3.out⟩
    · go_wp2_with fail
      refine (Put_ok _ _ h0 h1).mono ?_
      rintro e w1 ⟨rfl, hb1⟩
      have HBW1 := Lib.hid hb1
      clear hb1
      rw [← HS1.out]
      go_wp2_with fail
      refine (Sign_bad _ _ HC.out).mono ?_
      rintro e w' ⟨rfl, rfl⟩
      go_wp2_with fail
      refine (get_any _ _ _ hz').mono ?_
      rintro e w' ⟨rfl, rfl⟩
      rw [GZ.out]
      go_wp2_with fail
      refine (signed_any _ _ _ hz').mono ?_
      rintro e w' ⟨rfl, rfl⟩
      rw [SZ.out]
      go_wp2_with fail
      refine (alive_any _).mono ?_
      rintro e w2 ⟨rfl, hb2⟩
      have HBW2 := Lib.hid (HBW1.out.trans (hb2.mono HBW1.out.size))
      clear hb2
      go_wp2_with fail
      refine (refsmall_any _ _).mono ?_
      rintro e w' ⟨rfl, rfl⟩
      rw [SM.out]
      go_wp2_with fail
      refine (refput4 _ _ h0 h1).mono ?_
      rintro e w3 ⟨rfl, hb3⟩
      have HBW3 := Lib.hid (HBW2.out.trans (hb3.mono HBW2.out.size))
      clear hb3
      rw [← HS1.out]
      go_wp2_with fail
      go_ret
      exact ⟨ret_bool rfl, HBW3.out⟩
  · obtain ⟨P, rfl⟩ := Int.eq_ofNat_of_zero_le (show 0 ≤ p by omega)
    have hpz : P ≤ s'.size := by omega
    clear GOUT
    by_cases hcc : gc = 0
    · subst hcc
      obtain ⟨b0, b1⟩ := GBD.out rfl
      have SZ := Lib.hid (show signedZ (tx s') P = (unfZ ga, gb, 0) by rw [signedZ, GZ.out]; rfl)
      clear SG GBD
      go_wp2_with fail
      refine (Put_ok _ _ h0 h1).mono ?_
      rintro e w1 ⟨rfl, hb1⟩
      have HBW1 := Lib.hid hb1
      clear hb1
      rw [← HS1.out]
      go_wp2_with fail
      refine (Sign_bad _ _ HC.out).mono ?_
      rintro e w' ⟨rfl, rfl⟩
      go_wp2_with fail
      refine (get_any _ _ _ hz').mono ?_
      rintro e w' ⟨rfl, rfl⟩
      rw [GZ.out]
      go_wp2_with fail
      refine (signed_any _ _ _ hz').mono ?_
      rintro e w' ⟨rfl, rfl⟩
      rw [SZ.out]
      go_wp2_with fail
      refine (alive_any _).mono ?_
      rintro e w2 ⟨rfl, hb2⟩
      have HBW2 := Lib.hid (HBW1.out.trans (hb2.mono HBW1.out.size))
      clear hb2
      go_wp2_with fail
      refine (refsmall_any _ _).mono ?_
      rintro e w' ⟨rfl, rfl⟩
      rw [SM.out]
      go_wp2_with fail
      refine (refput4 _ _ h0 h1).mono ?_
      rintro e w3 ⟨rfl, hb3⟩
      have HBW3 := Lib.hid (HBW2.out.trans (hb3.mono HBW2.out.size))
      clear hb3
      rw [← HS1.out]
      go_wp2_with fail
      refine (refget_in _ P _ hpz hz').mono ?_
      rintro e w' ⟨rfl, rfl⟩
      rw [GZ.out]
      go_wp2_with fail
      refine (unfold_any _ _ b0 b1).mono ?_
      rintro e w' ⟨rfl, rfl⟩
      go_wp2_with fail
      go_ret
      exact ⟨ret_bool rfl, HBW3.out⟩
    · have SZ := Lib.hid (show signedZ (tx s') P = (0, 0, gc) by rw [signedZ, GZ.out]; exact if_neg hcc)
      clear SG GBD
      have hcb : (gc != 0) = true := by rw [bne_iff_ne]; exact hcc
      clear hcc
      go_wp2_with fail
      refine (Put_ok _ _ h0 h1).mono ?_
      rintro e w1 ⟨rfl, hb1⟩
      have HBW1 := Lib.hid hb1
      clear hb1
      rw [← HS1.out]
      go_wp2_with fail
      refine (Sign_bad _ _ HC.out).mono ?_
      rintro e w' ⟨rfl, rfl⟩
      go_wp2_with fail
      refine (get_any _ _ _ hz').mono ?_
      rintro e w' ⟨rfl, rfl⟩
      rw [GZ.out]
      go_wp2_with fail
      refine (signed_any _ _ _ hz').mono ?_
      rintro e w' ⟨rfl, rfl⟩
      rw [SZ.out]
      go_wp2_with fail
      refine (alive_any _).mono ?_
      rintro e w2 ⟨rfl, hb2⟩
      have HBW2 := Lib.hid (HBW1.out.trans (hb2.mono HBW1.out.size))
      clear hb2
      go_wp2_with fail
      refine (refsmall_any _ _).mono ?_
      rintro e w' ⟨rfl, rfl⟩
      rw [SM.out]
      go_wp2_with fail
      refine (refput4 _ _ h0 h1).mono ?_
      rintro e w3 ⟨rfl, hb3⟩
      have HBW3 := Lib.hid (HBW2.out.trans (hb3.mono HBW2.out.size))
      clear hb3
      rw [← HS1.out]
      go_wp2_with fail
      refine (refget_in _ P _ hpz hz').mono ?_
      rintro e w' ⟨rfl, rfl⟩
      rw [GZ.out]
      go_wp2_with fail
      go_ret
      exact ⟨ret_bool rfl, HBW3.out⟩

set_option maxRecDepth 100000 in
set_option maxHeartbeats 2000000 in
theorem tells_01 (n : Int) (s : ByteArray) (p : Int) (w : World) (hs : s.size ≤ maxLen) (hb : n < 0 ∨ 2147483647 < n) (h2 : -1073741824 ≤ n) (h3 : n < 1073741824) : Calls Try.prog 3 #[.int .i64 n, .string s, .int .i64 p] w (Says w) := by
  have SM := Lib.hid (show smallB n = false by rw [smallB, decide_eq_false_iff_not]; omega)
  have HB := Lib.hid hb
  clear hb
  obtain ⟨f0, f1⟩ := foldZ_bd h2 h3
  obtain ⟨S2, hS2⟩ : ∃ S, S = strOf (putL (foldZ n)) := ⟨_, rfl⟩
  have HS2 := Lib.hid hS2; clear hS2
  have h2' : ¬ n < -1073741824 := by omega
  go_enter Try.func3, Try.ntmps3
  go_wp2_with fail
  refine (few_any _ _ (by unfold maxLen at hs; omega)).mono ?_
  rintro e w' ⟨s', rfl, hT, hz, rfl⟩
  clear hT
  have hz' : s'.size ≤ 1000000 := by omega
  have GBD := Lib.hid (getZ_bd (tx s') (tx_byt s') p)
  have GOUT := Lib.hid (getZ_out (tx s') p)
  have TL := Lib.hid (tx_len s')
  have SG := Lib.hid (show signedZ (tx s') p = _ from rfl)
  obtain ⟨ga, gb, gc, hg⟩ : ∃ a b c, getZ (tx s') p = (a, b, c) := ⟨_, _, _, rfl⟩
  have GZ := Lib.hid hg
  unfold signedZ at SG
  rw [hg] at SG GBD GOUT
  clear hg
  simp only [] at SG GBD GOUT
  by_cases hout : p < 0 ∨ (s'.size : Int) < p
  · have HO := GOUT.out (by rw [TL.out]; exact hout)
    simp only [Prod.mk.injEq] at HO
    obtain ⟨rfl, rfl, rfl⟩ := HO
    have SZ := Lib.hid (show signedZ (tx s') p = (0, 0, 3) by rw [signedZ, GZ.out]; rfl)
    clear SG GBD GOUT
    rcases hout with hout | hout
    · go_wp2_with fail
      refine (Put_bad _ _ (by have := HB.out; omega)).mono ?_
      rintro e w' ⟨rfl, rfl⟩
      go_wp2_with fail
      refine (Sign_ok _ _ h2 h3).mono ?_
      rintro e w1 ⟨rfl, hb1⟩
      have HBW1 := Lib.hid hb1
      clear hb1
      rw [← HS2.out]
      go_wp2_with fail
      refine (get_any _ _ _ hz').mono ?_
      rintro e w' ⟨rfl, rfl⟩
      rw [GZ.out]
      go_wp2_with fail
      refine (signed_any _ _ _ hz').mono ?_
      rintro e w' ⟨rfl, rfl⟩
      rw [SZ.out]
      go_wp2_with fail
      refine (alive_any _).mono ?_
      rintro e w2 ⟨rfl, hb2⟩
      have HBW2 := Lib.hid (HBW1.out.trans (hb2.mono HBW1.out.size))
      clear hb2
      go_wp2_with fail
      refine (refsmall_any _ _).mono ?_
      rintro e w' ⟨rfl, rfl⟩
      rw [SM.out]
      go_wp2_with fail
      refine (fold_any _ _ h2 h3).mono ?_
      rintro e w' ⟨rfl, rfl⟩
      go_wp2_with fail
      refine (refput4 _ _ f0 f1).mono ?_
      rintro e w3 ⟨rfl, hb3⟩
      have HBW3 := Lib.hid (HBW2.out.trans (hb3.mono HBW2.out.size))
      clear hb3
      rw [← HS2.out]
      go_wp2_with fail
      go_ret
      exact ⟨ret_bool rfl, HBW3.out⟩
    · go_wp2_with fail
      refine (Put_bad _ _ (by have := HB.out; omega)).mono ?_
      rintro e w' ⟨rfl, rfl⟩
      go_wp2_with fail
      refine (Sign_ok _ _ h2 h3).mono ?_
      rintro e w1 ⟨rfl, hb1⟩
      have HBW1 := Lib.hid hb1
      clear hb1
      rw [← HS2.out]
      go_wp2_with fail
      refine (get_any _ _ _ hz').mono ?_
      rintro e w' ⟨rfl, rfl⟩
      rw [GZ.out]
      go_wp2_with fail
      refine (signed_any _ _ _ hz').mono ?_
      rintro e w' ⟨rfl, rfl⟩
      rw [SZ.out]
      go_wp2_with fail
      refine (alive_any _).mono ?_
      rintro e w2 ⟨rfl, hb2⟩
      have HBW2 := Lib.hid (HBW1.out.trans (hb2.mono HBW1.out.size))
      clear hb2
      go_wp2_with fail
      refine (refsmall_any _ _).mono ?_
      rintro e w' ⟨rfl, rfl⟩
      rw [SM.out]
      go_wp2_with fail
      refine (fold_any _ _ h2 h3).mono ?_
      rintro e w' ⟨rfl, rfl⟩
      go_wp2_with fail
      refine (refput4 _ _ f0 f1).mono ?_
      rintro e w3 ⟨rfl, hb3⟩
      have HBW3 := Lib.hid (HBW2.out.trans (hb3.mono HBW2.out.size))
      clear hb3
      rw [← HS2.out]
      go_wp2_with fail
      go_ret
      exact ⟨ret_bool rfl, HBW3.out⟩
  · obtain ⟨P, rfl⟩ := Int.eq_ofNat_of_zero_le (show 0 ≤ p by omega)
    have hpz : P ≤ s'.size := by omega
    clear GOUT
    by_cases hcc : gc = 0
    · subst hcc
      obtain ⟨b0, b1⟩ := GBD.out rfl
      have SZ := Lib.hid (show signedZ (tx s') P = (unfZ ga, gb, 0) by rw [signedZ, GZ.out]; rfl)
      clear SG GBD
      go_wp2_with fail
      refine (Put_bad _ _ (by have := HB.out; omega)).mono ?_
      rintro e w' ⟨rfl, rfl⟩
      go_wp2_with fail
      refine (Sign_ok _ _ h2 h3).mono ?_
      rintro e w1 ⟨rfl, hb1⟩
      have HBW1 := Lib.hid hb1
      clear hb1
      rw [← HS2.out]
      go_wp2_with fail
      refine (get_any _ _ _ hz').mono ?_
      rintro e w' ⟨rfl, rfl⟩
      rw [GZ.out]
      go_wp2_with fail
      refine (signed_any _ _ _ hz').mono ?_
      rintro e w' ⟨rfl, rfl⟩
      rw [SZ.out]
      go_wp2_with fail
      refine (alive_any _).mono ?_
      rintro e w2 ⟨rfl, hb2⟩
      have HBW2 := Lib.hid (HBW1.out.trans (hb2.mono HBW1.out.size))
      clear hb2
      go_wp2_with fail
      refine (refsmall_any _ _).mono ?_
      rintro e w' ⟨rfl, rfl⟩
      rw [SM.out]
      go_wp2_with fail
      refine (fold_any _ _ h2 h3).mono ?_
      rintro e w' ⟨rfl, rfl⟩
      go_wp2_with fail
      refine (refput4 _ _ f0 f1).mono ?_
      rintro e w3 ⟨rfl, hb3⟩
      have HBW3 := Lib.hid (HBW2.out.trans (hb3.mono HBW2.out.size))
      clear hb3
      rw [← HS2.out]
      go_wp2_with fail
      refine (refget_in _ P _ hpz hz').mono ?_
      rintro e w' ⟨rfl, rfl⟩
      rw [GZ.out]
      go_wp2_with fail
      refine (unfold_any _ _ b0 b1).mono ?_
      rintro e w' ⟨rfl, rfl⟩
      go_wp2_with fail
      go_ret
      exact ⟨ret_bool rfl, HBW3.out⟩
    · have SZ := Lib.hid (show signedZ (tx s') P = (0, 0, gc) by rw [signedZ, GZ.out]; exact if_neg hcc)
      clear SG GBD
      have hcb : (gc != 0) = true := by rw [bne_iff_ne]; exact hcc
      clear hcc
      go_wp2_with fail
      refine (Put_bad _ _ (by have := HB.out; omega)).mono ?_
      rintro e w' ⟨rfl, rfl⟩
      go_wp2_with fail
      refine (Sign_ok _ _ h2 h3).mono ?_
      rintro e w1 ⟨rfl, hb1⟩
      have HBW1 := Lib.hid hb1
      clear hb1
      rw [← HS2.out]
      go_wp2_with fail
      refine (get_any _ _ _ hz').mono ?_
      rintro e w' ⟨rfl, rfl⟩
      rw [GZ.out]
      go_wp2_with fail
      refine (signed_any _ _ _ hz').mono ?_
      rintro e w' ⟨rfl, rfl⟩
      rw [SZ.out]
      go_wp2_with fail
      refine (alive_any _).mono ?_
      rintro e w2 ⟨rfl, hb2⟩
      have HBW2 := Lib.hid (HBW1.out.trans (hb2.mono HBW1.out.size))
      clear hb2
      go_wp2_with fail
      refine (refsmall_any _ _).mono ?_
      rintro e w' ⟨rfl, rfl⟩
      rw [SM.out]
      go_wp2_with fail
      refine (fold_any _ _ h2 h3).mono ?_
      rintro e w' ⟨rfl, rfl⟩
      go_wp2_with fail
      refine (refput4 _ _ f0 f1).mono ?_
      rintro e w3 ⟨rfl, hb3⟩
      have HBW3 := Lib.hid (HBW2.out.trans (hb3.mono HBW2.out.size))
      clear hb3
      rw [← HS2.out]
      go_wp2_with fail
      refine (refget_in _ P _ hpz hz').mono ?_
      rintro e w' ⟨rfl, rfl⟩
      rw [GZ.out]
      go_wp2_with fail
      go_ret
      exact ⟨ret_bool rfl, HBW3.out⟩

set_option maxRecDepth 100000 in
set_option maxHeartbeats 2000000 in
theorem tells_00a (n : Int) (s : ByteArray) (p : Int) (w : World) (hs : s.size ≤ maxLen) (hb : n < 0 ∨ 2147483647 < n) (hc : n < -1073741824) : Calls Try.prog 3 #[.int .i64 n, .string s, .int .i64 p] w (Says w) := by
  have SM := Lib.hid (show smallB n = false by rw [smallB, decide_eq_false_iff_not]; omega)
  have HB := Lib.hid hb
  clear hb
  have HC := Lib.hid (show n < -1073741824 ∨ 1073741824 ≤ n from .inl hc)
  go_enter Try.func3, Try.ntmps3
  go_wp2_with fail
  refine (few_any _ _ (by unfold maxLen at hs; omega)).mono ?_
  rintro e w' ⟨s', rfl, hT, hz, rfl⟩
  clear hT
  have hz' : s'.size ≤ 1000000 := by omega
  have GBD := Lib.hid (getZ_bd (tx s') (tx_byt s') p)
  have GOUT := Lib.hid (getZ_out (tx s') p)
  have TL := Lib.hid (tx_len s')
  have SG := Lib.hid (show signedZ (tx s') p = _ from rfl)
  obtain ⟨ga, gb, gc, hg⟩ : ∃ a b c, getZ (tx s') p = (a, b, c) := ⟨_, _, _, rfl⟩
  have GZ := Lib.hid hg
  unfold signedZ at SG
  rw [hg] at SG GBD GOUT
  clear hg
  simp only [] at SG GBD GOUT
  by_cases hout : p < 0 ∨ (s'.size : Int) < p
  · have HO := GOUT.out (by rw [TL.out]; exact hout)
    simp only [Prod.mk.injEq] at HO
    obtain ⟨rfl, rfl, rfl⟩ := HO
    have SZ := Lib.hid (show signedZ (tx s') p = (0, 0, 3) by rw [signedZ, GZ.out]; rfl)
    clear SG GBD GOUT
    rcases hout with hout | hout
    · go_wp2_with fail
      refine (Put_bad _ _ (by have := HB.out; omega)).mono ?_
      rintro e w' ⟨rfl, rfl⟩
      go_wp2_with fail
      refine (Sign_bad _ _ HC.out).mono ?_
      rintro e w' ⟨rfl, rfl⟩
      go_wp2_with fail
      refine (get_any _ _ _ hz').mono ?_
      rintro e w' ⟨rfl, rfl⟩
      rw [GZ.out]
      go_wp2_with fail
      refine (signed_any _ _ _ hz').mono ?_
      rintro e w' ⟨rfl, rfl⟩
      rw [SZ.out]
      go_wp2_with fail
      refine (alive_any _).mono ?_
      rintro e w1 ⟨rfl, hb1⟩
      have HBW1 := Lib.hid hb1
      clear hb1
      go_wp2_with fail
      refine (refsmall_any _ _).mono ?_
      rintro e w' ⟨rfl, rfl⟩
      rw [SM.out]
      go_wp2_with fail
      go_ret
      exact ⟨ret_bool rfl, HBW1.out⟩
    · go_wp2_with fail
      refine (Put_bad _ _ (by have := HB.out; omega)).mono ?_
      rintro e w' ⟨rfl, rfl⟩
      go_wp2_with fail
      refine (Sign_bad _ _ HC.out).mono ?_
      rintro e w' ⟨rfl, rfl⟩
      go_wp2_with fail
      refine (get_any _ _ _ hz').mono ?_
      rintro e w' ⟨rfl, rfl⟩
      rw [GZ.out]
      go_wp2_with fail
      refine (signed_any _ _ _ hz').mono ?_
      rintro e w' ⟨rfl, rfl⟩
      rw [SZ.out]
      go_wp2_with fail
      refine (alive_any _).mono ?_
      rintro e w1 ⟨rfl, hb1⟩
      have HBW1 := Lib.hid hb1
      clear hb1
      go_wp2_with fail
      refine (refsmall_any _ _).mono ?_
      rintro e w' ⟨rfl, rfl⟩
      rw [SM.out]
      go_wp2_with fail
      go_ret
      exact ⟨ret_bool rfl, HBW1.out⟩
  · obtain ⟨P, rfl⟩ := Int.eq_ofNat_of_zero_le (show 0 ≤ p by omega)
    have hpz : P ≤ s'.size := by omega
    clear GOUT
    by_cases hcc : gc = 0
    · subst hcc
      obtain ⟨b0, b1⟩ := GBD.out rfl
      have SZ := Lib.hid (show signedZ (tx s') P = (unfZ ga, gb, 0) by rw [signedZ, GZ.out]; rfl)
      clear SG GBD
      go_wp2_with fail
      refine (Put_bad _ _ (by have := HB.out; omega)).mono ?_
      rintro e w' ⟨rfl, rfl⟩
      go_wp2_with fail
      refine (Sign_bad _ _ HC.out).mono ?_
      rintro e w' ⟨rfl, rfl⟩
      go_wp2_with fail
      refine (get_any _ _ _ hz').mono ?_
      rintro e w' ⟨rfl, rfl⟩
      rw [GZ.out]
      go_wp2_with fail
      refine (signed_any _ _ _ hz').mono ?_
      rintro e w' ⟨rfl, rfl⟩
      rw [SZ.out]
      go_wp2_with fail
      refine (alive_any _).mono ?_
      rintro e w1 ⟨rfl, hb1⟩
      have HBW1 := Lib.hid hb1
      clear hb1
      go_wp2_with fail
      refine (refsmall_any _ _).mono ?_
      rintro e w' ⟨rfl, rfl⟩
      rw [SM.out]
      go_wp2_with fail
      refine (refget_in _ P _ hpz hz').mono ?_
      rintro e w' ⟨rfl, rfl⟩
      rw [GZ.out]
      go_wp2_with fail
      refine (unfold_any _ _ b0 b1).mono ?_
      rintro e w' ⟨rfl, rfl⟩
      go_wp2_with fail
      go_ret
      exact ⟨ret_bool rfl, HBW1.out⟩
    · have SZ := Lib.hid (show signedZ (tx s') P = (0, 0, gc) by rw [signedZ, GZ.out]; exact if_neg hcc)
      clear SG GBD
      have hcb : (gc != 0) = true := by rw [bne_iff_ne]; exact hcc
      clear hcc
      go_wp2_with fail
      refine (Put_bad _ _ (by have := HB.out; omega)).mono ?_
      rintro e w' ⟨rfl, rfl⟩
      go_wp2_with fail
      refine (Sign_bad _ _ HC.out).mono ?_
      rintro e w' ⟨rfl, rfl⟩
      go_wp2_with fail
      refine (get_any _ _ _ hz').mono ?_
      rintro e w' ⟨rfl, rfl⟩
      rw [GZ.out]
      go_wp2_with fail
      refine (signed_any _ _ _ hz').mono ?_
      rintro e w' ⟨rfl, rfl⟩
      rw [SZ.out]
      go_wp2_with fail
      refine (alive_any _).mono ?_
      rintro e w1 ⟨rfl, hb1⟩
      have HBW1 := Lib.hid hb1
      clear hb1
      go_wp2_with fail
      refine (refsmall_any _ _).mono ?_
      rintro e w' ⟨rfl, rfl⟩
      rw [SM.out]
      go_wp2_with fail
      refine (refget_in _ P _ hpz hz').mono ?_
      rintro e w' ⟨rfl, rfl⟩
      rw [GZ.out]
      go_wp2_with fail
      go_ret
      exact ⟨ret_bool rfl, HBW1.out⟩

set_option maxRecDepth 100000 in
set_option maxHeartbeats 2000000 in
theorem tells_00b (n : Int) (s : ByteArray) (p : Int) (w : World) (hs : s.size ≤ maxLen) (hb : n < 0 ∨ 2147483647 < n) (hc : 1073741824 ≤ n) : Calls Try.prog 3 #[.int .i64 n, .string s, .int .i64 p] w (Says w) := by
  have SM := Lib.hid (show smallB n = false by rw [smallB, decide_eq_false_iff_not]; omega)
  have HB := Lib.hid hb
  clear hb
  have HC := Lib.hid (show n < -1073741824 ∨ 1073741824 ≤ n from .inr hc)
  have hc0 : ¬ n < -1073741824 := by omega
  go_enter Try.func3, Try.ntmps3
  go_wp2_with fail
  refine (few_any _ _ (by unfold maxLen at hs; omega)).mono ?_
  rintro e w' ⟨s', rfl, hT, hz, rfl⟩
  clear hT
  have hz' : s'.size ≤ 1000000 := by omega
  have GBD := Lib.hid (getZ_bd (tx s') (tx_byt s') p)
  have GOUT := Lib.hid (getZ_out (tx s') p)
  have TL := Lib.hid (tx_len s')
  have SG := Lib.hid (show signedZ (tx s') p = _ from rfl)
  obtain ⟨ga, gb, gc, hg⟩ : ∃ a b c, getZ (tx s') p = (a, b, c) := ⟨_, _, _, rfl⟩
  have GZ := Lib.hid hg
  unfold signedZ at SG
  rw [hg] at SG GBD GOUT
  clear hg
  simp only [] at SG GBD GOUT
  by_cases hout : p < 0 ∨ (s'.size : Int) < p
  · have HO := GOUT.out (by rw [TL.out]; exact hout)
    simp only [Prod.mk.injEq] at HO
    obtain ⟨rfl, rfl, rfl⟩ := HO
    have SZ := Lib.hid (show signedZ (tx s') p = (0, 0, 3) by rw [signedZ, GZ.out]; rfl)
    clear SG GBD GOUT
    rcases hout with hout | hout
    · go_wp2_with fail
      refine (Put_bad _ _ (by have := HB.out; omega)).mono ?_
      rintro e w' ⟨rfl, rfl⟩
      go_wp2_with fail
      refine (Sign_bad _ _ HC.out).mono ?_
      rintro e w' ⟨rfl, rfl⟩
      go_wp2_with fail
      refine (get_any _ _ _ hz').mono ?_
      rintro e w' ⟨rfl, rfl⟩
      rw [GZ.out]
      go_wp2_with fail
      refine (signed_any _ _ _ hz').mono ?_
      rintro e w' ⟨rfl, rfl⟩
      rw [SZ.out]
      go_wp2_with fail
      refine (alive_any _).mono ?_
      rintro e w1 ⟨rfl, hb1⟩
      have HBW1 := Lib.hid hb1
      clear hb1
      go_wp2_with fail
      refine (refsmall_any _ _).mono ?_
      rintro e w' ⟨rfl, rfl⟩
      rw [SM.out]
      go_wp2_with fail
      go_ret
      exact ⟨ret_bool rfl, HBW1.out⟩
    · go_wp2_with fail
      refine (Put_bad _ _ (by have := HB.out; omega)).mono ?_
      rintro e w' ⟨rfl, rfl⟩
      go_wp2_with fail
      refine (Sign_bad _ _ HC.out).mono ?_
      rintro e w' ⟨rfl, rfl⟩
      go_wp2_with fail
      refine (get_any _ _ _ hz').mono ?_
      rintro e w' ⟨rfl, rfl⟩
      rw [GZ.out]
      go_wp2_with fail
      refine (signed_any _ _ _ hz').mono ?_
      rintro e w' ⟨rfl, rfl⟩
      rw [SZ.out]
      go_wp2_with fail
      refine (alive_any _).mono ?_
      rintro e w1 ⟨rfl, hb1⟩
      have HBW1 := Lib.hid hb1
      clear hb1
      go_wp2_with fail
      refine (refsmall_any _ _).mono ?_
      rintro e w' ⟨rfl, rfl⟩
      rw [SM.out]
      go_wp2_with fail
      go_ret
      exact ⟨ret_bool rfl, HBW1.out⟩
  · obtain ⟨P, rfl⟩ := Int.eq_ofNat_of_zero_le (show 0 ≤ p by omega)
    have hpz : P ≤ s'.size := by omega
    clear GOUT
    by_cases hcc : gc = 0
    · subst hcc
      obtain ⟨b0, b1⟩ := GBD.out rfl
      have SZ := Lib.hid (show signedZ (tx s') P = (unfZ ga, gb, 0) by rw [signedZ, GZ.out]; rfl)
      clear SG GBD
      go_wp2_with fail
      refine (Put_bad _ _ (by have := HB.out; omega)).mono ?_
      rintro e w' ⟨rfl, rfl⟩
      go_wp2_with fail
      refine (Sign_bad _ _ HC.out).mono ?_
      rintro e w' ⟨rfl, rfl⟩
      go_wp2_with fail
      refine (get_any _ _ _ hz').mono ?_
      rintro e w' ⟨rfl, rfl⟩
      rw [GZ.out]
      go_wp2_with fail
      refine (signed_any _ _ _ hz').mono ?_
      rintro e w' ⟨rfl, rfl⟩
      rw [SZ.out]
      go_wp2_with fail
      refine (alive_any _).mono ?_
      rintro e w1 ⟨rfl, hb1⟩
      have HBW1 := Lib.hid hb1
      clear hb1
      go_wp2_with fail
      refine (refsmall_any _ _).mono ?_
      rintro e w' ⟨rfl, rfl⟩
      rw [SM.out]
      go_wp2_with fail
      refine (refget_in _ P _ hpz hz').mono ?_
      rintro e w' ⟨rfl, rfl⟩
      rw [GZ.out]
      go_wp2_with fail
      refine (unfold_any _ _ b0 b1).mono ?_
      rintro e w' ⟨rfl, rfl⟩
      go_wp2_with fail
      go_ret
      exact ⟨ret_bool rfl, HBW1.out⟩
    · have SZ := Lib.hid (show signedZ (tx s') P = (0, 0, gc) by rw [signedZ, GZ.out]; exact if_neg hcc)
      clear SG GBD
      have hcb : (gc != 0) = true := by rw [bne_iff_ne]; exact hcc
      clear hcc
      go_wp2_with fail
      refine (Put_bad _ _ (by have := HB.out; omega)).mono ?_
      rintro e w' ⟨rfl, rfl⟩
      go_wp2_with fail
      refine (Sign_bad _ _ HC.out).mono ?_
      rintro e w' ⟨rfl, rfl⟩
      go_wp2_with fail
      refine (get_any _ _ _ hz').mono ?_
      rintro e w' ⟨rfl, rfl⟩
      rw [GZ.out]
      go_wp2_with fail
      refine (signed_any _ _ _ hz').mono ?_
      rintro e w' ⟨rfl, rfl⟩
      rw [SZ.out]
      go_wp2_with fail
      refine (alive_any _).mono ?_
      rintro e w1 ⟨rfl, hb1⟩
      have HBW1 := Lib.hid hb1
      clear hb1
      go_wp2_with fail
      refine (refsmall_any _ _).mono ?_
      rintro e w' ⟨rfl, rfl⟩
      rw [SM.out]
      go_wp2_with fail
      refine (refget_in _ P _ hpz hz').mono ?_
      rintro e w' ⟨rfl, rfl⟩
      rw [GZ.out]
      go_wp2_with fail
      go_ret
      exact ⟨ret_bool rfl, HBW1.out⟩


theorem tells_walk (n : Int) (s : ByteArray) (p : Int) (w : World) (hs : s.size ≤ maxLen) : Calls Try.prog 3 #[.int .i64 n, .string s, .int .i64 p] w (Says w) := by
  by_cases h0 : 0 ≤ n ∧ n ≤ 2147483647
  · by_cases h3 : n < 1073741824
    · exact tells_11 n s p w hs h0.1 h0.2 (by omega) h3
    · exact tells_10b n s p w hs h0.1 h0.2 (by omega)
  · by_cases h1 : n < -1073741824
    · exact tells_00a n s p w hs (by omega) h1
    · by_cases h2 : 1073741824 ≤ n
      · exact tells_00b n s p w hs (by omega) h2
      · exact tells_01 n s p w hs (by omega) (by omega) (by omega)
end Go.Proofs.Ytmmhjdpodagkhaa
