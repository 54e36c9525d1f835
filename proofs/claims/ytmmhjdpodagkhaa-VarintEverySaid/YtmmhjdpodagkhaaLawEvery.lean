/- VarintEvery: the walk. -/
import Derived.Test.YtmmhjdpodagkhaaLaw0
namespace Go.Proofs.Ytmmhjdpodagkhaa
open Go.RowKit

theorem all_take_succ2 (l : List Int) (k : Nat) (hk : k < l.length) : (l.take (k+1)).all smallB = ((l.take k).all smallB && smallB (en l k)) := by
  rw [List.take_add_one, List.getElem?_eq_getElem hk, List.all_append, en_get _ _ hk]; simp

set_option maxRecDepth 100000 in
set_option maxHeartbeats 2000000 in
theorem every_01 (a : Option Addr) (len cap : Nat) (l : List Int) (s : ByteArray) (w : World) (h : Ints w a len cap l) (hs : s.size ≤ maxLen) (hlt : len ≤ 60) (hsm : (l.take 60).all smallB = true) : Calls Try.prog 4 #[.slice a len cap, .string s] w (Says w) := by
  have hI := h.take 60
  rw [Nat.min_eq_left (by omega)] at hI
  have hle := h.len_le
  have hlc := h.le_cap
  have hcm := h.cap_le
  have hnn := h.none_
  unfold maxLen at hcm
  clear h
  obtain ⟨L, hL⟩ : ∃ L, L = l.take 60 := ⟨_, rfl⟩
  rw [← hL] at hI hsm
  clear hL
  have hltI : (len : Int) ≤ 60 := by omega
  have LE := Lib.hid hI.len_eq
  have HI := Lib.hid hI
  have HSM := Lib.hid hsm
  clear hI hsm
  go_enter Try.func4, Try.ntmps4
  go_wp2_with fail
  go_region_with (go_at_call 8; refine (few_any _ _ (by unfold maxLen at hs; omega)).mono ?_; rintro e w' ⟨s', rfl, hT, hz, rfl⟩; clear hT)
  all_goals
    have HBW0 : Hid (Below w.heap.size w w.drew) := (Below.refl _ _).drew
    have HI_0 := Lib.hid (HI.out.below HBW0.out)
    clear HI
    have hz' : s'.size ≤ 1000000 := by omega
    obtain ⟨S1, hS1⟩ : ∃ S, S = strOf (allL L) := ⟨_, rfl⟩
    have HS1 := Lib.hid hS1; clear hS1
    go_wp2_with fail
    refine (all_ok _ _ _ _ _ HI_0.out (by omega) HSM.out).mono ?_
    rintro e w1 ⟨rfl, hb1⟩
    have HI_1 := Lib.hid (HI_0.out.below hb1)
    have HBW1 := Lib.hid (HBW0.out.trans (hb1.mono HBW0.out.size))
    clear hb1 HI_0
    rw [← HS1.out]
    go_wp2_with fail
    refine (every_any _ _ hz').mono ?_
    rintro e w2 ⟨m, mn, mc, rfl, hm, hb2⟩
    have HI_2 := Lib.hid (HI_1.out.below hb2)
    have HM_2 := Lib.hid hm
    have HBW2 := Lib.hid (HBW1.out.trans (hb2.mono HBW1.out.size))
    clear hb2 hm HI_1
    go_wp2_with fail
    have LF := Lib.hid (all_take_succ2 L)
    have LT := Lib.hid (show L.take len = L from List.take_of_length_le (by rw [LE.out]; exact Nat.le_refl _))
    go_loop [9, 33] (fun v i => ∃ k : Nat, k ≤ len ∧ i = .int .i64 k ∧ v = .bool ((L.take k).all smallB)) (fun _ i => len - (intOf i).toNat)
    case atStart => exact ⟨0, Nat.zero_le _, rfl, rfl⟩
    case round =>
      obtain ⟨k, hk, rfl, rfl⟩ := hrel
      by_cases hlt : k < len
      · obtain ⟨b, off, rfl, hc⟩ := HI_2.out.cell k hlt
        have hlt' : (k : Int) < (len : Int) := by omega
        have SUC := Lib.hid (LF.out k (by rw [LE.out]; exact hlt))
        obtain ⟨n, hn⟩ : ∃ n, n = en L k := ⟨_, rfl⟩
        rw [← hn] at hc SUC
        clear hn
        cases hb : (L.take k).all smallB with
        | true =>
          rw [hb, Bool.true_and] at SUC
          clear hb
          go_wp2_with fail
          refine (refsmall_any _ _).mono ?_
          rintro e w' ⟨rfl, rfl⟩
          go_wp2_with fail
          go_round
          case rel => exact ⟨k + 1, by omega, by go_num, by rw [SUC.out]⟩
          case measure => simp [intOf]; omega
        | false =>
          rw [hb, Bool.false_and] at SUC
          clear hb
          go_wp2_with fail
          go_round
          case rel => exact ⟨k + 1, by omega, by go_num, by rw [SUC.out]⟩
          case measure => simp [intOf]; omega
      · have hkn : k = len := by omega
        subst hkn
        rw [LT.out, HSM.out]
        go_wp2_with fail
        refine (refall_any _ _ _ _ _ HI_2.out (by omega) HSM.out).mono ?_
        rintro e w3 ⟨rfl, hb3⟩
        have HI_3 := Lib.hid (HI_2.out.below hb3)
        have HM_3 := Lib.hid (HM_2.out.below hb3)
        have HBW3 := Lib.hid (HBW2.out.trans (hb3.mono HBW2.out.size))
        clear hb3 HI_2 HM_2
        rw [← HS1.out]
        go_wp2_with fail
        refine (refevery_any _ _ hz').mono ?_
        rintro e w4 ⟨m2, mn2, mc2, rfl, hm2, hb4⟩
        have HI_4 := Lib.hid (HI_3.out.below hb4)
        have HM_4 := Lib.hid (HM_3.out.below hb4)
        have HM2_4 := Lib.hid hm2
        have HBW4 := Lib.hid (HBW3.out.trans (hb4.mono HBW3.out.size))
        clear hb4 hm2 HI_3 HM_3
        go_wp2_with fail
        refine (alive_any _).mono ?_
        rintro e w5 ⟨rfl, hb5⟩
        have HI_5 := Lib.hid (HI_4.out.below hb5)
        have HM_5 := Lib.hid (HM_4.out.below hb5)
        have HM2_5 := Lib.hid (HM2_4.out.below hb5)
        have HBW5 := Lib.hid (HBW4.out.trans (hb5.mono HBW4.out.size))
        clear hb5 HI_4 HM_4 HM2_4
        go_wp2_with fail
        refine (rows_any _ _ _ _ _ _ _ _ _ HM_5.out HM2_5.out).mono ?_
        rintro e w6 ⟨rfl, hb6⟩
        have HI_6 := Lib.hid (HI_5.out.below hb6)
        have HM_6 := Lib.hid (HM_5.out.below hb6)
        have HM2_6 := Lib.hid (HM2_5.out.below hb6)
        have HBW6 := Lib.hid (HBW5.out.trans (hb6.mono HBW5.out.size))
        clear hb6 HI_5 HM_5 HM2_5
        rw [decide_eq_true (show (everyL (tx s')).1 = (everyL (tx s')).1 from rfl)]
        go_wp2_with fail
        go_ret
        exact ⟨ret_bool rfl, HBW6.out⟩

set_option maxRecDepth 100000 in
set_option maxHeartbeats 2000000 in
theorem every_00 (a : Option Addr) (len cap : Nat) (l : List Int) (s : ByteArray) (w : World) (h : Ints w a len cap l) (hs : s.size ≤ maxLen) (hlt : len ≤ 60) (hsm : (l.take 60).all smallB = false) : Calls Try.prog 4 #[.slice a len cap, .string s] w (Says w) := by
  have hI := h.take 60
  rw [Nat.min_eq_left (by omega)] at hI
  have hle := h.len_le
  have hlc := h.le_cap
  have hcm := h.cap_le
  have hnn := h.none_
  unfold maxLen at hcm
  clear h
  obtain ⟨L, hL⟩ : ∃ L, L = l.take 60 := ⟨_, rfl⟩
  rw [← hL] at hI hsm
  clear hL
  have hltI : (len : Int) ≤ 60 := by omega
  have LE := Lib.hid hI.len_eq
  have HI := Lib.hid hI
  have HSM := Lib.hid hsm
  clear hI hsm
  go_enter Try.func4, Try.ntmps4
  go_wp2_with fail
  go_region_with (go_at_call 8; refine (few_any _ _ (by unfold maxLen at hs; omega)).mono ?_; rintro e w' ⟨s', rfl, hT, hz, rfl⟩; clear hT)
  all_goals
    have HBW0 : Hid (Below w.heap.size w w.drew) := (Below.refl _ _).drew
    have HI_0 := Lib.hid (HI.out.below HBW0.out)
    clear HI
    have hz' : s'.size ≤ 1000000 := by omega
    go_wp2_with fail
    refine (all_no _ _ _ _ _ HI_0.out (by omega) HSM.out).mono ?_
    rintro e w1 ⟨rfl, hb1⟩
    have HI_1 := Lib.hid (HI_0.out.below hb1)
    have HBW1 := Lib.hid (HBW0.out.trans (hb1.mono HBW0.out.size))
    clear hb1 HI_0
    go_wp2_with fail
    refine (every_any _ _ hz').mono ?_
    rintro e w2 ⟨m, mn, mc, rfl, hm, hb2⟩
    have HI_2 := Lib.hid (HI_1.out.below hb2)
    have HM_2 := Lib.hid hm
    have HBW2 := Lib.hid (HBW1.out.trans (hb2.mono HBW1.out.size))
    clear hb2 hm HI_1
    go_wp2_with fail
    have LF := Lib.hid (all_take_succ2 L)
    have LT := Lib.hid (show L.take len = L from List.take_of_length_le (by rw [LE.out]; exact Nat.le_refl _))
    go_loop [9, 33] (fun v i => ∃ k : Nat, k ≤ len ∧ i = .int .i64 k ∧ v = .bool ((L.take k).all smallB)) (fun _ i => len - (intOf i).toNat)
    case atStart => exact ⟨0, Nat.zero_le _, rfl, rfl⟩
    case round =>
      obtain ⟨k, hk, rfl, rfl⟩ := hrel
      by_cases hlt : k < len
      · obtain ⟨b, off, rfl, hc⟩ := HI_2.out.cell k hlt
        have hlt' : (k : Int) < (len : Int) := by omega
        have SUC := Lib.hid (LF.out k (by rw [LE.out]; exact hlt))
        obtain ⟨n, hn⟩ : ∃ n, n = en L k := ⟨_, rfl⟩
        rw [← hn] at hc SUC
        clear hn
        cases hb : (L.take k).all smallB with
        | true =>
          rw [hb, Bool.true_and] at SUC
          clear hb
          go_wp2_with fail
          refine (refsmall_any _ _).mono ?_
          rintro e w' ⟨rfl, rfl⟩
          go_wp2_with fail
          go_round
          case rel => exact ⟨k + 1, by omega, by go_num, by rw [SUC.out]⟩
          case measure => simp [intOf]; omega
        | false =>
          rw [hb, Bool.false_and] at SUC
          clear hb
          go_wp2_with fail
          go_round
          case rel => exact ⟨k + 1, by omega, by go_num, by rw [SUC.out]⟩
          case measure => simp [intOf]; omega
      · have hkn : k = len := by omega
        subst hkn
        rw [LT.out, HSM.out]
        go_wp2_with fail
        refine (refevery_any _ _ hz').mono ?_
        rintro e w3 ⟨m2, mn2, mc2, rfl, hm2, hb3⟩
        have HI_3 := Lib.hid (HI_2.out.below hb3)
        have HM_3 := Lib.hid (HM_2.out.below hb3)
        have HM2_3 := Lib.hid hm2
        have HBW3 := Lib.hid (HBW2.out.trans (hb3.mono HBW2.out.size))
        clear hb3 hm2 HI_2 HM_2
        go_wp2_with fail
        refine (alive_any _).mono ?_
        rintro e w4 ⟨rfl, hb4⟩
        have HI_4 := Lib.hid (HI_3.out.below hb4)
        have HM_4 := Lib.hid (HM_3.out.below hb4)
        have HM2_4 := Lib.hid (HM2_3.out.below hb4)
        have HBW4 := Lib.hid (HBW3.out.trans (hb4.mono HBW3.out.size))
        clear hb4 HI_3 HM_3 HM2_3
        go_wp2_with fail
        refine (rows_any _ _ _ _ _ _ _ _ _ HM_4.out HM2_4.out).mono ?_
        rintro e w5 ⟨rfl, hb5⟩
        have HI_5 := Lib.hid (HI_4.out.below hb5)
        have HM_5 := Lib.hid (HM_4.out.below hb5)
        have HM2_5 := Lib.hid (HM2_4.out.below hb5)
        have HBW5 := Lib.hid (HBW4.out.trans (hb5.mono HBW4.out.size))
        clear hb5 HI_4 HM_4 HM2_4
        rw [decide_eq_true (show (everyL (tx s')).1 = (everyL (tx s')).1 from rfl)]
        go_wp2_with fail
        go_ret
        exact ⟨ret_bool rfl, HBW5.out⟩

set_option maxRecDepth 100000 in
set_option maxHeartbeats 2000000 in
theorem every_11 (a : Option Addr) (len cap : Nat) (l : List Int) (s : ByteArray) (w : World) (h : Ints w a len cap l) (hs : s.size ≤ maxLen) (hge : 60 < len) (hsm : (l.take 60).all smallB = true) : Calls Try.prog 4 #[.slice a len cap, .string s] w (Says w) := by
  have hI := h.take 60
  rw [Nat.min_eq_right (by omega)] at hI
  have hle := h.len_le
  have hlc := h.le_cap
  have hcm := h.cap_le
  have hnn := h.none_
  unfold maxLen at hcm
  clear h
  obtain ⟨L, hL⟩ : ∃ L, L = l.take 60 := ⟨_, rfl⟩
  rw [← hL] at hI hsm
  clear hL
  have hltI : ¬ (len : Int) ≤ 60 := by omega
  have LE := Lib.hid hI.len_eq
  have HI := Lib.hid hI
  have HSM := Lib.hid hsm
  clear hI hsm
  go_enter Try.func4, Try.ntmps4
  go_wp2_with fail
  go_region_with (go_at_call 8; refine (few_any _ _ (by unfold maxLen at hs; omega)).mono ?_; rintro e w' ⟨s', rfl, hT, hz, rfl⟩; clear hT)
  all_goals
    have HBW0 : Hid (Below w.heap.size w w.drew) := (Below.refl _ _).drew
    have HI_0 := Lib.hid (HI.out.below HBW0.out)
    clear HI
    have hz' : s'.size ≤ 1000000 := by omega
    obtain ⟨S1, hS1⟩ : ∃ S, S = strOf (allL L) := ⟨_, rfl⟩
    have HS1 := Lib.hid hS1; clear hS1
    go_wp2_with fail
    refine (all_ok _ _ _ _ _ HI_0.out (by omega) HSM.out).mono ?_
    rintro e w1 ⟨rfl, hb1⟩
    have HI_1 := Lib.hid (HI_0.out.below hb1)
    have HBW1 := Lib.hid (HBW0.out.trans (hb1.mono HBW0.out.size))
    clear hb1 HI_0
    rw [← HS1.out]
    go_wp2_with fail
    refine (every_any _ _ hz').mono ?_
    rintro e w2 ⟨m, mn, mc, rfl, hm, hb2⟩
    have HI_2 := Lib.hid (HI_1.out.below hb2)
    have HM_2 := Lib.hid hm
    have HBW2 := Lib.hid (HBW1.out.trans (hb2.mono HBW1.out.size))
    clear hb2 hm HI_1
    go_wp2_with fail
    have LF := Lib.hid (all_take_succ2 L)
    have LT := Lib.hid (show L.take 60 = L from List.take_of_length_le (by rw [LE.out]; exact Nat.le_refl _))
    go_loop [9, 33] (fun v i => ∃ k : Nat, k ≤ 60 ∧ i = .int .i64 k ∧ v = .bool ((L.take k).all smallB)) (fun _ i => 60 - (intOf i).toNat)
    case atStart => exact ⟨0, Nat.zero_le _, rfl, rfl⟩
    case round =>
      obtain ⟨k, hk, rfl, rfl⟩ := hrel
      by_cases hlt : k < 60
      · obtain ⟨b, off, rfl, hc⟩ := HI_2.out.cell k hlt
        have hlt' : (k : Int) < 60 := by omega
        have SUC := Lib.hid (LF.out k (by rw [LE.out]; exact hlt))
        obtain ⟨n, hn⟩ : ∃ n, n = en L k := ⟨_, rfl⟩
        rw [← hn] at hc SUC
        clear hn
        cases hb : (L.take k).all smallB with
        | true =>
          rw [hb, Bool.true_and] at SUC
          clear hb
          go_wp2_with fail
          refine (refsmall_any _ _).mono ?_
          rintro e w' ⟨rfl, rfl⟩
          go_wp2_with fail
          go_round
          case rel => exact ⟨k + 1, by omega, by go_num, by rw [SUC.out]⟩
          case measure => simp [intOf]; omega
        | false =>
          rw [hb, Bool.false_and] at SUC
          clear hb
          go_wp2_with fail
          go_round
          case rel => exact ⟨k + 1, by omega, by go_num, by rw [SUC.out]⟩
          case measure => simp [intOf]; omega
      · have hkn : k = 60 := by omega
        subst hkn
        rw [LT.out, HSM.out]
        go_wp2_with fail
        refine (refall_any _ _ _ _ _ HI_2.out (by omega) HSM.out).mono ?_
        rintro e w3 ⟨rfl, hb3⟩
        have HI_3 := Lib.hid (HI_2.out.below hb3)
        have HM_3 := Lib.hid (HM_2.out.below hb3)
        have HBW3 := Lib.hid (HBW2.out.trans (hb3.mono HBW2.out.size))
        clear hb3 HI_2 HM_2
        rw [← HS1.out]
        go_wp2_with fail
        refine (refevery_any _ _ hz').mono ?_
        rintro e w4 ⟨m2, mn2, mc2, rfl, hm2, hb4⟩
        have HI_4 := Lib.hid (HI_3.out.below hb4)
        have HM_4 := Lib.hid (HM_3.out.below hb4)
        have HM2_4 := Lib.hid hm2
        have HBW4 := Lib.hid (HBW3.out.trans (hb4.mono HBW3.out.size))
        clear hb4 hm2 HI_3 HM_3
        go_wp2_with fail
        refine (alive_any _).mono ?_
        rintro e w5 ⟨rfl, hb5⟩
        have HI_5 := Lib.hid (HI_4.out.below hb5)
        have HM_5 := Lib.hid (HM_4.out.below hb5)
        have HM2_5 := Lib.hid (HM2_4.out.below hb5)
        have HBW5 := Lib.hid (HBW4.out.trans (hb5.mono HBW4.out.size))
        clear hb5 HI_4 HM_4 HM2_4
        go_wp2_with fail
        refine (rows_any _ _ _ _ _ _ _ _ _ HM_5.out HM2_5.out).mono ?_
        rintro e w6 ⟨rfl, hb6⟩
        have HI_6 := Lib.hid (HI_5.out.below hb6)
        have HM_6 := Lib.hid (HM_5.out.below hb6)
        have HM2_6 := Lib.hid (HM2_5.out.below hb6)
        have HBW6 := Lib.hid (HBW5.out.trans (hb6.mono HBW5.out.size))
        clear hb6 HI_5 HM_5 HM2_5
        rw [decide_eq_true (show (everyL (tx s')).1 = (everyL (tx s')).1 from rfl)]
        go_wp2_with fail
        go_ret
        exact ⟨ret_bool rfl, HBW6.out⟩

set_option maxRecDepth 100000 in
set_option maxHeartbeats 2000000 in
theorem every_10 (a : Option Addr) (len cap : Nat) (l : List Int) (s : ByteArray) (w : World) (h : Ints w a len cap l) (hs : s.size ≤ maxLen) (hge : 60 < len) (hsm : (l.take 60).all smallB = false) : Calls Try.prog 4 #[.slice a len cap, .string s] w (Says w) := by
  have hI := h.take 60
  rw [Nat.min_eq_right (by omega)] at hI
  have hle := h.len_le
  have hlc := h.le_cap
  have hcm := h.cap_le
  have hnn := h.none_
  unfold maxLen at hcm
  clear h
  obtain ⟨L, hL⟩ : ∃ L, L = l.take 60 := ⟨_, rfl⟩
  rw [← hL] at hI hsm
  clear hL
  have hltI : ¬ (len : Int) ≤ 60 := by omega
  have LE := Lib.hid hI.len_eq
  have HI := Lib.hid hI
  have HSM := Lib.hid hsm
  clear hI hsm
  go_enter Try.func4, Try.ntmps4
  go_wp2_with fail
  go_region_with (go_at_call 8; refine (few_any _ _ (by unfold maxLen at hs; omega)).mono ?_; rintro e w' ⟨s', rfl, hT, hz, rfl⟩; clear hT)
  all_goals
    have HBW0 : Hid (Below w.heap.size w w.drew) := (Below.refl _ _).drew
    have HI_0 := Lib.hid (HI.out.below HBW0.out)
    clear HI
    have hz' : s'.size ≤ 1000000 := by omega
    go_wp2_with fail
    refine (all_no _ _ _ _ _ HI_0.out (by omega) HSM.out).mono ?_
    rintro e w1 ⟨rfl, hb1⟩
    have HI_1 := Lib.hid (HI_0.out.below hb1)
    have HBW1 := Lib.hid (HBW0.out.trans (hb1.mono HBW0.out.size))
    clear hb1 HI_0
    go_wp2_with fail
    refine (every_any _ _ hz').mono ?_
    rintro e w2 ⟨m, mn, mc, rfl, hm, hb2⟩
    have HI_2 := Lib.hid (HI_1.out.below hb2)
    have HM_2 := Lib.hid hm
    have HBW2 := Lib.hid (HBW1.out.trans (hb2.mono HBW1.out.size))
    clear hb2 hm HI_1
    go_wp2_with fail
    have LF := Lib.hid (all_take_succ2 L)
    have LT := Lib.hid (show L.take 60 = L from List.take_of_length_le (by rw [LE.out]; exact Nat.le_refl _))
    go_loop [9, 33] (fun v i => ∃ k : Nat, k ≤ 60 ∧ i = .int .i64 k ∧ v = .bool ((L.take k).all smallB)) (fun _ i => 60 - (intOf i).toNat)
    case atStart => exact ⟨0, Nat.zero_le _, rfl, rfl⟩
    case round =>
      obtain ⟨k, hk, rfl, rfl⟩ := hrel
      by_cases hlt : k < 60
      · obtain ⟨b, off, rfl, hc⟩ := HI_2.out.cell k hlt
        have hlt' : (k : Int) < 60 := by omega
        have SUC := Lib.hid (LF.out k (by rw [LE.out]; exact hlt))
        obtain ⟨n, hn⟩ : ∃ n, n = en L k := ⟨_, rfl⟩
        rw [← hn] at hc SUC
        clear hn
        cases hb : (L.take k).all smallB with
        | true =>
          rw [hb, Bool.true_and] at SUC
          clear hb
          go_wp2_with fail
          refine (refsmall_any _ _).mono ?_
          rintro e w' ⟨rfl, rfl⟩
          go_wp2_with fail
          go_round
          case rel => exact ⟨k + 1, by omega, by go_num, by rw [SUC.out]⟩
          case measure => simp [intOf]; omega
        | false =>
          rw [hb, Bool.false_and] at SUC
          clear hb
          go_wp2_with fail
          go_round
          case rel => exact ⟨k + 1, by omega, by go_num, by rw [SUC.out]⟩
          case measure => simp [intOf]; omega
      · have hkn : k = 60 := by omega
        subst hkn
        rw [LT.out, HSM.out]
        go_wp2_with fail
        refine (refevery_any _ _ hz').mono ?_
        rintro e w3 ⟨m2, mn2, mc2, rfl, hm2, hb3⟩
        have HI_3 := Lib.hid (HI_2.out.below hb3)
        have HM_3 := Lib.hid (HM_2.out.below hb3)
        have HM2_3 := Lib.hid hm2
        have HBW3 := Lib.hid (HBW2.out.trans (hb3.mono HBW2.out.size))
        clear hb3 hm2 HI_2 HM_2
        go_wp2_with fail
        refine (alive_any _).mono ?_
        rintro e w4 ⟨rfl, hb4⟩
        have HI_4 := Lib.hid (HI_3.out.below hb4)
        have HM_4 := Lib.hid (HM_3.out.below hb4)
        have HM2_4 := Lib.hid (HM2_3.out.below hb4)
        have HBW4 := Lib.hid (HBW3.out.trans (hb4.mono HBW3.out.size))
        clear hb4 HI_3 HM_3 HM2_3
        go_wp2_with fail
        refine (rows_any _ _ _ _ _ _ _ _ _ HM_4.out HM2_4.out).mono ?_
        rintro e w5 ⟨rfl, hb5⟩
        have HI_5 := Lib.hid (HI_4.out.below hb5)
        have HM_5 := Lib.hid (HM_4.out.below hb5)
        have HM2_5 := Lib.hid (HM2_4.out.below hb5)
        have HBW5 := Lib.hid (HBW4.out.trans (hb5.mono HBW4.out.size))
        clear hb5 HI_4 HM_4 HM2_4
        rw [decide_eq_true (show (everyL (tx s')).1 = (everyL (tx s')).1 from rfl)]
        go_wp2_with fail
        go_ret
        exact ⟨ret_bool rfl, HBW5.out⟩


theorem every_walk (a : Option Addr) (len cap : Nat) (l : List Int) (s : ByteArray) (w : World) (h : Ints w a len cap l) (hs : s.size ≤ maxLen) : Calls Try.prog 4 #[.slice a len cap, .string s] w (Says w) := by
  by_cases hl : len ≤ 60
  · cases hsm : (l.take 60).all smallB with
    | true => exact every_01 a len cap l s w h hs hl hsm
    | false => exact every_00 a len cap l s w h hs hl hsm
  · cases hsm : (l.take 60).all smallB with
    | true => exact every_11 a len cap l s w h hs (by omega) hsm
    | false => exact every_10 a len cap l s w h hs (by omega) hsm
end Go.Proofs.Ytmmhjdpodagkhaa
