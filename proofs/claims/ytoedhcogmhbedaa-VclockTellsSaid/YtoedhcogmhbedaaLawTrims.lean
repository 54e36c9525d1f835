/- The walk of VclockTrims: it returns true, and writes nothing that was there. -/
import Derived.Test.YtoedhcogmhbedaaRef
namespace Go.Proofs.Ytoedhcogmhbedaa
open Go.RowKit

def Says (w : World) (e : Ending) (w' : World) : Prop := e = .returned (.bool true) ∧ Below w.heap.size w w'

theorem leq_trim {A : List Int} (h : rightB A = true) : leqE A (trimL A) = (true, 0) := by
  rw [leqE_ok h (right_trim h), (leqB_iff (fun i => (right_en (right_trim h) i).1)).2 (fun i => by rw [en_trim]; omega)]
theorem trim_leq {A : List Int} (h : rightB A = true) : leqE (trimL A) A = (true, 0) := by
  rw [leqE_ok (right_trim h) h, (leqB_iff (fun i => (right_en h i).1)).2 (fun i => by rw [en_trim]; omega)]
theorem trims_same {A B : List Int} (hA : rightB A = true) (hB : rightB B = true) : (leqB A B && leqB B A) = decide (trimL A = trimL B) := by
  rw [Bool.eq_iff_iff, Bool.and_eq_true, leqB_iff (fun i => (right_en hB i).1), leqB_iff (fun i => (right_en hA i).1), decide_eq_true_eq]
  constructor
  · rintro ⟨h1, h2⟩
    exact trim_ext _ _ fun i => by have := h1 i; have := h2 i; omega
  · intro h
    have e : ∀ i, en A i = en B i := fun i => by rw [← en_trim A, ← en_trim B, h]
    exact ⟨fun i => by rw [e]; omega, fun i => by rw [e]; omega⟩

set_option maxRecDepth 100000 in
set_option maxHeartbeats 1000000 in
theorem trims_walk (a : Option Addr) (len cap : Nat) (l : List Int) (a2 : Option Addr) (len2 cap2 : Nat) (l2 : List Int) (w : World) (h : Ints w a len cap l) (h2 : Ints w a2 len2 cap2 l2) :
    Calls Try.prog 5 #[.slice a len cap, .slice a2 len2 cap2] w (Says w) := by
  have H := Lib.hid h; have H2 := Lib.hid h2
  have hA := h.take 20; have hB := h2.take 20
  obtain ⟨A, eA⟩ : ∃ A, A = l.take 20 := ⟨_, rfl⟩
  obtain ⟨B, eB⟩ : ∃ B, B = l2.take 20 := ⟨_, rfl⟩
  rw [← eA] at hA
  rw [← eB] at hB
  have HA := Lib.hid hA; have HB := Lib.hid hB
  clear h h2 hA hB eA eB
  obtain ⟨ra, hra⟩ : ∃ r, r = rightB A := ⟨_, rfl⟩
  obtain ⟨rb, hrb⟩ : ∃ r, r = rightB B := ⟨_, rfl⟩
  have RA := Lib.hid hra.symm; have RB := Lib.hid hrb.symm; clear hra hrb
  cases ra with
  | false =>
    cases rb with
    | false =>
      go_enter Try.func5, Try.ntmps5
      go_wp2_with fail
      refine (few_any _ _ _ _ _ H.out).mono ?_
      rintro e w' ⟨rfl, rfl⟩
      go_wp2_with fail
      refine (few_any _ _ _ _ _ H2.out).mono ?_
      rintro e w' ⟨rfl, rfl⟩
      go_wp2_with fail
      refine (trim_bad _ _ _ _ _ HA.out RA.out).mono ?_
      rintro e w' ⟨rfl, rfl⟩
      go_wp2_with fail
      refine (trim_bad _ _ _ _ _ HB.out RB.out).mono ?_
      rintro e w' ⟨rfl, rfl⟩
      go_wp2_with fail
      refine (alive_any _).mono ?_
      rintro e w1 ⟨rfl, hb⟩
      have HB1 := Lib.hid hb; clear hb
      go_wp2_with fail
      go_ret
      exact ⟨ret_bool rfl, HB1.out⟩
    | true =>
      go_enter Try.func5, Try.ntmps5
      go_wp2_with fail
      refine (few_any _ _ _ _ _ H.out).mono ?_
      rintro e w' ⟨rfl, rfl⟩
      go_wp2_with fail
      refine (few_any _ _ _ _ _ H2.out).mono ?_
      rintro e w' ⟨rfl, rfl⟩
      go_wp2_with fail
      refine (trim_bad _ _ _ _ _ HA.out RA.out).mono ?_
      rintro e w' ⟨rfl, rfl⟩
      go_wp2_with fail
      refine (trim_ok _ _ _ _ _ HB.out RB.out).mono ?_
      rintro e w1 ⟨s1, n1, c1, rfl, hi1, hb1⟩
      have HB1 := Lib.hid hb1; clear hb1 hi1
      go_wp2_with fail
      refine (alive_any _).mono ?_
      rintro e w2 ⟨rfl, hb⟩
      have HB2 := Lib.hid (HB1.out.trans (hb.mono HB1.out.size)); clear hb
      go_wp2_with fail
      go_ret
      exact ⟨ret_bool rfl, HB2.out⟩
  | true =>
    cases rb with
    | false =>
      go_enter Try.func5, Try.ntmps5
      go_wp2_with fail
      refine (few_any _ _ _ _ _ H.out).mono ?_
      rintro e w' ⟨rfl, rfl⟩
      go_wp2_with fail
      refine (few_any _ _ _ _ _ H2.out).mono ?_
      rintro e w' ⟨rfl, rfl⟩
      go_wp2_with fail
      refine (trim_ok _ _ _ _ _ HA.out RA.out).mono ?_
      rintro e w1 ⟨s1, n1, c1, rfl, hi1, hb1⟩
      have HB1 := Lib.hid hb1; clear hb1 hi1
      go_wp2_with fail
      refine (trim_bad _ _ _ _ _ (HB.out.below HB1.out) RB.out).mono ?_
      rintro e w' ⟨rfl, rfl⟩
      go_wp2_with fail
      refine (alive_any _).mono ?_
      rintro e w2 ⟨rfl, hb⟩
      have HB2 := Lib.hid (HB1.out.trans (hb.mono HB1.out.size)); clear hb
      go_wp2_with fail
      go_ret
      exact ⟨ret_bool rfl, HB2.out⟩
    | true =>
      have E1 := Lib.hid (leq_trim RA.out)
      have E2 := Lib.hid (trim_leq RA.out)
      have E3 := Lib.hid (leqE_ok RA.out RB.out)
      have E4 := Lib.hid (leqE_ok RB.out RA.out)
      have E5 := Lib.hid (trims_same RA.out RB.out)
      have E6 := Lib.hid (trim_last A)
      have E7 := Lib.hid (trim_idem A)
      go_enter Try.func5, Try.ntmps5
      go_wp2_with fail
      refine (few_any _ _ _ _ _ H.out).mono ?_
      rintro e w' ⟨rfl, rfl⟩
      go_wp2_with fail
      refine (few_any _ _ _ _ _ H2.out).mono ?_
      rintro e w' ⟨rfl, rfl⟩
      go_wp2_with fail
      refine (trim_ok _ _ _ _ _ HA.out RA.out).mono ?_
      rintro e w1 ⟨s1, n1, c1, rfl, hS, hb1⟩
      have HS := Lib.hid hS; have HB1 := Lib.hid hb1; clear hb1 hS
      go_wp2_with fail
      refine (trim_ok _ _ _ _ _ (HB.out.below HB1.out) RB.out).mono ?_
      rintro e w2 ⟨s2, n2, c2, rfl, hT, hb2⟩
      have HT := Lib.hid hT; have HS2 := Lib.hid (HS.out.below hb2); have HB2 := Lib.hid (HB1.out.trans (hb2.mono HB1.out.size)); clear hb2 hT
      go_wp2_with fail
      refine (leq_any _ _ _ _ _ _ _ _ _ (HA.out.below HB2.out) HS2.out).mono ?_
      rintro e w' ⟨rfl, rfl⟩
      rw [E1.out]
      go_wp2_with fail
      refine (leq_any _ _ _ _ _ _ _ _ _ HS2.out (HA.out.below HB2.out)).mono ?_
      rintro e w' ⟨rfl, rfl⟩
      rw [E2.out]
      go_wp2_with fail
      refine (leq_any _ _ _ _ _ _ _ _ _ (HA.out.below HB2.out) (HB.out.below HB2.out)).mono ?_
      rintro e w' ⟨rfl, rfl⟩
      rw [E3.out]
      go_wp2_with fail
      refine (leq_any _ _ _ _ _ _ _ _ _ (HB.out.below HB2.out) (HA.out.below HB2.out)).mono ?_
      rintro e w' ⟨rfl, rfl⟩
      rw [E4.out]
      go_wp2_with fail
      refine (trim_ok _ _ _ _ _ HS2.out (right_trim RA.out)).mono ?_
      rintro e w3 ⟨s3, n3, c3, rfl, hU, hb3⟩
      rw [E7.out] at hU
      have HU := Lib.hid hU; have HS3 := Lib.hid (HS2.out.below hb3); have HT3 := Lib.hid (HT.out.below hb3); have HB3 := Lib.hid (HB2.out.trans (hb3.mono HB2.out.size)); clear hb3 hU
      go_wp2_with fail
      refine (alive_any _).mono ?_
      rintro e w4 ⟨rfl, hb4⟩
      have HU4 := Lib.hid (HU.out.below hb4); have HS4 := Lib.hid (HS3.out.below hb4); have HT4 := Lib.hid (HT3.out.below hb4); have HB4 := Lib.hid (HB3.out.trans (hb4.mono HB3.out.size)); clear hb4
      go_wp2_with fail
      refine (rows_any _ _ _ _ _ _ _ _ _ HU4.out HS4.out).mono ?_
      rintro e w5 ⟨rfl, hb5⟩
      rw [decide_eq_true (rfl : trimL A = trimL A)]
      have HS5 := Lib.hid (HS4.out.below hb5); have HT5 := Lib.hid (HT4.out.below hb5); have HB5 := Lib.hid (HB4.out.trans (hb5.mono HB4.out.size)); clear hb5
      obtain ⟨x, hx⟩ : ∃ x, x = leqB A B := ⟨_, rfl⟩
      obtain ⟨y, hy⟩ : ∃ y, y = leqB B A := ⟨_, rfl⟩
      rw [← hx, ← hy]
      have e5 := E5.out
      rw [← hx, ← hy] at e5
      have E8 := Lib.hid e5; clear e5 hx hy
      by_cases hn : n1 = 0
      · subst hn
        cases x with
        | false =>
          go_wp2_with fail
          refine (rows_any _ _ _ _ _ _ _ _ _ HS5.out HT5.out).mono ?_
          rintro e w6 ⟨rfl, hb6⟩
          rw [← E8.out]
          have HB6 := Lib.hid (HB5.out.trans (hb6.mono HB5.out.size)); clear hb6
          go_wp2_with fail
          go_ret
          exact ⟨ret_bool rfl, HB6.out⟩
        | true =>
          go_wp2_with fail
          refine (rows_any _ _ _ _ _ _ _ _ _ HS5.out HT5.out).mono ?_
          rintro e w6 ⟨rfl, hb6⟩
          rw [← E8.out]
          have HB6 := Lib.hid (HB5.out.trans (hb6.mono HB5.out.size)); clear hb6
          cases y with
          | false =>
            go_wp2_with fail
            go_ret
            exact ⟨ret_bool rfl, HB6.out⟩
          | true =>
            go_wp2_with fail
            go_ret
            exact ⟨ret_bool rfl, HB6.out⟩
      · obtain ⟨k, rfl⟩ : ∃ k, n1 = k + 1 := ⟨n1 - 1, by omega⟩
        obtain ⟨b, off, rfl, hc⟩ := HS5.out.cell k (by omega)
        have hlast : en (trimL A) k ≠ 0 := by
          rcases E6.out with h | h
          · have := HS5.out.len_eq; rw [h] at this; simp at this
          · rwa [HS5.out.len_eq, Nat.add_sub_cancel] at h
        obtain ⟨z, hz⟩ : ∃ z, z = en (trimL A) k := ⟨_, rfl⟩
        rw [← hz] at hc hlast
        have hzb : (z != 0) = true := by simpa using hlast
        have hnl := HS5.out.len_le
        clear hz
        cases x with
        | false =>
          go_wp2_with fail
          refine (rows_any _ _ _ _ _ _ _ _ _ HS5.out HT5.out).mono ?_
          rintro e w6 ⟨rfl, hb6⟩
          rw [← E8.out]
          have HB6 := Lib.hid (HB5.out.trans (hb6.mono HB5.out.size)); clear hb6
          go_wp2_with fail
          go_ret
          exact ⟨ret_bool rfl, HB6.out⟩
        | true =>
          go_wp2_with fail
          refine (rows_any _ _ _ _ _ _ _ _ _ HS5.out HT5.out).mono ?_
          rintro e w6 ⟨rfl, hb6⟩
          rw [← E8.out]
          have HB6 := Lib.hid (HB5.out.trans (hb6.mono HB5.out.size)); clear hb6
          cases y with
          | false =>
            go_wp2_with fail
            go_ret
            exact ⟨ret_bool rfl, HB6.out⟩
          | true =>
            go_wp2_with fail
            go_ret
            exact ⟨ret_bool rfl, HB6.out⟩
end Go.Proofs.Ytoedhcogmhbedaa
