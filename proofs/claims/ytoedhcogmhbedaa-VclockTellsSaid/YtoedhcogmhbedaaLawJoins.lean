/- The walk of VclockJoins: it returns true, and writes nothing that was there. -/
import Derived.Test.YtoedhcogmhbedaaLawTrims
namespace Go.Proofs.Ytoedhcogmhbedaa
open Go.RowKit

theorem en_join {A B : List Int} (hA : rightB A = true) (hB : rightB B = true) (i : Nat) : en (grownL [A, B]) i = max (en A i) (en B i) := en_grown2 A B (fun j => (right_en hA j).1) (fun j => (right_en hB j).1) i
theorem join_ext {A B C D : List Int} (h : ∀ i, en (grownL [A, B]) i = en (grownL [C, D]) i) : grownL [A, B] = grownL [C, D] := by
  rw [grown_ext _ _ h]; unfold grownL; rw [trim_idem]
theorem join_comm {A B : List Int} (hA : rightB A = true) (hB : rightB B = true) : grownL [B, A] = grownL [A, B] :=
  join_ext fun i => by rw [en_join hA hB, en_join hB hA]; omega
theorem join_again {A B : List Int} (hA : rightB A = true) (hB : rightB B = true) : grownL [grownL [A, B], A] = grownL [A, B] :=
  join_ext fun i => by rw [en_join (right_join hA hB) hA, en_join hA hB]; omega
theorem join_assoc {A B C : List Int} (hA : rightB A = true) (hB : rightB B = true) (hC : rightB C = true) : grownL [grownL [A, B], C] = grownL [A, grownL [B, C]] :=
  join_ext fun i => by rw [en_join (right_join hA hB) hC, en_join hA (right_join hB hC), en_join hA hB, en_join hB hC]; omega
theorem leq_left {A B : List Int} (hA : rightB A = true) (hB : rightB B = true) : leqE A (grownL [A, B]) = (true, 0) := by
  rw [leqE_ok hA (right_join hA hB), (leqB_iff (fun i => (right_en (right_join hA hB) i).1)).2 (fun i => by rw [en_join hA hB]; omega)]
theorem leq_right {A B : List Int} (hA : rightB A = true) (hB : rightB B = true) : leqE B (grownL [A, B]) = (true, 0) := by
  rw [leqE_ok hB (right_join hA hB), (leqB_iff (fun i => (right_en (right_join hA hB) i).1)).2 (fun i => by rw [en_join hA hB]; omega)]
theorem leq_back {A B : List Int} (hA : rightB A = true) (hB : rightB B = true) : leqE (grownL [A, B]) B = (leqB A B, 0) := by
  rw [leqE_ok (right_join hA hB) hB]
  have : leqB (grownL [A, B]) B = leqB A B := by
    rw [Bool.eq_iff_iff, leqB_iff (fun i => (right_en hB i).1), leqB_iff (fun i => (right_en hB i).1)]
    constructor
    · intro h i; have := h i; rw [en_join hA hB] at this; omega
    · intro h i; have := h i; rw [en_join hA hB]; omega
  rw [this]
theorem leq_join {A B C : List Int} (hA : rightB A = true) (hB : rightB B = true) (hC : rightB C = true) : leqE (grownL [A, B]) C = (leqB A C && leqB B C, 0) := by
  rw [leqE_ok (right_join hA hB) hC]
  have : leqB (grownL [A, B]) C = (leqB A C && leqB B C) := by
    rw [Bool.eq_iff_iff, Bool.and_eq_true, leqB_iff (fun i => (right_en hC i).1), leqB_iff (fun i => (right_en hC i).1), leqB_iff (fun i => (right_en hC i).1)]
    constructor
    · intro h; exact ⟨fun i => by have := h i; rw [en_join hA hB] at this; omega, fun i => by have := h i; rw [en_join hA hB] at this; omega⟩
    · rintro ⟨h1, h2⟩ i; have := h1 i; have := h2 i; rw [en_join hA hB]; omega
  rw [this]

set_option maxRecDepth 100000 in
set_option maxHeartbeats 4000000 in
theorem joins_walk (a : Option Addr) (len cap : Nat) (l : List Int) (a2 : Option Addr) (len2 cap2 : Nat) (l2 : List Int) (a3 : Option Addr) (len3 cap3 : Nat) (l3 : List Int) (w : World)
    (h : Ints w a len cap l) (h2 : Ints w a2 len2 cap2 l2) (h3 : Ints w a3 len3 cap3 l3) :
    Calls Try.prog 4 #[.slice a len cap, .slice a2 len2 cap2, .slice a3 len3 cap3] w (Says w) := by
  have H := Lib.hid h; have H2 := Lib.hid h2; have H3 := Lib.hid h3
  have hA := h.take 20; have hB := h2.take 20; have hC := h3.take 20
  obtain ⟨A, eA⟩ : ∃ A, A = l.take 20 := ⟨_, rfl⟩
  obtain ⟨B, eB⟩ : ∃ B, B = l2.take 20 := ⟨_, rfl⟩
  obtain ⟨C, eC⟩ : ∃ C, C = l3.take 20 := ⟨_, rfl⟩
  rw [← eA] at hA
  rw [← eB] at hB
  rw [← eC] at hC
  have HA := Lib.hid hA; have HB := Lib.hid hB; have HC := Lib.hid hC
  clear h h2 h3 hA hB hC eA eB eC
  by_cases hab : rightB A = true ∧ rightB B = true
  · obtain ⟨ra, rb⟩ := hab
    have RA := Lib.hid ra; have RB := Lib.hid rb; clear ra rb
    have RJ := Lib.hid (right_join RA.out RB.out)
    have E1 := Lib.hid (join_comm RA.out RB.out)
    have E2 := Lib.hid (leq_left RA.out RB.out)
    have E3 := Lib.hid (leq_right RA.out RB.out)
    have E4 := Lib.hid (join_again RA.out RB.out)
    have E5 := Lib.hid (leqE_ok RA.out RB.out)
    have E6 := Lib.hid (leq_back RA.out RB.out)
    go_enter Try.func4, Try.ntmps4
    go_wp2_with fail
    refine (few_any _ _ _ _ _ H.out).mono ?_
    rintro e w' ⟨rfl, rfl⟩
    go_wp2_with fail
    refine (few_any _ _ _ _ _ H2.out).mono ?_
    rintro e w' ⟨rfl, rfl⟩
    go_wp2_with fail
    refine (few_any _ _ _ _ _ H3.out).mono ?_
    rintro e w' ⟨rfl, rfl⟩
    go_wp2_with fail
    refine (join_ok _ _ _ _ _ _ _ _ _ HA.out HB.out RA.out RB.out).mono ?_
    rintro e w1 ⟨s1, n1, c1, rfl, i1, hb1⟩
    have HA_1 := Lib.hid (HA.out.below hb1)
    have HB_1 := Lib.hid (HB.out.below hb1)
    have HC_1 := Lib.hid (HC.out.below hb1)
    have HJ_1 := Lib.hid i1
    have HBW1 := Lib.hid hb1
    clear hb1 i1 HA HB HC
    go_wp2_with fail
    refine (join_ok _ _ _ _ _ _ _ _ _ HB_1.out HA_1.out RB.out RA.out).mono ?_
    rintro e w2 ⟨s2, n2, c2, rfl, i2, hb2⟩
    rw [E1.out] at i2
    have HA_2 := Lib.hid (HA_1.out.below hb2)
    have HB_2 := Lib.hid (HB_1.out.below hb2)
    have HC_2 := Lib.hid (HC_1.out.below hb2)
    have HJ_2 := Lib.hid (HJ_1.out.below hb2)
    have HK_2 := Lib.hid i2
    have HBW2 := Lib.hid (HBW1.out.trans (hb2.mono HBW1.out.size))
    clear hb2 i2 HA_1 HB_1 HC_1 HJ_1
    go_wp2_with fail
    refine (leq_any _ _ _ _ _ _ _ _ _ HA_2.out HJ_2.out).mono ?_
    rintro e w' ⟨rfl, rfl⟩
    rw [E2.out]
    go_wp2_with fail
    refine (leq_any _ _ _ _ _ _ _ _ _ HB_2.out HJ_2.out).mono ?_
    rintro e w' ⟨rfl, rfl⟩
    rw [E3.out]
    go_wp2_with fail
    refine (join_ok _ _ _ _ _ _ _ _ _ HJ_2.out HA_2.out RJ.out RA.out).mono ?_
    rintro e w3 ⟨s3, n3, c3, rfl, i3, hb3⟩
    rw [E4.out] at i3
    have HA_3 := Lib.hid (HA_2.out.below hb3)
    have HB_3 := Lib.hid (HB_2.out.below hb3)
    have HC_3 := Lib.hid (HC_2.out.below hb3)
    have HJ_3 := Lib.hid (HJ_2.out.below hb3)
    have HK_3 := Lib.hid (HK_2.out.below hb3)
    have HM_3 := Lib.hid i3
    have HBW3 := Lib.hid (HBW2.out.trans (hb3.mono HBW2.out.size))
    clear hb3 i3 HA_2 HB_2 HC_2 HJ_2 HK_2
    go_wp2_with fail
    refine (leq_any _ _ _ _ _ _ _ _ _ HA_3.out HB_3.out).mono ?_
    rintro e w' ⟨rfl, rfl⟩
    rw [E5.out]
    go_wp2_with fail
    refine (leq_any _ _ _ _ _ _ _ _ _ HJ_3.out HB_3.out).mono ?_
    rintro e w' ⟨rfl, rfl⟩
    rw [E6.out]
    obtain ⟨x, hx⟩ : ∃ x, x = leqB A B := ⟨_, rfl⟩
    rw [← hx]
    clear hx
    go_wp2_with fail
    refine (rows_any _ _ _ _ _ _ _ _ _ HJ_3.out HK_3.out).mono ?_
    rintro e w4 ⟨rfl, hb4⟩
    have HA_4 := Lib.hid (HA_3.out.below hb4)
    have HB_4 := Lib.hid (HB_3.out.below hb4)
    have HC_4 := Lib.hid (HC_3.out.below hb4)
    have HJ_4 := Lib.hid (HJ_3.out.below hb4)
    have HK_4 := Lib.hid (HK_3.out.below hb4)
    have HM_4 := Lib.hid (HM_3.out.below hb4)
    have HBW4 := Lib.hid (HBW3.out.trans (hb4.mono HBW3.out.size))
    clear hb4 HA_3 HB_3 HC_3 HJ_3 HK_3 HM_3
    rw [decide_eq_true (rfl : grownL [A, B] = grownL [A, B])]
    go_wp2_with fail
    refine (rows_any _ _ _ _ _ _ _ _ _ HM_4.out HJ_4.out).mono ?_
    rintro e w5 ⟨rfl, hb5⟩
    have HA_5 := Lib.hid (HA_4.out.below hb5)
    have HB_5 := Lib.hid (HB_4.out.below hb5)
    have HC_5 := Lib.hid (HC_4.out.below hb5)
    have HJ_5 := Lib.hid (HJ_4.out.below hb5)
    have HK_5 := Lib.hid (HK_4.out.below hb5)
    have HM_5 := Lib.hid (HM_4.out.below hb5)
    have HBW5 := Lib.hid (HBW4.out.trans (hb5.mono HBW4.out.size))
    clear hb5 HA_4 HB_4 HC_4 HJ_4 HK_4 HM_4
    rw [decide_eq_true (rfl : grownL [A, B] = grownL [A, B])]
    have hxx : (x != x) = false := by cases x <;> rfl
    go_wp2_with fail
    refine (alive_any _).mono ?_
    rintro e w6 ⟨rfl, hb6⟩
    have HA_6 := Lib.hid (HA_5.out.below hb6)
    have HB_6 := Lib.hid (HB_5.out.below hb6)
    have HC_6 := Lib.hid (HC_5.out.below hb6)
    have HJ_6 := Lib.hid (HJ_5.out.below hb6)
    have HK_6 := Lib.hid (HK_5.out.below hb6)
    have HM_6 := Lib.hid (HM_5.out.below hb6)
    have HBW6 := Lib.hid (HBW5.out.trans (hb6.mono HBW5.out.size))
    clear hb6 HA_5 HB_5 HC_5 HJ_5 HK_5 HM_5
    clear hxx
    cases hc : rightB C with
    | false =>
      have RC := Lib.hid hc; clear hc
      go_wp2_with fail
      refine (join_bad _ _ _ _ _ _ _ _ _ HJ_6.out HC_6.out (.inr RC.out)).mono ?_
      rintro e w' ⟨rfl, rfl⟩
      go_wp2_with fail
      refine (join_bad _ _ _ _ _ _ _ _ _ HB_6.out HC_6.out (.inr RC.out)).mono ?_
      rintro e w' ⟨rfl, rfl⟩
      go_wp2_with fail
      go_ret
      exact ⟨ret_bool rfl, HBW6.out⟩
    | true =>
      have RC := Lib.hid hc; clear hc
      have RK := Lib.hid (right_join RB.out RC.out)
      have E7 := Lib.hid (join_assoc RA.out RB.out RC.out)
      have E8 := Lib.hid (leqE_ok RA.out RC.out)
      have E9 := Lib.hid (leqE_ok RB.out RC.out)
      have E10 := Lib.hid (leq_join RA.out RB.out RC.out)
      go_wp2_with fail
      refine (join_ok _ _ _ _ _ _ _ _ _ HJ_6.out HC_6.out RJ.out RC.out).mono ?_
      rintro e w7 ⟨s4, n4, c4, rfl, i4, hb7⟩
      rw [E7.out] at i4
      have HA_7 := Lib.hid (HA_6.out.below hb7)
      have HB_7 := Lib.hid (HB_6.out.below hb7)
      have HC_7 := Lib.hid (HC_6.out.below hb7)
      have HJ_7 := Lib.hid (HJ_6.out.below hb7)
      have HK_7 := Lib.hid (HK_6.out.below hb7)
      have HM_7 := Lib.hid (HM_6.out.below hb7)
      have HX_7 := Lib.hid i4
      have HBW7 := Lib.hid (HBW6.out.trans (hb7.mono HBW6.out.size))
      clear hb7 i4 HA_6 HB_6 HC_6 HJ_6 HK_6 HM_6
      go_wp2_with fail
      refine (join_ok _ _ _ _ _ _ _ _ _ HB_7.out HC_7.out RB.out RC.out).mono ?_
      rintro e w8 ⟨s5, n5, c5, rfl, i5, hb8⟩
      have HA_8 := Lib.hid (HA_7.out.below hb8)
      have HB_8 := Lib.hid (HB_7.out.below hb8)
      have HC_8 := Lib.hid (HC_7.out.below hb8)
      have HJ_8 := Lib.hid (HJ_7.out.below hb8)
      have HK_8 := Lib.hid (HK_7.out.below hb8)
      have HM_8 := Lib.hid (HM_7.out.below hb8)
      have HX_8 := Lib.hid (HX_7.out.below hb8)
      have HBC_8 := Lib.hid i5
      have HBW8 := Lib.hid (HBW7.out.trans (hb8.mono HBW7.out.size))
      clear hb8 i5 HA_7 HB_7 HC_7 HJ_7 HK_7 HM_7 HX_7
      go_wp2_with fail
      refine (join_ok _ _ _ _ _ _ _ _ _ HA_8.out HBC_8.out RA.out RK.out).mono ?_
      rintro e w9 ⟨s6, n6, c6, rfl, i6, hb9⟩
      have HA_9 := Lib.hid (HA_8.out.below hb9)
      have HB_9 := Lib.hid (HB_8.out.below hb9)
      have HC_9 := Lib.hid (HC_8.out.below hb9)
      have HJ_9 := Lib.hid (HJ_8.out.below hb9)
      have HK_9 := Lib.hid (HK_8.out.below hb9)
      have HM_9 := Lib.hid (HM_8.out.below hb9)
      have HX_9 := Lib.hid (HX_8.out.below hb9)
      have HBC_9 := Lib.hid (HBC_8.out.below hb9)
      have HY_9 := Lib.hid i6
      have HBW9 := Lib.hid (HBW8.out.trans (hb9.mono HBW8.out.size))
      clear hb9 i6 HA_8 HB_8 HC_8 HJ_8 HK_8 HM_8 HX_8 HBC_8
      go_wp2_with fail
      refine (leq_any _ _ _ _ _ _ _ _ _ HA_9.out HC_9.out).mono ?_
      rintro e w' ⟨rfl, rfl⟩
      rw [E8.out]
      go_wp2_with fail
      refine (leq_any _ _ _ _ _ _ _ _ _ HB_9.out HC_9.out).mono ?_
      rintro e w' ⟨rfl, rfl⟩
      rw [E9.out]
      go_wp2_with fail
      refine (leq_any _ _ _ _ _ _ _ _ _ HJ_9.out HC_9.out).mono ?_
      rintro e w' ⟨rfl, rfl⟩
      rw [E10.out]
      obtain ⟨p, hp⟩ : ∃ p, p = leqB A C := ⟨_, rfl⟩
      obtain ⟨q, hq⟩ : ∃ q, q = leqB B C := ⟨_, rfl⟩
      rw [← hp, ← hq]
      clear hp hq E8 E9 E10
      go_wp2_with fail
      refine (rows_any _ _ _ _ _ _ _ _ _ HX_9.out HY_9.out).mono ?_
      rintro e w10 ⟨rfl, hb10⟩
      have HA_10 := Lib.hid (HA_9.out.below hb10)
      have HB_10 := Lib.hid (HB_9.out.below hb10)
      have HC_10 := Lib.hid (HC_9.out.below hb10)
      have HJ_10 := Lib.hid (HJ_9.out.below hb10)
      have HK_10 := Lib.hid (HK_9.out.below hb10)
      have HM_10 := Lib.hid (HM_9.out.below hb10)
      have HX_10 := Lib.hid (HX_9.out.below hb10)
      have HBC_10 := Lib.hid (HBC_9.out.below hb10)
      have HY_10 := Lib.hid (HY_9.out.below hb10)
      have HBW10 := Lib.hid (HBW9.out.trans (hb10.mono HBW9.out.size))
      clear hb10 HA_9 HB_9 HC_9 HJ_9 HK_9 HM_9 HX_9 HBC_9 HY_9
      rw [decide_eq_true (rfl : grownL [A, grownL [B, C]] = grownL [A, grownL [B, C]])]
      cases p <;> cases q
      all_goals
        go_wp2_with fail
        go_ret
        exact ⟨ret_bool rfl, HBW10.out⟩
  · have hno : rightB A = false ∨ rightB B = false := by cases hx : rightB A <;> cases hy : rightB B <;> simp_all
    have NO := Lib.hid hno; have NO2 := Lib.hid hno.symm; clear hab hno
    go_enter Try.func4, Try.ntmps4
    go_wp2_with fail
    refine (few_any _ _ _ _ _ H.out).mono ?_
    rintro e w' ⟨rfl, rfl⟩
    go_wp2_with fail
    refine (few_any _ _ _ _ _ H2.out).mono ?_
    rintro e w' ⟨rfl, rfl⟩
    go_wp2_with fail
    refine (few_any _ _ _ _ _ H3.out).mono ?_
    rintro e w' ⟨rfl, rfl⟩
    go_wp2_with fail
    refine (join_bad _ _ _ _ _ _ _ _ _ HA.out HB.out NO.out).mono ?_
    rintro e w' ⟨rfl, rfl⟩
    go_wp2_with fail
    refine (join_bad _ _ _ _ _ _ _ _ _ HB.out HA.out NO2.out).mono ?_
    rintro e w' ⟨rfl, rfl⟩
    go_wp2_with fail
    refine (alive_any _).mono ?_
    rintro e w1 ⟨rfl, hb1⟩
    have HA_1 := Lib.hid (HA.out.below hb1)
    have HB_1 := Lib.hid (HB.out.below hb1)
    have HC_1 := Lib.hid (HC.out.below hb1)
    have HBW1 := Lib.hid hb1
    clear hb1 HA HB HC
    go_wp2_with fail
    go_ret
    exact ⟨ret_bool rfl, HBW1.out⟩
end Go.Proofs.Ytoedhcogmhbedaa
