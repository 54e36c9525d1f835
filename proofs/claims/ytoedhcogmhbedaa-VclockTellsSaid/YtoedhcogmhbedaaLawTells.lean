/- The walk of VclockTells: it returns true, and writes nothing that was there. -/
import Derived.Test.YtoedhcogmhbedaaLawJoins
namespace Go.Proofs.Ytoedhcogmhbedaa
open Go.RowKit

theorem ref_join {A B : List Int} (hA : rightB A = true) (hB : rightB B = true) : trimL (sixteen (joinAt A B) 16) = grownL [A, B] := by
  symm
  refine grown_ext _ _ fun i => ?_
  rw [en_join hA hB, en_sixteen]
  split
  · rfl
  · have := right_len hA; have := right_len hB
    rw [en_of_le A i (by omega), en_of_le B i (by omega)]; rfl
theorem join_nonneg {A B : List Int} (hA : rightB A = true) (i : Nat) : 0 ≤ joinAt A B i := by
  have := (right_en hA i).1; unfold joinAt; omega
theorem ref_tick {A : List Int} (hA : rightB A = true) (g : Nat) (hg : g < 16) : trimL (sixteen (tickAt A g) 16) = grownL [A, stepL g (en A g + 1)] := by
  symm
  refine grown_ext _ _ fun i => ?_
  rw [en_grown2 A _ (fun j => (right_en hA j).1) (fun j => by rw [en_step]; have := (right_en hA g).1; split <;> omega), en_sixteen, en_step]
  have h0 := (right_en hA i).1
  by_cases h2 : i = g
  · subst h2
    rw [if_pos rfl, if_pos hg, tickAt, if_pos rfl]; omega
  · rw [if_neg h2]
    by_cases h1 : i < 16
    · rw [if_pos h1, tickAt, if_neg (by omega)]; omega
    · have := right_len hA
      rw [if_neg h1, en_of_le A i (by omega)]; rfl

set_option maxRecDepth 100000 in
set_option maxHeartbeats 4000000 in
theorem tells_bad (a : Option Addr) (len cap : Nat) (l : List Int) (a2 : Option Addr) (len2 cap2 : Nat) (l2 : List Int) (g : Int) (w : World) (h : Ints w a len cap l) (h2 : Ints w a2 len2 cap2 l2)
    (ra : rightB (l.take 20) = false) :
    Calls Try.prog 3 #[.slice a len cap, .slice a2 len2 cap2, .int .i64 g] w (Says w) := by
  have H := Lib.hid h; have H2 := Lib.hid h2
  have HA := Lib.hid (h.take 20); have HB := Lib.hid (h2.take 20)
  obtain ⟨A, eA⟩ : ∃ A, A = l.take 20 := ⟨_, rfl⟩
  obtain ⟨B, eB⟩ : ∃ B, B = l2.take 20 := ⟨_, rfl⟩
  rw [← eA] at HA
  rw [← eA] at ra
  rw [← eB] at HB
  clear h h2 eA eB
  have RA := Lib.hid ra; clear ra
  have E1 := Lib.hid (atE_bad (g := g) RA.out); have E2 := Lib.hid (leqE_bad (b := B) (.inl RA.out))
  have hne : (atE A g).2 ≠ 0 := by rw [E1.out]; decide
  have NE := Lib.hid hne; clear hne
  go_enter Try.func3, Try.ntmps3
  go_wp2_with fail
  refine (few_any _ _ _ _ _ H.out).mono ?_
  rintro e w' ⟨rfl, rfl⟩
  go_wp2_with fail
  refine (few_any _ _ _ _ _ H2.out).mono ?_
  rintro e w' ⟨rfl, rfl⟩
  go_wp2_with fail
  refine (at_any _ _ _ _ _ _ HA.out).mono ?_
  rintro e w' ⟨rfl, rfl⟩
  rw [E1.out]
  go_wp2_with fail
  refine (tick_bad _ _ _ _ _ _ HA.out NE.out).mono ?_
  rintro e w' ⟨rfl, rfl⟩
  rw [E1.out]
  go_wp2_with fail
  refine (join_bad _ _ _ _ _ _ _ _ _ HA.out HB.out (.inl RA.out)).mono ?_
  rintro e w' ⟨rfl, rfl⟩
  go_wp2_with fail
  refine (leq_any _ _ _ _ _ _ _ _ _ HA.out HB.out).mono ?_
  rintro e w' ⟨rfl, rfl⟩
  rw [E2.out]
  go_wp2_with fail
  refine (trim_bad _ _ _ _ _ HA.out RA.out).mono ?_
  rintro e w' ⟨rfl, rfl⟩
  go_wp2_with fail
  refine (right_any _ _ _ _ _ HA.out).mono ?_
  rintro e w' ⟨rfl, rfl⟩
  rw [RA.out]
  go_wp2_with fail
  refine (refright_any _ _ _ _ _ HA.out).mono ?_
  rintro e w' ⟨rfl, rfl⟩
  rw [RA.out]
  go_wp2_with fail
  refine (alive_any _).mono ?_
  rintro e w1 ⟨rfl, hb1⟩
  have HA_1 := Lib.hid (HA.out.below hb1)
  have HB_1 := Lib.hid (HB.out.below hb1)
  have HBW1 := Lib.hid hb1
  clear hb1 HA HB
  go_wp2_with fail
  refine (refright_any _ _ _ _ _ HA_1.out).mono ?_
  rintro e w' ⟨rfl, rfl⟩
  rw [RA.out]
  go_wp2_with fail
  refine (refright_any _ _ _ _ _ HA_1.out).mono ?_
  rintro e w' ⟨rfl, rfl⟩
  rw [RA.out]
  go_wp2_with fail
  go_ret
  exact ⟨ret_bool rfl, HBW1.out⟩


set_option maxRecDepth 100000 in
set_option maxHeartbeats 4000000 in
theorem tells_out_ok (a : Option Addr) (len cap : Nat) (l : List Int) (a2 : Option Addr) (len2 cap2 : Nat) (l2 : List Int) (g : Int) (w : World) (h : Ints w a len cap l) (h2 : Ints w a2 len2 cap2 l2)
    (ra : rightB (l.take 20) = true) (rb : rightB (l2.take 20) = true) (hg : g < 0 ∨ 15 < g) :
    Calls Try.prog 3 #[.slice a len cap, .slice a2 len2 cap2, .int .i64 g] w (Says w) := by
  have H := Lib.hid h; have H2 := Lib.hid h2
  have HA := Lib.hid (h.take 20); have HB := Lib.hid (h2.take 20)
  obtain ⟨A, eA⟩ : ∃ A, A = l.take 20 := ⟨_, rfl⟩
  obtain ⟨B, eB⟩ : ∃ B, B = l2.take 20 := ⟨_, rfl⟩
  rw [← eA] at HA
  rw [← eA] at ra
  rw [← eB] at HB
  rw [← eB] at rb
  clear h h2 eA eB
  have RA := Lib.hid ra; have RB := Lib.hid rb; clear ra rb
  have E1 := Lib.hid (atE_out RA.out (g := g) (by omega))
  have hne : (atE A g).2 ≠ 0 := by rw [E1.out]; decide
  have NE := Lib.hid hne; clear hne
  have E2 := Lib.hid (leqE_ok RA.out RB.out)
  have E3 := Lib.hid (ref_join RA.out RB.out)
  have E4 := Lib.hid (leq_is_ref RA.out RB.out)
  go_enter Try.func3, Try.ntmps3
  go_wp2_with fail
  refine (few_any _ _ _ _ _ H.out).mono ?_
  rintro e w' ⟨rfl, rfl⟩
  go_wp2_with fail
  refine (few_any _ _ _ _ _ H2.out).mono ?_
  rintro e w' ⟨rfl, rfl⟩
  go_wp2_with fail
  refine (at_any _ _ _ _ _ _ HA.out).mono ?_
  rintro e w' ⟨rfl, rfl⟩
  rw [E1.out]
  go_wp2_with fail
  refine (tick_bad _ _ _ _ _ _ HA.out NE.out).mono ?_
  rintro e w' ⟨rfl, rfl⟩
  rw [E1.out]
  go_wp2_with fail
  refine (join_ok _ _ _ _ _ _ _ _ _ HA.out HB.out RA.out RB.out).mono ?_
  rintro e w1 ⟨s1, n1, c1, rfl, i1, hb1⟩
  have HA_1 := Lib.hid (HA.out.below hb1)
  have HB_1 := Lib.hid (HB.out.below hb1)
  have HJ_1 := Lib.hid i1
  have HBW1 := Lib.hid hb1
  clear hb1 i1 HA HB
  go_wp2_with fail
  refine (leq_any _ _ _ _ _ _ _ _ _ HA_1.out HB_1.out).mono ?_
  rintro e w' ⟨rfl, rfl⟩
  rw [E2.out]
  go_wp2_with fail
  refine (trim_ok _ _ _ _ _ HA_1.out RA.out).mono ?_
  rintro e w2 ⟨s2, n2, c2, rfl, i2, hb2⟩
  have HA_2 := Lib.hid (HA_1.out.below hb2)
  have HB_2 := Lib.hid (HB_1.out.below hb2)
  have HJ_2 := Lib.hid (HJ_1.out.below hb2)
  have HS_2 := Lib.hid i2
  have HBW2 := Lib.hid (HBW1.out.trans (hb2.mono HBW1.out.size))
  clear hb2 i2 HA_1 HB_1 HJ_1
  go_wp2_with fail
  refine (right_any _ _ _ _ _ HA_2.out).mono ?_
  rintro e w' ⟨rfl, rfl⟩
  rw [RA.out]
  go_wp2_with fail
  refine (refright_any _ _ _ _ _ HA_2.out).mono ?_
  rintro e w' ⟨rfl, rfl⟩
  rw [RA.out]
  go_wp2_with fail
  refine (alive_any _).mono ?_
  rintro e w3 ⟨rfl, hb3⟩
  have HA_3 := Lib.hid (HA_2.out.below hb3)
  have HB_3 := Lib.hid (HB_2.out.below hb3)
  have HJ_3 := Lib.hid (HJ_2.out.below hb3)
  have HS_3 := Lib.hid (HS_2.out.below hb3)
  have HBW3 := Lib.hid (HBW2.out.trans (hb3.mono HBW2.out.size))
  clear hb3 HA_2 HB_2 HJ_2 HS_2
  go_wp2_with fail
  refine (refright_any _ _ _ _ _ HA_3.out).mono ?_
  rintro e w' ⟨rfl, rfl⟩
  rw [RA.out]
  go_wp2_with fail
  refine (refright_any _ _ _ _ _ HB_3.out).mono ?_
  rintro e w' ⟨rfl, rfl⟩
  rw [RB.out]
  go_wp2_with fail
  refine (refjoin_any _ _ _ _ _ _ _ _ _ HA_3.out HB_3.out (join_nonneg RA.out)).mono ?_
  rintro e w4 ⟨s3, n3, c3, rfl, i3, hb4⟩
  rw [E3.out] at i3
  have HA_4 := Lib.hid (HA_3.out.below hb4)
  have HB_4 := Lib.hid (HB_3.out.below hb4)
  have HJ_4 := Lib.hid (HJ_3.out.below hb4)
  have HS_4 := Lib.hid (HS_3.out.below hb4)
  have HRJ_4 := Lib.hid i3
  have HBW4 := Lib.hid (HBW3.out.trans (hb4.mono HBW3.out.size))
  clear hb4 i3 HA_3 HB_3 HJ_3 HS_3
  go_wp2_with fail
  refine (rows_any _ _ _ _ _ _ _ _ _ HJ_4.out HRJ_4.out).mono ?_
  rintro e w5 ⟨rfl, hb5⟩
  have HA_5 := Lib.hid (HA_4.out.below hb5)
  have HB_5 := Lib.hid (HB_4.out.below hb5)
  have HJ_5 := Lib.hid (HJ_4.out.below hb5)
  have HS_5 := Lib.hid (HS_4.out.below hb5)
  have HRJ_5 := Lib.hid (HRJ_4.out.below hb5)
  have HBW5 := Lib.hid (HBW4.out.trans (hb5.mono HBW4.out.size))
  clear hb5 HA_4 HB_4 HJ_4 HS_4 HRJ_4
  rw [decide_eq_true (rfl : grownL [A, B] = grownL [A, B])]
  go_wp2_with fail
  refine (refleq_any _ _ _ _ _ _ _ _ _ HA_5.out HB_5.out).mono ?_
  rintro e w' ⟨rfl, rfl⟩
  rw [← E4.out]
  obtain ⟨x, hx⟩ : ∃ x, x = leqB A B := ⟨_, rfl⟩
  rw [← hx]
  clear hx
  have hxx : (x != x) = false := by cases x <;> rfl
  go_wp2_with fail
  refine (refright_any _ _ _ _ _ HA_5.out).mono ?_
  rintro e w' ⟨rfl, rfl⟩
  rw [RA.out]
  clear hxx
  go_wp2_with fail
  refine (reftrim_any _ _ _ _ _ HA_5.out (right_nonneg RA.out) (by have := right_len RA.out; rw [HA_5.out.len_eq] at this; omega)).mono ?_
  rintro e w6 ⟨s4, n4, c4, rfl, i4, hb6⟩
  have HA_6 := Lib.hid (HA_5.out.below hb6)
  have HB_6 := Lib.hid (HB_5.out.below hb6)
  have HJ_6 := Lib.hid (HJ_5.out.below hb6)
  have HS_6 := Lib.hid (HS_5.out.below hb6)
  have HRJ_6 := Lib.hid (HRJ_5.out.below hb6)
  have HRT_6 := Lib.hid i4
  have HBW6 := Lib.hid (HBW5.out.trans (hb6.mono HBW5.out.size))
  clear hb6 i4 HA_5 HB_5 HJ_5 HS_5 HRJ_5
  go_wp2_with fail
  refine (rows_any _ _ _ _ _ _ _ _ _ HS_6.out HRT_6.out).mono ?_
  rintro e w7 ⟨rfl, hb7⟩
  have HA_7 := Lib.hid (HA_6.out.below hb7)
  have HB_7 := Lib.hid (HB_6.out.below hb7)
  have HJ_7 := Lib.hid (HJ_6.out.below hb7)
  have HS_7 := Lib.hid (HS_6.out.below hb7)
  have HRJ_7 := Lib.hid (HRJ_6.out.below hb7)
  have HRT_7 := Lib.hid (HRT_6.out.below hb7)
  have HBW7 := Lib.hid (HBW6.out.trans (hb7.mono HBW6.out.size))
  clear hb7 HA_6 HB_6 HJ_6 HS_6 HRJ_6 HRT_6
  rw [decide_eq_true (rfl : trimL A = trimL A)]
  rcases hg with hg | hg
  all_goals
    go_wp2_with fail
    go_ret
    exact ⟨ret_bool rfl, HBW7.out⟩


set_option maxRecDepth 100000 in
set_option maxHeartbeats 4000000 in
theorem tells_max_ok (a : Option Addr) (len cap : Nat) (l : List Int) (a2 : Option Addr) (len2 cap2 : Nat) (l2 : List Int) (g : Int) (w : World) (h : Ints w a len cap l) (h2 : Ints w a2 len2 cap2 l2)
    (ra : rightB (l.take 20) = true) (rb : rightB (l2.take 20) = true) (g0 : 0 ≤ g) (g1 : g < 16) (hm : en (l.take 20) g.toNat = 1099511627776) :
    Calls Try.prog 3 #[.slice a len cap, .slice a2 len2 cap2, .int .i64 g] w (Says w) := by
  have H := Lib.hid h; have H2 := Lib.hid h2
  have HA := Lib.hid (h.take 20); have HB := Lib.hid (h2.take 20)
  obtain ⟨A, eA⟩ : ∃ A, A = l.take 20 := ⟨_, rfl⟩
  obtain ⟨B, eB⟩ : ∃ B, B = l2.take 20 := ⟨_, rfl⟩
  rw [← eA] at HA
  rw [← eA] at ra
  rw [← eA] at hm
  rw [← eB] at HB
  rw [← eB] at rb
  clear h h2 eA eB
  have RA := Lib.hid ra; have RB := Lib.hid rb; clear ra rb
  obtain ⟨k, rfl⟩ := Int.eq_ofNat_of_zero_le g0
  rw [Int.toNat_natCast] at hm
  have hk : k < 16 := by omega
  have E1 := Lib.hid (atE_ok (g := (k : Int)) RA.out (by omega) (by omega))
  obtain ⟨hn0, hn1⟩ := right_en RA.out k
  have HM := Lib.hid hm; clear hm
  have E2 := Lib.hid (leqE_ok RA.out RB.out)
  have E3 := Lib.hid (ref_join RA.out RB.out)
  have E4 := Lib.hid (leq_is_ref RA.out RB.out)
  go_enter Try.func3, Try.ntmps3
  go_wp2_with fail
  refine (few_any _ _ _ _ _ H.out).mono ?_
  rintro e w' ⟨rfl, rfl⟩
  go_wp2_with fail
  refine (few_any _ _ _ _ _ H2.out).mono ?_
  rintro e w' ⟨rfl, rfl⟩
  go_wp2_with fail
  refine (at_any _ _ _ _ _ _ HA.out).mono ?_
  rintro e w' ⟨rfl, rfl⟩
  rw [E1.out, Int.toNat_natCast, HM.out]
  go_wp2_with fail
  refine (tick_over _ _ _ _ _ _ HA.out RA.out (by omega) (by omega) (by rw [Int.toNat_natCast]; exact HM.out)).mono ?_
  rintro e w' ⟨rfl, rfl⟩
  go_wp2_with fail
  refine (join_ok _ _ _ _ _ _ _ _ _ HA.out HB.out RA.out RB.out).mono ?_
  rintro e w1 ⟨s1, n1, c1, rfl, i1, hb1⟩
  have HA_1 := Lib.hid (HA.out.below hb1)
  have HB_1 := Lib.hid (HB.out.below hb1)
  have HJ_1 := Lib.hid i1
  have HBW1 := Lib.hid hb1
  clear hb1 i1 HA HB
  go_wp2_with fail
  refine (leq_any _ _ _ _ _ _ _ _ _ HA_1.out HB_1.out).mono ?_
  rintro e w' ⟨rfl, rfl⟩
  rw [E2.out]
  go_wp2_with fail
  refine (trim_ok _ _ _ _ _ HA_1.out RA.out).mono ?_
  rintro e w2 ⟨s2, n2, c2, rfl, i2, hb2⟩
  have HA_2 := Lib.hid (HA_1.out.below hb2)
  have HB_2 := Lib.hid (HB_1.out.below hb2)
  have HJ_2 := Lib.hid (HJ_1.out.below hb2)
  have HS_2 := Lib.hid i2
  have HBW2 := Lib.hid (HBW1.out.trans (hb2.mono HBW1.out.size))
  clear hb2 i2 HA_1 HB_1 HJ_1
  go_wp2_with fail
  refine (right_any _ _ _ _ _ HA_2.out).mono ?_
  rintro e w' ⟨rfl, rfl⟩
  rw [RA.out]
  go_wp2_with fail
  refine (refright_any _ _ _ _ _ HA_2.out).mono ?_
  rintro e w' ⟨rfl, rfl⟩
  rw [RA.out]
  go_wp2_with fail
  refine (alive_any _).mono ?_
  rintro e w3 ⟨rfl, hb3⟩
  have HA_3 := Lib.hid (HA_2.out.below hb3)
  have HB_3 := Lib.hid (HB_2.out.below hb3)
  have HJ_3 := Lib.hid (HJ_2.out.below hb3)
  have HS_3 := Lib.hid (HS_2.out.below hb3)
  have HBW3 := Lib.hid (HBW2.out.trans (hb3.mono HBW2.out.size))
  clear hb3 HA_2 HB_2 HJ_2 HS_2
  go_wp2_with fail
  refine (refright_any _ _ _ _ _ HA_3.out).mono ?_
  rintro e w' ⟨rfl, rfl⟩
  rw [RA.out]
  go_wp2_with fail
  refine (refright_any _ _ _ _ _ HB_3.out).mono ?_
  rintro e w' ⟨rfl, rfl⟩
  rw [RB.out]
  go_wp2_with fail
  refine (refjoin_any _ _ _ _ _ _ _ _ _ HA_3.out HB_3.out (join_nonneg RA.out)).mono ?_
  rintro e w4 ⟨s3, n3, c3, rfl, i3, hb4⟩
  rw [E3.out] at i3
  have HA_4 := Lib.hid (HA_3.out.below hb4)
  have HB_4 := Lib.hid (HB_3.out.below hb4)
  have HJ_4 := Lib.hid (HJ_3.out.below hb4)
  have HS_4 := Lib.hid (HS_3.out.below hb4)
  have HRJ_4 := Lib.hid i3
  have HBW4 := Lib.hid (HBW3.out.trans (hb4.mono HBW3.out.size))
  clear hb4 i3 HA_3 HB_3 HJ_3 HS_3
  go_wp2_with fail
  refine (rows_any _ _ _ _ _ _ _ _ _ HJ_4.out HRJ_4.out).mono ?_
  rintro e w5 ⟨rfl, hb5⟩
  have HA_5 := Lib.hid (HA_4.out.below hb5)
  have HB_5 := Lib.hid (HB_4.out.below hb5)
  have HJ_5 := Lib.hid (HJ_4.out.below hb5)
  have HS_5 := Lib.hid (HS_4.out.below hb5)
  have HRJ_5 := Lib.hid (HRJ_4.out.below hb5)
  have HBW5 := Lib.hid (HBW4.out.trans (hb5.mono HBW4.out.size))
  clear hb5 HA_4 HB_4 HJ_4 HS_4 HRJ_4
  rw [decide_eq_true (rfl : grownL [A, B] = grownL [A, B])]
  go_wp2_with fail
  refine (refleq_any _ _ _ _ _ _ _ _ _ HA_5.out HB_5.out).mono ?_
  rintro e w' ⟨rfl, rfl⟩
  rw [← E4.out]
  obtain ⟨x, hx⟩ : ∃ x, x = leqB A B := ⟨_, rfl⟩
  rw [← hx]
  clear hx
  have hxx : (x != x) = false := by cases x <;> rfl
  go_wp2_with fail
  refine (refright_any _ _ _ _ _ HA_5.out).mono ?_
  rintro e w' ⟨rfl, rfl⟩
  rw [RA.out]
  clear hxx
  go_wp2_with fail
  refine (reftrim_any _ _ _ _ _ HA_5.out (right_nonneg RA.out) (by have := right_len RA.out; rw [HA_5.out.len_eq] at this; omega)).mono ?_
  rintro e w6 ⟨s4, n4, c4, rfl, i4, hb6⟩
  have HA_6 := Lib.hid (HA_5.out.below hb6)
  have HB_6 := Lib.hid (HB_5.out.below hb6)
  have HJ_6 := Lib.hid (HJ_5.out.below hb6)
  have HS_6 := Lib.hid (HS_5.out.below hb6)
  have HRJ_6 := Lib.hid (HRJ_5.out.below hb6)
  have HRT_6 := Lib.hid i4
  have HBW6 := Lib.hid (HBW5.out.trans (hb6.mono HBW5.out.size))
  clear hb6 i4 HA_5 HB_5 HJ_5 HS_5 HRJ_5
  go_wp2_with fail
  refine (rows_any _ _ _ _ _ _ _ _ _ HS_6.out HRT_6.out).mono ?_
  rintro e w7 ⟨rfl, hb7⟩
  have HA_7 := Lib.hid (HA_6.out.below hb7)
  have HB_7 := Lib.hid (HB_6.out.below hb7)
  have HJ_7 := Lib.hid (HJ_6.out.below hb7)
  have HS_7 := Lib.hid (HS_6.out.below hb7)
  have HRJ_7 := Lib.hid (HRJ_6.out.below hb7)
  have HRT_7 := Lib.hid (HRT_6.out.below hb7)
  have HBW7 := Lib.hid (HBW6.out.trans (hb7.mono HBW6.out.size))
  clear hb7 HA_6 HB_6 HJ_6 HS_6 HRJ_6 HRT_6
  rw [decide_eq_true (rfl : trimL A = trimL A)]
  go_wp2_with fail
  refine (refat_any _ _ _ _ _ _ HA_7.out (by omega)).mono ?_
  rintro e w' ⟨rfl, rfl⟩
  rw [Int.toNat_natCast, HM.out]
  go_wp2_with fail
  go_ret
  exact ⟨ret_bool rfl, HBW7.out⟩


set_option maxRecDepth 100000 in
set_option maxHeartbeats 4000000 in
theorem tells_ok_ok (a : Option Addr) (len cap : Nat) (l : List Int) (a2 : Option Addr) (len2 cap2 : Nat) (l2 : List Int) (g : Int) (w : World) (h : Ints w a len cap l) (h2 : Ints w a2 len2 cap2 l2)
    (ra : rightB (l.take 20) = true) (rb : rightB (l2.take 20) = true) (g0 : 0 ≤ g) (g1 : g < 16) (hm : en (l.take 20) g.toNat < 1099511627776) :
    Calls Try.prog 3 #[.slice a len cap, .slice a2 len2 cap2, .int .i64 g] w (Says w) := by
  have H := Lib.hid h; have H2 := Lib.hid h2
  have HA := Lib.hid (h.take 20); have HB := Lib.hid (h2.take 20)
  obtain ⟨A, eA⟩ : ∃ A, A = l.take 20 := ⟨_, rfl⟩
  obtain ⟨B, eB⟩ : ∃ B, B = l2.take 20 := ⟨_, rfl⟩
  rw [← eA] at HA
  rw [← eA] at ra
  rw [← eA] at hm
  rw [← eB] at HB
  rw [← eB] at rb
  clear h h2 eA eB
  have RA := Lib.hid ra; have RB := Lib.hid rb; clear ra rb
  obtain ⟨k, rfl⟩ := Int.eq_ofNat_of_zero_le g0
  rw [Int.toNat_natCast] at hm
  have hk : k < 16 := by omega
  have E1 := Lib.hid (atE_ok (g := (k : Int)) RA.out (by omega) (by omega))
  obtain ⟨hn0, hn1⟩ := right_en RA.out k
  have HM := Lib.hid hm; clear hm
  have E6 := Lib.hid (ref_tick RA.out k hk)
  have HL := Lib.hid HM.out
  have E2 := Lib.hid (leqE_ok RA.out RB.out)
  have E3 := Lib.hid (ref_join RA.out RB.out)
  have E4 := Lib.hid (leq_is_ref RA.out RB.out)
  go_enter Try.func3, Try.ntmps3
  go_wp2_with fail
  refine (few_any _ _ _ _ _ H.out).mono ?_
  rintro e w' ⟨rfl, rfl⟩
  go_wp2_with fail
  refine (few_any _ _ _ _ _ H2.out).mono ?_
  rintro e w' ⟨rfl, rfl⟩
  go_wp2_with fail
  refine (at_any _ _ _ _ _ _ HA.out).mono ?_
  rintro e w' ⟨rfl, rfl⟩
  rw [E1.out, Int.toNat_natCast]
  go_wp2_with fail
  refine (tick_ok _ _ _ _ _ _ HA.out RA.out hk HM.out).mono ?_
  rintro e w1 ⟨s0, n0, c0, rfl, i0, hb1⟩
  have HA_1 := Lib.hid (HA.out.below hb1)
  have HB_1 := Lib.hid (HB.out.below hb1)
  have HT_1 := Lib.hid i0
  have HBW1 := Lib.hid hb1
  clear hb1 i0 HA HB
  go_wp2_with fail
  refine (join_ok _ _ _ _ _ _ _ _ _ HA_1.out HB_1.out RA.out RB.out).mono ?_
  rintro e w2 ⟨s1, n1, c1, rfl, i1, hb2⟩
  have HA_2 := Lib.hid (HA_1.out.below hb2)
  have HB_2 := Lib.hid (HB_1.out.below hb2)
  have HT_2 := Lib.hid (HT_1.out.below hb2)
  have HJ_2 := Lib.hid i1
  have HBW2 := Lib.hid (HBW1.out.trans (hb2.mono HBW1.out.size))
  clear hb2 i1 HA_1 HB_1 HT_1
  go_wp2_with fail
  refine (leq_any _ _ _ _ _ _ _ _ _ HA_2.out HB_2.out).mono ?_
  rintro e w' ⟨rfl, rfl⟩
  rw [E2.out]
  go_wp2_with fail
  refine (trim_ok _ _ _ _ _ HA_2.out RA.out).mono ?_
  rintro e w3 ⟨s2, n2, c2, rfl, i2, hb3⟩
  have HA_3 := Lib.hid (HA_2.out.below hb3)
  have HB_3 := Lib.hid (HB_2.out.below hb3)
  have HT_3 := Lib.hid (HT_2.out.below hb3)
  have HJ_3 := Lib.hid (HJ_2.out.below hb3)
  have HS_3 := Lib.hid i2
  have HBW3 := Lib.hid (HBW2.out.trans (hb3.mono HBW2.out.size))
  clear hb3 i2 HA_2 HB_2 HT_2 HJ_2
  go_wp2_with fail
  refine (right_any _ _ _ _ _ HA_3.out).mono ?_
  rintro e w' ⟨rfl, rfl⟩
  rw [RA.out]
  go_wp2_with fail
  refine (refright_any _ _ _ _ _ HA_3.out).mono ?_
  rintro e w' ⟨rfl, rfl⟩
  rw [RA.out]
  go_wp2_with fail
  refine (alive_any _).mono ?_
  rintro e w4 ⟨rfl, hb4⟩
  have HA_4 := Lib.hid (HA_3.out.below hb4)
  have HB_4 := Lib.hid (HB_3.out.below hb4)
  have HT_4 := Lib.hid (HT_3.out.below hb4)
  have HJ_4 := Lib.hid (HJ_3.out.below hb4)
  have HS_4 := Lib.hid (HS_3.out.below hb4)
  have HBW4 := Lib.hid (HBW3.out.trans (hb4.mono HBW3.out.size))
  clear hb4 HA_3 HB_3 HT_3 HJ_3 HS_3
  go_wp2_with fail
  refine (refright_any _ _ _ _ _ HA_4.out).mono ?_
  rintro e w' ⟨rfl, rfl⟩
  rw [RA.out]
  go_wp2_with fail
  refine (refright_any _ _ _ _ _ HB_4.out).mono ?_
  rintro e w' ⟨rfl, rfl⟩
  rw [RB.out]
  go_wp2_with fail
  refine (refjoin_any _ _ _ _ _ _ _ _ _ HA_4.out HB_4.out (join_nonneg RA.out)).mono ?_
  rintro e w5 ⟨s3, n3, c3, rfl, i3, hb5⟩
  rw [E3.out] at i3
  have HA_5 := Lib.hid (HA_4.out.below hb5)
  have HB_5 := Lib.hid (HB_4.out.below hb5)
  have HT_5 := Lib.hid (HT_4.out.below hb5)
  have HJ_5 := Lib.hid (HJ_4.out.below hb5)
  have HS_5 := Lib.hid (HS_4.out.below hb5)
  have HRJ_5 := Lib.hid i3
  have HBW5 := Lib.hid (HBW4.out.trans (hb5.mono HBW4.out.size))
  clear hb5 i3 HA_4 HB_4 HT_4 HJ_4 HS_4
  go_wp2_with fail
  refine (rows_any _ _ _ _ _ _ _ _ _ HJ_5.out HRJ_5.out).mono ?_
  rintro e w6 ⟨rfl, hb6⟩
  have HA_6 := Lib.hid (HA_5.out.below hb6)
  have HB_6 := Lib.hid (HB_5.out.below hb6)
  have HT_6 := Lib.hid (HT_5.out.below hb6)
  have HJ_6 := Lib.hid (HJ_5.out.below hb6)
  have HS_6 := Lib.hid (HS_5.out.below hb6)
  have HRJ_6 := Lib.hid (HRJ_5.out.below hb6)
  have HBW6 := Lib.hid (HBW5.out.trans (hb6.mono HBW5.out.size))
  clear hb6 HA_5 HB_5 HT_5 HJ_5 HS_5 HRJ_5
  rw [decide_eq_true (rfl : grownL [A, B] = grownL [A, B])]
  go_wp2_with fail
  refine (refleq_any _ _ _ _ _ _ _ _ _ HA_6.out HB_6.out).mono ?_
  rintro e w' ⟨rfl, rfl⟩
  rw [← E4.out]
  obtain ⟨x, hx⟩ : ∃ x, x = leqB A B := ⟨_, rfl⟩
  rw [← hx]
  clear hx
  have hxx : (x != x) = false := by cases x <;> rfl
  go_wp2_with fail
  refine (refright_any _ _ _ _ _ HA_6.out).mono ?_
  rintro e w' ⟨rfl, rfl⟩
  rw [RA.out]
  clear hxx
  go_wp2_with fail
  refine (reftrim_any _ _ _ _ _ HA_6.out (right_nonneg RA.out) (by have := right_len RA.out; rw [HA_6.out.len_eq] at this; omega)).mono ?_
  rintro e w7 ⟨s4, n4, c4, rfl, i4, hb7⟩
  have HA_7 := Lib.hid (HA_6.out.below hb7)
  have HB_7 := Lib.hid (HB_6.out.below hb7)
  have HT_7 := Lib.hid (HT_6.out.below hb7)
  have HJ_7 := Lib.hid (HJ_6.out.below hb7)
  have HS_7 := Lib.hid (HS_6.out.below hb7)
  have HRJ_7 := Lib.hid (HRJ_6.out.below hb7)
  have HRT_7 := Lib.hid i4
  have HBW7 := Lib.hid (HBW6.out.trans (hb7.mono HBW6.out.size))
  clear hb7 i4 HA_6 HB_6 HT_6 HJ_6 HS_6 HRJ_6
  go_wp2_with fail
  refine (rows_any _ _ _ _ _ _ _ _ _ HS_7.out HRT_7.out).mono ?_
  rintro e w8 ⟨rfl, hb8⟩
  have HA_8 := Lib.hid (HA_7.out.below hb8)
  have HB_8 := Lib.hid (HB_7.out.below hb8)
  have HT_8 := Lib.hid (HT_7.out.below hb8)
  have HJ_8 := Lib.hid (HJ_7.out.below hb8)
  have HS_8 := Lib.hid (HS_7.out.below hb8)
  have HRJ_8 := Lib.hid (HRJ_7.out.below hb8)
  have HRT_8 := Lib.hid (HRT_7.out.below hb8)
  have HBW8 := Lib.hid (HBW7.out.trans (hb8.mono HBW7.out.size))
  clear hb8 HA_7 HB_7 HT_7 HJ_7 HS_7 HRJ_7 HRT_7
  rw [decide_eq_true (rfl : trimL A = trimL A)]
  have hl := HL.out
  have hneq : ((en A k : Int) == 1099511627776) = false := by simp; omega
  have hself : ((en A k : Int) != en A k) = false := by simp
  obtain ⟨x, hx⟩ : ∃ x, x = en A k := ⟨_, rfl⟩
  rw [← hx] at hneq hself ⊢
  have HX := Lib.hid hx; clear hx hl hn0 hn1
  go_wp2_with fail
  refine (refat_any _ _ _ _ _ _ HA_8.out (by omega)).mono ?_
  rintro e w' ⟨rfl, rfl⟩
  rw [Int.toNat_natCast, ← HX.out]
  go_wp2_with fail
  refine (reftick_any _ _ _ _ _ _ HA_8.out (right_en RA.out)).mono ?_
  rintro e w9 ⟨s5, n5, c5, rfl, i5, hb9⟩
  rw [E6.out] at i5
  have HA_9 := Lib.hid (HA_8.out.below hb9)
  have HB_9 := Lib.hid (HB_8.out.below hb9)
  have HT_9 := Lib.hid (HT_8.out.below hb9)
  have HJ_9 := Lib.hid (HJ_8.out.below hb9)
  have HS_9 := Lib.hid (HS_8.out.below hb9)
  have HRJ_9 := Lib.hid (HRJ_8.out.below hb9)
  have HRT_9 := Lib.hid (HRT_8.out.below hb9)
  have HRK_9 := Lib.hid i5
  have HBW9 := Lib.hid (HBW8.out.trans (hb9.mono HBW8.out.size))
  clear hb9 i5 HA_8 HB_8 HT_8 HJ_8 HS_8 HRJ_8 HRT_8
  go_wp2_with fail
  refine (rows_any _ _ _ _ _ _ _ _ _ HT_9.out HRK_9.out).mono ?_
  rintro e w10 ⟨rfl, hb10⟩
  have HA_10 := Lib.hid (HA_9.out.below hb10)
  have HB_10 := Lib.hid (HB_9.out.below hb10)
  have HT_10 := Lib.hid (HT_9.out.below hb10)
  have HJ_10 := Lib.hid (HJ_9.out.below hb10)
  have HS_10 := Lib.hid (HS_9.out.below hb10)
  have HRJ_10 := Lib.hid (HRJ_9.out.below hb10)
  have HRT_10 := Lib.hid (HRT_9.out.below hb10)
  have HRK_10 := Lib.hid (HRK_9.out.below hb10)
  have HBW10 := Lib.hid (HBW9.out.trans (hb10.mono HBW9.out.size))
  clear hb10 HA_9 HB_9 HT_9 HJ_9 HS_9 HRJ_9 HRT_9 HRK_9
  rw [decide_eq_true (rfl : grownL [A, stepL k (en A k + 1)] = grownL [A, stepL k (en A k + 1)])]
  go_wp2_with fail
  go_ret
  exact ⟨ret_bool rfl, HBW10.out⟩


set_option maxRecDepth 100000 in
set_option maxHeartbeats 4000000 in
theorem tells_out_no (a : Option Addr) (len cap : Nat) (l : List Int) (a2 : Option Addr) (len2 cap2 : Nat) (l2 : List Int) (g : Int) (w : World) (h : Ints w a len cap l) (h2 : Ints w a2 len2 cap2 l2)
    (ra : rightB (l.take 20) = true) (rb : rightB (l2.take 20) = false) (hg : g < 0 ∨ 15 < g) :
    Calls Try.prog 3 #[.slice a len cap, .slice a2 len2 cap2, .int .i64 g] w (Says w) := by
  have H := Lib.hid h; have H2 := Lib.hid h2
  have HA := Lib.hid (h.take 20); have HB := Lib.hid (h2.take 20)
  obtain ⟨A, eA⟩ : ∃ A, A = l.take 20 := ⟨_, rfl⟩
  obtain ⟨B, eB⟩ : ∃ B, B = l2.take 20 := ⟨_, rfl⟩
  rw [← eA] at HA
  rw [← eA] at ra
  rw [← eB] at HB
  rw [← eB] at rb
  clear h h2 eA eB
  have RA := Lib.hid ra; have RB := Lib.hid rb; clear ra rb
  have E1 := Lib.hid (atE_out RA.out (g := g) (by omega))
  have hne : (atE A g).2 ≠ 0 := by rw [E1.out]; decide
  have NE := Lib.hid hne; clear hne
  have E2 := Lib.hid (leqE_bad (a := A) (.inr RB.out))
  go_enter Try.func3, Try.ntmps3
  go_wp2_with fail
  refine (few_any _ _ _ _ _ H.out).mono ?_
  rintro e w' ⟨rfl, rfl⟩
  go_wp2_with fail
  refine (few_any _ _ _ _ _ H2.out).mono ?_
  rintro e w' ⟨rfl, rfl⟩
  go_wp2_with fail
  refine (at_any _ _ _ _ _ _ HA.out).mono ?_
  rintro e w' ⟨rfl, rfl⟩
  rw [E1.out]
  go_wp2_with fail
  refine (tick_bad _ _ _ _ _ _ HA.out NE.out).mono ?_
  rintro e w' ⟨rfl, rfl⟩
  rw [E1.out]
  go_wp2_with fail
  refine (join_bad _ _ _ _ _ _ _ _ _ HA.out HB.out (.inr RB.out)).mono ?_
  rintro e w' ⟨rfl, rfl⟩
  go_wp2_with fail
  refine (leq_any _ _ _ _ _ _ _ _ _ HA.out HB.out).mono ?_
  rintro e w' ⟨rfl, rfl⟩
  rw [E2.out]
  go_wp2_with fail
  refine (trim_ok _ _ _ _ _ HA.out RA.out).mono ?_
  rintro e w1 ⟨s2, n2, c2, rfl, i2, hb1⟩
  have HA_1 := Lib.hid (HA.out.below hb1)
  have HB_1 := Lib.hid (HB.out.below hb1)
  have HS_1 := Lib.hid i2
  have HBW1 := Lib.hid hb1
  clear hb1 i2 HA HB
  go_wp2_with fail
  refine (right_any _ _ _ _ _ HA_1.out).mono ?_
  rintro e w' ⟨rfl, rfl⟩
  rw [RA.out]
  go_wp2_with fail
  refine (refright_any _ _ _ _ _ HA_1.out).mono ?_
  rintro e w' ⟨rfl, rfl⟩
  rw [RA.out]
  go_wp2_with fail
  refine (alive_any _).mono ?_
  rintro e w2 ⟨rfl, hb2⟩
  have HA_2 := Lib.hid (HA_1.out.below hb2)
  have HB_2 := Lib.hid (HB_1.out.below hb2)
  have HS_2 := Lib.hid (HS_1.out.below hb2)
  have HBW2 := Lib.hid (HBW1.out.trans (hb2.mono HBW1.out.size))
  clear hb2 HA_1 HB_1 HS_1
  go_wp2_with fail
  refine (refright_any _ _ _ _ _ HA_2.out).mono ?_
  rintro e w' ⟨rfl, rfl⟩
  rw [RA.out]
  go_wp2_with fail
  refine (refright_any _ _ _ _ _ HB_2.out).mono ?_
  rintro e w' ⟨rfl, rfl⟩
  rw [RB.out]
  go_wp2_with fail
  refine (refright_any _ _ _ _ _ HA_2.out).mono ?_
  rintro e w' ⟨rfl, rfl⟩
  rw [RA.out]
  go_wp2_with fail
  refine (reftrim_any _ _ _ _ _ HA_2.out (right_nonneg RA.out) (by have := right_len RA.out; rw [HA_2.out.len_eq] at this; omega)).mono ?_
  rintro e w3 ⟨s4, n4, c4, rfl, i4, hb3⟩
  have HA_3 := Lib.hid (HA_2.out.below hb3)
  have HB_3 := Lib.hid (HB_2.out.below hb3)
  have HS_3 := Lib.hid (HS_2.out.below hb3)
  have HRT_3 := Lib.hid i4
  have HBW3 := Lib.hid (HBW2.out.trans (hb3.mono HBW2.out.size))
  clear hb3 i4 HA_2 HB_2 HS_2
  go_wp2_with fail
  refine (rows_any _ _ _ _ _ _ _ _ _ HS_3.out HRT_3.out).mono ?_
  rintro e w4 ⟨rfl, hb4⟩
  have HA_4 := Lib.hid (HA_3.out.below hb4)
  have HB_4 := Lib.hid (HB_3.out.below hb4)
  have HS_4 := Lib.hid (HS_3.out.below hb4)
  have HRT_4 := Lib.hid (HRT_3.out.below hb4)
  have HBW4 := Lib.hid (HBW3.out.trans (hb4.mono HBW3.out.size))
  clear hb4 HA_3 HB_3 HS_3 HRT_3
  rw [decide_eq_true (rfl : trimL A = trimL A)]
  rcases hg with hg | hg
  all_goals
    go_wp2_with fail
    go_ret
    exact ⟨ret_bool rfl, HBW4.out⟩


set_option maxRecDepth 100000 in
set_option maxHeartbeats 4000000 in
theorem tells_max_no (a : Option Addr) (len cap : Nat) (l : List Int) (a2 : Option Addr) (len2 cap2 : Nat) (l2 : List Int) (g : Int) (w : World) (h : Ints w a len cap l) (h2 : Ints w a2 len2 cap2 l2)
    (ra : rightB (l.take 20) = true) (rb : rightB (l2.take 20) = false) (g0 : 0 ≤ g) (g1 : g < 16) (hm : en (l.take 20) g.toNat = 1099511627776) :
    Calls Try.prog 3 #[.slice a len cap, .slice a2 len2 cap2, .int .i64 g] w (Says w) := by
  have H := Lib.hid h; have H2 := Lib.hid h2
  have HA := Lib.hid (h.take 20); have HB := Lib.hid (h2.take 20)
  obtain ⟨A, eA⟩ : ∃ A, A = l.take 20 := ⟨_, rfl⟩
  obtain ⟨B, eB⟩ : ∃ B, B = l2.take 20 := ⟨_, rfl⟩
  rw [← eA] at HA
  rw [← eA] at ra
  rw [← eA] at hm
  rw [← eB] at HB
  rw [← eB] at rb
  clear h h2 eA eB
  have RA := Lib.hid ra; have RB := Lib.hid rb; clear ra rb
  obtain ⟨k, rfl⟩ := Int.eq_ofNat_of_zero_le g0
  rw [Int.toNat_natCast] at hm
  have hk : k < 16 := by omega
  have E1 := Lib.hid (atE_ok (g := (k : Int)) RA.out (by omega) (by omega))
  obtain ⟨hn0, hn1⟩ := right_en RA.out k
  have HM := Lib.hid hm; clear hm
  have E2 := Lib.hid (leqE_bad (a := A) (.inr RB.out))
  go_enter Try.func3, Try.ntmps3
  go_wp2_with fail
  refine (few_any _ _ _ _ _ H.out).mono ?_
  rintro e w' ⟨rfl, rfl⟩
  go_wp2_with fail
  refine (few_any _ _ _ _ _ H2.out).mono ?_
  rintro e w' ⟨rfl, rfl⟩
  go_wp2_with fail
  refine (at_any _ _ _ _ _ _ HA.out).mono ?_
  rintro e w' ⟨rfl, rfl⟩
  rw [E1.out, Int.toNat_natCast, HM.out]
  go_wp2_with fail
  refine (tick_over _ _ _ _ _ _ HA.out RA.out (by omega) (by omega) (by rw [Int.toNat_natCast]; exact HM.out)).mono ?_
  rintro e w' ⟨rfl, rfl⟩
  go_wp2_with fail
  refine (join_bad _ _ _ _ _ _ _ _ _ HA.out HB.out (.inr RB.out)).mono ?_
  rintro e w' ⟨rfl, rfl⟩
  go_wp2_with fail
  refine (leq_any _ _ _ _ _ _ _ _ _ HA.out HB.out).mono ?_
  rintro e w' ⟨rfl, rfl⟩
  rw [E2.out]
  go_wp2_with fail
  refine (trim_ok _ _ _ _ _ HA.out RA.out).mono ?_
  rintro e w1 ⟨s2, n2, c2, rfl, i2, hb1⟩
  have HA_1 := Lib.hid (HA.out.below hb1)
  have HB_1 := Lib.hid (HB.out.below hb1)
  have HS_1 := Lib.hid i2
  have HBW1 := Lib.hid hb1
  clear hb1 i2 HA HB
  go_wp2_with fail
  refine (right_any _ _ _ _ _ HA_1.out).mono ?_
  rintro e w' ⟨rfl, rfl⟩
  rw [RA.out]
  go_wp2_with fail
  refine (refright_any _ _ _ _ _ HA_1.out).mono ?_
  rintro e w' ⟨rfl, rfl⟩
  rw [RA.out]
  go_wp2_with fail
  refine (alive_any _).mono ?_
  rintro e w2 ⟨rfl, hb2⟩
  have HA_2 := Lib.hid (HA_1.out.below hb2)
  have HB_2 := Lib.hid (HB_1.out.below hb2)
  have HS_2 := Lib.hid (HS_1.out.below hb2)
  have HBW2 := Lib.hid (HBW1.out.trans (hb2.mono HBW1.out.size))
  clear hb2 HA_1 HB_1 HS_1
  go_wp2_with fail
  refine (refright_any _ _ _ _ _ HA_2.out).mono ?_
  rintro e w' ⟨rfl, rfl⟩
  rw [RA.out]
  go_wp2_with fail
  refine (refright_any _ _ _ _ _ HB_2.out).mono ?_
  rintro e w' ⟨rfl, rfl⟩
  rw [RB.out]
  go_wp2_with fail
  refine (refright_any _ _ _ _ _ HA_2.out).mono ?_
  rintro e w' ⟨rfl, rfl⟩
  rw [RA.out]
  go_wp2_with fail
  refine (reftrim_any _ _ _ _ _ HA_2.out (right_nonneg RA.out) (by have := right_len RA.out; rw [HA_2.out.len_eq] at this; omega)).mono ?_
  rintro e w3 ⟨s4, n4, c4, rfl, i4, hb3⟩
  have HA_3 := Lib.hid (HA_2.out.below hb3)
  have HB_3 := Lib.hid (HB_2.out.below hb3)
  have HS_3 := Lib.hid (HS_2.out.below hb3)
  have HRT_3 := Lib.hid i4
  have HBW3 := Lib.hid (HBW2.out.trans (hb3.mono HBW2.out.size))
  clear hb3 i4 HA_2 HB_2 HS_2
  go_wp2_with fail
  refine (rows_any _ _ _ _ _ _ _ _ _ HS_3.out HRT_3.out).mono ?_
  rintro e w4 ⟨rfl, hb4⟩
  have HA_4 := Lib.hid (HA_3.out.below hb4)
  have HB_4 := Lib.hid (HB_3.out.below hb4)
  have HS_4 := Lib.hid (HS_3.out.below hb4)
  have HRT_4 := Lib.hid (HRT_3.out.below hb4)
  have HBW4 := Lib.hid (HBW3.out.trans (hb4.mono HBW3.out.size))
  clear hb4 HA_3 HB_3 HS_3 HRT_3
  rw [decide_eq_true (rfl : trimL A = trimL A)]
  go_wp2_with fail
  refine (refat_any _ _ _ _ _ _ HA_4.out (by omega)).mono ?_
  rintro e w' ⟨rfl, rfl⟩
  rw [Int.toNat_natCast, HM.out]
  go_wp2_with fail
  go_ret
  exact ⟨ret_bool rfl, HBW4.out⟩


set_option maxRecDepth 100000 in
set_option maxHeartbeats 4000000 in
theorem tells_ok_no (a : Option Addr) (len cap : Nat) (l : List Int) (a2 : Option Addr) (len2 cap2 : Nat) (l2 : List Int) (g : Int) (w : World) (h : Ints w a len cap l) (h2 : Ints w a2 len2 cap2 l2)
    (ra : rightB (l.take 20) = true) (rb : rightB (l2.take 20) = false) (g0 : 0 ≤ g) (g1 : g < 16) (hm : en (l.take 20) g.toNat < 1099511627776) :
    Calls Try.prog 3 #[.slice a len cap, .slice a2 len2 cap2, .int .i64 g] w (Says w) := by
  have H := Lib.hid h; have H2 := Lib.hid h2
  have HA := Lib.hid (h.take 20); have HB := Lib.hid (h2.take 20)
  obtain ⟨A, eA⟩ : ∃ A, A = l.take 20 := ⟨_, rfl⟩
  obtain ⟨B, eB⟩ : ∃ B, B = l2.take 20 := ⟨_, rfl⟩
  rw [← eA] at HA
  rw [← eA] at ra
  rw [← eA] at hm
  rw [← eB] at HB
  rw [← eB] at rb
  clear h h2 eA eB
  have RA := Lib.hid ra; have RB := Lib.hid rb; clear ra rb
  obtain ⟨k, rfl⟩ := Int.eq_ofNat_of_zero_le g0
  rw [Int.toNat_natCast] at hm
  have hk : k < 16 := by omega
  have E1 := Lib.hid (atE_ok (g := (k : Int)) RA.out (by omega) (by omega))
  obtain ⟨hn0, hn1⟩ := right_en RA.out k
  have HM := Lib.hid hm; clear hm
  have E6 := Lib.hid (ref_tick RA.out k hk)
  have HL := Lib.hid HM.out
  have E2 := Lib.hid (leqE_bad (a := A) (.inr RB.out))
  go_enter Try.func3, Try.ntmps3
  go_wp2_with fail
  refine (few_any _ _ _ _ _ H.out).mono ?_
  rintro e w' ⟨rfl, rfl⟩
  go_wp2_with fail
  refine (few_any _ _ _ _ _ H2.out).mono ?_
  rintro e w' ⟨rfl, rfl⟩
  go_wp2_with fail
  refine (at_any _ _ _ _ _ _ HA.out).mono ?_
  rintro e w' ⟨rfl, rfl⟩
  rw [E1.out, Int.toNat_natCast]
  go_wp2_with fail
  refine (tick_ok _ _ _ _ _ _ HA.out RA.out hk HM.out).mono ?_
  rintro e w1 ⟨s0, n0, c0, rfl, i0, hb1⟩
  have HA_1 := Lib.hid (HA.out.below hb1)
  have HB_1 := Lib.hid (HB.out.below hb1)
  have HT_1 := Lib.hid i0
  have HBW1 := Lib.hid hb1
  clear hb1 i0 HA HB
  go_wp2_with fail
  refine (join_bad _ _ _ _ _ _ _ _ _ HA_1.out HB_1.out (.inr RB.out)).mono ?_
  rintro e w' ⟨rfl, rfl⟩
  go_wp2_with fail
  refine (leq_any _ _ _ _ _ _ _ _ _ HA_1.out HB_1.out).mono ?_
  rintro e w' ⟨rfl, rfl⟩
  rw [E2.out]
  go_wp2_with fail
  refine (trim_ok _ _ _ _ _ HA_1.out RA.out).mono ?_
  rintro e w2 ⟨s2, n2, c2, rfl, i2, hb2⟩
  have HA_2 := Lib.hid (HA_1.out.below hb2)
  have HB_2 := Lib.hid (HB_1.out.below hb2)
  have HT_2 := Lib.hid (HT_1.out.below hb2)
  have HS_2 := Lib.hid i2
  have HBW2 := Lib.hid (HBW1.out.trans (hb2.mono HBW1.out.size))
  clear hb2 i2 HA_1 HB_1 HT_1
  go_wp2_with fail
  refine (right_any _ _ _ _ _ HA_2.out).mono ?_
  rintro e w' ⟨rfl, rfl⟩
  rw [RA.out]
  go_wp2_with fail
  refine (refright_any _ _ _ _ _ HA_2.out).mono ?_
  rintro e w' ⟨rfl, rfl⟩
  rw [RA.out]
  go_wp2_with fail
  refine (alive_any _).mono ?_
  rintro e w3 ⟨rfl, hb3⟩
  have HA_3 := Lib.hid (HA_2.out.below hb3)
  have HB_3 := Lib.hid (HB_2.out.below hb3)
  have HT_3 := Lib.hid (HT_2.out.below hb3)
  have HS_3 := Lib.hid (HS_2.out.below hb3)
  have HBW3 := Lib.hid (HBW2.out.trans (hb3.mono HBW2.out.size))
  clear hb3 HA_2 HB_2 HT_2 HS_2
  go_wp2_with fail
  refine (refright_any _ _ _ _ _ HA_3.out).mono ?_
  rintro e w' ⟨rfl, rfl⟩
  rw [RA.out]
  go_wp2_with fail
  refine (refright_any _ _ _ _ _ HB_3.out).mono ?_
  rintro e w' ⟨rfl, rfl⟩
  rw [RB.out]
  go_wp2_with fail
  refine (refright_any _ _ _ _ _ HA_3.out).mono ?_
  rintro e w' ⟨rfl, rfl⟩
  rw [RA.out]
  go_wp2_with fail
  refine (reftrim_any _ _ _ _ _ HA_3.out (right_nonneg RA.out) (by have := right_len RA.out; rw [HA_3.out.len_eq] at this; omega)).mono ?_
  rintro e w4 ⟨s4, n4, c4, rfl, i4, hb4⟩
  have HA_4 := Lib.hid (HA_3.out.below hb4)
  have HB_4 := Lib.hid (HB_3.out.below hb4)
  have HT_4 := Lib.hid (HT_3.out.below hb4)
  have HS_4 := Lib.hid (HS_3.out.below hb4)
  have HRT_4 := Lib.hid i4
  have HBW4 := Lib.hid (HBW3.out.trans (hb4.mono HBW3.out.size))
  clear hb4 i4 HA_3 HB_3 HT_3 HS_3
  go_wp2_with fail
  refine (rows_any _ _ _ _ _ _ _ _ _ HS_4.out HRT_4.out).mono ?_
  rintro e w5 ⟨rfl, hb5⟩
  have HA_5 := Lib.hid (HA_4.out.below hb5)
  have HB_5 := Lib.hid (HB_4.out.below hb5)
  have HT_5 := Lib.hid (HT_4.out.below hb5)
  have HS_5 := Lib.hid (HS_4.out.below hb5)
  have HRT_5 := Lib.hid (HRT_4.out.below hb5)
  have HBW5 := Lib.hid (HBW4.out.trans (hb5.mono HBW4.out.size))
  clear hb5 HA_4 HB_4 HT_4 HS_4 HRT_4
  rw [decide_eq_true (rfl : trimL A = trimL A)]
  have hl := HL.out
  have hneq : ((en A k : Int) == 1099511627776) = false := by simp; omega
  have hself : ((en A k : Int) != en A k) = false := by simp
  obtain ⟨x, hx⟩ : ∃ x, x = en A k := ⟨_, rfl⟩
  rw [← hx] at hneq hself ⊢
  have HX := Lib.hid hx; clear hx hl hn0 hn1
  go_wp2_with fail
  refine (refat_any _ _ _ _ _ _ HA_5.out (by omega)).mono ?_
  rintro e w' ⟨rfl, rfl⟩
  rw [Int.toNat_natCast, ← HX.out]
  go_wp2_with fail
  refine (reftick_any _ _ _ _ _ _ HA_5.out (right_en RA.out)).mono ?_
  rintro e w6 ⟨s5, n5, c5, rfl, i5, hb6⟩
  rw [E6.out] at i5
  have HA_6 := Lib.hid (HA_5.out.below hb6)
  have HB_6 := Lib.hid (HB_5.out.below hb6)
  have HT_6 := Lib.hid (HT_5.out.below hb6)
  have HS_6 := Lib.hid (HS_5.out.below hb6)
  have HRT_6 := Lib.hid (HRT_5.out.below hb6)
  have HRK_6 := Lib.hid i5
  have HBW6 := Lib.hid (HBW5.out.trans (hb6.mono HBW5.out.size))
  clear hb6 i5 HA_5 HB_5 HT_5 HS_5 HRT_5
  go_wp2_with fail
  refine (rows_any _ _ _ _ _ _ _ _ _ HT_6.out HRK_6.out).mono ?_
  rintro e w7 ⟨rfl, hb7⟩
  have HA_7 := Lib.hid (HA_6.out.below hb7)
  have HB_7 := Lib.hid (HB_6.out.below hb7)
  have HT_7 := Lib.hid (HT_6.out.below hb7)
  have HS_7 := Lib.hid (HS_6.out.below hb7)
  have HRT_7 := Lib.hid (HRT_6.out.below hb7)
  have HRK_7 := Lib.hid (HRK_6.out.below hb7)
  have HBW7 := Lib.hid (HBW6.out.trans (hb7.mono HBW6.out.size))
  clear hb7 HA_6 HB_6 HT_6 HS_6 HRT_6 HRK_6
  rw [decide_eq_true (rfl : grownL [A, stepL k (en A k + 1)] = grownL [A, stepL k (en A k + 1)])]
  go_wp2_with fail
  go_ret
  exact ⟨ret_bool rfl, HBW7.out⟩


theorem tells_walk (a : Option Addr) (len cap : Nat) (l : List Int) (a2 : Option Addr) (len2 cap2 : Nat) (l2 : List Int) (g : Int) (w : World) (h : Ints w a len cap l) (h2 : Ints w a2 len2 cap2 l2) :
    Calls Try.prog 3 #[.slice a len cap, .slice a2 len2 cap2, .int .i64 g] w (Says w) := by
  cases ra : rightB (l.take 20) with
  | false => exact tells_bad a len cap l a2 len2 cap2 l2 g w h h2 ra
  | true =>
    by_cases hg : g < 0 ∨ 15 < g
    · cases rb : rightB (l2.take 20) with
      | false => exact tells_out_no a len cap l a2 len2 cap2 l2 g w h h2 ra rb hg
      | true => exact tells_out_ok a len cap l a2 len2 cap2 l2 g w h h2 ra rb hg
    · have hb := (right_en ra g.toNat).2
      by_cases hm : en (l.take 20) g.toNat = 1099511627776
      · cases rb : rightB (l2.take 20) with
        | false => exact tells_max_no a len cap l a2 len2 cap2 l2 g w h h2 ra rb (by omega) (by omega) hm
        | true => exact tells_max_ok a len cap l a2 len2 cap2 l2 g w h h2 ra rb (by omega) (by omega) hm
      · cases rb : rightB (l2.take 20) with
        | false => exact tells_ok_no a len cap l a2 len2 cap2 l2 g w h h2 ra rb (by omega) (by omega) (by omega)
        | true => exact tells_ok_ok a len cap l a2 len2 cap2 l2 g w h h2 ra rb (by omega) (by omega) (by omega)
end Go.Proofs.Ytoedhcogmhbedaa
