/- CodeBack: the walk. -/
import Derived.Test.YtddkckppmjcclaaLawCuts
namespace Go.Proofs.Ytddkckppmjcclaa
open Go.RowKit
set_option linter.unusedSimpArgs false
set_option linter.unusedVariables false
theorem cut600 (s : ByteArray) : (0 ≤ (if (600 : Int) < (s.size : Int) then (600 : Int) else (s.size : Int)) ∧ (if (600 : Int) < (s.size : Int) then (600 : Int) else (s.size : Int)) ≤ (s.size : Int)) ∧ s.extract 0 (if (600 : Int) < (s.size : Int) then (600 : Int) else (s.size : Int)).toNat = s.extract 0 (min s.size 600) := by
  by_cases h : (600 : Int) < (s.size : Int)
  · simp only [if_pos h]
    refine ⟨by omega, ?_⟩
    rw [Nat.min_eq_right (by omega)]; rfl
  · simp only [if_neg h]
    refine ⟨by omega, ?_⟩
    rw [Nat.min_eq_left (by omega), Int.toNat_natCast]
theorem append_zero (S : ByteArray) : tx (S ++ ⟨#[0]⟩) = tx S ++ [0] := by
  have h : S ++ ⟨#[0]⟩ = strOf (tx S ++ [0]) := by
    rw [strOf_append, strOf_tx]; rfl
  rw [h, tx_strOf]
  exact byt_append (tx_byt S) zero_byt
theorem size_append1 (S : ByteArray) : (S ++ ⟨#[0]⟩ : ByteArray).size = S.size + 1 := by rw [ByteArray.size_append]; rfl
set_option maxRecDepth 100000 in
set_option maxHeartbeats 8000000 in
theorem back_ok_yes (p0 : Pr) (q0 : PAt) (s : ByteArray) (w : World) (h : Prg w p0 q0) (hr : rightP (fewP p0) = true) (hs : s.size ≤ 9223372036854775807)
    (c : Int) (pd : Pr) (hd : decZ ((tx s).take 600) = (pd, c)) (hc : c = 0) : Calls Try.prog 5 #[prV p0 q0, .string s] w (Says w) := by
  obtain ⟨s1, hs1⟩ : ∃ s1, s1 = s.extract 0 (min s.size 600) := ⟨_, rfl⟩
  have hs1l : s1.size ≤ 600 := by rw [hs1, ByteArray.size_extract]; omega
  have htx : tx s1 = (tx s).take 600 := by
    rw [hs1, tx_take]
    by_cases h6 : s.size ≤ 600
    · rw [Nat.min_eq_left h6, List.take_of_length_le (by rw [tx_len]; omega), List.take_of_length_le (by rw [tx_len]; omega)]
    · rw [Nat.min_eq_right (by omega)]
  rw [← htx] at hd
  have HDT := Lib.hid (fun W => Decode_any s1 W (by omega))
  rw [hd] at HDT
  unfold GotDec at HDT
  dsimp only at HDT
  obtain ⟨hcond, hval⟩ := cut600 s
  rw [← hs1] at hval
  obtain ⟨m, hm⟩ : ∃ m : Int, m = (if (600 : Int) < (s.size : Int) then (600 : Int) else (s.size : Int)) := ⟨_, rfl⟩
  rw [← hm] at hcond hval
  have HM := Lib.hid hm.symm
  have HCN := Lib.hid hcond; have HVL := Lib.hid hval
  clear hcond hval hm
  subst hc
  obtain ⟨hrd, hbk⟩ := dec_back (tx_byt s1) hd rfl
  have hS1 : bytesP pd = s1 := by unfold bytesP; rw [hbk, strOf_tx]
  have HED := Lib.hid (fun W q (H : Prg W pd q) => Encode_ok pd q W H hrd)
  rw [hS1] at HED
  have HRD := Lib.hid (fun W q (H : Prg W pd q) => Right_any pd q W H)
  rw [hrd] at HRD
  clear hrd hbk hS1
  clear hd htx hs hs1
  have B_0 := Lib.hid (below_alloc w (.cells (prC p0 q0) 26))
  have K_0 := Lib.hid (Bx.new w (prC p0 q0) 26)
  have HF := Lib.hid (few_any p0 q0 w (w.alloc (.cells (prC p0 q0) 26)).drew h B_0.out.drew)
  obtain ⟨p, hpe⟩ : ∃ p, p = fewP p0 := ⟨_, rfl⟩
  rw [← hpe] at HF hr
  unfold GotP at HF
  clear h hpe
  obtain ⟨BK, hBK⟩ : ∃ x, x = w.heap.size := ⟨_, rfl⟩
  obtain ⟨wA, hwA⟩ : ∃ x, x = w.alloc (.cells (prC p0 q0) 26) := ⟨_, rfl⟩
  have HBK := Lib.hid hBK; have HWA := Lib.hid hwA
  have HSA := Lib.hid (show wA.heap.size = w.heap.size + 1 by rw [hwA]; simp)
  rw [← hwA] at K_0 B_0 HF
  rw [← hBK] at K_0
  clear hBK hwA
  have HE := Lib.hid (fun W q (H : Prg W p q) => Encode_ok p q W H hr)
  have HR := Lib.hid (fun W q (H : Prg W p q) => Right_any p q W H)
  rw [hr] at HR
  have hsz := bytesP_size hr
  have HD1 := Lib.hid (fun W => Decode_any (bytesP p) W (by omega))
  have HD2 := Lib.hid (fun W => Decode_any (bytesP p ++ ⟨#[0]⟩) W (by rw [size_append1]; omega))
  rw [bytes_tx hr, dec_enc hr] at HD1
  rw [append_zero, bytes_tx hr, dec_long_enc hr] at HD2
  unfold GotDec at HD1 HD2
  dsimp only at HD1 HD2
  obtain ⟨S, hS⟩ : ∃ S, S = bytesP p := ⟨_, rfl⟩
  rw [← hS] at HE HD1 HD2 hsz
  have hsz2 : ((S.size + (⟨#[0]⟩ : ByteArray).size : Nat) : Int) ≤ 9223372036854775807 := by show ((S.size + 1 : Nat) : Int) ≤ _; omega
  have hsz3 : S.size + 1 ≤ 9223372036854775807 := by omega
  clear hS hr
  go_enter Try.func5, Try.ntmps5
  go_upto_region 1 with (fail)
  rw [← HWA.out, ← HBK.out]
  refine wp_region_held_drew (S := (fun _ => True)) (by kernel_rfl) (trivial) (fun hHeld => ?_)
  (try simp only [Act.put, List.getElem_toArray, List.getElem_cons_zero, List.getElem_cons_succ, List.setIfInBounds_toArray, List.set_cons_zero, List.set_cons_succ])
  refine wpAnyH_take (i := 2) (v := ?_) rfl (by kernel_rfl) (by kernel_rfl) (by kernel_rfl) (fun _ _ _ h => h) (Or.inl ⟨by rfl, ?_⟩) (by assumption) ?_
  rotate_left
  · (intro w hSw; (try dsimp only at hSw); go_simp; try with_reducible rfl)
  (try simp only [Act.put, List.getElem_toArray, List.getElem_cons_zero, List.getElem_cons_succ, List.setIfInBounds_toArray, List.set_cons_zero, List.set_cons_succ])
  refine wpAnyH_take (i := 3) (v := ?_) rfl (by kernel_rfl) (by kernel_rfl) (by kernel_rfl) (fun _ _ _ h => h) (Or.inl ⟨by rfl, ?_⟩) (by assumption) ?_
  rotate_left
  · (intro w hSw; (try dsimp only at hSw); go_simp; try with_reducible rfl)
  (try simp only [Act.put, List.getElem_toArray, List.getElem_cons_zero, List.getElem_cons_succ, List.setIfInBounds_toArray, List.set_cons_zero, List.set_cons_succ])
  refine wpAnyH_take (i := 4) (v := ?_) rfl (by kernel_rfl) (by kernel_rfl) (by kernel_rfl) (fun _ _ _ h => h) (Or.inl ⟨by rfl, ?_⟩) (by assumption) ?_
  rotate_left
  · (intro w hSw; (try dsimp only at hSw); go_simp; try with_reducible rfl)
  (try simp only [Act.put, List.getElem_toArray, List.getElem_cons_zero, List.getElem_cons_succ, List.setIfInBounds_toArray, List.set_cons_zero, List.set_cons_succ])
  refine wpAnyH_take (i := 5) (v := .int .i64 m) rfl (by kernel_rfl) (by kernel_rfl) (by kernel_rfl) (fun _ _ _ h => h) (Or.inl ⟨by rfl, ?_⟩) (by assumption) ?_
  · (intro w hSw; go_simp; rw [HM.out])
  (try simp only [Act.put, List.getElem_toArray, List.getElem_cons_zero, List.getElem_cons_succ, List.setIfInBounds_toArray, List.set_cons_zero, List.set_cons_succ])
  refine wpAnyH_take (i := 6) (v := .string s1) rfl (by kernel_rfl) (by kernel_rfl) (by kernel_rfl) (fun _ _ _ h => h) (Or.inl ⟨by rfl, ?_⟩) (by assumption) ?_
  · (intro w hSw; go_simp; rw [if_pos HCN.out, HVL.out])
  (try simp only [Act.put, List.getElem_toArray, List.getElem_cons_zero, List.getElem_cons_succ, List.setIfInBounds_toArray, List.set_cons_zero, List.set_cons_succ])
  obtain ⟨k0, k1, k2, k3, k4, k5⟩ := Bx.cells6 (show Bx wA.drew BK _ 26 from K_0.out)
  refine wpAnyH_ready (rs := [0]) (by kernel_rfl) (by simp) ?_
  refine AllReadyH.cons (o := _) rfl (fun K hK => ?_) AllReadyH.nil
  go_simp
  clear k0 k1 k2 k3 k4 k5
  clear hHeld
  refine hK.out _ _ (trivial) (fun hHeld => ?_)
  clear hK K
  (try simp only [Act.put, List.getElem_toArray, List.getElem_cons_zero, List.getElem_cons_succ, List.setIfInBounds_toArray, List.set_cons_zero, List.set_cons_succ])
  refine wpAnyH_ready (rs := [1]) (by kernel_rfl) (by simp) ?_
  refine AllReadyH.cons (o := _) rfl (fun K hK => ?_) AllReadyH.nil
  go_simp
  refine (HF.out).mono ?_
  rintro e w1 ⟨q, rfl, hp, hb⟩
  have K_1 := Lib.hid (show Bx w1 BK (prC p0 q0) 26 from Bx.below (show Bx wA.drew BK _ 26 from K_0.out) hb); have B_1 := Lib.hid (B_0.out.drew.trans (Below.mono hb B_0.out.size)); have HP := Lib.hid hp
  clear hb hp K_0 B_0 HF
  clear hHeld
  refine hK.out _ _ (trivial) (fun hHeld => ?_)
  clear hK K
  (try simp only [Act.put, List.getElem_toArray, List.getElem_cons_zero, List.getElem_cons_succ, List.setIfInBounds_toArray, List.set_cons_zero, List.set_cons_succ])
  obtain ⟨k0, k1, k2, k3, k4, k5⟩ := K_1.out.cells6
  have lk := Bx.lt K_1.out
  have f0 := Bx.froz K_1.out 0; have f1 := Bx.froz K_1.out 1; have f2 := Bx.froz K_1.out 2; have f3 := Bx.froz K_1.out 3; have f4 := Bx.froz K_1.out 4; have f5 := Bx.froz K_1.out 5
  refine wpAnyH_ready (rs := [7]) (by kernel_rfl) (by simp) ?_
  refine AllReadyH.cons (o := _) rfl (fun K hK => ?_) AllReadyH.nil
  go_simp
  clear k0 k1 k2 k3 k4 k5 lk f0 f1 f2 f3 f4 f5
  clear hHeld
  refine hK.out _ _ (trivial) (fun hHeld => ?_)
  clear hK K
  (try simp only [Act.put, List.getElem_toArray, List.getElem_cons_zero, List.getElem_cons_succ, List.setIfInBounds_toArray, List.set_cons_zero, List.set_cons_succ])
  refine wpAnyH_take (i := 8) (v := ?_) rfl (by kernel_rfl) (by kernel_rfl) (by kernel_rfl) (fun _ _ _ h => h) (Or.inl ⟨by rfl, ?_⟩) (by assumption) ?_
  rotate_left
  · (intro w hSw; (try dsimp only at hSw); go_simp; try with_reducible rfl)
  (try simp only [Act.put, List.getElem_toArray, List.getElem_cons_zero, List.getElem_cons_succ, List.setIfInBounds_toArray, List.set_cons_zero, List.set_cons_succ])
  refine wpAnyH_done (by kernel_rfl) ?_ _
  clear hHeld
  have hbk := HBK.out; have hsa := HSA.out
  obtain ⟨X2, hX2⟩ : ∃ x, x = st6 w1 BK (.slice q.ca q.cn q.cc) (.int .i64 p.mu) (.int .i64 p.on) (.int .i64 p.va) (.slice q.sa q.sn q.sc) (.slice q.ba q.bn q.bc) := ⟨_, rfl⟩
  have B0 := Lib.hid (show Below w.heap.size w X2 by rw [hX2]; exact B_1.out.trans (below_grown (grown_st6 (World.grownBy.refl w1 (some BK)) _ _ _ _ _ _) (by omega) B_1.out.size))
  have K0 := Lib.hid (show Bx X2 BK (prC p q) 26 by rw [hX2]; exact K_1.out.st6 _ _ _ _ _ _)
  have P0 := Lib.hid (HP.out X2 B0.out (fun g hg => by
    have hg' : w.heap.size + 1 < g + 1 := by rw [← hsa]; exact hg
    rw [hX2]
    by_cases hgs : g < w1.heap.size
    · exact (grown_st6 (World.grownBy.refl w1 (some BK)) _ _ _ _ _ _).block g hgs (some_ne (by omega))
    · have hsz := st6_size w1 BK (.slice q.ca q.cn q.cc) (.int .i64 p.mu) (.int .i64 p.on) (.int .i64 p.va) (.slice q.sa q.sn q.sc) (.slice q.ba q.bn q.bc)
      rw [Array.getElem?_eq_none (by rw [hsz]; omega), Array.getElem?_eq_none (by omega)]))
  simp only [st6] at hX2
  rw [← hX2]
  clear hX2 hbk hsa K_1 B_1 HP
  obtain ⟨k0, k1, k2, k3, k4, k5⟩ := K0.out.cells6
  go_wp2_with fail
  clear k0 k1 k2 k3 k4 k5
  refine (HE.out _ _ P0.out).mono ?_
  rintro e w21 ⟨rfl, hb⟩
  have K_1 := Lib.hid (K0.out.below hb)
  have P_1 := Lib.hid (P0.out.below hb)
  have B_1 := Lib.hid (B0.out.trans (Below.mono hb B0.out.size))
  clear hb K0 P0 B0
  obtain ⟨k0, k1, k2, k3, k4, k5⟩ := K_1.out.cells6
  go_wp2_with fail
  clear k0 k1 k2 k3 k4 k5
  refine (HR.out _ _ P_1.out).mono ?_
  rintro e w22 ⟨rfl, hb⟩
  have K_2 := Lib.hid (K_1.out.below hb)
  have P_2 := Lib.hid (P_1.out.below hb)
  have B_2 := Lib.hid (B_1.out.trans (Below.mono hb B_1.out.size))
  clear hb K_1 P_1 B_1
  go_wp2_with fail
  refine (alive_any _).mono ?_
  rintro e w23 ⟨rfl, hb⟩
  have K_3 := Lib.hid (K_2.out.below hb)
  have P_3 := Lib.hid (P_2.out.below hb)
  have B_3 := Lib.hid (B_2.out.trans (Below.mono hb B_2.out.size))
  clear hb K_2 P_2 B_2
  go_wp2_with fail
  refine (HD1.out _).mono ?_
  rintro e w24 ⟨q7, rfl, hp7, hb⟩
  have P7_0 := Lib.hid hp7
  clear hp7
  have K_4 := Lib.hid (K_3.out.below hb)
  have P_4 := Lib.hid (P_3.out.below hb)
  have B_4 := Lib.hid (B_3.out.trans (Below.mono hb B_3.out.size))
  clear hb K_3 P_3 B_3
  have BAx := below_alloc w24 (.cells (prC p q7) 26)
  have K7_0 := Lib.hid (Bx.new w24 (prC p q7) 26)
  have K_5 := Lib.hid (K_4.out.below BAx)
  have P_5 := Lib.hid (P_4.out.below BAx)
  have B_5 := Lib.hid (B_4.out.trans (Below.mono BAx B_4.out.size))
  have P7_5 := Lib.hid (P7_0.out.below BAx)
  clear BAx K_4 P_4 B_4 P7_0
  go_upto_region 7 with (fail)
  obtain ⟨b7, hb7⟩ : ∃ b, b = w24.heap.size := ⟨_, rfl⟩
  obtain ⟨w25, hw25⟩ : ∃ x, x = w24.alloc (.cells (prC p q7) 26) := ⟨_, rfl⟩
  have hw' := hw25
  simp only [prC] at hw'
  rw [← hw25] at K_5 P_5 B_5 P7_5 K7_0
  rw [← hb7] at K7_0 ⊢
  first | rw [← hw25] | rw [← hw']
  clear hw25 hw' hb7
  have HSY := Lib.hid (fun W (H : Prg W p q7) (H2 : Prg W p q) => Same_yes p q7 q W H H2)
  obtain ⟨a0, a1, a2, a3, a4, a5⟩ := K7_0.out.cells6
  obtain ⟨k0, k1, k2, k3, k4, k5⟩ := K_5.out.cells6
  go_wp2_with fail
  clear a0 a1 a2 a3 a4 a5 k0 k1 k2 k3 k4 k5
  refine (HSY.out _ P7_5.out P_5.out).mono ?_
  rintro e w26 ⟨rfl, hb⟩
  have K_7 := Lib.hid (K_5.out.below hb)
  have P_7 := Lib.hid (P_5.out.below hb)
  have B_7 := Lib.hid (B_5.out.trans (Below.mono hb B_5.out.size))
  have P7_7 := Lib.hid (P7_5.out.below hb)
  have K7_7 := Lib.hid (K7_0.out.below hb)
  clear hb K_5 P_5 B_5 P7_5 K7_0
  go_wp2_with fail
  refine (HD2.out _).mono ?_
  rintro e w27 ⟨q9, rfl, hp9, hb⟩
  clear hp9
  have K_8 := Lib.hid (K_7.out.below hb)
  have P_8 := Lib.hid (P_7.out.below hb)
  have B_8 := Lib.hid (B_7.out.trans (Below.mono hb B_7.out.size))
  have P7_8 := Lib.hid (P7_7.out.below hb)
  have K7_8 := Lib.hid (K7_7.out.below hb)
  clear hb K_7 P_7 B_7 P7_7 K7_7
  have BAx := below_alloc w27 (.cells (prC zeroPr q9) 26)
  have K9_0 := Lib.hid (Bx.new w27 (prC zeroPr q9) 26)
  have K_9 := Lib.hid (K_8.out.below BAx)
  have P_9 := Lib.hid (P_8.out.below BAx)
  have B_9 := Lib.hid (B_8.out.trans (Below.mono BAx B_8.out.size))
  have P7_9 := Lib.hid (P7_8.out.below BAx)
  have K7_9 := Lib.hid (K7_8.out.below BAx)
  clear BAx K_8 P_8 B_8 P7_8 K7_8
  go_upto_region 10 with (fail)
  obtain ⟨b9, hb9⟩ : ∃ b, b = w27.heap.size := ⟨_, rfl⟩
  obtain ⟨w28, hw28⟩ : ∃ x, x = w27.alloc (.cells (prC zeroPr q9) 26) := ⟨_, rfl⟩
  have hw' := hw28
  simp only [prC, zeroPr] at hw'
  rw [← hw28] at K_9 P_9 B_9 P7_9 K7_9 K9_0
  rw [← hb9] at K9_0 ⊢
  first | rw [← hw28] | rw [← hw']
  clear hw28 hw' hb9
  go_wp2_with fail
  refine (HDT.out _).mono ?_
  rintro e w29 ⟨qt, rfl, hpt, hb⟩
  have PT_0 := Lib.hid hpt
  clear hpt
  have K_11 := Lib.hid (K_9.out.below hb)
  have P_11 := Lib.hid (P_9.out.below hb)
  have B_11 := Lib.hid (B_9.out.trans (Below.mono hb B_9.out.size))
  have P7_11 := Lib.hid (P7_9.out.below hb)
  have K7_11 := Lib.hid (K7_9.out.below hb)
  have K9_11 := Lib.hid (K9_0.out.below hb)
  clear hb K_9 P_9 B_9 P7_9 K7_9 K9_0
  have BAx := below_alloc w29 (.cells (prC pd qt) 26)
  have KT_0 := Lib.hid (Bx.new w29 (prC pd qt) 26)
  have K_12 := Lib.hid (K_11.out.below BAx)
  have P_12 := Lib.hid (P_11.out.below BAx)
  have B_12 := Lib.hid (B_11.out.trans (Below.mono BAx B_11.out.size))
  have P7_12 := Lib.hid (P7_11.out.below BAx)
  have K7_12 := Lib.hid (K7_11.out.below BAx)
  have K9_12 := Lib.hid (K9_11.out.below BAx)
  have PT_12 := Lib.hid (PT_0.out.below BAx)
  clear BAx K_11 P_11 B_11 P7_11 K7_11 K9_11 PT_0
  go_upto_region 13 with (fail)
  obtain ⟨bt, hbt⟩ : ∃ b, b = w29.heap.size := ⟨_, rfl⟩
  obtain ⟨w30, hw30⟩ : ∃ x, x = w29.alloc (.cells (prC pd qt) 26) := ⟨_, rfl⟩
  have hw' := hw30
  simp only [prC] at hw'
  rw [← hw30] at K_12 P_12 B_12 P7_12 K7_12 K9_12 PT_12 KT_0
  rw [← hbt] at KT_0 ⊢
  first | rw [← hw30] | rw [← hw']
  clear hw30 hw' hbt
  obtain ⟨a0, a1, a2, a3, a4, a5⟩ := KT_0.out.cells6
  go_wp2_with fail
  clear a0 a1 a2 a3 a4 a5
  refine (HED.out _ _ PT_12.out).mono ?_
  rintro e w31 ⟨rfl, hb⟩
  have K_14 := Lib.hid (K_12.out.below hb)
  have P_14 := Lib.hid (P_12.out.below hb)
  have B_14 := Lib.hid (B_12.out.trans (Below.mono hb B_12.out.size))
  have P7_14 := Lib.hid (P7_12.out.below hb)
  have K7_14 := Lib.hid (K7_12.out.below hb)
  have K9_14 := Lib.hid (K9_12.out.below hb)
  have PT_14 := Lib.hid (PT_12.out.below hb)
  have KT_14 := Lib.hid (KT_0.out.below hb)
  clear hb K_12 P_12 B_12 P7_12 K7_12 K9_12 PT_12 KT_0
  obtain ⟨a0, a1, a2, a3, a4, a5⟩ := KT_14.out.cells6
  go_wp2_with fail
  clear a0 a1 a2 a3 a4 a5
  refine (HRD.out _ _ PT_14.out).mono ?_
  rintro e w32 ⟨rfl, hb⟩
  have K_15 := Lib.hid (K_14.out.below hb)
  have P_15 := Lib.hid (P_14.out.below hb)
  have B_15 := Lib.hid (B_14.out.trans (Below.mono hb B_14.out.size))
  have P7_15 := Lib.hid (P7_14.out.below hb)
  have K7_15 := Lib.hid (K7_14.out.below hb)
  have K9_15 := Lib.hid (K9_14.out.below hb)
  have PT_15 := Lib.hid (PT_14.out.below hb)
  have KT_15 := Lib.hid (KT_14.out.below hb)
  clear hb K_14 P_14 B_14 P7_14 K7_14 K9_14 PT_14 KT_14
  go_wp2_with fail
  go_ret
  exact ⟨ret_bool (by first | rfl | simp), B_15.out⟩
set_option maxRecDepth 100000 in
set_option maxHeartbeats 8000000 in
theorem back_ok_no (p0 : Pr) (q0 : PAt) (s : ByteArray) (w : World) (h : Prg w p0 q0) (hr : rightP (fewP p0) = true) (hs : s.size ≤ 9223372036854775807)
    (c : Int) (pd : Pr) (hd : decZ ((tx s).take 600) = (pd, c)) (hc : c ≠ 0) : Calls Try.prog 5 #[prV p0 q0, .string s] w (Says w) := by
  obtain ⟨s1, hs1⟩ : ∃ s1, s1 = s.extract 0 (min s.size 600) := ⟨_, rfl⟩
  have hs1l : s1.size ≤ 600 := by rw [hs1, ByteArray.size_extract]; omega
  have htx : tx s1 = (tx s).take 600 := by
    rw [hs1, tx_take]
    by_cases h6 : s.size ≤ 600
    · rw [Nat.min_eq_left h6, List.take_of_length_le (by rw [tx_len]; omega), List.take_of_length_le (by rw [tx_len]; omega)]
    · rw [Nat.min_eq_right (by omega)]
  rw [← htx] at hd
  have HDT := Lib.hid (fun W => Decode_any s1 W (by omega))
  rw [hd] at HDT
  unfold GotDec at HDT
  dsimp only at HDT
  obtain ⟨hcond, hval⟩ := cut600 s
  rw [← hs1] at hval
  obtain ⟨m, hm⟩ : ∃ m : Int, m = (if (600 : Int) < (s.size : Int) then (600 : Int) else (s.size : Int)) := ⟨_, rfl⟩
  rw [← hm] at hcond hval
  have HM := Lib.hid hm.symm
  have HCN := Lib.hid hcond; have HVL := Lib.hid hval
  clear hcond hval hm
  have hpz := dec_zero hd hc
  subst hpz
  have hcn : ¬ c = 0 := hc
  have hc0 : (c == 0) = false := by rw [beq_eq_false_iff_ne]; exact hc
  have hcne : (c != 0) = true := by simp [hc]
  clear hd htx hs hs1
  have B_0 := Lib.hid (below_alloc w (.cells (prC p0 q0) 26))
  have K_0 := Lib.hid (Bx.new w (prC p0 q0) 26)
  have HF := Lib.hid (few_any p0 q0 w (w.alloc (.cells (prC p0 q0) 26)).drew h B_0.out.drew)
  obtain ⟨p, hpe⟩ : ∃ p, p = fewP p0 := ⟨_, rfl⟩
  rw [← hpe] at HF hr
  unfold GotP at HF
  clear h hpe
  obtain ⟨BK, hBK⟩ : ∃ x, x = w.heap.size := ⟨_, rfl⟩
  obtain ⟨wA, hwA⟩ : ∃ x, x = w.alloc (.cells (prC p0 q0) 26) := ⟨_, rfl⟩
  have HBK := Lib.hid hBK; have HWA := Lib.hid hwA
  have HSA := Lib.hid (show wA.heap.size = w.heap.size + 1 by rw [hwA]; simp)
  rw [← hwA] at K_0 B_0 HF
  rw [← hBK] at K_0
  clear hBK hwA
  have HE := Lib.hid (fun W q (H : Prg W p q) => Encode_ok p q W H hr)
  have HR := Lib.hid (fun W q (H : Prg W p q) => Right_any p q W H)
  rw [hr] at HR
  have hsz := bytesP_size hr
  have HD1 := Lib.hid (fun W => Decode_any (bytesP p) W (by omega))
  have HD2 := Lib.hid (fun W => Decode_any (bytesP p ++ ⟨#[0]⟩) W (by rw [size_append1]; omega))
  rw [bytes_tx hr, dec_enc hr] at HD1
  rw [append_zero, bytes_tx hr, dec_long_enc hr] at HD2
  unfold GotDec at HD1 HD2
  dsimp only at HD1 HD2
  obtain ⟨S, hS⟩ : ∃ S, S = bytesP p := ⟨_, rfl⟩
  rw [← hS] at HE HD1 HD2 hsz
  have hsz2 : ((S.size + (⟨#[0]⟩ : ByteArray).size : Nat) : Int) ≤ 9223372036854775807 := by show ((S.size + 1 : Nat) : Int) ≤ _; omega
  have hsz3 : S.size + 1 ≤ 9223372036854775807 := by omega
  clear hS hr
  go_enter Try.func5, Try.ntmps5
  go_upto_region 1 with (fail)
  rw [← HWA.out, ← HBK.out]
  refine wp_region_held_drew (S := (fun _ => True)) (by kernel_rfl) (trivial) (fun hHeld => ?_)
  (try simp only [Act.put, List.getElem_toArray, List.getElem_cons_zero, List.getElem_cons_succ, List.setIfInBounds_toArray, List.set_cons_zero, List.set_cons_succ])
  refine wpAnyH_take (i := 2) (v := ?_) rfl (by kernel_rfl) (by kernel_rfl) (by kernel_rfl) (fun _ _ _ h => h) (Or.inl ⟨by rfl, ?_⟩) (by assumption) ?_
  rotate_left
  · (intro w hSw; (try dsimp only at hSw); go_simp; try with_reducible rfl)
  (try simp only [Act.put, List.getElem_toArray, List.getElem_cons_zero, List.getElem_cons_succ, List.setIfInBounds_toArray, List.set_cons_zero, List.set_cons_succ])
  refine wpAnyH_take (i := 3) (v := ?_) rfl (by kernel_rfl) (by kernel_rfl) (by kernel_rfl) (fun _ _ _ h => h) (Or.inl ⟨by rfl, ?_⟩) (by assumption) ?_
  rotate_left
  · (intro w hSw; (try dsimp only at hSw); go_simp; try with_reducible rfl)
  (try simp only [Act.put, List.getElem_toArray, List.getElem_cons_zero, List.getElem_cons_succ, List.setIfInBounds_toArray, List.set_cons_zero, List.set_cons_succ])
  refine wpAnyH_take (i := 4) (v := ?_) rfl (by kernel_rfl) (by kernel_rfl) (by kernel_rfl) (fun _ _ _ h => h) (Or.inl ⟨by rfl, ?_⟩) (by assumption) ?_
  rotate_left
  · (intro w hSw; (try dsimp only at hSw); go_simp; try with_reducible rfl)
  (try simp only [Act.put, List.getElem_toArray, List.getElem_cons_zero, List.getElem_cons_succ, List.setIfInBounds_toArray, List.set_cons_zero, List.set_cons_succ])
  refine wpAnyH_take (i := 5) (v := .int .i64 m) rfl (by kernel_rfl) (by kernel_rfl) (by kernel_rfl) (fun _ _ _ h => h) (Or.inl ⟨by rfl, ?_⟩) (by assumption) ?_
  · (intro w hSw; go_simp; rw [HM.out])
  (try simp only [Act.put, List.getElem_toArray, List.getElem_cons_zero, List.getElem_cons_succ, List.setIfInBounds_toArray, List.set_cons_zero, List.set_cons_succ])
  refine wpAnyH_take (i := 6) (v := .string s1) rfl (by kernel_rfl) (by kernel_rfl) (by kernel_rfl) (fun _ _ _ h => h) (Or.inl ⟨by rfl, ?_⟩) (by assumption) ?_
  · (intro w hSw; go_simp; rw [if_pos HCN.out, HVL.out])
  (try simp only [Act.put, List.getElem_toArray, List.getElem_cons_zero, List.getElem_cons_succ, List.setIfInBounds_toArray, List.set_cons_zero, List.set_cons_succ])
  obtain ⟨k0, k1, k2, k3, k4, k5⟩ := Bx.cells6 (show Bx wA.drew BK _ 26 from K_0.out)
  refine wpAnyH_ready (rs := [0]) (by kernel_rfl) (by simp) ?_
  refine AllReadyH.cons (o := _) rfl (fun K hK => ?_) AllReadyH.nil
  go_simp
  clear k0 k1 k2 k3 k4 k5
  clear hHeld
  refine hK.out _ _ (trivial) (fun hHeld => ?_)
  clear hK K
  (try simp only [Act.put, List.getElem_toArray, List.getElem_cons_zero, List.getElem_cons_succ, List.setIfInBounds_toArray, List.set_cons_zero, List.set_cons_succ])
  refine wpAnyH_ready (rs := [1]) (by kernel_rfl) (by simp) ?_
  refine AllReadyH.cons (o := _) rfl (fun K hK => ?_) AllReadyH.nil
  go_simp
  refine (HF.out).mono ?_
  rintro e w1 ⟨q, rfl, hp, hb⟩
  have K_1 := Lib.hid (show Bx w1 BK (prC p0 q0) 26 from Bx.below (show Bx wA.drew BK _ 26 from K_0.out) hb); have B_1 := Lib.hid (B_0.out.drew.trans (Below.mono hb B_0.out.size)); have HP := Lib.hid hp
  clear hb hp K_0 B_0 HF
  clear hHeld
  refine hK.out _ _ (trivial) (fun hHeld => ?_)
  clear hK K
  (try simp only [Act.put, List.getElem_toArray, List.getElem_cons_zero, List.getElem_cons_succ, List.setIfInBounds_toArray, List.set_cons_zero, List.set_cons_succ])
  obtain ⟨k0, k1, k2, k3, k4, k5⟩ := K_1.out.cells6
  have lk := Bx.lt K_1.out
  have f0 := Bx.froz K_1.out 0; have f1 := Bx.froz K_1.out 1; have f2 := Bx.froz K_1.out 2; have f3 := Bx.froz K_1.out 3; have f4 := Bx.froz K_1.out 4; have f5 := Bx.froz K_1.out 5
  refine wpAnyH_ready (rs := [7]) (by kernel_rfl) (by simp) ?_
  refine AllReadyH.cons (o := _) rfl (fun K hK => ?_) AllReadyH.nil
  go_simp
  clear k0 k1 k2 k3 k4 k5 lk f0 f1 f2 f3 f4 f5
  clear hHeld
  refine hK.out _ _ (trivial) (fun hHeld => ?_)
  clear hK K
  (try simp only [Act.put, List.getElem_toArray, List.getElem_cons_zero, List.getElem_cons_succ, List.setIfInBounds_toArray, List.set_cons_zero, List.set_cons_succ])
  refine wpAnyH_take (i := 8) (v := ?_) rfl (by kernel_rfl) (by kernel_rfl) (by kernel_rfl) (fun _ _ _ h => h) (Or.inl ⟨by rfl, ?_⟩) (by assumption) ?_
  rotate_left
  · (intro w hSw; (try dsimp only at hSw); go_simp; try with_reducible rfl)
  (try simp only [Act.put, List.getElem_toArray, List.getElem_cons_zero, List.getElem_cons_succ, List.setIfInBounds_toArray, List.set_cons_zero, List.set_cons_succ])
  refine wpAnyH_done (by kernel_rfl) ?_ _
  clear hHeld
  have hbk := HBK.out; have hsa := HSA.out
  obtain ⟨X2, hX2⟩ : ∃ x, x = st6 w1 BK (.slice q.ca q.cn q.cc) (.int .i64 p.mu) (.int .i64 p.on) (.int .i64 p.va) (.slice q.sa q.sn q.sc) (.slice q.ba q.bn q.bc) := ⟨_, rfl⟩
  have B0 := Lib.hid (show Below w.heap.size w X2 by rw [hX2]; exact B_1.out.trans (below_grown (grown_st6 (World.grownBy.refl w1 (some BK)) _ _ _ _ _ _) (by omega) B_1.out.size))
  have K0 := Lib.hid (show Bx X2 BK (prC p q) 26 by rw [hX2]; exact K_1.out.st6 _ _ _ _ _ _)
  have P0 := Lib.hid (HP.out X2 B0.out (fun g hg => by
    have hg' : w.heap.size + 1 < g + 1 := by rw [← hsa]; exact hg
    rw [hX2]
    by_cases hgs : g < w1.heap.size
    · exact (grown_st6 (World.grownBy.refl w1 (some BK)) _ _ _ _ _ _).block g hgs (some_ne (by omega))
    · have hsz := st6_size w1 BK (.slice q.ca q.cn q.cc) (.int .i64 p.mu) (.int .i64 p.on) (.int .i64 p.va) (.slice q.sa q.sn q.sc) (.slice q.ba q.bn q.bc)
      rw [Array.getElem?_eq_none (by rw [hsz]; omega), Array.getElem?_eq_none (by omega)]))
  simp only [st6] at hX2
  rw [← hX2]
  clear hX2 hbk hsa K_1 B_1 HP
  obtain ⟨k0, k1, k2, k3, k4, k5⟩ := K0.out.cells6
  go_wp2_with fail
  clear k0 k1 k2 k3 k4 k5
  refine (HE.out _ _ P0.out).mono ?_
  rintro e w21 ⟨rfl, hb⟩
  have K_1 := Lib.hid (K0.out.below hb)
  have P_1 := Lib.hid (P0.out.below hb)
  have B_1 := Lib.hid (B0.out.trans (Below.mono hb B0.out.size))
  clear hb K0 P0 B0
  obtain ⟨k0, k1, k2, k3, k4, k5⟩ := K_1.out.cells6
  go_wp2_with fail
  clear k0 k1 k2 k3 k4 k5
  refine (HR.out _ _ P_1.out).mono ?_
  rintro e w22 ⟨rfl, hb⟩
  have K_2 := Lib.hid (K_1.out.below hb)
  have P_2 := Lib.hid (P_1.out.below hb)
  have B_2 := Lib.hid (B_1.out.trans (Below.mono hb B_1.out.size))
  clear hb K_1 P_1 B_1
  go_wp2_with fail
  refine (alive_any _).mono ?_
  rintro e w23 ⟨rfl, hb⟩
  have K_3 := Lib.hid (K_2.out.below hb)
  have P_3 := Lib.hid (P_2.out.below hb)
  have B_3 := Lib.hid (B_2.out.trans (Below.mono hb B_2.out.size))
  clear hb K_2 P_2 B_2
  go_wp2_with fail
  refine (HD1.out _).mono ?_
  rintro e w24 ⟨q7, rfl, hp7, hb⟩
  have P7_0 := Lib.hid hp7
  clear hp7
  have K_4 := Lib.hid (K_3.out.below hb)
  have P_4 := Lib.hid (P_3.out.below hb)
  have B_4 := Lib.hid (B_3.out.trans (Below.mono hb B_3.out.size))
  clear hb K_3 P_3 B_3
  have BAx := below_alloc w24 (.cells (prC p q7) 26)
  have K7_0 := Lib.hid (Bx.new w24 (prC p q7) 26)
  have K_5 := Lib.hid (K_4.out.below BAx)
  have P_5 := Lib.hid (P_4.out.below BAx)
  have B_5 := Lib.hid (B_4.out.trans (Below.mono BAx B_4.out.size))
  have P7_5 := Lib.hid (P7_0.out.below BAx)
  clear BAx K_4 P_4 B_4 P7_0
  go_upto_region 7 with (fail)
  obtain ⟨b7, hb7⟩ : ∃ b, b = w24.heap.size := ⟨_, rfl⟩
  obtain ⟨w25, hw25⟩ : ∃ x, x = w24.alloc (.cells (prC p q7) 26) := ⟨_, rfl⟩
  have hw' := hw25
  simp only [prC] at hw'
  rw [← hw25] at K_5 P_5 B_5 P7_5 K7_0
  rw [← hb7] at K7_0 ⊢
  first | rw [← hw25] | rw [← hw']
  clear hw25 hw' hb7
  have HSY := Lib.hid (fun W (H : Prg W p q7) (H2 : Prg W p q) => Same_yes p q7 q W H H2)
  obtain ⟨a0, a1, a2, a3, a4, a5⟩ := K7_0.out.cells6
  obtain ⟨k0, k1, k2, k3, k4, k5⟩ := K_5.out.cells6
  go_wp2_with fail
  clear a0 a1 a2 a3 a4 a5 k0 k1 k2 k3 k4 k5
  refine (HSY.out _ P7_5.out P_5.out).mono ?_
  rintro e w26 ⟨rfl, hb⟩
  have K_7 := Lib.hid (K_5.out.below hb)
  have P_7 := Lib.hid (P_5.out.below hb)
  have B_7 := Lib.hid (B_5.out.trans (Below.mono hb B_5.out.size))
  have P7_7 := Lib.hid (P7_5.out.below hb)
  have K7_7 := Lib.hid (K7_0.out.below hb)
  clear hb K_5 P_5 B_5 P7_5 K7_0
  go_wp2_with fail
  refine (HD2.out _).mono ?_
  rintro e w27 ⟨q9, rfl, hp9, hb⟩
  clear hp9
  have K_8 := Lib.hid (K_7.out.below hb)
  have P_8 := Lib.hid (P_7.out.below hb)
  have B_8 := Lib.hid (B_7.out.trans (Below.mono hb B_7.out.size))
  have P7_8 := Lib.hid (P7_7.out.below hb)
  have K7_8 := Lib.hid (K7_7.out.below hb)
  clear hb K_7 P_7 B_7 P7_7 K7_7
  have BAx := below_alloc w27 (.cells (prC zeroPr q9) 26)
  have K9_0 := Lib.hid (Bx.new w27 (prC zeroPr q9) 26)
  have K_9 := Lib.hid (K_8.out.below BAx)
  have P_9 := Lib.hid (P_8.out.below BAx)
  have B_9 := Lib.hid (B_8.out.trans (Below.mono BAx B_8.out.size))
  have P7_9 := Lib.hid (P7_8.out.below BAx)
  have K7_9 := Lib.hid (K7_8.out.below BAx)
  clear BAx K_8 P_8 B_8 P7_8 K7_8
  go_upto_region 10 with (fail)
  obtain ⟨b9, hb9⟩ : ∃ b, b = w27.heap.size := ⟨_, rfl⟩
  obtain ⟨w28, hw28⟩ : ∃ x, x = w27.alloc (.cells (prC zeroPr q9) 26) := ⟨_, rfl⟩
  have hw' := hw28
  simp only [prC, zeroPr] at hw'
  rw [← hw28] at K_9 P_9 B_9 P7_9 K7_9 K9_0
  rw [← hb9] at K9_0 ⊢
  first | rw [← hw28] | rw [← hw']
  clear hw28 hw' hb9
  go_wp2_with fail
  refine (HDT.out _).mono ?_
  rintro e w29 ⟨qt, rfl, hpt, hb⟩
  have PT_0 := Lib.hid hpt
  clear hpt
  have K_11 := Lib.hid (K_9.out.below hb)
  have P_11 := Lib.hid (P_9.out.below hb)
  have B_11 := Lib.hid (B_9.out.trans (Below.mono hb B_9.out.size))
  have P7_11 := Lib.hid (P7_9.out.below hb)
  have K7_11 := Lib.hid (K7_9.out.below hb)
  have K9_11 := Lib.hid (K9_0.out.below hb)
  clear hb K_9 P_9 B_9 P7_9 K7_9 K9_0
  have BAx := below_alloc w29 (.cells (prC zeroPr qt) 26)
  have KT_0 := Lib.hid (Bx.new w29 (prC zeroPr qt) 26)
  have K_12 := Lib.hid (K_11.out.below BAx)
  have P_12 := Lib.hid (P_11.out.below BAx)
  have B_12 := Lib.hid (B_11.out.trans (Below.mono BAx B_11.out.size))
  have P7_12 := Lib.hid (P7_11.out.below BAx)
  have K7_12 := Lib.hid (K7_11.out.below BAx)
  have K9_12 := Lib.hid (K9_11.out.below BAx)
  have PT_12 := Lib.hid (PT_0.out.below BAx)
  clear BAx K_11 P_11 B_11 P7_11 K7_11 K9_11 PT_0
  go_upto_region 13 with (fail)
  obtain ⟨bt, hbt⟩ : ∃ b, b = w29.heap.size := ⟨_, rfl⟩
  obtain ⟨w30, hw30⟩ : ∃ x, x = w29.alloc (.cells (prC zeroPr qt) 26) := ⟨_, rfl⟩
  have hw' := hw30
  simp only [prC, zeroPr] at hw'
  rw [← hw30] at K_12 P_12 B_12 P7_12 K7_12 K9_12 PT_12 KT_0
  rw [← hbt] at KT_0 ⊢
  first | rw [← hw30] | rw [← hw']
  clear hw30 hw' hbt
  have HSZ := Lib.hid (fun W (H : Prg W zeroPr qt) => Same_yes zeroPr qt zeroAt W H (Prg.zero W))
  simp only [prV, prC, zeroAt] at HSZ
  simp only [show zeroPr.mu = 0 from rfl, show zeroPr.on = 0 from rfl, show zeroPr.va = 0 from rfl] at HSZ
  obtain ⟨a0, a1, a2, a3, a4, a5⟩ := KT_0.out.cells6
  simp only [zeroPr] at a0 a1 a2 a3 a4 a5
  go_wp2_with fail
  clear a0 a1 a2 a3 a4 a5
  refine (HSZ.out _ PT_12.out).mono ?_
  rintro e w31 ⟨rfl, hb⟩
  have K_14 := Lib.hid (K_12.out.below hb)
  have P_14 := Lib.hid (P_12.out.below hb)
  have B_14 := Lib.hid (B_12.out.trans (Below.mono hb B_12.out.size))
  have P7_14 := Lib.hid (P7_12.out.below hb)
  have K7_14 := Lib.hid (K7_12.out.below hb)
  have K9_14 := Lib.hid (K9_12.out.below hb)
  have PT_14 := Lib.hid (PT_12.out.below hb)
  have KT_14 := Lib.hid (KT_0.out.below hb)
  clear hb K_12 P_12 B_12 P7_12 K7_12 K9_12 PT_12 KT_0
  go_wp2_with fail
  go_ret
  exact ⟨rfl, B_14.out⟩
set_option maxRecDepth 100000 in
set_option maxHeartbeats 8000000 in
theorem back_bad_yes (p0 : Pr) (q0 : PAt) (s : ByteArray) (w : World) (h : Prg w p0 q0) (hr : rightP (fewP p0) = false) (hs : s.size ≤ 9223372036854775807)
    (c : Int) (pd : Pr) (hd : decZ ((tx s).take 600) = (pd, c)) (hc : c = 0) : Calls Try.prog 5 #[prV p0 q0, .string s] w (Says w) := by
  obtain ⟨s1, hs1⟩ : ∃ s1, s1 = s.extract 0 (min s.size 600) := ⟨_, rfl⟩
  have hs1l : s1.size ≤ 600 := by rw [hs1, ByteArray.size_extract]; omega
  have htx : tx s1 = (tx s).take 600 := by
    rw [hs1, tx_take]
    by_cases h6 : s.size ≤ 600
    · rw [Nat.min_eq_left h6, List.take_of_length_le (by rw [tx_len]; omega), List.take_of_length_le (by rw [tx_len]; omega)]
    · rw [Nat.min_eq_right (by omega)]
  rw [← htx] at hd
  have HDT := Lib.hid (fun W => Decode_any s1 W (by omega))
  rw [hd] at HDT
  unfold GotDec at HDT
  dsimp only at HDT
  obtain ⟨hcond, hval⟩ := cut600 s
  rw [← hs1] at hval
  obtain ⟨m, hm⟩ : ∃ m : Int, m = (if (600 : Int) < (s.size : Int) then (600 : Int) else (s.size : Int)) := ⟨_, rfl⟩
  rw [← hm] at hcond hval
  have HM := Lib.hid hm.symm
  have HCN := Lib.hid hcond; have HVL := Lib.hid hval
  clear hcond hval hm
  subst hc
  obtain ⟨hrd, hbk⟩ := dec_back (tx_byt s1) hd rfl
  have hS1 : bytesP pd = s1 := by unfold bytesP; rw [hbk, strOf_tx]
  have HED := Lib.hid (fun W q (H : Prg W pd q) => Encode_ok pd q W H hrd)
  rw [hS1] at HED
  have HRD := Lib.hid (fun W q (H : Prg W pd q) => Right_any pd q W H)
  rw [hrd] at HRD
  clear hrd hbk hS1
  clear hd htx hs hs1
  have B_0 := Lib.hid (below_alloc w (.cells (prC p0 q0) 26))
  have K_0 := Lib.hid (Bx.new w (prC p0 q0) 26)
  have HF := Lib.hid (few_any p0 q0 w (w.alloc (.cells (prC p0 q0) 26)).drew h B_0.out.drew)
  obtain ⟨p, hpe⟩ : ∃ p, p = fewP p0 := ⟨_, rfl⟩
  rw [← hpe] at HF hr
  unfold GotP at HF
  clear h hpe
  obtain ⟨BK, hBK⟩ : ∃ x, x = w.heap.size := ⟨_, rfl⟩
  obtain ⟨wA, hwA⟩ : ∃ x, x = w.alloc (.cells (prC p0 q0) 26) := ⟨_, rfl⟩
  have HBK := Lib.hid hBK; have HWA := Lib.hid hwA
  have HSA := Lib.hid (show wA.heap.size = w.heap.size + 1 by rw [hwA]; simp)
  rw [← hwA] at K_0 B_0 HF
  rw [← hBK] at K_0
  clear hBK hwA
  have HE := Lib.hid (fun W q (H : Prg W p q) => Encode_no p q W H hr)
  have HR := Lib.hid (fun W q (H : Prg W p q) => Right_any p q W H)
  rw [hr] at HR
  clear hr
  go_enter Try.func5, Try.ntmps5
  go_upto_region 1 with (fail)
  rw [← HWA.out, ← HBK.out]
  refine wp_region_held_drew (S := (fun _ => True)) (by kernel_rfl) (trivial) (fun hHeld => ?_)
  (try simp only [Act.put, List.getElem_toArray, List.getElem_cons_zero, List.getElem_cons_succ, List.setIfInBounds_toArray, List.set_cons_zero, List.set_cons_succ])
  refine wpAnyH_take (i := 2) (v := ?_) rfl (by kernel_rfl) (by kernel_rfl) (by kernel_rfl) (fun _ _ _ h => h) (Or.inl ⟨by rfl, ?_⟩) (by assumption) ?_
  rotate_left
  · (intro w hSw; (try dsimp only at hSw); go_simp; try with_reducible rfl)
  (try simp only [Act.put, List.getElem_toArray, List.getElem_cons_zero, List.getElem_cons_succ, List.setIfInBounds_toArray, List.set_cons_zero, List.set_cons_succ])
  refine wpAnyH_take (i := 3) (v := ?_) rfl (by kernel_rfl) (by kernel_rfl) (by kernel_rfl) (fun _ _ _ h => h) (Or.inl ⟨by rfl, ?_⟩) (by assumption) ?_
  rotate_left
  · (intro w hSw; (try dsimp only at hSw); go_simp; try with_reducible rfl)
  (try simp only [Act.put, List.getElem_toArray, List.getElem_cons_zero, List.getElem_cons_succ, List.setIfInBounds_toArray, List.set_cons_zero, List.set_cons_succ])
  refine wpAnyH_take (i := 4) (v := ?_) rfl (by kernel_rfl) (by kernel_rfl) (by kernel_rfl) (fun _ _ _ h => h) (Or.inl ⟨by rfl, ?_⟩) (by assumption) ?_
  rotate_left
  · (intro w hSw; (try dsimp only at hSw); go_simp; try with_reducible rfl)
  (try simp only [Act.put, List.getElem_toArray, List.getElem_cons_zero, List.getElem_cons_succ, List.setIfInBounds_toArray, List.set_cons_zero, List.set_cons_succ])
  refine wpAnyH_take (i := 5) (v := .int .i64 m) rfl (by kernel_rfl) (by kernel_rfl) (by kernel_rfl) (fun _ _ _ h => h) (Or.inl ⟨by rfl, ?_⟩) (by assumption) ?_
  · (intro w hSw; go_simp; rw [HM.out])
  (try simp only [Act.put, List.getElem_toArray, List.getElem_cons_zero, List.getElem_cons_succ, List.setIfInBounds_toArray, List.set_cons_zero, List.set_cons_succ])
  refine wpAnyH_take (i := 6) (v := .string s1) rfl (by kernel_rfl) (by kernel_rfl) (by kernel_rfl) (fun _ _ _ h => h) (Or.inl ⟨by rfl, ?_⟩) (by assumption) ?_
  · (intro w hSw; go_simp; rw [if_pos HCN.out, HVL.out])
  (try simp only [Act.put, List.getElem_toArray, List.getElem_cons_zero, List.getElem_cons_succ, List.setIfInBounds_toArray, List.set_cons_zero, List.set_cons_succ])
  obtain ⟨k0, k1, k2, k3, k4, k5⟩ := Bx.cells6 (show Bx wA.drew BK _ 26 from K_0.out)
  refine wpAnyH_ready (rs := [0]) (by kernel_rfl) (by simp) ?_
  refine AllReadyH.cons (o := _) rfl (fun K hK => ?_) AllReadyH.nil
  go_simp
  clear k0 k1 k2 k3 k4 k5
  clear hHeld
  refine hK.out _ _ (trivial) (fun hHeld => ?_)
  clear hK K
  (try simp only [Act.put, List.getElem_toArray, List.getElem_cons_zero, List.getElem_cons_succ, List.setIfInBounds_toArray, List.set_cons_zero, List.set_cons_succ])
  refine wpAnyH_ready (rs := [1]) (by kernel_rfl) (by simp) ?_
  refine AllReadyH.cons (o := _) rfl (fun K hK => ?_) AllReadyH.nil
  go_simp
  refine (HF.out).mono ?_
  rintro e w1 ⟨q, rfl, hp, hb⟩
  have K_1 := Lib.hid (show Bx w1 BK (prC p0 q0) 26 from Bx.below (show Bx wA.drew BK _ 26 from K_0.out) hb); have B_1 := Lib.hid (B_0.out.drew.trans (Below.mono hb B_0.out.size)); have HP := Lib.hid hp
  clear hb hp K_0 B_0 HF
  clear hHeld
  refine hK.out _ _ (trivial) (fun hHeld => ?_)
  clear hK K
  (try simp only [Act.put, List.getElem_toArray, List.getElem_cons_zero, List.getElem_cons_succ, List.setIfInBounds_toArray, List.set_cons_zero, List.set_cons_succ])
  obtain ⟨k0, k1, k2, k3, k4, k5⟩ := K_1.out.cells6
  have lk := Bx.lt K_1.out
  have f0 := Bx.froz K_1.out 0; have f1 := Bx.froz K_1.out 1; have f2 := Bx.froz K_1.out 2; have f3 := Bx.froz K_1.out 3; have f4 := Bx.froz K_1.out 4; have f5 := Bx.froz K_1.out 5
  refine wpAnyH_ready (rs := [7]) (by kernel_rfl) (by simp) ?_
  refine AllReadyH.cons (o := _) rfl (fun K hK => ?_) AllReadyH.nil
  go_simp
  clear k0 k1 k2 k3 k4 k5 lk f0 f1 f2 f3 f4 f5
  clear hHeld
  refine hK.out _ _ (trivial) (fun hHeld => ?_)
  clear hK K
  (try simp only [Act.put, List.getElem_toArray, List.getElem_cons_zero, List.getElem_cons_succ, List.setIfInBounds_toArray, List.set_cons_zero, List.set_cons_succ])
  refine wpAnyH_take (i := 8) (v := ?_) rfl (by kernel_rfl) (by kernel_rfl) (by kernel_rfl) (fun _ _ _ h => h) (Or.inl ⟨by rfl, ?_⟩) (by assumption) ?_
  rotate_left
  · (intro w hSw; (try dsimp only at hSw); go_simp; try with_reducible rfl)
  (try simp only [Act.put, List.getElem_toArray, List.getElem_cons_zero, List.getElem_cons_succ, List.setIfInBounds_toArray, List.set_cons_zero, List.set_cons_succ])
  refine wpAnyH_done (by kernel_rfl) ?_ _
  clear hHeld
  have hbk := HBK.out; have hsa := HSA.out
  obtain ⟨X2, hX2⟩ : ∃ x, x = st6 w1 BK (.slice q.ca q.cn q.cc) (.int .i64 p.mu) (.int .i64 p.on) (.int .i64 p.va) (.slice q.sa q.sn q.sc) (.slice q.ba q.bn q.bc) := ⟨_, rfl⟩
  have B0 := Lib.hid (show Below w.heap.size w X2 by rw [hX2]; exact B_1.out.trans (below_grown (grown_st6 (World.grownBy.refl w1 (some BK)) _ _ _ _ _ _) (by omega) B_1.out.size))
  have K0 := Lib.hid (show Bx X2 BK (prC p q) 26 by rw [hX2]; exact K_1.out.st6 _ _ _ _ _ _)
  have P0 := Lib.hid (HP.out X2 B0.out (fun g hg => by
    have hg' : w.heap.size + 1 < g + 1 := by rw [← hsa]; exact hg
    rw [hX2]
    by_cases hgs : g < w1.heap.size
    · exact (grown_st6 (World.grownBy.refl w1 (some BK)) _ _ _ _ _ _).block g hgs (some_ne (by omega))
    · have hsz := st6_size w1 BK (.slice q.ca q.cn q.cc) (.int .i64 p.mu) (.int .i64 p.on) (.int .i64 p.va) (.slice q.sa q.sn q.sc) (.slice q.ba q.bn q.bc)
      rw [Array.getElem?_eq_none (by rw [hsz]; omega), Array.getElem?_eq_none (by omega)]))
  simp only [st6] at hX2
  rw [← hX2]
  clear hX2 hbk hsa K_1 B_1 HP
  obtain ⟨k0, k1, k2, k3, k4, k5⟩ := K0.out.cells6
  go_wp2_with fail
  clear k0 k1 k2 k3 k4 k5
  refine (HE.out _ _ P0.out).mono ?_
  rintro e w21 ⟨rfl, hb⟩
  have K_1 := Lib.hid (K0.out.below hb)
  have P_1 := Lib.hid (P0.out.below hb)
  have B_1 := Lib.hid (B0.out.trans (Below.mono hb B0.out.size))
  clear hb K0 P0 B0
  obtain ⟨k0, k1, k2, k3, k4, k5⟩ := K_1.out.cells6
  go_wp2_with fail
  clear k0 k1 k2 k3 k4 k5
  refine (HR.out _ _ P_1.out).mono ?_
  rintro e w22 ⟨rfl, hb⟩
  have K_2 := Lib.hid (K_1.out.below hb)
  have P_2 := Lib.hid (P_1.out.below hb)
  have B_2 := Lib.hid (B_1.out.trans (Below.mono hb B_1.out.size))
  clear hb K_1 P_1 B_1
  go_wp2_with fail
  refine (alive_any _).mono ?_
  rintro e w23 ⟨rfl, hb⟩
  have K_3 := Lib.hid (K_2.out.below hb)
  have P_3 := Lib.hid (P_2.out.below hb)
  have B_3 := Lib.hid (B_2.out.trans (Below.mono hb B_2.out.size))
  clear hb K_2 P_2 B_2
  go_wp2_with fail
  refine (HDT.out _).mono ?_
  rintro e w24 ⟨qt, rfl, hpt, hb⟩
  have PT_0 := Lib.hid hpt
  clear hpt
  have K_4 := Lib.hid (K_3.out.below hb)
  have P_4 := Lib.hid (P_3.out.below hb)
  have B_4 := Lib.hid (B_3.out.trans (Below.mono hb B_3.out.size))
  clear hb K_3 P_3 B_3
  have BAx := below_alloc w24 (.cells (prC pd qt) 26)
  have KT_0 := Lib.hid (Bx.new w24 (prC pd qt) 26)
  have K_5 := Lib.hid (K_4.out.below BAx)
  have P_5 := Lib.hid (P_4.out.below BAx)
  have B_5 := Lib.hid (B_4.out.trans (Below.mono BAx B_4.out.size))
  have PT_5 := Lib.hid (PT_0.out.below BAx)
  clear BAx K_4 P_4 B_4 PT_0
  go_upto_region 13 with (fail)
  obtain ⟨bt, hbt⟩ : ∃ b, b = w24.heap.size := ⟨_, rfl⟩
  obtain ⟨w25, hw25⟩ : ∃ x, x = w24.alloc (.cells (prC pd qt) 26) := ⟨_, rfl⟩
  have hw' := hw25
  simp only [prC] at hw'
  rw [← hw25] at K_5 P_5 B_5 PT_5 KT_0
  rw [← hbt] at KT_0 ⊢
  first | rw [← hw25] | rw [← hw']
  clear hw25 hw' hbt
  obtain ⟨a0, a1, a2, a3, a4, a5⟩ := KT_0.out.cells6
  go_wp2_with fail
  clear a0 a1 a2 a3 a4 a5
  refine (HED.out _ _ PT_5.out).mono ?_
  rintro e w26 ⟨rfl, hb⟩
  have K_7 := Lib.hid (K_5.out.below hb)
  have P_7 := Lib.hid (P_5.out.below hb)
  have B_7 := Lib.hid (B_5.out.trans (Below.mono hb B_5.out.size))
  have PT_7 := Lib.hid (PT_5.out.below hb)
  have KT_7 := Lib.hid (KT_0.out.below hb)
  clear hb K_5 P_5 B_5 PT_5 KT_0
  obtain ⟨a0, a1, a2, a3, a4, a5⟩ := KT_7.out.cells6
  go_wp2_with fail
  clear a0 a1 a2 a3 a4 a5
  refine (HRD.out _ _ PT_7.out).mono ?_
  rintro e w27 ⟨rfl, hb⟩
  have K_8 := Lib.hid (K_7.out.below hb)
  have P_8 := Lib.hid (P_7.out.below hb)
  have B_8 := Lib.hid (B_7.out.trans (Below.mono hb B_7.out.size))
  have PT_8 := Lib.hid (PT_7.out.below hb)
  have KT_8 := Lib.hid (KT_7.out.below hb)
  clear hb K_7 P_7 B_7 PT_7 KT_7
  go_wp2_with fail
  go_ret
  exact ⟨ret_bool (by first | rfl | simp), B_8.out⟩
set_option maxRecDepth 100000 in
set_option maxHeartbeats 8000000 in
theorem back_bad_no (p0 : Pr) (q0 : PAt) (s : ByteArray) (w : World) (h : Prg w p0 q0) (hr : rightP (fewP p0) = false) (hs : s.size ≤ 9223372036854775807)
    (c : Int) (pd : Pr) (hd : decZ ((tx s).take 600) = (pd, c)) (hc : c ≠ 0) : Calls Try.prog 5 #[prV p0 q0, .string s] w (Says w) := by
  obtain ⟨s1, hs1⟩ : ∃ s1, s1 = s.extract 0 (min s.size 600) := ⟨_, rfl⟩
  have hs1l : s1.size ≤ 600 := by rw [hs1, ByteArray.size_extract]; omega
  have htx : tx s1 = (tx s).take 600 := by
    rw [hs1, tx_take]
    by_cases h6 : s.size ≤ 600
    · rw [Nat.min_eq_left h6, List.take_of_length_le (by rw [tx_len]; omega), List.take_of_length_le (by rw [tx_len]; omega)]
    · rw [Nat.min_eq_right (by omega)]
  rw [← htx] at hd
  have HDT := Lib.hid (fun W => Decode_any s1 W (by omega))
  rw [hd] at HDT
  unfold GotDec at HDT
  dsimp only at HDT
  obtain ⟨hcond, hval⟩ := cut600 s
  rw [← hs1] at hval
  obtain ⟨m, hm⟩ : ∃ m : Int, m = (if (600 : Int) < (s.size : Int) then (600 : Int) else (s.size : Int)) := ⟨_, rfl⟩
  rw [← hm] at hcond hval
  have HM := Lib.hid hm.symm
  have HCN := Lib.hid hcond; have HVL := Lib.hid hval
  clear hcond hval hm
  have hpz := dec_zero hd hc
  subst hpz
  have hcn : ¬ c = 0 := hc
  have hc0 : (c == 0) = false := by rw [beq_eq_false_iff_ne]; exact hc
  have hcne : (c != 0) = true := by simp [hc]
  clear hd htx hs hs1
  have B_0 := Lib.hid (below_alloc w (.cells (prC p0 q0) 26))
  have K_0 := Lib.hid (Bx.new w (prC p0 q0) 26)
  have HF := Lib.hid (few_any p0 q0 w (w.alloc (.cells (prC p0 q0) 26)).drew h B_0.out.drew)
  obtain ⟨p, hpe⟩ : ∃ p, p = fewP p0 := ⟨_, rfl⟩
  rw [← hpe] at HF hr
  unfold GotP at HF
  clear h hpe
  obtain ⟨BK, hBK⟩ : ∃ x, x = w.heap.size := ⟨_, rfl⟩
  obtain ⟨wA, hwA⟩ : ∃ x, x = w.alloc (.cells (prC p0 q0) 26) := ⟨_, rfl⟩
  have HBK := Lib.hid hBK; have HWA := Lib.hid hwA
  have HSA := Lib.hid (show wA.heap.size = w.heap.size + 1 by rw [hwA]; simp)
  rw [← hwA] at K_0 B_0 HF
  rw [← hBK] at K_0
  clear hBK hwA
  have HE := Lib.hid (fun W q (H : Prg W p q) => Encode_no p q W H hr)
  have HR := Lib.hid (fun W q (H : Prg W p q) => Right_any p q W H)
  rw [hr] at HR
  clear hr
  go_enter Try.func5, Try.ntmps5
  go_upto_region 1 with (fail)
  rw [← HWA.out, ← HBK.out]
  refine wp_region_held_drew (S := (fun _ => True)) (by kernel_rfl) (trivial) (fun hHeld => ?_)
  (try simp only [Act.put, List.getElem_toArray, List.getElem_cons_zero, List.getElem_cons_succ, List.setIfInBounds_toArray, List.set_cons_zero, List.set_cons_succ])
  refine wpAnyH_take (i := 2) (v := ?_) rfl (by kernel_rfl) (by kernel_rfl) (by kernel_rfl) (fun _ _ _ h => h) (Or.inl ⟨by rfl, ?_⟩) (by assumption) ?_
  rotate_left
  · (intro w hSw; (try dsimp only at hSw); go_simp; try with_reducible rfl)
  (try simp only [Act.put, List.getElem_toArray, List.getElem_cons_zero, List.getElem_cons_succ, List.setIfInBounds_toArray, List.set_cons_zero, List.set_cons_succ])
  refine wpAnyH_take (i := 3) (v := ?_) rfl (by kernel_rfl) (by kernel_rfl) (by kernel_rfl) (fun _ _ _ h => h) (Or.inl ⟨by rfl, ?_⟩) (by assumption) ?_
  rotate_left
  · (intro w hSw; (try dsimp only at hSw); go_simp; try with_reducible rfl)
  (try simp only [Act.put, List.getElem_toArray, List.getElem_cons_zero, List.getElem_cons_succ, List.setIfInBounds_toArray, List.set_cons_zero, List.set_cons_succ])
  refine wpAnyH_take (i := 4) (v := ?_) rfl (by kernel_rfl) (by kernel_rfl) (by kernel_rfl) (fun _ _ _ h => h) (Or.inl ⟨by rfl, ?_⟩) (by assumption) ?_
  rotate_left
  · (intro w hSw; (try dsimp only at hSw); go_simp; try with_reducible rfl)
  (try simp only [Act.put, List.getElem_toArray, List.getElem_cons_zero, List.getElem_cons_succ, List.setIfInBounds_toArray, List.set_cons_zero, List.set_cons_succ])
  refine wpAnyH_take (i := 5) (v := .int .i64 m) rfl (by kernel_rfl) (by kernel_rfl) (by kernel_rfl) (fun _ _ _ h => h) (Or.inl ⟨by rfl, ?_⟩) (by assumption) ?_
  · (intro w hSw; go_simp; rw [HM.out])
  (try simp only [Act.put, List.getElem_toArray, List.getElem_cons_zero, List.getElem_cons_succ, List.setIfInBounds_toArray, List.set_cons_zero, List.set_cons_succ])
  refine wpAnyH_take (i := 6) (v := .string s1) rfl (by kernel_rfl) (by kernel_rfl) (by kernel_rfl) (fun _ _ _ h => h) (Or.inl ⟨by rfl, ?_⟩) (by assumption) ?_
  · (intro w hSw; go_simp; rw [if_pos HCN.out, HVL.out])
  (try simp only [Act.put, List.getElem_toArray, List.getElem_cons_zero, List.getElem_cons_succ, List.setIfInBounds_toArray, List.set_cons_zero, List.set_cons_succ])
  obtain ⟨k0, k1, k2, k3, k4, k5⟩ := Bx.cells6 (show Bx wA.drew BK _ 26 from K_0.out)
  refine wpAnyH_ready (rs := [0]) (by kernel_rfl) (by simp) ?_
  refine AllReadyH.cons (o := _) rfl (fun K hK => ?_) AllReadyH.nil
  go_simp
  clear k0 k1 k2 k3 k4 k5
  clear hHeld
  refine hK.out _ _ (trivial) (fun hHeld => ?_)
  clear hK K
  (try simp only [Act.put, List.getElem_toArray, List.getElem_cons_zero, List.getElem_cons_succ, List.setIfInBounds_toArray, List.set_cons_zero, List.set_cons_succ])
  refine wpAnyH_ready (rs := [1]) (by kernel_rfl) (by simp) ?_
  refine AllReadyH.cons (o := _) rfl (fun K hK => ?_) AllReadyH.nil
  go_simp
  refine (HF.out).mono ?_
  rintro e w1 ⟨q, rfl, hp, hb⟩
  have K_1 := Lib.hid (show Bx w1 BK (prC p0 q0) 26 from Bx.below (show Bx wA.drew BK _ 26 from K_0.out) hb); have B_1 := Lib.hid (B_0.out.drew.trans (Below.mono hb B_0.out.size)); have HP := Lib.hid hp
  clear hb hp K_0 B_0 HF
  clear hHeld
  refine hK.out _ _ (trivial) (fun hHeld => ?_)
  clear hK K
  (try simp only [Act.put, List.getElem_toArray, List.getElem_cons_zero, List.getElem_cons_succ, List.setIfInBounds_toArray, List.set_cons_zero, List.set_cons_succ])
  obtain ⟨k0, k1, k2, k3, k4, k5⟩ := K_1.out.cells6
  have lk := Bx.lt K_1.out
  have f0 := Bx.froz K_1.out 0; have f1 := Bx.froz K_1.out 1; have f2 := Bx.froz K_1.out 2; have f3 := Bx.froz K_1.out 3; have f4 := Bx.froz K_1.out 4; have f5 := Bx.froz K_1.out 5
  refine wpAnyH_ready (rs := [7]) (by kernel_rfl) (by simp) ?_
  refine AllReadyH.cons (o := _) rfl (fun K hK => ?_) AllReadyH.nil
  go_simp
  clear k0 k1 k2 k3 k4 k5 lk f0 f1 f2 f3 f4 f5
  clear hHeld
  refine hK.out _ _ (trivial) (fun hHeld => ?_)
  clear hK K
  (try simp only [Act.put, List.getElem_toArray, List.getElem_cons_zero, List.getElem_cons_succ, List.setIfInBounds_toArray, List.set_cons_zero, List.set_cons_succ])
  refine wpAnyH_take (i := 8) (v := ?_) rfl (by kernel_rfl) (by kernel_rfl) (by kernel_rfl) (fun _ _ _ h => h) (Or.inl ⟨by rfl, ?_⟩) (by assumption) ?_
  rotate_left
  · (intro w hSw; (try dsimp only at hSw); go_simp; try with_reducible rfl)
  (try simp only [Act.put, List.getElem_toArray, List.getElem_cons_zero, List.getElem_cons_succ, List.setIfInBounds_toArray, List.set_cons_zero, List.set_cons_succ])
  refine wpAnyH_done (by kernel_rfl) ?_ _
  clear hHeld
  have hbk := HBK.out; have hsa := HSA.out
  obtain ⟨X2, hX2⟩ : ∃ x, x = st6 w1 BK (.slice q.ca q.cn q.cc) (.int .i64 p.mu) (.int .i64 p.on) (.int .i64 p.va) (.slice q.sa q.sn q.sc) (.slice q.ba q.bn q.bc) := ⟨_, rfl⟩
  have B0 := Lib.hid (show Below w.heap.size w X2 by rw [hX2]; exact B_1.out.trans (below_grown (grown_st6 (World.grownBy.refl w1 (some BK)) _ _ _ _ _ _) (by omega) B_1.out.size))
  have K0 := Lib.hid (show Bx X2 BK (prC p q) 26 by rw [hX2]; exact K_1.out.st6 _ _ _ _ _ _)
  have P0 := Lib.hid (HP.out X2 B0.out (fun g hg => by
    have hg' : w.heap.size + 1 < g + 1 := by rw [← hsa]; exact hg
    rw [hX2]
    by_cases hgs : g < w1.heap.size
    · exact (grown_st6 (World.grownBy.refl w1 (some BK)) _ _ _ _ _ _).block g hgs (some_ne (by omega))
    · have hsz := st6_size w1 BK (.slice q.ca q.cn q.cc) (.int .i64 p.mu) (.int .i64 p.on) (.int .i64 p.va) (.slice q.sa q.sn q.sc) (.slice q.ba q.bn q.bc)
      rw [Array.getElem?_eq_none (by rw [hsz]; omega), Array.getElem?_eq_none (by omega)]))
  simp only [st6] at hX2
  rw [← hX2]
  clear hX2 hbk hsa K_1 B_1 HP
  obtain ⟨k0, k1, k2, k3, k4, k5⟩ := K0.out.cells6
  go_wp2_with fail
  clear k0 k1 k2 k3 k4 k5
  refine (HE.out _ _ P0.out).mono ?_
  rintro e w21 ⟨rfl, hb⟩
  have K_1 := Lib.hid (K0.out.below hb)
  have P_1 := Lib.hid (P0.out.below hb)
  have B_1 := Lib.hid (B0.out.trans (Below.mono hb B0.out.size))
  clear hb K0 P0 B0
  obtain ⟨k0, k1, k2, k3, k4, k5⟩ := K_1.out.cells6
  go_wp2_with fail
  clear k0 k1 k2 k3 k4 k5
  refine (HR.out _ _ P_1.out).mono ?_
  rintro e w22 ⟨rfl, hb⟩
  have K_2 := Lib.hid (K_1.out.below hb)
  have P_2 := Lib.hid (P_1.out.below hb)
  have B_2 := Lib.hid (B_1.out.trans (Below.mono hb B_1.out.size))
  clear hb K_1 P_1 B_1
  go_wp2_with fail
  refine (alive_any _).mono ?_
  rintro e w23 ⟨rfl, hb⟩
  have K_3 := Lib.hid (K_2.out.below hb)
  have P_3 := Lib.hid (P_2.out.below hb)
  have B_3 := Lib.hid (B_2.out.trans (Below.mono hb B_2.out.size))
  clear hb K_2 P_2 B_2
  go_wp2_with fail
  refine (HDT.out _).mono ?_
  rintro e w24 ⟨qt, rfl, hpt, hb⟩
  have PT_0 := Lib.hid hpt
  clear hpt
  have K_4 := Lib.hid (K_3.out.below hb)
  have P_4 := Lib.hid (P_3.out.below hb)
  have B_4 := Lib.hid (B_3.out.trans (Below.mono hb B_3.out.size))
  clear hb K_3 P_3 B_3
  have BAx := below_alloc w24 (.cells (prC zeroPr qt) 26)
  have KT_0 := Lib.hid (Bx.new w24 (prC zeroPr qt) 26)
  have K_5 := Lib.hid (K_4.out.below BAx)
  have P_5 := Lib.hid (P_4.out.below BAx)
  have B_5 := Lib.hid (B_4.out.trans (Below.mono BAx B_4.out.size))
  have PT_5 := Lib.hid (PT_0.out.below BAx)
  clear BAx K_4 P_4 B_4 PT_0
  go_upto_region 13 with (fail)
  obtain ⟨bt, hbt⟩ : ∃ b, b = w24.heap.size := ⟨_, rfl⟩
  obtain ⟨w25, hw25⟩ : ∃ x, x = w24.alloc (.cells (prC zeroPr qt) 26) := ⟨_, rfl⟩
  have hw' := hw25
  simp only [prC, zeroPr] at hw'
  rw [← hw25] at K_5 P_5 B_5 PT_5 KT_0
  rw [← hbt] at KT_0 ⊢
  first | rw [← hw25] | rw [← hw']
  clear hw25 hw' hbt
  have HSZ := Lib.hid (fun W (H : Prg W zeroPr qt) => Same_yes zeroPr qt zeroAt W H (Prg.zero W))
  simp only [prV, prC, zeroAt] at HSZ
  simp only [show zeroPr.mu = 0 from rfl, show zeroPr.on = 0 from rfl, show zeroPr.va = 0 from rfl] at HSZ
  obtain ⟨a0, a1, a2, a3, a4, a5⟩ := KT_0.out.cells6
  simp only [zeroPr] at a0 a1 a2 a3 a4 a5
  go_wp2_with fail
  clear a0 a1 a2 a3 a4 a5
  refine (HSZ.out _ PT_5.out).mono ?_
  rintro e w26 ⟨rfl, hb⟩
  have K_7 := Lib.hid (K_5.out.below hb)
  have P_7 := Lib.hid (P_5.out.below hb)
  have B_7 := Lib.hid (B_5.out.trans (Below.mono hb B_5.out.size))
  have PT_7 := Lib.hid (PT_5.out.below hb)
  have KT_7 := Lib.hid (KT_0.out.below hb)
  clear hb K_5 P_5 B_5 PT_5 KT_0
  go_wp2_with fail
  go_ret
  exact ⟨rfl, B_7.out⟩
theorem back_any (p : Pr) (q : PAt) (s : ByteArray) (w : World) (h : Prg w p q) (hs : s.size ≤ 9223372036854775807) : Calls Try.prog 5 #[prV p q, .string s] w (Says w) := by
  obtain ⟨z, hz⟩ : ∃ z, z = decZ ((tx s).take 600) := ⟨_, rfl⟩
  obtain ⟨pd, c⟩ := z
  by_cases hc : c = 0
  · cases hr : rightP (fewP p) with
    | false => exact back_bad_yes p q s w h hr hs c pd hz.symm hc
    | true => exact back_ok_yes p q s w h hr hs c pd hz.symm hc
  · cases hr : rightP (fewP p) with
    | false => exact back_bad_no p q s w h hr hs c pd hz.symm hc
    | true => exact back_ok_no p q s w h hr hs c pd hz.symm hc
end Go.Proofs.Ytddkckppmjcclaa
