/- TextBack: the walk. -/
import Derived.Test.YtpdlfijcicboiaaDoorI1
import Derived.Test.YtpdlfijcicboiaaDoorLawParses
import Derived.Deep.RegionHeld
namespace Go.Proofs.YtpdlfijcicboiaaDoor
open Go.RowKit
set_option linter.unusedSimpArgs false
set_option linter.unusedVariables false
set_option maxRecDepth 100000 in
set_option maxHeartbeats 8000000 in
theorem back_few (a : Option Addr) (n c : Nat) (L : List Ins) (s : ByteArray) (w : World) (h : Blk w a n c L) (hE : Env w) (hs : s.size ≤ 1100) : Calls Tryd.prog 5 #[.slice a n c, .string s] w (Says w) := by
  have hm' : min (s.size : Int) 1100 = (s.size : Int) := Int.min_eq_left (by omega)
  have hT1 : s.size ≤ 10000 := by
    omega
  obtain ⟨T, hT⟩ : ∃ T, T = s := ⟨_, rfl⟩
  rw [← hT] at hT1
  have HT := Lib.hid hT
  have HT1 := Lib.hid hT1
  have HE := Lib.hid hE
  have h30 : min n 30 ≤ 30 := Nat.min_le_right _ _
  have H_0 := Lib.hid (h.take 30)
  obtain ⟨m, hm⟩ : ∃ m, m = min n 30 := ⟨_, rfl⟩
  obtain ⟨L', hL'⟩ : ∃ z, z = L.take 30 := ⟨_, rfl⟩
  have HF := Lib.hid (few_any a n c L w.drew (h.below (Below.refl w.heap.size w).drew))
  rw [← hm] at HF H_0 h30
  rw [← hL'] at H_0
  have HLN := Lib.hid H_0.out.recs.len_eq
  have HP := Lib.hid (fun W (h : Blk W a m c L') (e : Env W) => Print_any a m c L' W h e)
  have HA := Lib.hid (fun W (h : Env W) => alive_any W h.1)
  have HPT := Lib.hid (fun W (h : Env W) => Parse_any T W HT1.out h.1)
  have HTO := Lib.hid (fun h => pe_ok (s := T) h)
  have HTN := Lib.hid (fun h => pe_no (s := T) h)
  unfold PairTo at HP
  unfold ParTo at HPT
  obtain ⟨⟨PL, pi, pj⟩, hp⟩ : ∃ p, p = peZ T := ⟨_, rfl⟩
  rw [← hp] at HPT HTO HTN
  dsimp only at HPT HTO HTN
  obtain ⟨⟨S, why⟩, hq⟩ : ∃ p, p = prZ L' := ⟨_, rfl⟩
  rw [← hq] at HP
  dsimp only at HP
  have HQ := Lib.hid hq
  have B_0 := Lib.hid (Below.refl w.heap.size w)
  clear h hm hL' hE hp hq hT hT1
  go_enter Tryd.func5, Tryd.ntmps5
  go_upto_region 1 with (fail)
  refine wp_region_held_drew (S := (fun _ => True)) (by kernel_rfl) (trivial) (fun hHeld => ?_)
  (try simp only [Act.put, List.getElem_toArray, List.getElem_cons_zero, List.getElem_cons_succ, List.setIfInBounds_toArray, List.set_cons_zero, List.set_cons_succ])
  refine wpAnyH_take (i := 0) (v := ?_) rfl (by kernel_rfl) (by kernel_rfl) (by kernel_rfl) (fun _ _ _ h => h) (Or.inl ⟨by rfl, ?_⟩) (by assumption) ?_
  rotate_left
  · (intro w hSw; (try dsimp only at hSw); go_simp; try with_reducible rfl)
  (try simp only [Act.put, List.getElem_toArray, List.getElem_cons_zero, List.getElem_cons_succ, List.setIfInBounds_toArray, List.set_cons_zero, List.set_cons_succ])
  refine wpAnyH_take (i := 2) (v := ?_) rfl (by kernel_rfl) (by kernel_rfl) (by kernel_rfl) (fun _ _ _ h => h) (Or.inl ⟨by rfl, ?_⟩) (by assumption) ?_
  rotate_left
  · (intro w hSw; (try dsimp only at hSw); go_simp; try with_reducible rfl)
  (try simp only [Act.put, List.getElem_toArray, List.getElem_cons_zero, List.getElem_cons_succ, List.setIfInBounds_toArray, List.set_cons_zero, List.set_cons_succ])
  refine wpAnyH_take (i := 3) (v := ?_) rfl (by kernel_rfl) (by kernel_rfl) (by kernel_rfl) (fun _ _ _ h => h) (Or.inl ⟨by rfl, ?_⟩) (by assumption) ?_
  rotate_left
  · (intro w hSw; (try dsimp only at hSw); go_simp; try with_reducible rfl)
  (try simp only [Act.put, List.getElem_toArray, List.getElem_cons_zero, List.getElem_cons_succ, List.setIfInBounds_toArray, List.set_cons_zero, List.set_cons_succ])
  refine wpAnyH_take (i := 4) (v := ?_) rfl (by kernel_rfl) (by kernel_rfl) (by kernel_rfl) (fun _ _ _ h => h) (Or.inl ⟨by rfl, ?_⟩) (by assumption) ?_
  rotate_left
  · (intro w hSw; (try dsimp only at hSw); go_simp; try with_reducible rfl)
  (try simp only [Act.put, List.getElem_toArray, List.getElem_cons_zero, List.getElem_cons_succ, List.setIfInBounds_toArray, List.set_cons_zero, List.set_cons_succ])
  refine wpAnyH_take (i := 5) (v := ?_) rfl (by kernel_rfl) (by kernel_rfl) (by kernel_rfl) (fun _ _ _ h => h) (Or.inl ⟨by rfl, ?_⟩) (by assumption) ?_
  rotate_left
  · (intro w hSw; (try dsimp only at hSw); go_simp; try with_reducible rfl)
  (try simp only [Act.put, List.getElem_toArray, List.getElem_cons_zero, List.getElem_cons_succ, List.setIfInBounds_toArray, List.set_cons_zero, List.set_cons_succ])
  refine wpAnyH_take (i := 6) (v := ?_) rfl (by kernel_rfl) (by kernel_rfl) (by kernel_rfl) (fun _ _ _ h => h) (Or.inl ⟨by rfl, ?_⟩) (by assumption) ?_
  rotate_left
  · (intro w hSw; (try dsimp only at hSw); go_simp; try with_reducible rfl)
  (try simp only [Act.put, List.getElem_toArray, List.getElem_cons_zero, List.getElem_cons_succ, List.setIfInBounds_toArray, List.set_cons_zero, List.set_cons_succ])
  refine wpAnyH_ready (rs := [1]) (by kernel_rfl) (by simp) ?_
  refine AllReadyH.cons (o := _) rfl (fun K hK => ?_) AllReadyH.nil
  go_simp
  refine HF.out.mono ?_
  rintro e w1 ⟨rfl, rfl⟩
  clear hHeld
  refine hK.out _ _ (trivial) (fun hHeld => ?_)
  clear hK K
  (try simp only [Act.put, List.getElem_toArray, List.getElem_cons_zero, List.getElem_cons_succ, List.setIfInBounds_toArray, List.set_cons_zero, List.set_cons_succ])
  refine wpAnyH_take (i := 7) (v := ?_) rfl (by kernel_rfl) (by kernel_rfl) (by kernel_rfl) (fun _ _ _ h => h) (Or.inl ⟨by rfl, ?_⟩) (by assumption) ?_
  rotate_left
  · (intro w hSw; (try dsimp only at hSw); go_simp; try with_reducible rfl)
  (try simp only [Act.put, List.getElem_toArray, List.getElem_cons_zero, List.getElem_cons_succ, List.setIfInBounds_toArray, List.set_cons_zero, List.set_cons_succ])
  refine wpAnyH_take (i := 8) (v := ?_) rfl (by kernel_rfl) (by kernel_rfl) (by kernel_rfl) (fun _ _ _ h => h) (Or.inl ⟨by rfl, ?_⟩) (by assumption) ?_
  rotate_left
  · (intro w hSw; (try dsimp only at hSw); go_simp; try with_reducible rfl)
  (try simp only [Act.put, List.getElem_toArray, List.getElem_cons_zero, List.getElem_cons_succ, List.setIfInBounds_toArray, List.set_cons_zero, List.set_cons_succ])
  refine wpAnyH_done (by kernel_rfl) ?_ _
  clear hHeld
  have hb : Below w.heap.size w w.drew := (Below.refl _ _).drew
  have B_1 := Lib.hid (B_0.out.trans (Below.mono hb B_0.out.size))
  have H_1 := Lib.hid (Blk.below H_0.out hb)
  clear hb B_0 H_0
  obtain ⟨v0, hv0⟩ : ∃ z, z = w.drew := ⟨_, rfl⟩
  rw [← hv0] at B_1 H_1 ⊢
  clear hv0
  rw [← HT.out]
  go_wp2_with fail
  refine (HP.out _ H_1.out (HE.out.below B_1.out)).mono ?_
  rintro e x1 ⟨rfl, hb⟩
  have B_2 := Lib.hid (B_1.out.trans (Below.mono hb B_1.out.size))
  have H_2 := Lib.hid (Blk.below H_1.out hb)
  clear hb B_1 H_1
  rcases pr_cases L' with ⟨h24, hall, hpr⟩ | ⟨_, hbad, _⟩
  · have HZ := Lib.hid (HQ.out.trans hpr)
    injection HZ.out with e1 e2
    subst e2
    have HS := Lib.hid e1
    have HALL := Lib.hid hall
    have H24 := Lib.hid h24
    have hsz : S.size ≤ 408 := by rw [HS.out]; exact prB_len L' H24.out
    have HSZ := Lib.hid hsz
    clear HZ e1 hpr hall h24 hsz
    have HPS := Lib.hid (Parse_any S _ (by have := HSZ.out; omega) (HE.out.below B_2.out).1)
    rw [HS.out, pe_pr L' H24.out HALL.out, ← HS.out] at HPS
    unfold ParTo at HPS
    go_wp2_with fail
    refine HPS.out.mono ?_
    rintro e x2 ⟨a1, n1, c1, rfl, h1, hb⟩
    have B_3 := Lib.hid (B_2.out.trans (Below.mono hb B_2.out.size))
    have H_3 := Lib.hid (Blk.below H_2.out hb)
    clear hb B_2 H_2
    have HI := Lib.hid (Instrs_yes a1 a n1 m c1 c L' x2 h1 H_3.out)
    clear h1
    go_wp2_with fail
    refine (HI.out).mono ?_
    rintro e x3 ⟨rfl, hb⟩
    have B_4 := Lib.hid (B_3.out.trans (Below.mono hb B_3.out.size))
    have H_4 := Lib.hid (Blk.below H_3.out hb)
    clear hb B_3 H_3
    have BA := below_alloc x3 (.cells #[] 31)
    have O1 := Lib.hid (show OwnR 31 3 encI (x3.alloc (.cells #[] 31)) x3.heap.size (.slice (some ⟨x3.heap.size, 0, none⟩) 0 0) ([] : List Ins) from ownI_nil x3)
    have S1 := Lib.hid (Recs.below H_4.out.recs BA)
    have HB1 := Lib.hid BA.size
    have Q1 := Lib.hid BA
    have hm1 : m ≤ 100000 := by omega
    clear BA
    go_wp2_with (first
      | (at_builtin; refine wpList_appO encI_len (by decide) encI_one 22 31 24 _ Tryd.underlying22 inf43 rfl (by decide) rfl _ _ rfl x3.heap.size _ [] rfl O1.out a m c L' rfl S1.out (by decide) hm1 HB1.out ?_; intro v3 w3 ho3 hg3; have B3 := Lib.hid (Q1.out.grown hg3.out HB1.out (fun r hr => OwnR.lt O1.out r hr)); have BB := below_alloc w3 (.cells #[.int .i64 0, .int .i64 0, .int .i64 0] 31); have S5 := Lib.hid (recs_oneG (k := 3) (enc := encI) (x := zeroI) (t := 31) (heap_alloc_new w3 (.cells #[.int .i64 0, .int .i64 0, .int .i64 0] 31))); have O5 := Lib.hid (OwnR.below ho3.out BB); have Q5 := Lib.hid (B3.out.trans (Below.mono BB B3.out.size)); have HB5 := Lib.hid Q5.out.size; have HL5 := Lib.hid (show (([] : List Ins) ++ L').length ≤ 100000 by rw [List.nil_append, HLN.out]; omega); clear BB)
      | (at_builtin; refine wpList_appG encI_len (by decide) encI_one 22 31 24 _ Tryd.underlying22 inf43 rfl (by decide) rfl _ _ rfl x3.heap.size _ ([] ++ L') rfl O5.out ⟨w3.heap.size, 0, none⟩ 1 1 [zeroI] rfl S5.out HL5.out (by decide) HB5.out ?_; intro v6 w6 ho6 hg6; have Q6 := Lib.hid (Q5.out.grown hg6.out HB5.out (fun r hr => OwnR.lt O5.out r hr)); obtain ⟨a6, c6, rfl, hr6⟩ := OwnR.recs encI_len ho6.out; have P6 := Lib.hid (show Recs 3 encI w6 a6 (L'.length + 1) c6 (L' ++ [zeroI]) from by have := hr6; rwa [List.nil_append, List.length_append, List.length_singleton] at this); clear hr6))
    have B_5 := Lib.hid (B_4.out.trans (Below.mono Q6.out B_4.out.size)); have H_5 := Lib.hid (H_4.out.below Q6.out)
    have HPQ := Lib.hid (Print_any a6 (L'.length + 1) c6 (L' ++ [zeroI]) w6 ⟨P6.out, fun z hz => by rcases List.mem_append.1 hz with h1 | h1; exact H_4.out.ok z h1; simp at h1; subst h1; exact may_ok (by decide)⟩ (HE.out.below B_5.out))
    clear B_4 H_4 O1 S1 HB1 Q1 ho3 hg3 B3 S5 O5 Q5 HB5 HL5 ho6 hg6 Q6 P6
    unfold PairTo at HPQ
    obtain ⟨⟨S2, why2⟩, hq2⟩ : ∃ p, p = prZ (L' ++ [zeroI]) := ⟨_, rfl⟩
    rw [← hq2] at HPQ
    dsimp only at HPQ
    have HQ2 := Lib.hid hq2
    clear hq2
    refine (HPQ.out).mono ?_
    rintro e x4 ⟨rfl, hb⟩
    have B_6 := Lib.hid (B_5.out.trans (Below.mono hb B_5.out.size))
    have H_6 := Lib.hid (Blk.below H_5.out hb)
    clear hb B_5 H_5
    rcases (show m = 0 ∨ m = 24 ∨ (0 < m ∧ m < 24) by have := H24.out; have := HLN.out; omega) with hm0 | hm0 | ⟨hm0, hm9⟩
    · subst hm0
      go_wp2_with fail
      refine (HPT.out _ (HE.out.below B_6.out)).mono ?_
      rintro e x5 ⟨a5, n5, c5, rfl, h5, hb⟩
      have B_7 := Lib.hid (B_6.out.trans (Below.mono hb B_6.out.size))
      have H_7 := Lib.hid (Blk.below H_6.out hb)
      clear hb B_6 H_6
      have P5 := Lib.hid h5
      clear h5
      by_cases hf : pj = 0
      · have HOK := Lib.hid (HTO.out hf)
        have HPR := Lib.hid (show prZ PL = (T, 0) by rw [pr_yes HOK.out.2.1 HOK.out.2.2, HOK.out.1])
        subst hf
        have htt : (T.toList == T.toList) = true := by simp
        have HPP := Lib.hid (Print_any a5 n5 c5 PL _ P5.out (HE.out.below B_7.out))
        unfold PairTo at HPP
        rw [HPR.out] at HPP
        go_wp2_with fail
        refine (HPP.out).mono ?_
        rintro e x6 ⟨rfl, hb⟩
        have B_8 := Lib.hid (B_7.out.trans (Below.mono hb B_7.out.size))
        have H_8 := Lib.hid (Blk.below H_7.out hb)
        clear hb B_7 H_7
        go_wp2_with fail
        refine (HA.out _ (HE.out.below B_8.out)).mono ?_
        rintro e x7 ⟨rfl, hb⟩
        have B_9 := Lib.hid (B_8.out.trans (Below.mono hb B_8.out.size))
        have H_9 := Lib.hid (Blk.below H_8.out hb)
        clear hb B_8 H_8
        go_wp2_with fail
        go_ret
        exact ⟨rfl, B_9.out⟩
      · have hfb : (pj == 0) = false := by rw [beq_eq_false_iff_ne]; exact hf
        have hfc : (pj != 0) = true := by simp [hfb, bne]
        have HNO := Lib.hid (HTN.out hf)
        have hn5 : 0 = n5 := by have := P5.out.recs.len_eq; rw [HNO.out] at this; exact this
        subst hn5
        go_wp2_with fail
        refine (HA.out _ (HE.out.below B_7.out)).mono ?_
        rintro e x6 ⟨rfl, hb⟩
        have B_8 := Lib.hid (B_7.out.trans (Below.mono hb B_7.out.size))
        have H_8 := Lib.hid (Blk.below H_7.out hb)
        clear hb B_7 H_7
        go_wp2_with fail
        go_ret
        exact ⟨rfl, B_8.out⟩
    · subst hm0
      go_wp2_with fail
      refine (HPT.out _ (HE.out.below B_6.out)).mono ?_
      rintro e x5 ⟨a5, n5, c5, rfl, h5, hb⟩
      have B_7 := Lib.hid (B_6.out.trans (Below.mono hb B_6.out.size))
      have H_7 := Lib.hid (Blk.below H_6.out hb)
      clear hb B_6 H_6
      have P5 := Lib.hid h5
      clear h5
      by_cases hf : pj = 0
      · have HOK := Lib.hid (HTO.out hf)
        have HPR := Lib.hid (show prZ PL = (T, 0) by rw [pr_yes HOK.out.2.1 HOK.out.2.2, HOK.out.1])
        subst hf
        have htt : (T.toList == T.toList) = true := by simp
        have HPP := Lib.hid (Print_any a5 n5 c5 PL _ P5.out (HE.out.below B_7.out))
        unfold PairTo at HPP
        rw [HPR.out] at HPP
        go_wp2_with fail
        refine (HPP.out).mono ?_
        rintro e x6 ⟨rfl, hb⟩
        have B_8 := Lib.hid (B_7.out.trans (Below.mono hb B_7.out.size))
        have H_8 := Lib.hid (Blk.below H_7.out hb)
        clear hb B_7 H_7
        go_wp2_with fail
        refine (HA.out _ (HE.out.below B_8.out)).mono ?_
        rintro e x7 ⟨rfl, hb⟩
        have B_9 := Lib.hid (B_8.out.trans (Below.mono hb B_8.out.size))
        have H_9 := Lib.hid (Blk.below H_8.out hb)
        clear hb B_8 H_8
        go_wp2_with fail
        go_ret
        exact ⟨rfl, B_9.out⟩
      · have hfb : (pj == 0) = false := by rw [beq_eq_false_iff_ne]; exact hf
        have hfc : (pj != 0) = true := by simp [hfb, bne]
        have HNO := Lib.hid (HTN.out hf)
        have hn5 : 0 = n5 := by have := P5.out.recs.len_eq; rw [HNO.out] at this; exact this
        subst hn5
        go_wp2_with fail
        refine (HA.out _ (HE.out.below B_7.out)).mono ?_
        rintro e x6 ⟨rfl, hb⟩
        have B_8 := Lib.hid (B_7.out.trans (Below.mono hb B_7.out.size))
        have H_8 := Lib.hid (Blk.below H_7.out hb)
        clear hb B_7 H_7
        go_wp2_with fail
        go_ret
        exact ⟨rfl, B_8.out⟩
    · have hm0' : (0 : Int) < (m : Int) := by omega
      have hm9' : (m : Int) < 24 := by omega
      have HZ2 := Lib.hid (HQ2.out.trans (pr_nop L' (by rw [HLN.out]; exact hm0) (by rw [HLN.out]; exact hm9) HALL.out))
      rw [← HS.out] at HZ2
      injection HZ2.out with e1 e2
      subst e2
      have hse : (S2.toList == (S ++ (⟨#[59, 32, 110, 111, 112]⟩ : ByteArray)).toList) = true := eqT e1
      have hsz := HSZ.out
      have hsz2 : S.size + 5 ≤ 1000 := by omega
      clear e1 HZ2
      go_wp2_with fail
      refine (HPT.out _ (HE.out.below B_6.out)).mono ?_
      rintro e x5 ⟨a5, n5, c5, rfl, h5, hb⟩
      have B_7 := Lib.hid (B_6.out.trans (Below.mono hb B_6.out.size))
      have H_7 := Lib.hid (Blk.below H_6.out hb)
      clear hb B_6 H_6
      have P5 := Lib.hid h5
      clear h5
      by_cases hf : pj = 0
      · have HOK := Lib.hid (HTO.out hf)
        have HPR := Lib.hid (show prZ PL = (T, 0) by rw [pr_yes HOK.out.2.1 HOK.out.2.2, HOK.out.1])
        subst hf
        have htt : (T.toList == T.toList) = true := by simp
        have HPP := Lib.hid (Print_any a5 n5 c5 PL _ P5.out (HE.out.below B_7.out))
        unfold PairTo at HPP
        rw [HPR.out] at HPP
        go_wp2_with fail
        refine (HPP.out).mono ?_
        rintro e x6 ⟨rfl, hb⟩
        have B_8 := Lib.hid (B_7.out.trans (Below.mono hb B_7.out.size))
        have H_8 := Lib.hid (Blk.below H_7.out hb)
        clear hb B_7 H_7
        go_wp2_with fail
        refine (HA.out _ (HE.out.below B_8.out)).mono ?_
        rintro e x7 ⟨rfl, hb⟩
        have B_9 := Lib.hid (B_8.out.trans (Below.mono hb B_8.out.size))
        have H_9 := Lib.hid (Blk.below H_8.out hb)
        clear hb B_8 H_8
        go_wp2_with fail
        go_ret
        exact ⟨rfl, B_9.out⟩
      · have hfb : (pj == 0) = false := by rw [beq_eq_false_iff_ne]; exact hf
        have hfc : (pj != 0) = true := by simp [hfb, bne]
        have HNO := Lib.hid (HTN.out hf)
        have hn5 : 0 = n5 := by have := P5.out.recs.len_eq; rw [HNO.out] at this; exact this
        subst hn5
        go_wp2_with fail
        refine (HA.out _ (HE.out.below B_7.out)).mono ?_
        rintro e x6 ⟨rfl, hb⟩
        have B_8 := Lib.hid (B_7.out.trans (Below.mono hb B_7.out.size))
        have H_8 := Lib.hid (Blk.below H_7.out hb)
        clear hb B_7 H_7
        go_wp2_with fail
        go_ret
        exact ⟨rfl, B_8.out⟩
  · have hwhy : ¬ why = 0 := by
      have e : why = (prZ L').2 := by rw [← HQ.out]
      rw [e]; rcases hbad with h | h <;> rw [h] <;> decide
    have hwb : (why == 0) = false := by rw [beq_eq_false_iff_ne]; exact hwhy
    clear hbad
    go_wp2_with fail
    refine (HPT.out _ (HE.out.below B_2.out)).mono ?_
    rintro e x2 ⟨a5, n5, c5, rfl, h5, hb⟩
    have B_3 := Lib.hid (B_2.out.trans (Below.mono hb B_2.out.size))
    have H_3 := Lib.hid (Blk.below H_2.out hb)
    clear hb B_2 H_2
    have P5 := Lib.hid h5
    clear h5
    by_cases hf : pj = 0
    · have HOK := Lib.hid (HTO.out hf)
      have HPR := Lib.hid (show prZ PL = (T, 0) by rw [pr_yes HOK.out.2.1 HOK.out.2.2, HOK.out.1])
      subst hf
      have htt : (T.toList == T.toList) = true := by simp
      have HPP := Lib.hid (Print_any a5 n5 c5 PL _ P5.out (HE.out.below B_3.out))
      unfold PairTo at HPP
      rw [HPR.out] at HPP
      go_wp2_with fail
      refine (HPP.out).mono ?_
      rintro e x3 ⟨rfl, hb⟩
      have B_4 := Lib.hid (B_3.out.trans (Below.mono hb B_3.out.size))
      have H_4 := Lib.hid (Blk.below H_3.out hb)
      clear hb B_3 H_3
      go_wp2_with fail
      refine (HA.out _ (HE.out.below B_4.out)).mono ?_
      rintro e x4 ⟨rfl, hb⟩
      have B_5 := Lib.hid (B_4.out.trans (Below.mono hb B_4.out.size))
      have H_5 := Lib.hid (Blk.below H_4.out hb)
      clear hb B_4 H_4
      go_wp2_with fail
      go_ret
      exact ⟨rfl, B_5.out⟩
    · have hfb : (pj == 0) = false := by rw [beq_eq_false_iff_ne]; exact hf
      have hfc : (pj != 0) = true := by simp [hfb, bne]
      have HNO := Lib.hid (HTN.out hf)
      have hn5 : 0 = n5 := by have := P5.out.recs.len_eq; rw [HNO.out] at this; exact this
      subst hn5
      go_wp2_with fail
      refine (HA.out _ (HE.out.below B_3.out)).mono ?_
      rintro e x3 ⟨rfl, hb⟩
      have B_4 := Lib.hid (B_3.out.trans (Below.mono hb B_3.out.size))
      have H_4 := Lib.hid (Blk.below H_3.out hb)
      clear hb B_3 H_3
      go_wp2_with fail
      go_ret
      exact ⟨rfl, B_4.out⟩
set_option maxRecDepth 100000 in
set_option maxHeartbeats 8000000 in
theorem back_many (a : Option Addr) (n c : Nat) (L : List Ins) (s : ByteArray) (w : World) (h : Blk w a n c L) (hE : Env w) (hs : 1100 < s.size) : Calls Tryd.prog 5 #[.slice a n c, .string s] w (Says w) := by
  have hm' : min (s.size : Int) 1100 = 1100 := Int.min_eq_right (by omega)
  have hs' : (1100 : Int) ≤ (s.size : Int) := by omega
  have hT1 : (s.extract 0 1100).size ≤ 10000 := by
    rw [Lib.size_eq, Lib.extract_data]
    simp
    omega
  obtain ⟨T, hT⟩ : ∃ T, T = (s.extract 0 1100) := ⟨_, rfl⟩
  rw [← hT] at hT1
  have HT := Lib.hid hT
  have HT1 := Lib.hid hT1
  have HE := Lib.hid hE
  have h30 : min n 30 ≤ 30 := Nat.min_le_right _ _
  have H_0 := Lib.hid (h.take 30)
  obtain ⟨m, hm⟩ : ∃ m, m = min n 30 := ⟨_, rfl⟩
  obtain ⟨L', hL'⟩ : ∃ z, z = L.take 30 := ⟨_, rfl⟩
  have HF := Lib.hid (few_any a n c L w.drew (h.below (Below.refl w.heap.size w).drew))
  rw [← hm] at HF H_0 h30
  rw [← hL'] at H_0
  have HLN := Lib.hid H_0.out.recs.len_eq
  have HP := Lib.hid (fun W (h : Blk W a m c L') (e : Env W) => Print_any a m c L' W h e)
  have HA := Lib.hid (fun W (h : Env W) => alive_any W h.1)
  have HPT := Lib.hid (fun W (h : Env W) => Parse_any T W HT1.out h.1)
  have HTO := Lib.hid (fun h => pe_ok (s := T) h)
  have HTN := Lib.hid (fun h => pe_no (s := T) h)
  unfold PairTo at HP
  unfold ParTo at HPT
  obtain ⟨⟨PL, pi, pj⟩, hp⟩ : ∃ p, p = peZ T := ⟨_, rfl⟩
  rw [← hp] at HPT HTO HTN
  dsimp only at HPT HTO HTN
  obtain ⟨⟨S, why⟩, hq⟩ : ∃ p, p = prZ L' := ⟨_, rfl⟩
  rw [← hq] at HP
  dsimp only at HP
  have HQ := Lib.hid hq
  have B_0 := Lib.hid (Below.refl w.heap.size w)
  clear h hm hL' hE hp hq hT hT1
  go_enter Tryd.func5, Tryd.ntmps5
  go_upto_region 1 with (fail)
  refine wp_region_held_drew (S := (fun _ => True)) (by kernel_rfl) (trivial) (fun hHeld => ?_)
  (try simp only [Act.put, List.getElem_toArray, List.getElem_cons_zero, List.getElem_cons_succ, List.setIfInBounds_toArray, List.set_cons_zero, List.set_cons_succ])
  refine wpAnyH_take (i := 0) (v := ?_) rfl (by kernel_rfl) (by kernel_rfl) (by kernel_rfl) (fun _ _ _ h => h) (Or.inl ⟨by rfl, ?_⟩) (by assumption) ?_
  rotate_left
  · (intro w hSw; (try dsimp only at hSw); go_simp; try with_reducible rfl)
  (try simp only [Act.put, List.getElem_toArray, List.getElem_cons_zero, List.getElem_cons_succ, List.setIfInBounds_toArray, List.set_cons_zero, List.set_cons_succ])
  refine wpAnyH_take (i := 2) (v := ?_) rfl (by kernel_rfl) (by kernel_rfl) (by kernel_rfl) (fun _ _ _ h => h) (Or.inl ⟨by rfl, ?_⟩) (by assumption) ?_
  rotate_left
  · (intro w hSw; (try dsimp only at hSw); go_simp; try with_reducible rfl)
  (try simp only [Act.put, List.getElem_toArray, List.getElem_cons_zero, List.getElem_cons_succ, List.setIfInBounds_toArray, List.set_cons_zero, List.set_cons_succ])
  refine wpAnyH_take (i := 3) (v := ?_) rfl (by kernel_rfl) (by kernel_rfl) (by kernel_rfl) (fun _ _ _ h => h) (Or.inl ⟨by rfl, ?_⟩) (by assumption) ?_
  rotate_left
  · (intro w hSw; (try dsimp only at hSw); go_simp; try with_reducible rfl)
  (try simp only [Act.put, List.getElem_toArray, List.getElem_cons_zero, List.getElem_cons_succ, List.setIfInBounds_toArray, List.set_cons_zero, List.set_cons_succ])
  refine wpAnyH_take (i := 4) (v := ?_) rfl (by kernel_rfl) (by kernel_rfl) (by kernel_rfl) (fun _ _ _ h => h) (Or.inl ⟨by rfl, ?_⟩) (by assumption) ?_
  rotate_left
  · (intro w hSw; (try dsimp only at hSw); go_simp; try with_reducible rfl)
  (try simp only [Act.put, List.getElem_toArray, List.getElem_cons_zero, List.getElem_cons_succ, List.setIfInBounds_toArray, List.set_cons_zero, List.set_cons_succ])
  refine wpAnyH_take (i := 5) (v := ?_) rfl (by kernel_rfl) (by kernel_rfl) (by kernel_rfl) (fun _ _ _ h => h) (Or.inl ⟨by rfl, ?_⟩) (by assumption) ?_
  rotate_left
  · (intro w hSw; (try dsimp only at hSw); go_simp; try with_reducible rfl)
  (try simp only [Act.put, List.getElem_toArray, List.getElem_cons_zero, List.getElem_cons_succ, List.setIfInBounds_toArray, List.set_cons_zero, List.set_cons_succ])
  refine wpAnyH_take (i := 6) (v := ?_) rfl (by kernel_rfl) (by kernel_rfl) (by kernel_rfl) (fun _ _ _ h => h) (Or.inl ⟨by rfl, ?_⟩) (by assumption) ?_
  rotate_left
  · (intro w hSw; (try dsimp only at hSw); go_simp; try with_reducible rfl)
  (try simp only [Act.put, List.getElem_toArray, List.getElem_cons_zero, List.getElem_cons_succ, List.setIfInBounds_toArray, List.set_cons_zero, List.set_cons_succ])
  refine wpAnyH_ready (rs := [1]) (by kernel_rfl) (by simp) ?_
  refine AllReadyH.cons (o := _) rfl (fun K hK => ?_) AllReadyH.nil
  go_simp
  refine HF.out.mono ?_
  rintro e w1 ⟨rfl, rfl⟩
  clear hHeld
  refine hK.out _ _ (trivial) (fun hHeld => ?_)
  clear hK K
  (try simp only [Act.put, List.getElem_toArray, List.getElem_cons_zero, List.getElem_cons_succ, List.setIfInBounds_toArray, List.set_cons_zero, List.set_cons_succ])
  refine wpAnyH_take (i := 7) (v := ?_) rfl (by kernel_rfl) (by kernel_rfl) (by kernel_rfl) (fun _ _ _ h => h) (Or.inl ⟨by rfl, ?_⟩) (by assumption) ?_
  rotate_left
  · (intro w hSw; (try dsimp only at hSw); go_simp; try with_reducible rfl)
  (try simp only [Act.put, List.getElem_toArray, List.getElem_cons_zero, List.getElem_cons_succ, List.setIfInBounds_toArray, List.set_cons_zero, List.set_cons_succ])
  refine wpAnyH_take (i := 8) (v := ?_) rfl (by kernel_rfl) (by kernel_rfl) (by kernel_rfl) (fun _ _ _ h => h) (Or.inl ⟨by rfl, ?_⟩) (by assumption) ?_
  rotate_left
  · (intro w hSw; (try dsimp only at hSw); go_simp; try with_reducible rfl)
  (try simp only [Act.put, List.getElem_toArray, List.getElem_cons_zero, List.getElem_cons_succ, List.setIfInBounds_toArray, List.set_cons_zero, List.set_cons_succ])
  refine wpAnyH_done (by kernel_rfl) ?_ _
  clear hHeld
  have hb : Below w.heap.size w w.drew := (Below.refl _ _).drew
  have B_1 := Lib.hid (B_0.out.trans (Below.mono hb B_0.out.size))
  have H_1 := Lib.hid (Blk.below H_0.out hb)
  clear hb B_0 H_0
  obtain ⟨v0, hv0⟩ : ∃ z, z = w.drew := ⟨_, rfl⟩
  rw [← hv0] at B_1 H_1 ⊢
  clear hv0
  rw [← HT.out]
  go_wp2_with fail
  refine (HP.out _ H_1.out (HE.out.below B_1.out)).mono ?_
  rintro e x1 ⟨rfl, hb⟩
  have B_2 := Lib.hid (B_1.out.trans (Below.mono hb B_1.out.size))
  have H_2 := Lib.hid (Blk.below H_1.out hb)
  clear hb B_1 H_1
  rcases pr_cases L' with ⟨h24, hall, hpr⟩ | ⟨_, hbad, _⟩
  · have HZ := Lib.hid (HQ.out.trans hpr)
    injection HZ.out with e1 e2
    subst e2
    have HS := Lib.hid e1
    have HALL := Lib.hid hall
    have H24 := Lib.hid h24
    have hsz : S.size ≤ 408 := by rw [HS.out]; exact prB_len L' H24.out
    have HSZ := Lib.hid hsz
    clear HZ e1 hpr hall h24 hsz
    have HPS := Lib.hid (Parse_any S _ (by have := HSZ.out; omega) (HE.out.below B_2.out).1)
    rw [HS.out, pe_pr L' H24.out HALL.out, ← HS.out] at HPS
    unfold ParTo at HPS
    go_wp2_with fail
    refine HPS.out.mono ?_
    rintro e x2 ⟨a1, n1, c1, rfl, h1, hb⟩
    have B_3 := Lib.hid (B_2.out.trans (Below.mono hb B_2.out.size))
    have H_3 := Lib.hid (Blk.below H_2.out hb)
    clear hb B_2 H_2
    have HI := Lib.hid (Instrs_yes a1 a n1 m c1 c L' x2 h1 H_3.out)
    clear h1
    go_wp2_with fail
    refine (HI.out).mono ?_
    rintro e x3 ⟨rfl, hb⟩
    have B_4 := Lib.hid (B_3.out.trans (Below.mono hb B_3.out.size))
    have H_4 := Lib.hid (Blk.below H_3.out hb)
    clear hb B_3 H_3
    have BA := below_alloc x3 (.cells #[] 31)
    have O1 := Lib.hid (show OwnR 31 3 encI (x3.alloc (.cells #[] 31)) x3.heap.size (.slice (some ⟨x3.heap.size, 0, none⟩) 0 0) ([] : List Ins) from ownI_nil x3)
    have S1 := Lib.hid (Recs.below H_4.out.recs BA)
    have HB1 := Lib.hid BA.size
    have Q1 := Lib.hid BA
    have hm1 : m ≤ 100000 := by omega
    clear BA
    go_wp2_with (first
      | (at_builtin; refine wpList_appO encI_len (by decide) encI_one 22 31 24 _ Tryd.underlying22 inf43 rfl (by decide) rfl _ _ rfl x3.heap.size _ [] rfl O1.out a m c L' rfl S1.out (by decide) hm1 HB1.out ?_; intro v3 w3 ho3 hg3; have B3 := Lib.hid (Q1.out.grown hg3.out HB1.out (fun r hr => OwnR.lt O1.out r hr)); have BB := below_alloc w3 (.cells #[.int .i64 0, .int .i64 0, .int .i64 0] 31); have S5 := Lib.hid (recs_oneG (k := 3) (enc := encI) (x := zeroI) (t := 31) (heap_alloc_new w3 (.cells #[.int .i64 0, .int .i64 0, .int .i64 0] 31))); have O5 := Lib.hid (OwnR.below ho3.out BB); have Q5 := Lib.hid (B3.out.trans (Below.mono BB B3.out.size)); have HB5 := Lib.hid Q5.out.size; have HL5 := Lib.hid (show (([] : List Ins) ++ L').length ≤ 100000 by rw [List.nil_append, HLN.out]; omega); clear BB)
      | (at_builtin; refine wpList_appG encI_len (by decide) encI_one 22 31 24 _ Tryd.underlying22 inf43 rfl (by decide) rfl _ _ rfl x3.heap.size _ ([] ++ L') rfl O5.out ⟨w3.heap.size, 0, none⟩ 1 1 [zeroI] rfl S5.out HL5.out (by decide) HB5.out ?_; intro v6 w6 ho6 hg6; have Q6 := Lib.hid (Q5.out.grown hg6.out HB5.out (fun r hr => OwnR.lt O5.out r hr)); obtain ⟨a6, c6, rfl, hr6⟩ := OwnR.recs encI_len ho6.out; have P6 := Lib.hid (show Recs 3 encI w6 a6 (L'.length + 1) c6 (L' ++ [zeroI]) from by have := hr6; rwa [List.nil_append, List.length_append, List.length_singleton] at this); clear hr6))
    have B_5 := Lib.hid (B_4.out.trans (Below.mono Q6.out B_4.out.size)); have H_5 := Lib.hid (H_4.out.below Q6.out)
    have HPQ := Lib.hid (Print_any a6 (L'.length + 1) c6 (L' ++ [zeroI]) w6 ⟨P6.out, fun z hz => by rcases List.mem_append.1 hz with h1 | h1; exact H_4.out.ok z h1; simp at h1; subst h1; exact may_ok (by decide)⟩ (HE.out.below B_5.out))
    clear B_4 H_4 O1 S1 HB1 Q1 ho3 hg3 B3 S5 O5 Q5 HB5 HL5 ho6 hg6 Q6 P6
    unfold PairTo at HPQ
    obtain ⟨⟨S2, why2⟩, hq2⟩ : ∃ p, p = prZ (L' ++ [zeroI]) := ⟨_, rfl⟩
    rw [← hq2] at HPQ
    dsimp only at HPQ
    have HQ2 := Lib.hid hq2
    clear hq2
    refine (HPQ.out).mono ?_
    rintro e x4 ⟨rfl, hb⟩
    have B_6 := Lib.hid (B_5.out.trans (Below.mono hb B_5.out.size))
    have H_6 := Lib.hid (Blk.below H_5.out hb)
    clear hb B_5 H_5
    rcases (show m = 0 ∨ m = 24 ∨ (0 < m ∧ m < 24) by have := H24.out; have := HLN.out; omega) with hm0 | hm0 | ⟨hm0, hm9⟩
    · subst hm0
      go_wp2_with fail
      refine (HPT.out _ (HE.out.below B_6.out)).mono ?_
      rintro e x5 ⟨a5, n5, c5, rfl, h5, hb⟩
      have B_7 := Lib.hid (B_6.out.trans (Below.mono hb B_6.out.size))
      have H_7 := Lib.hid (Blk.below H_6.out hb)
      clear hb B_6 H_6
      have P5 := Lib.hid h5
      clear h5
      by_cases hf : pj = 0
      · have HOK := Lib.hid (HTO.out hf)
        have HPR := Lib.hid (show prZ PL = (T, 0) by rw [pr_yes HOK.out.2.1 HOK.out.2.2, HOK.out.1])
        subst hf
        have htt : (T.toList == T.toList) = true := by simp
        have HPP := Lib.hid (Print_any a5 n5 c5 PL _ P5.out (HE.out.below B_7.out))
        unfold PairTo at HPP
        rw [HPR.out] at HPP
        go_wp2_with fail
        refine (HPP.out).mono ?_
        rintro e x6 ⟨rfl, hb⟩
        have B_8 := Lib.hid (B_7.out.trans (Below.mono hb B_7.out.size))
        have H_8 := Lib.hid (Blk.below H_7.out hb)
        clear hb B_7 H_7
        go_wp2_with fail
        refine (HA.out _ (HE.out.below B_8.out)).mono ?_
        rintro e x7 ⟨rfl, hb⟩
        have B_9 := Lib.hid (B_8.out.trans (Below.mono hb B_8.out.size))
        have H_9 := Lib.hid (Blk.below H_8.out hb)
        clear hb B_8 H_8
        go_wp2_with fail
        go_ret
        exact ⟨rfl, B_9.out⟩
      · have hfb : (pj == 0) = false := by rw [beq_eq_false_iff_ne]; exact hf
        have hfc : (pj != 0) = true := by simp [hfb, bne]
        have HNO := Lib.hid (HTN.out hf)
        have hn5 : 0 = n5 := by have := P5.out.recs.len_eq; rw [HNO.out] at this; exact this
        subst hn5
        go_wp2_with fail
        refine (HA.out _ (HE.out.below B_7.out)).mono ?_
        rintro e x6 ⟨rfl, hb⟩
        have B_8 := Lib.hid (B_7.out.trans (Below.mono hb B_7.out.size))
        have H_8 := Lib.hid (Blk.below H_7.out hb)
        clear hb B_7 H_7
        go_wp2_with fail
        go_ret
        exact ⟨rfl, B_8.out⟩
    · subst hm0
      go_wp2_with fail
      refine (HPT.out _ (HE.out.below B_6.out)).mono ?_
      rintro e x5 ⟨a5, n5, c5, rfl, h5, hb⟩
      have B_7 := Lib.hid (B_6.out.trans (Below.mono hb B_6.out.size))
      have H_7 := Lib.hid (Blk.below H_6.out hb)
      clear hb B_6 H_6
      have P5 := Lib.hid h5
      clear h5
      by_cases hf : pj = 0
      · have HOK := Lib.hid (HTO.out hf)
        have HPR := Lib.hid (show prZ PL = (T, 0) by rw [pr_yes HOK.out.2.1 HOK.out.2.2, HOK.out.1])
        subst hf
        have htt : (T.toList == T.toList) = true := by simp
        have HPP := Lib.hid (Print_any a5 n5 c5 PL _ P5.out (HE.out.below B_7.out))
        unfold PairTo at HPP
        rw [HPR.out] at HPP
        go_wp2_with fail
        refine (HPP.out).mono ?_
        rintro e x6 ⟨rfl, hb⟩
        have B_8 := Lib.hid (B_7.out.trans (Below.mono hb B_7.out.size))
        have H_8 := Lib.hid (Blk.below H_7.out hb)
        clear hb B_7 H_7
        go_wp2_with fail
        refine (HA.out _ (HE.out.below B_8.out)).mono ?_
        rintro e x7 ⟨rfl, hb⟩
        have B_9 := Lib.hid (B_8.out.trans (Below.mono hb B_8.out.size))
        have H_9 := Lib.hid (Blk.below H_8.out hb)
        clear hb B_8 H_8
        go_wp2_with fail
        go_ret
        exact ⟨rfl, B_9.out⟩
      · have hfb : (pj == 0) = false := by rw [beq_eq_false_iff_ne]; exact hf
        have hfc : (pj != 0) = true := by simp [hfb, bne]
        have HNO := Lib.hid (HTN.out hf)
        have hn5 : 0 = n5 := by have := P5.out.recs.len_eq; rw [HNO.out] at this; exact this
        subst hn5
        go_wp2_with fail
        refine (HA.out _ (HE.out.below B_7.out)).mono ?_
        rintro e x6 ⟨rfl, hb⟩
        have B_8 := Lib.hid (B_7.out.trans (Below.mono hb B_7.out.size))
        have H_8 := Lib.hid (Blk.below H_7.out hb)
        clear hb B_7 H_7
        go_wp2_with fail
        go_ret
        exact ⟨rfl, B_8.out⟩
    · have hm0' : (0 : Int) < (m : Int) := by omega
      have hm9' : (m : Int) < 24 := by omega
      have HZ2 := Lib.hid (HQ2.out.trans (pr_nop L' (by rw [HLN.out]; exact hm0) (by rw [HLN.out]; exact hm9) HALL.out))
      rw [← HS.out] at HZ2
      injection HZ2.out with e1 e2
      subst e2
      have hse : (S2.toList == (S ++ (⟨#[59, 32, 110, 111, 112]⟩ : ByteArray)).toList) = true := eqT e1
      have hsz := HSZ.out
      have hsz2 : S.size + 5 ≤ 1000 := by omega
      clear e1 HZ2
      go_wp2_with fail
      refine (HPT.out _ (HE.out.below B_6.out)).mono ?_
      rintro e x5 ⟨a5, n5, c5, rfl, h5, hb⟩
      have B_7 := Lib.hid (B_6.out.trans (Below.mono hb B_6.out.size))
      have H_7 := Lib.hid (Blk.below H_6.out hb)
      clear hb B_6 H_6
      have P5 := Lib.hid h5
      clear h5
      by_cases hf : pj = 0
      · have HOK := Lib.hid (HTO.out hf)
        have HPR := Lib.hid (show prZ PL = (T, 0) by rw [pr_yes HOK.out.2.1 HOK.out.2.2, HOK.out.1])
        subst hf
        have htt : (T.toList == T.toList) = true := by simp
        have HPP := Lib.hid (Print_any a5 n5 c5 PL _ P5.out (HE.out.below B_7.out))
        unfold PairTo at HPP
        rw [HPR.out] at HPP
        go_wp2_with fail
        refine (HPP.out).mono ?_
        rintro e x6 ⟨rfl, hb⟩
        have B_8 := Lib.hid (B_7.out.trans (Below.mono hb B_7.out.size))
        have H_8 := Lib.hid (Blk.below H_7.out hb)
        clear hb B_7 H_7
        go_wp2_with fail
        refine (HA.out _ (HE.out.below B_8.out)).mono ?_
        rintro e x7 ⟨rfl, hb⟩
        have B_9 := Lib.hid (B_8.out.trans (Below.mono hb B_8.out.size))
        have H_9 := Lib.hid (Blk.below H_8.out hb)
        clear hb B_8 H_8
        go_wp2_with fail
        go_ret
        exact ⟨rfl, B_9.out⟩
      · have hfb : (pj == 0) = false := by rw [beq_eq_false_iff_ne]; exact hf
        have hfc : (pj != 0) = true := by simp [hfb, bne]
        have HNO := Lib.hid (HTN.out hf)
        have hn5 : 0 = n5 := by have := P5.out.recs.len_eq; rw [HNO.out] at this; exact this
        subst hn5
        go_wp2_with fail
        refine (HA.out _ (HE.out.below B_7.out)).mono ?_
        rintro e x6 ⟨rfl, hb⟩
        have B_8 := Lib.hid (B_7.out.trans (Below.mono hb B_7.out.size))
        have H_8 := Lib.hid (Blk.below H_7.out hb)
        clear hb B_7 H_7
        go_wp2_with fail
        go_ret
        exact ⟨rfl, B_8.out⟩
  · have hwhy : ¬ why = 0 := by
      have e : why = (prZ L').2 := by rw [← HQ.out]
      rw [e]; rcases hbad with h | h <;> rw [h] <;> decide
    have hwb : (why == 0) = false := by rw [beq_eq_false_iff_ne]; exact hwhy
    clear hbad
    go_wp2_with fail
    refine (HPT.out _ (HE.out.below B_2.out)).mono ?_
    rintro e x2 ⟨a5, n5, c5, rfl, h5, hb⟩
    have B_3 := Lib.hid (B_2.out.trans (Below.mono hb B_2.out.size))
    have H_3 := Lib.hid (Blk.below H_2.out hb)
    clear hb B_2 H_2
    have P5 := Lib.hid h5
    clear h5
    by_cases hf : pj = 0
    · have HOK := Lib.hid (HTO.out hf)
      have HPR := Lib.hid (show prZ PL = (T, 0) by rw [pr_yes HOK.out.2.1 HOK.out.2.2, HOK.out.1])
      subst hf
      have htt : (T.toList == T.toList) = true := by simp
      have HPP := Lib.hid (Print_any a5 n5 c5 PL _ P5.out (HE.out.below B_3.out))
      unfold PairTo at HPP
      rw [HPR.out] at HPP
      go_wp2_with fail
      refine (HPP.out).mono ?_
      rintro e x3 ⟨rfl, hb⟩
      have B_4 := Lib.hid (B_3.out.trans (Below.mono hb B_3.out.size))
      have H_4 := Lib.hid (Blk.below H_3.out hb)
      clear hb B_3 H_3
      go_wp2_with fail
      refine (HA.out _ (HE.out.below B_4.out)).mono ?_
      rintro e x4 ⟨rfl, hb⟩
      have B_5 := Lib.hid (B_4.out.trans (Below.mono hb B_4.out.size))
      have H_5 := Lib.hid (Blk.below H_4.out hb)
      clear hb B_4 H_4
      go_wp2_with fail
      go_ret
      exact ⟨rfl, B_5.out⟩
    · have hfb : (pj == 0) = false := by rw [beq_eq_false_iff_ne]; exact hf
      have hfc : (pj != 0) = true := by simp [hfb, bne]
      have HNO := Lib.hid (HTN.out hf)
      have hn5 : 0 = n5 := by have := P5.out.recs.len_eq; rw [HNO.out] at this; exact this
      subst hn5
      go_wp2_with fail
      refine (HA.out _ (HE.out.below B_3.out)).mono ?_
      rintro e x3 ⟨rfl, hb⟩
      have B_4 := Lib.hid (B_3.out.trans (Below.mono hb B_3.out.size))
      have H_4 := Lib.hid (Blk.below H_3.out hb)
      clear hb B_3 H_3
      go_wp2_with fail
      go_ret
      exact ⟨rfl, B_4.out⟩
theorem back_walk (a : Option Addr) (n c : Nat) (L : List Ins) (s : ByteArray) (w : World) (h : Blk w a n c L) (hE : Env w) : Calls Tryd.prog 5 #[.slice a n c, .string s] w (Says w) := by
  by_cases hs : s.size ≤ 1100
  · exact back_few a n c L s w h hE hs
  · exact back_many a n c L s w h hE (by omega)
end Go.Proofs.YtpdlfijcicboiaaDoor
