/- TextJoins: the walk. -/
import Derived.Test.YtpdlfijcicboiaaDoorI1
namespace Go.Proofs.YtpdlfijcicboiaaDoor
open Go.RowKit
set_option linter.unusedSimpArgs false
set_option linter.unusedVariables false
theorem joins_cases (A C : List Ins) : ((¬ (prZ A).2 = 0 ∨ ¬ (prZ C).2 = 0) ∧ (prZ (A ++ C)).1 = ⟨#[]⟩ ∧ ¬ (prZ (A ++ C)).2 = 0) ∨
    (A.all mayZ = true ∧ C.all mayZ = true ∧ 24 < A.length + C.length ∧ prZ A = (prB A, 0) ∧ prZ C = (prB C, 0) ∧ prZ (A ++ C) = (⟨#[]⟩, 2)) ∨
    (A.all mayZ = true ∧ C.all mayZ = true ∧ A.length + C.length ≤ 24 ∧ prZ A = (prB A, 0) ∧ prZ C = (prB C, 0) ∧ prZ (A ++ C) = (prB (A ++ C), 0) ∧ peZ (prB (A ++ C)) = (A ++ C, 0, 0)) := by
  have bad : ∀ X : List Ins, ¬ (X.length ≤ 24 ∧ X.all mayZ = true) → (prZ X).1 = ⟨#[]⟩ ∧ ¬ (prZ X).2 = 0 := fun X hX => by
    rcases pr_cases X with ⟨h1, h2, _⟩ | ⟨h1, h2, _⟩
    · exact absurd ⟨h1, h2⟩ hX
    · exact ⟨h1, by rcases h2 with h | h <;> rw [h] <;> decide⟩
  have hlen : (A ++ C).length = A.length + C.length := List.length_append
  have hall : (A ++ C).all mayZ = (A.all mayZ && C.all mayZ) := List.all_append
  by_cases hA : A.length ≤ 24 ∧ A.all mayZ = true
  · by_cases hC : C.length ≤ 24 ∧ C.all mayZ = true
    · by_cases hl : A.length + C.length ≤ 24
      · have ha : (A ++ C).all mayZ = true := by rw [hall, hA.2, hC.2]; rfl
        exact .inr (.inr ⟨hA.2, hC.2, hl, pr_yes hA.1 hA.2, pr_yes hC.1 hC.2, pr_yes (by omega) ha, pe_pr _ (by omega) ha⟩)
      · exact .inr (.inl ⟨hA.2, hC.2, by omega, pr_yes hA.1 hA.2, pr_yes hC.1 hC.2, pr_big (by omega)⟩)
    · have hx : ¬ ((A ++ C).length ≤ 24 ∧ (A ++ C).all mayZ = true) := fun h => hC ⟨by omega, by
        have := h.2; rw [hall, Bool.and_eq_true] at this; exact this.2⟩
      exact .inl ⟨.inr (bad C hC).2, bad _ hx⟩
  · have hx : ¬ ((A ++ C).length ≤ 24 ∧ (A ++ C).all mayZ = true) := fun h => hA ⟨by omega, by
      have := h.2; rw [hall, Bool.and_eq_true] at this; exact this.1⟩
    exact .inl ⟨.inl (bad A hA).2, bad _ hx⟩
set_option maxRecDepth 100000 in
set_option maxHeartbeats 8000000 in
theorem joins_walk (a : Option Addr) (n c : Nat) (L : List Ins) (a2 : Option Addr) (n2 c2 : Nat) (M : List Ins) (w : World) (h : Blk w a n c L) (h2 : Blk w a2 n2 c2 M) (hE : Env w) : Calls Tryd.prog 6 #[.slice a n c, .slice a2 n2 c2] w (Says w) := by
  have h30 : min n 30 ≤ 30 := Nat.min_le_right _ _
  have h30b : min n2 30 ≤ 30 := Nat.min_le_right _ _
  have HF := Lib.hid (few_any a n c L w h)
  have HG := Lib.hid (few_any a2 n2 c2 M w h2)
  have H_0 := Lib.hid (h.take 30)
  have G_0 := Lib.hid (h2.take 30)
  obtain ⟨m, hm⟩ : ∃ m, m = min n 30 := ⟨_, rfl⟩
  obtain ⟨m2, hm2⟩ : ∃ m, m = min n2 30 := ⟨_, rfl⟩
  obtain ⟨A, hA⟩ : ∃ z, z = L.take 30 := ⟨_, rfl⟩
  obtain ⟨C, hC⟩ : ∃ z, z = M.take 30 := ⟨_, rfl⟩
  rw [← hm] at HF H_0 h30
  rw [← hm2] at HG G_0 h30b
  rw [← hA] at H_0
  rw [← hC] at G_0
  have HLA := Lib.hid H_0.out.recs.len_eq
  have HLC := Lib.hid G_0.out.recs.len_eq
  have HE := Lib.hid hE
  have HP := Lib.hid (fun W (h : Blk W a m c A) (e : Env W) => Print_any a m c A W h e)
  have HR := Lib.hid (fun W (h : Blk W a2 m2 c2 C) (e : Env W) => Print_any a2 m2 c2 C W h e)
  have HA := Lib.hid (fun W (h : Env W) => alive_any W h.1)
  unfold PairTo at HP HR
  obtain ⟨⟨S, e1⟩, hq1⟩ : ∃ p, p = prZ A := ⟨_, rfl⟩
  obtain ⟨⟨R, e2⟩, hq2⟩ : ∃ p, p = prZ C := ⟨_, rfl⟩
  rw [← hq1] at HP
  rw [← hq2] at HR
  dsimp only at HP HR
  have HQ1 := Lib.hid hq1
  have HQ2 := Lib.hid hq2
  have B_0 := Lib.hid (Below.refl w.heap.size w)
  clear h h2 hm hm2 hA hC hE hq1 hq2
  go_enter Tryd.func6, Tryd.ntmps6
  go_wp2_with fail
  refine HF.out.mono ?_
  rintro e w1 ⟨rfl, rfl⟩
  go_wp2_with fail
  refine HG.out.mono ?_
  rintro e w1 ⟨rfl, rfl⟩
  have BA := below_alloc w (.cells #[] 31)
  have O1 := Lib.hid (ownI_nil w)
  have S1 := Lib.hid (Recs.below H_0.out.recs BA)
  have HB1 := Lib.hid BA.size
  have Q1 := Lib.hid BA
  have hm1 : m ≤ 100000 := by omega
  have hm2 : m2 ≤ 100000 := by omega
  clear BA
  go_wp2_with (first
    | (at_builtin; refine wpList_appO encI_len (by decide) encI_one 22 31 24 _ Tryd.underlying22 inf43 rfl (by decide) rfl _ _ rfl w.heap.size _ [] rfl O1.out a m c A rfl S1.out (by decide) hm1 HB1.out ?_; intro v3 w3 ho3 hg3; have Q3 := Lib.hid (Q1.out.grown hg3.out HB1.out (fun r hr => OwnR.lt O1.out r hr)); have S5 := Lib.hid (Recs.below G_0.out.recs Q3.out); have O5 := Lib.hid ho3.out; have HB5 := Lib.hid Q3.out.size; have HL5 := Lib.hid (show (([] : List Ins) ++ A).length ≤ 100000 by rw [List.nil_append, HLA.out]; omega))
    | (at_builtin; refine wpList_appO encI_len (by decide) encI_one 22 31 24 _ Tryd.underlying22 inf43 rfl (by decide) rfl _ _ rfl w.heap.size _ ([] ++ A) rfl O5.out a2 m2 c2 C rfl S5.out HL5.out hm2 HB5.out ?_; intro v6 w6 ho6 hg6; have Q6 := Lib.hid (Q3.out.grown hg6.out HB5.out (fun r hr => OwnR.lt O5.out r hr)); obtain ⟨a6, c6, rfl, hr6⟩ := OwnR.recs encI_len ho6.out; have P6 := Lib.hid (show Recs 3 encI w6 a6 (A.length + C.length) c6 (A ++ C) from by have := hr6; rwa [List.nil_append, List.length_append] at this); clear hr6))
  have B_1 := Lib.hid (B_0.out.trans (Below.mono Q6.out B_0.out.size)); have H_1 := Lib.hid (H_0.out.below Q6.out); have G_1 := Lib.hid (G_0.out.below Q6.out)
  have D_1 := Lib.hid (show Blk w6 a6 (A.length + C.length) c6 (A ++ C) from ⟨P6.out, fun z hz => by rcases List.mem_append.1 hz with h1 | h1; exact H_1.out.ok z h1; exact G_1.out.ok z h1⟩)
  clear B_0 H_0 G_0 O1 S1 HB1 Q1 ho3 hg3 Q3 S5 O5 HB5 HL5 ho6 hg6 Q6 P6
  have HT := Lib.hid (fun W (h : Blk W a6 (A.length + C.length) c6 (A ++ C)) (e : Env W) => Print_any a6 (A.length + C.length) c6 (A ++ C) W h e)
  unfold PairTo at HT
  obtain ⟨⟨U, e3⟩, hq3⟩ : ∃ p, p = prZ (A ++ C) := ⟨_, rfl⟩
  rw [← hq3] at HT
  dsimp only at HT
  have HQ3 := Lib.hid hq3
  clear hq3
  refine (HP.out _ H_1.out (HE.out.below B_1.out)).mono ?_
  rintro e x1 ⟨rfl, hb⟩
  have B_2 := Lib.hid (B_1.out.trans (Below.mono hb B_1.out.size))
  have H_2 := Lib.hid (Blk.below H_1.out hb)
  have G_2 := Lib.hid (Blk.below G_1.out hb)
  have D_2 := Lib.hid (Blk.below D_1.out hb)
  clear hb B_1 H_1 G_1 D_1
  go_wp2_with fail
  refine (HR.out _ G_2.out (HE.out.below B_2.out)).mono ?_
  rintro e x2 ⟨rfl, hb⟩
  have B_3 := Lib.hid (B_2.out.trans (Below.mono hb B_2.out.size))
  have H_3 := Lib.hid (Blk.below H_2.out hb)
  have G_3 := Lib.hid (Blk.below G_2.out hb)
  have D_3 := Lib.hid (Blk.below D_2.out hb)
  clear hb B_2 H_2 G_2 D_2
  go_wp2_with fail
  refine (HT.out _ D_3.out (HE.out.below B_3.out)).mono ?_
  rintro e x3 ⟨rfl, hb⟩
  have B_4 := Lib.hid (B_3.out.trans (Below.mono hb B_3.out.size))
  have H_4 := Lib.hid (Blk.below H_3.out hb)
  have G_4 := Lib.hid (Blk.below G_3.out hb)
  have D_4 := Lib.hid (Blk.below D_3.out hb)
  clear hb B_3 H_3 G_3 D_3
  rcases joins_cases A C with ⟨hx, hU, hw⟩ | ⟨ha, hb', hbig, hpa, hpb, hpc⟩ | ⟨ha, hb', hle, hpa, hpb, hpc, hpe⟩
  · have hU' : U = ⟨#[]⟩ := by
      have e : U = (prZ (A ++ C)).1 := by rw [← HQ3.out]
      rw [e]; exact hU
    have hw' : ¬ e3 = 0 := by
      have e : e3 = (prZ (A ++ C)).2 := by rw [← HQ3.out]
      rw [e]; exact hw
    have hwb : (e3 == 0) = false := by rw [beq_eq_false_iff_ne]; exact hw'
    have hwc : (e3 != 0) = true := by simp [hwb, bne]
    have hx1 : (¬ e1 = 0) ∨ (e1 = 0 ∧ ¬ e2 = 0) := by
      have g1 : e1 = (prZ A).2 := by rw [← HQ1.out]
      have g2 : e2 = (prZ C).2 := by rw [← HQ2.out]
      rw [g1, g2]; omega
    subst hU'
    clear hx hU hw
    rcases hx1 with hx1 | ⟨hx1, hx2⟩
    · have hx1b : (e1 == 0) = false := by rw [beq_eq_false_iff_ne]; exact hx1
      have hx1c : (e1 != 0) = true := by simp [hx1b, bne]
      go_wp2_with fail
      refine (HA.out _ (HE.out.below B_4.out)).mono ?_
      rintro e x4 ⟨rfl, hb⟩
      have B_5 := Lib.hid (B_4.out.trans (Below.mono hb B_4.out.size))
      have H_5 := Lib.hid (Blk.below H_4.out hb)
      have G_5 := Lib.hid (Blk.below G_4.out hb)
      have D_5 := Lib.hid (Blk.below D_4.out hb)
      clear hb B_4 H_4 G_4 D_4
      go_wp2_with fail
      go_ret
      exact ⟨rfl, B_5.out⟩
    · subst hx1
      have hx1b : (e2 == 0) = false := by rw [beq_eq_false_iff_ne]; exact hx2
      have hx1c : (e2 != 0) = true := by simp [hx1b, bne]
      go_wp2_with fail
      refine (HA.out _ (HE.out.below B_4.out)).mono ?_
      rintro e x4 ⟨rfl, hb⟩
      have B_5 := Lib.hid (B_4.out.trans (Below.mono hb B_4.out.size))
      have H_5 := Lib.hid (Blk.below H_4.out hb)
      have G_5 := Lib.hid (Blk.below G_4.out hb)
      have D_5 := Lib.hid (Blk.below D_4.out hb)
      clear hb B_4 H_4 G_4 D_4
      go_wp2_with fail
      go_ret
      exact ⟨rfl, B_5.out⟩
  · have hlen : 24 < A.length + C.length := hbig
    have hlen' : (24 : Int) < (A.length : Int) + (C.length : Int) := by omega
    have Z1 := HQ1.out.trans hpa
    have Z2 := HQ2.out.trans hpb
    have Z3 := HQ3.out.trans hpc
    injection Z1 with z1 z2
    injection Z2 with z3 z4
    injection Z3 with z5 z6
    subst z2; subst z4; subst z5; subst z6
    clear z1 z3
    go_wp2_with fail
    refine (HA.out _ (HE.out.below B_4.out)).mono ?_
    rintro e x4 ⟨rfl, hb⟩
    have B_5 := Lib.hid (B_4.out.trans (Below.mono hb B_4.out.size))
    have H_5 := Lib.hid (Blk.below H_4.out hb)
    have G_5 := Lib.hid (Blk.below G_4.out hb)
    have D_5 := Lib.hid (Blk.below D_4.out hb)
    clear hb B_4 H_4 G_4 D_4
    go_wp2_with fail
    go_ret
    exact ⟨rfl, B_5.out⟩
  · have hlen : ¬ 24 < A.length + C.length := by omega
    have hlen' : ¬ (24 : Int) < (A.length : Int) + (C.length : Int) := by omega
    have Z1 := HQ1.out.trans hpa
    have Z2 := HQ2.out.trans hpb
    have Z3 := HQ3.out.trans hpc
    injection Z1 with z1 z2
    injection Z2 with z3 z4
    injection Z3 with z5 z6
    subst z2; subst z4; subst z6
    have HU := Lib.hid z5
    have hsS : S.size ≤ 408 := by rw [z1]; exact prB_len A (by omega)
    have hsR : R.size ≤ 408 := by rw [z3]; exact prB_len C (by omega)
    have HJ := Lib.hid (show prB (A ++ C) = if A = [] then R else if C = [] then S else S ++ sepB ++ R by rw [z1, z3]; exact pr_append A _ C rfl)
    have HS0 := Lib.hid (show A = [] → S = ⟨#[]⟩ from fun e => by rw [z1, e]; rfl)
    have HR0 := Lib.hid (show C = [] → R = ⟨#[]⟩ from fun e => by rw [z3, e]; rfl)
    have HPE := Lib.hid hpe
    clear z1 z3 z5 hpa hpb hpc ha hb' hpe
    rcases (show m = 0 ∨ (0 < m ∧ m2 = 0) ∨ (0 < m ∧ 0 < m2) by omega) with hm0 | ⟨hm0, hm9⟩ | ⟨hm0, hm9⟩
    · have hA0 : A = [] := List.eq_nil_of_length_eq_zero (by rw [HLA.out]; exact hm0)
      have hS0 := HS0.out hA0
      have HW := Lib.hid (show U = S ++ R by rw [HU.out, HJ.out, if_pos hA0, hS0]; apply bytes_ext; simp [ByteArray.data_append])
      have WT : ByteArray := S ++ R
      subst hm0
      clear hA0 hS0
      have hsz0 : (S ++ R).size ≤ 816 := by rw [ByteArray.size_append]; omega
      have HPS := Lib.hid (fun W (h : Env W) => Parse_any U W (by rw [HW.out]; omega) h.1)
      rw [HU.out, HPE.out, ← HU.out] at HPS
      unfold ParTo at HPS
      rw [HW.out] at HPS
      have huu : (U.toList == U.toList) = true := by simp
      go_wp2_with fail
      refine (HPS.out _ (HE.out.below B_4.out)).mono ?_
      rintro e x4 ⟨a1, n1, c1, rfl, h1, hb⟩
      have P_in := Lib.hid h1
      clear h1
      have B_5 := Lib.hid (B_4.out.trans (Below.mono hb B_4.out.size))
      have H_5 := Lib.hid (Blk.below H_4.out hb)
      have G_5 := Lib.hid (Blk.below G_4.out hb)
      have D_5 := Lib.hid (Blk.below D_4.out hb)
      clear hb B_4 H_4 G_4 D_4
      go_wp2_with fail
      refine (HA.out _ (HE.out.below B_5.out)).mono ?_
      rintro e x5 ⟨rfl, hb⟩
      have B_6 := Lib.hid (B_5.out.trans (Below.mono hb B_5.out.size))
      have H_6 := Lib.hid (Blk.below H_5.out hb)
      have G_6 := Lib.hid (Blk.below G_5.out hb)
      have D_6 := Lib.hid (Blk.below D_5.out hb)
      have P_6 := Lib.hid (Blk.below P_in.out hb)
      clear hb B_5 H_5 G_5 D_5 P_in
      have HI := Lib.hid (Instrs_yes a1 a6 n1 (A.length + C.length) c1 c6 (A ++ C) _ P_6.out D_6.out)
      have huw := eqT HW.out
      go_wp2_with fail
      refine (HI.out).mono ?_
      rintro e x6 ⟨rfl, hb⟩
      have B_7 := Lib.hid (B_6.out.trans (Below.mono hb B_6.out.size))
      have H_7 := Lib.hid (Blk.below H_6.out hb)
      have G_7 := Lib.hid (Blk.below G_6.out hb)
      have D_7 := Lib.hid (Blk.below D_6.out hb)
      have P_7 := Lib.hid (Blk.below P_6.out hb)
      clear hb B_6 H_6 G_6 D_6 P_6
      go_wp2_with fail
      go_ret
      exact ⟨rfl, B_7.out⟩
    · have hA0 : ¬ A = [] := fun e => by have := HLA.out; rw [e] at this; simp at this; omega
      have hC0 : C = [] := List.eq_nil_of_length_eq_zero (by rw [HLC.out]; exact hm9)
      have hR0 := HR0.out hC0
      have HW := Lib.hid (show U = S ++ R by rw [HU.out, HJ.out, if_neg hA0, if_pos hC0, hR0]; apply bytes_ext; simp [ByteArray.data_append])
      have hm0' : (0 : Int) < (m : Int) := by omega
      subst hm9
      clear hA0 hC0 hR0
      have hsz0 : (S ++ R).size ≤ 816 := by rw [ByteArray.size_append]; omega
      have HPS := Lib.hid (fun W (h : Env W) => Parse_any U W (by rw [HW.out]; omega) h.1)
      rw [HU.out, HPE.out, ← HU.out] at HPS
      unfold ParTo at HPS
      rw [HW.out] at HPS
      have huu : (U.toList == U.toList) = true := by simp
      go_wp2_with fail
      refine (HPS.out _ (HE.out.below B_4.out)).mono ?_
      rintro e x4 ⟨a1, n1, c1, rfl, h1, hb⟩
      have P_in := Lib.hid h1
      clear h1
      have B_5 := Lib.hid (B_4.out.trans (Below.mono hb B_4.out.size))
      have H_5 := Lib.hid (Blk.below H_4.out hb)
      have G_5 := Lib.hid (Blk.below G_4.out hb)
      have D_5 := Lib.hid (Blk.below D_4.out hb)
      clear hb B_4 H_4 G_4 D_4
      go_wp2_with fail
      refine (HA.out _ (HE.out.below B_5.out)).mono ?_
      rintro e x5 ⟨rfl, hb⟩
      have B_6 := Lib.hid (B_5.out.trans (Below.mono hb B_5.out.size))
      have H_6 := Lib.hid (Blk.below H_5.out hb)
      have G_6 := Lib.hid (Blk.below G_5.out hb)
      have D_6 := Lib.hid (Blk.below D_5.out hb)
      have P_6 := Lib.hid (Blk.below P_in.out hb)
      clear hb B_5 H_5 G_5 D_5 P_in
      have HI := Lib.hid (Instrs_yes a1 a6 n1 (A.length + C.length) c1 c6 (A ++ C) _ P_6.out D_6.out)
      have huw := eqT HW.out
      go_wp2_with fail
      refine (HI.out).mono ?_
      rintro e x6 ⟨rfl, hb⟩
      have B_7 := Lib.hid (B_6.out.trans (Below.mono hb B_6.out.size))
      have H_7 := Lib.hid (Blk.below H_6.out hb)
      have G_7 := Lib.hid (Blk.below G_6.out hb)
      have D_7 := Lib.hid (Blk.below D_6.out hb)
      have P_7 := Lib.hid (Blk.below P_6.out hb)
      clear hb B_6 H_6 G_6 D_6 P_6
      go_wp2_with fail
      go_ret
      exact ⟨rfl, B_7.out⟩
    · have hA0 : ¬ A = [] := fun e => by have := HLA.out; rw [e] at this; simp at this; omega
      have hC0 : ¬ C = [] := fun e => by have := HLC.out; rw [e] at this; simp at this; omega
      have HW := Lib.hid (show U = S ++ sepB ++ R by rw [HU.out, HJ.out, if_neg hA0, if_neg hC0])
      have hm0' : (0 : Int) < (m : Int) := by omega
      have hm9' : (0 : Int) < (m2 : Int) := by omega
      have hsz1 : (S ++ (⟨#[59, 32]⟩ : ByteArray)).size ≤ 410 := by rw [ByteArray.size_append]; show S.size + 2 ≤ 410; omega
      clear hA0 hC0
      have hsz0 : (S ++ R).size ≤ 816 := by rw [ByteArray.size_append]; omega
      have HPS := Lib.hid (fun W (h : Env W) => Parse_any U W (by rw [HW.out]; rw [ByteArray.size_append]; have : (S ++ sepB).size ≤ 410 := hsz1; omega) h.1)
      rw [HU.out, HPE.out, ← HU.out] at HPS
      unfold ParTo at HPS
      rw [HW.out] at HPS
      have huu : (U.toList == U.toList) = true := by simp
      go_wp2_with fail
      refine (HPS.out _ (HE.out.below B_4.out)).mono ?_
      rintro e x4 ⟨a1, n1, c1, rfl, h1, hb⟩
      have P_in := Lib.hid h1
      clear h1
      have B_5 := Lib.hid (B_4.out.trans (Below.mono hb B_4.out.size))
      have H_5 := Lib.hid (Blk.below H_4.out hb)
      have G_5 := Lib.hid (Blk.below G_4.out hb)
      have D_5 := Lib.hid (Blk.below D_4.out hb)
      clear hb B_4 H_4 G_4 D_4
      go_wp2_with fail
      refine (HA.out _ (HE.out.below B_5.out)).mono ?_
      rintro e x5 ⟨rfl, hb⟩
      have B_6 := Lib.hid (B_5.out.trans (Below.mono hb B_5.out.size))
      have H_6 := Lib.hid (Blk.below H_5.out hb)
      have G_6 := Lib.hid (Blk.below G_5.out hb)
      have D_6 := Lib.hid (Blk.below D_5.out hb)
      have P_6 := Lib.hid (Blk.below P_in.out hb)
      clear hb B_5 H_5 G_5 D_5 P_in
      have HI := Lib.hid (Instrs_yes a1 a6 n1 (A.length + C.length) c1 c6 (A ++ C) _ P_6.out D_6.out)
      have huw := eqT HW.out
      go_wp2_with fail
      refine (HI.out).mono ?_
      rintro e x6 ⟨rfl, hb⟩
      have B_7 := Lib.hid (B_6.out.trans (Below.mono hb B_6.out.size))
      have H_7 := Lib.hid (Blk.below H_6.out hb)
      have G_7 := Lib.hid (Blk.below G_6.out hb)
      have D_7 := Lib.hid (Blk.below D_6.out hb)
      have P_7 := Lib.hid (Blk.below P_6.out hb)
      clear hb B_6 H_6 G_6 D_6 P_6
      go_wp2_with fail
      go_ret
      exact ⟨rfl, B_7.out⟩
end Go.Proofs.YtpdlfijcicboiaaDoor
