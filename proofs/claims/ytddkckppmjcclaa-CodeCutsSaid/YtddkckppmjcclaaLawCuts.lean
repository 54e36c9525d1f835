/- CodeCuts: the walk. -/
import Derived.Test.YtddkckppmjcclaaH3
import Derived.Test.YtddkckppmjcclaaG2
import Derived.Test.YtddkckppmjcclaaLawEncodes
namespace Go.Proofs.Ytddkckppmjcclaa
open Go.RowKit
set_option linter.unusedSimpArgs false
set_option linter.unusedVariables false
theorem bytes_ne {p : Pr} (hr : rightP p = true) : 1 ≤ (bytesP p).size := by
  unfold bytesP
  rw [strOf_size]
  have h : (putL (p.caps.length : Int)).length ≤ (allL (numL p)).length := by
    unfold numL headN allL
    simp only [List.cons_append, List.flatMap_cons, List.length_append]
    omega
  have := (putL_len (p.caps.length : Int)).1
  omega
theorem bytes_tx {p : Pr} (hr : rightP p = true) : tx (bytesP p) = allL (numL p) := tx_strOf _ (bytes_byt hr)
theorem str_ne {S : ByteArray} (h : 1 ≤ S.size) : (S.toList == []) = false := by
  have : S.toList.length = S.size := by rw [← data_toList]; rfl
  cases hl : S.toList with
  | nil => rw [hl] at this; simp at this; omega
  | cons a b => rfl
set_option maxRecDepth 100000 in
set_option maxHeartbeats 8000000 in
theorem cuts_bad (p0 : Pr) (q0 : PAt) (n : Int) (w : World) (h : Prg w p0 q0) (hr : rightP (fewP p0) = false) : Calls Try.prog 6 #[prV p0 q0, .int .i64 n] w (Says w) := by
  have B_0 := Lib.hid (below_alloc w (.cells (prC p0 q0) 26))
  have K_0 := Lib.hid (Bx.new w (prC p0 q0) 26)
  have HF := Lib.hid (few_any p0 q0 w _ h B_0.out)
  obtain ⟨p, hpe⟩ : ∃ p, p = fewP p0 := ⟨_, rfl⟩
  rw [← hpe] at HF hr
  unfold GotP at HF
  clear h hpe
  go_enter Try.func6, Try.ntmps6
  go_wp2_with fail
  refine HF.out.mono ?_
  rintro e w1 ⟨q, rfl, hp, hb⟩
  have K_1 := Lib.hid (K_0.out.below hb); have B_1 := Lib.hid (B_0.out.trans (Below.mono hb B_0.out.size)); have HP := Lib.hid hp
  clear hb hp
  obtain ⟨BK, hBK⟩ : ∃ x, x = w.heap.size := ⟨_, rfl⟩
  have HBK := Lib.hid hBK
  rw [← hBK] at K_1 ⊢
  clear hBK K_0 B_0 HF
  obtain ⟨k0, k1, k2, k3, k4, k5⟩ := K_1.out.cells6
  have lk := Bx.lt K_1.out
  have f0 := Bx.froz K_1.out 0; have f1 := Bx.froz K_1.out 1; have f2 := Bx.froz K_1.out 2; have f3 := Bx.froz K_1.out 3; have f4 := Bx.froz K_1.out 4; have f5 := Bx.froz K_1.out 5
  go_upto_region 2 with (fail)
  have hbk := HBK.out
  obtain ⟨X2, hX2⟩ : ∃ x, x = st6 w1 BK (.slice q.ca q.cn q.cc) (.int .i64 p.mu) (.int .i64 p.on) (.int .i64 p.va) (.slice q.sa q.sn q.sc) (.slice q.ba q.bn q.bc) := ⟨_, rfl⟩
  have B := Lib.hid (show Below w.heap.size w X2 by rw [hX2]; exact B_1.out.trans (below_grown (grown_st6 (World.grownBy.refl w1 (some BK)) _ _ _ _ _ _) (by omega) B_1.out.size))
  have K := Lib.hid (show Bx X2 BK (prC p q) 26 by rw [hX2]; exact K_1.out.st6 _ _ _ _ _ _)
  have P := Lib.hid (HP.out X2 B.out (fun g hg => by
    rw [hX2]
    by_cases hgs : g < w1.heap.size
    · exact (grown_st6 (World.grownBy.refl w1 (some BK)) _ _ _ _ _ _).block g hgs (some_ne (by simp at hg; omega))
    · have hsz := st6_size w1 BK (.slice q.ca q.cn q.cc) (.int .i64 p.mu) (.int .i64 p.on) (.int .i64 p.va) (.slice q.sa q.sn q.sc) (.slice q.ba q.bn q.bc)
      rw [Array.getElem?_eq_none (by rw [hsz]; omega), Array.getElem?_eq_none (by omega)]))
  simp only [st6] at hX2
  rw [← hX2]
  clear hX2 hbk k0 k1 k2 k3 k4 k5 lk f0 f1 f2 f3 f4 f5 K_1 B_1 HP
  have HE := Lib.hid (fun W H => Encode_no p q W H hr)
  clear hr
  obtain ⟨k0, k1, k2, k3, k4, k5⟩ := K.out.cells6
  go_wp2_with fail
  clear k0 k1 k2 k3 k4 k5
  refine (HE.out _ P.out).mono ?_
  rintro e w11 ⟨rfl, hb⟩
  have Kn := Lib.hid (K.out.below hb); have Pn := Lib.hid (P.out.below hb); have Bn := Lib.hid (B.out.trans (Below.mono hb B.out.size))
  clear hb K P B
  have K := Kn; have P := Pn; have B := Bn
  clear Kn Pn Bn
  obtain ⟨k0, k1, k2, k3, k4, k5⟩ := K.out.cells6
  go_wp2_with fail
  clear k0 k1 k2 k3 k4 k5
  refine (alive_any _).mono ?_
  rintro e w12 ⟨rfl, hb⟩
  have Kn := Lib.hid (K.out.below hb); have Pn := Lib.hid (P.out.below hb); have Bn := Lib.hid (B.out.trans (Below.mono hb B.out.size))
  clear hb K P B
  have K := Kn; have P := Pn; have B := Bn
  clear Kn Pn Bn
  go_wp2_with fail
  go_ret
  exact ⟨ret_bool (by first | rfl | simp), B.out⟩
set_option maxRecDepth 100000 in
set_option maxHeartbeats 8000000 in
theorem cuts_ok (p0 : Pr) (q0 : PAt) (n : Int) (w : World) (h : Prg w p0 q0) (hr : rightP (fewP p0) = true) (hn : I64 n) : Calls Try.prog 6 #[prV p0 q0, .int .i64 n] w (Says w) := by
  have B_0 := Lib.hid (below_alloc w (.cells (prC p0 q0) 26))
  have K_0 := Lib.hid (Bx.new w (prC p0 q0) 26)
  have HF := Lib.hid (few_any p0 q0 w _ h B_0.out)
  obtain ⟨p, hpe⟩ : ∃ p, p = fewP p0 := ⟨_, rfl⟩
  rw [← hpe] at HF hr
  unfold GotP at HF
  clear h hpe
  go_enter Try.func6, Try.ntmps6
  go_wp2_with fail
  refine HF.out.mono ?_
  rintro e w1 ⟨q, rfl, hp, hb⟩
  have K_1 := Lib.hid (K_0.out.below hb); have B_1 := Lib.hid (B_0.out.trans (Below.mono hb B_0.out.size)); have HP := Lib.hid hp
  clear hb hp
  obtain ⟨BK, hBK⟩ : ∃ x, x = w.heap.size := ⟨_, rfl⟩
  have HBK := Lib.hid hBK
  rw [← hBK] at K_1 ⊢
  clear hBK K_0 B_0 HF
  obtain ⟨k0, k1, k2, k3, k4, k5⟩ := K_1.out.cells6
  have lk := Bx.lt K_1.out
  have f0 := Bx.froz K_1.out 0; have f1 := Bx.froz K_1.out 1; have f2 := Bx.froz K_1.out 2; have f3 := Bx.froz K_1.out 3; have f4 := Bx.froz K_1.out 4; have f5 := Bx.froz K_1.out 5
  go_upto_region 2 with (fail)
  have hbk := HBK.out
  obtain ⟨X2, hX2⟩ : ∃ x, x = st6 w1 BK (.slice q.ca q.cn q.cc) (.int .i64 p.mu) (.int .i64 p.on) (.int .i64 p.va) (.slice q.sa q.sn q.sc) (.slice q.ba q.bn q.bc) := ⟨_, rfl⟩
  have B := Lib.hid (show Below w.heap.size w X2 by rw [hX2]; exact B_1.out.trans (below_grown (grown_st6 (World.grownBy.refl w1 (some BK)) _ _ _ _ _ _) (by omega) B_1.out.size))
  have K := Lib.hid (show Bx X2 BK (prC p q) 26 by rw [hX2]; exact K_1.out.st6 _ _ _ _ _ _)
  have P := Lib.hid (HP.out X2 B.out (fun g hg => by
    rw [hX2]
    by_cases hgs : g < w1.heap.size
    · exact (grown_st6 (World.grownBy.refl w1 (some BK)) _ _ _ _ _ _).block g hgs (some_ne (by simp at hg; omega))
    · have hsz := st6_size w1 BK (.slice q.ca q.cn q.cc) (.int .i64 p.mu) (.int .i64 p.on) (.int .i64 p.va) (.slice q.sa q.sn q.sc) (.slice q.ba q.bn q.bc)
      rw [Array.getElem?_eq_none (by rw [hsz]; omega), Array.getElem?_eq_none (by omega)]))
  simp only [st6] at hX2
  rw [← hX2]
  clear hX2 hbk k0 k1 k2 k3 k4 k5 lk f0 f1 f2 f3 f4 f5 K_1 B_1 HP
  have HE := Lib.hid (fun W H => Encode_ok p q W H hr)
  have hne := bytes_ne hr
  have hsz := bytesP_size hr
  obtain ⟨k, hk⟩ : ∃ k : Nat, (k : Int) = (n.tmod (bytesP p).size + (bytesP p).size) % (bytesP p).size := ⟨((n.tmod (bytesP p).size + (bytesP p).size) % (bytesP p).size).toNat, by
    have h2 := Int.emod_nonneg (n.tmod (bytesP p).size + (bytesP p).size) (show ((bytesP p).size : Int) ≠ 0 by omega)
    omega⟩
  have hkl : k < (bytesP p).size := by
    have := Int.emod_lt_of_pos (n.tmod (bytesP p).size + (bytesP p).size) (show (0 : Int) < (bytesP p).size by omega)
    omega
  have HD := Lib.hid (fun W => Decode_any ((bytesP p).extract 0 k) W (by rw [ByteArray.size_extract]; omega))
  rw [tx_take, bytes_tx hr, dec_cut hr (by have := hkl; unfold bytesP at this; rwa [strOf_size] at this)] at HD
  unfold GotDec at HD
  dsimp only at HD
  obtain ⟨S, hS⟩ : ∃ S, S = bytesP p := ⟨_, rfl⟩
  rw [← hS] at HE HD hne hsz hk hkl
  have hse := str_ne hne
  have h1 := Int.lt_tmod_of_pos n (show (0 : Int) < S.size by omega)
  have h2 := Int.tmod_lt_of_pos n (show (0 : Int) < S.size by omega)
  have h0 : ¬ (S.size : Int) = 0 := by omega
  have h0b : ((S.size : Int) == 0) = false := by rw [beq_eq_false_iff_ne]; exact h0
  have HM := Lib.hid hk.symm
  clear hr hS hk
  obtain ⟨k0, k1, k2, k3, k4, k5⟩ := K.out.cells6
  go_wp2_with fail
  clear k0 k1 k2 k3 k4 k5
  refine (HE.out _ P.out).mono ?_
  rintro e w11 ⟨rfl, hb⟩
  have Kn := Lib.hid (K.out.below hb); have Pn := Lib.hid (P.out.below hb); have Bn := Lib.hid (B.out.trans (Below.mono hb B.out.size))
  clear hb K P B
  have K := Kn; have P := Pn; have B := Bn
  clear Kn Pn Bn
  go_upto_region 6 with (fail)
  rw [HM.out]
  have hkl2 : k ≤ S.size := by omega
  have hkl3 : (k : Int) ≤ (S.size : Int) := by omega
  clear HM h1 h2 h0 h0b hse hne
  go_wp2_with fail
  refine (HD.out _).mono ?_
  rintro e w20 ⟨qd, rfl, hz, hb⟩
  have BA := Lib.hid (below_alloc w20 (.cells (prC zeroPr qd) 26))
  have KD := Lib.hid (Bx.new w20 (prC zeroPr qd) 26)
  have B2 := Lib.hid ((B.out.trans (Below.mono hb B.out.size)).trans (Below.mono BA.out (Nat.le_trans B.out.size hb.size)))
  have ZD := Lib.hid (hz.below BA.out)
  clear hb hz K P B HD HE
  go_upto_region 7 with (fail)
  obtain ⟨BD, hBD⟩ : ∃ b, b = w20.heap.size := ⟨_, rfl⟩
  obtain ⟨w21, hw21⟩ : ∃ x, x = w20.alloc (.cells (prC zeroPr qd) 26) := ⟨_, rfl⟩
  have hw' := hw21
  simp only [prC, zeroPr] at hw'
  rw [← hw21] at KD B2 ZD
  rw [← hBD] at KD ⊢
  first | rw [← hw21] | rw [← hw']
  clear hw21 hw' hBD BA
  go_wp2_with fail
  refine (alive_any _).mono ?_
  rintro e w22 ⟨rfl, hb⟩
  have KDn := Lib.hid (KD.out.below hb); have B3 := Lib.hid (B2.out.trans (Below.mono hb B2.out.size)); have ZD3 := Lib.hid (ZD.out.below hb)
  clear hb KD B2 ZD
  obtain ⟨k0, k1, k2, k3, k4, k5⟩ := KDn.out.cells6
  have HSY := Lib.hid (Same_yes zeroPr qd zeroAt w22 ZD3.out (Prg.zero w22))
  simp only [prV, prC, zeroPr, zeroAt] at HSY
  simp only [zeroPr] at k0 k1 k2 k3 k4 k5
  go_wp2_with fail
  clear k0 k1 k2 k3 k4 k5
  refine HSY.out.mono ?_
  rintro e w23 ⟨rfl, hb⟩
  have B4 := Lib.hid (B3.out.trans (Below.mono hb B3.out.size))
  go_wp2_with fail
  go_ret
  exact ⟨ret_bool (by first | rfl | simp), B4.out⟩
theorem cuts_any (p : Pr) (q : PAt) (n : Int) (w : World) (h : Prg w p q) (hn : I64 n) : Calls Try.prog 6 #[prV p q, .int .i64 n] w (Says w) := by
  cases hr : rightP (fewP p) with
  | false => exact cuts_bad p q n w h hr
  | true => exact cuts_ok p q n w h hr hn
end Go.Proofs.Ytddkckppmjcclaa
