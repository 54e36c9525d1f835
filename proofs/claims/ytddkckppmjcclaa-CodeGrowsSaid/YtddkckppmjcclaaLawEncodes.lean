/- CodeEncodes: the walk. -/
import Derived.Test.YtddkckppmjcclaaE1
namespace Go.Proofs.Ytddkckppmjcclaa
open Go.RowKit
set_option linter.unusedSimpArgs false
set_option linter.unusedVariables false
theorem st6_size (W : World) (B : Nat) (v0 v1 v2 v3 v4 v5 : Value) : (st6 W B v0 v1 v2 v3 v4 v5).heap.size = W.heap.size := by
  simp [st6]
def Says (w : World) (e : Ending) (w' : World) : Prop := e = .returned (.bool true) ∧ Below w.heap.size w w'
set_option maxRecDepth 100000 in
set_option maxHeartbeats 8000000 in
theorem encodes_bad (p0 : Pr) (q0 : PAt) (w : World) (h : Prg w p0 q0) (hr : rightP (fewP p0) = false) : Calls Try.prog 3 #[prV p0 q0] w (Says w) := by
  have B_0 := Lib.hid (below_alloc w (.cells (prC p0 q0) 26))
  have K_0 := Lib.hid (Bx.new w (prC p0 q0) 26)
  have HF := Lib.hid (few_any p0 q0 w _ h B_0.out)
  obtain ⟨p, hpe⟩ : ∃ p, p = fewP p0 := ⟨_, rfl⟩
  rw [← hpe] at HF hr
  unfold GotP at HF
  clear h hpe
  go_enter Try.func3, Try.ntmps3
  go_wp2_with fail
  refine HF.out.mono ?_
  rintro e w1 ⟨q, rfl, hp, hb⟩
  have K_1 := Lib.hid (K_0.out.below hb); have B_1 := Lib.hid (B_0.out.trans (Below.mono hb B_0.out.size)); have HP := Lib.hid hp
  clear hb hp
  obtain ⟨BK, hBK⟩ : ∃ x, x = w.heap.size := ⟨_, rfl⟩
  have HBK := Lib.hid hBK
  rw [← hBK] at K_1 ⊢
  clear hBK K_0 B_0 HF
  obtain ⟨k0, k1, k2, k3, k4, k5⟩ := K_1.out.cells6
  have lk := Bx.lt K_1.out
  have f0 := Bx.froz K_1.out 0; have f1 := Bx.froz K_1.out 1; have f2 := Bx.froz K_1.out 2; have f3 := Bx.froz K_1.out 3; have f4 := Bx.froz K_1.out 4; have f5 := Bx.froz K_1.out 5
  go_upto_region 2 with (fail)
  have hbk := HBK.out
  obtain ⟨X2, hX2⟩ : ∃ x, x = st6 w1 BK (.slice q.ca q.cn q.cc) (.int .i64 p.mu) (.int .i64 p.on) (.int .i64 p.va) (.slice q.sa q.sn q.sc) (.slice q.ba q.bn q.bc) := ⟨_, rfl⟩
  have B := Lib.hid (show Below w.heap.size w X2 by rw [hX2]; exact B_1.out.trans (below_grown (grown_st6 (World.grownBy.refl w1 (some BK)) _ _ _ _ _ _) (by omega) B_1.out.size))
  have K := Lib.hid (show Bx X2 BK (prC p q) 26 by rw [hX2]; exact K_1.out.st6 _ _ _ _ _ _)
  have P := Lib.hid (HP.out X2 B.out (fun g hg => by
    rw [hX2]
    by_cases hgs : g < w1.heap.size
    · exact (grown_st6 (World.grownBy.refl w1 (some BK)) _ _ _ _ _ _).block g hgs (some_ne (by simp at hg; omega))
    · have hsz := st6_size w1 BK (.slice q.ca q.cn q.cc) (.int .i64 p.mu) (.int .i64 p.on) (.int .i64 p.va) (.slice q.sa q.sn q.sc) (.slice q.ba q.bn q.bc)
      rw [Array.getElem?_eq_none (by rw [hsz]; omega), Array.getElem?_eq_none (by omega)]))
  simp only [st6] at hX2
  rw [← hX2]
  clear hX2 hbk k0 k1 k2 k3 k4 k5 lk f0 f1 f2 f3 f4 f5 K_1 B_1 HP
  have HE := Lib.hid (fun W H => Encode_no p q W H hr); have HS := Lib.hid (fun W H => Size_no p q W H hr)
  have HR := Lib.hid (fun W H => refRight_any p q W H)
  rw [hr] at HR
  clear hr
  obtain ⟨k0, k1, k2, k3, k4, k5⟩ := K.out.cells6
  go_wp2_with fail
  clear k0 k1 k2 k3 k4 k5
  refine (HE.out _ P.out).mono ?_
  rintro e w11 ⟨rfl, hb⟩
  have Kn := Lib.hid (K.out.below hb); have Pn := Lib.hid (P.out.below hb); have Bn := Lib.hid (B.out.trans (Below.mono hb B.out.size))
  clear hb K P B
  have K := Kn; have P := Pn; have B := Bn
  clear Kn Pn Bn
  obtain ⟨k0, k1, k2, k3, k4, k5⟩ := K.out.cells6
  go_wp2_with fail
  clear k0 k1 k2 k3 k4 k5
  refine (HS.out _ P.out).mono ?_
  rintro e w12 ⟨rfl, hb⟩
  have Kn := Lib.hid (K.out.below hb); have Pn := Lib.hid (P.out.below hb); have Bn := Lib.hid (B.out.trans (Below.mono hb B.out.size))
  clear hb K P B
  have K := Kn; have P := Pn; have B := Bn
  clear Kn Pn Bn
  obtain ⟨k0, k1, k2, k3, k4, k5⟩ := K.out.cells6
  go_wp2_with fail
  clear k0 k1 k2 k3 k4 k5
  refine (HR.out _ P.out).mono ?_
  rintro e w13 ⟨rfl, hb⟩
  have Kn := Lib.hid (K.out.below hb); have Pn := Lib.hid (P.out.below hb); have Bn := Lib.hid (B.out.trans (Below.mono hb B.out.size))
  clear hb K P B
  have K := Kn; have P := Pn; have B := Bn
  clear Kn Pn Bn
  obtain ⟨k0, k1, k2, k3, k4, k5⟩ := K.out.cells6
  go_wp2_with fail
  clear k0 k1 k2 k3 k4 k5
  refine (alive_any _).mono ?_
  rintro e w14 ⟨rfl, hb⟩
  have Kn := Lib.hid (K.out.below hb); have Pn := Lib.hid (P.out.below hb); have Bn := Lib.hid (B.out.trans (Below.mono hb B.out.size))
  clear hb K P B
  have K := Kn; have P := Pn; have B := Bn
  clear Kn Pn Bn
  go_wp2_with fail
  go_ret
  exact ⟨ret_bool (by first | rfl | simp), B.out⟩
set_option maxRecDepth 100000 in
set_option maxHeartbeats 8000000 in
theorem encodes_ok (p0 : Pr) (q0 : PAt) (w : World) (h : Prg w p0 q0) (hr : rightP (fewP p0) = true) : Calls Try.prog 3 #[prV p0 q0] w (Says w) := by
  have B_0 := Lib.hid (below_alloc w (.cells (prC p0 q0) 26))
  have K_0 := Lib.hid (Bx.new w (prC p0 q0) 26)
  have HF := Lib.hid (few_any p0 q0 w _ h B_0.out)
  obtain ⟨p, hpe⟩ : ∃ p, p = fewP p0 := ⟨_, rfl⟩
  rw [← hpe] at HF hr
  unfold GotP at HF
  clear h hpe
  go_enter Try.func3, Try.ntmps3
  go_wp2_with fail
  refine HF.out.mono ?_
  rintro e w1 ⟨q, rfl, hp, hb⟩
  have K_1 := Lib.hid (K_0.out.below hb); have B_1 := Lib.hid (B_0.out.trans (Below.mono hb B_0.out.size)); have HP := Lib.hid hp
  clear hb hp
  obtain ⟨BK, hBK⟩ : ∃ x, x = w.heap.size := ⟨_, rfl⟩
  have HBK := Lib.hid hBK
  rw [← hBK] at K_1 ⊢
  clear hBK K_0 B_0 HF
  obtain ⟨k0, k1, k2, k3, k4, k5⟩ := K_1.out.cells6
  have lk := Bx.lt K_1.out
  have f0 := Bx.froz K_1.out 0; have f1 := Bx.froz K_1.out 1; have f2 := Bx.froz K_1.out 2; have f3 := Bx.froz K_1.out 3; have f4 := Bx.froz K_1.out 4; have f5 := Bx.froz K_1.out 5
  go_upto_region 2 with (fail)
  have hbk := HBK.out
  obtain ⟨X2, hX2⟩ : ∃ x, x = st6 w1 BK (.slice q.ca q.cn q.cc) (.int .i64 p.mu) (.int .i64 p.on) (.int .i64 p.va) (.slice q.sa q.sn q.sc) (.slice q.ba q.bn q.bc) := ⟨_, rfl⟩
  have B := Lib.hid (show Below w.heap.size w X2 by rw [hX2]; exact B_1.out.trans (below_grown (grown_st6 (World.grownBy.refl w1 (some BK)) _ _ _ _ _ _) (by omega) B_1.out.size))
  have K := Lib.hid (show Bx X2 BK (prC p q) 26 by rw [hX2]; exact K_1.out.st6 _ _ _ _ _ _)
  have P := Lib.hid (HP.out X2 B.out (fun g hg => by
    rw [hX2]
    by_cases hgs : g < w1.heap.size
    · exact (grown_st6 (World.grownBy.refl w1 (some BK)) _ _ _ _ _ _).block g hgs (some_ne (by simp at hg; omega))
    · have hsz := st6_size w1 BK (.slice q.ca q.cn q.cc) (.int .i64 p.mu) (.int .i64 p.on) (.int .i64 p.va) (.slice q.sa q.sn q.sc) (.slice q.ba q.bn q.bc)
      rw [Array.getElem?_eq_none (by rw [hsz]; omega), Array.getElem?_eq_none (by omega)]))
  simp only [st6] at hX2
  rw [← hX2]
  clear hX2 hbk k0 k1 k2 k3 k4 k5 lk f0 f1 f2 f3 f4 f5 K_1 B_1 HP
  have HE := Lib.hid (fun W H => Encode_ok p q W H hr); have HS := Lib.hid (fun W H => Size_ok p q W H hr)
  have HR := Lib.hid (fun W H => refRight_any p q W H)
  rw [hr] at HR
  have HN := Lib.hid (fun W H => refEncode_any p q W H hr)
  obtain ⟨S, hS⟩ : ∃ S, S = bytesP p := ⟨_, rfl⟩
  rw [← hS] at HE HS HN
  clear hS
  clear hr
  obtain ⟨k0, k1, k2, k3, k4, k5⟩ := K.out.cells6
  go_wp2_with fail
  clear k0 k1 k2 k3 k4 k5
  refine (HE.out _ P.out).mono ?_
  rintro e w11 ⟨rfl, hb⟩
  have Kn := Lib.hid (K.out.below hb); have Pn := Lib.hid (P.out.below hb); have Bn := Lib.hid (B.out.trans (Below.mono hb B.out.size))
  clear hb K P B
  have K := Kn; have P := Pn; have B := Bn
  clear Kn Pn Bn
  obtain ⟨k0, k1, k2, k3, k4, k5⟩ := K.out.cells6
  go_wp2_with fail
  clear k0 k1 k2 k3 k4 k5
  refine (HS.out _ P.out).mono ?_
  rintro e w12 ⟨rfl, hb⟩
  have Kn := Lib.hid (K.out.below hb); have Pn := Lib.hid (P.out.below hb); have Bn := Lib.hid (B.out.trans (Below.mono hb B.out.size))
  clear hb K P B
  have K := Kn; have P := Pn; have B := Bn
  clear Kn Pn Bn
  obtain ⟨k0, k1, k2, k3, k4, k5⟩ := K.out.cells6
  go_wp2_with fail
  clear k0 k1 k2 k3 k4 k5
  refine (HR.out _ P.out).mono ?_
  rintro e w13 ⟨rfl, hb⟩
  have Kn := Lib.hid (K.out.below hb); have Pn := Lib.hid (P.out.below hb); have Bn := Lib.hid (B.out.trans (Below.mono hb B.out.size))
  clear hb K P B
  have K := Kn; have P := Pn; have B := Bn
  clear Kn Pn Bn
  obtain ⟨k0, k1, k2, k3, k4, k5⟩ := K.out.cells6
  go_wp2_with fail
  clear k0 k1 k2 k3 k4 k5
  refine (alive_any _).mono ?_
  rintro e w14 ⟨rfl, hb⟩
  have Kn := Lib.hid (K.out.below hb); have Pn := Lib.hid (P.out.below hb); have Bn := Lib.hid (B.out.trans (Below.mono hb B.out.size))
  clear hb K P B
  have K := Kn; have P := Pn; have B := Bn
  clear Kn Pn Bn
  obtain ⟨k0, k1, k2, k3, k4, k5⟩ := K.out.cells6
  go_wp2_with fail
  clear k0 k1 k2 k3 k4 k5
  refine (HN.out _ P.out).mono ?_
  rintro e w15 ⟨rfl, hb⟩
  have Kn := Lib.hid (K.out.below hb); have Pn := Lib.hid (P.out.below hb); have Bn := Lib.hid (B.out.trans (Below.mono hb B.out.size))
  clear hb K P B
  have K := Kn; have P := Pn; have B := Bn
  clear Kn Pn Bn
  go_wp2_with fail
  go_ret
  exact ⟨ret_bool (by first | rfl | simp), B.out⟩
theorem encodes_any (p : Pr) (q : PAt) (w : World) (h : Prg w p q) : Calls Try.prog 3 #[prV p q] w (Says w) := by
  cases hr : rightP (fewP p) with
  | false => exact encodes_bad p q w h hr
  | true => exact encodes_ok p q w h hr
end Go.Proofs.Ytddkckppmjcclaa
