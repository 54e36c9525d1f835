/- CodeDecodes: the walk. -/
import Derived.Test.YtddkckppmjcclaaX6
import Derived.Test.YtddkckppmjcclaaG2
namespace Go.Proofs.Ytddkckppmjcclaa
open Go.RowKit
set_option linter.unusedSimpArgs false
set_option linter.unusedVariables false
def Says (w : World) (e : Ending) (w' : World) : Prop := e = .returned (.bool true) ∧ Below w.heap.size w w'
set_option maxRecDepth 100000 in
set_option maxHeartbeats 8000000 in
theorem decodes_lo (s : ByteArray) (w : World) (hs : s.size ≤ 9223372036854775807) (h6 : ¬ (600 : Int) < (s.size : Int)) : Calls Try.prog 4 #[.string s] w (Says w) := by
  obtain ⟨s1, hs1⟩ : ∃ s1, s1 = s := ⟨_, rfl⟩
  have hs1l : s1.size ≤ 600 := by rw [hs1]; first | omega | (rw [ByteArray.size_extract]; omega)
  have HS1 := Lib.hid hs1
  have HD := Lib.hid (fun W => Decode_any s1 W (by omega))
  have HR := Lib.hid (fun W => refDecode_any s1 W (by omega))
  unfold GotDec at HD HR
  obtain ⟨z, hz⟩ : ∃ z, z = decZ (tx s1) := ⟨_, rfl⟩
  rw [← hz] at HD HR
  clear hz hs1
  obtain ⟨p, c⟩ := z
  dsimp only at HD HR
  have HSY := Lib.hid (fun W q q2 (H : Prg W p q) (H2 : Prg W p q2) => Same_yes p q q2 W H H2)
  have B0 := Lib.hid (Below.refl w.heap.size w)
  go_enter Try.func4, Try.ntmps4
  go_upto_region 2 with (fail)
  first | rw [← HS1.out] | trace_state
  go_wp2_with fail
  refine (HD.out _).mono ?_
  rintro e w21 ⟨q, rfl, hp, hb⟩
  have P_0 := Lib.hid hp
  clear hp
  have B_1 := Lib.hid (B0.out.trans (Below.mono hb B0.out.size))
  clear hb B0
  have BAx := below_alloc w21 (.cells (prC p q) 26)
  have K3_0 := Lib.hid (Bx.new w21 (prC p q) 26)
  have B_2 := Lib.hid (B_1.out.trans (Below.mono BAx B_1.out.size))
  have P_2 := Lib.hid (P_0.out.below BAx)
  clear BAx B_1 P_0
  go_upto_region 3 with (fail)
  obtain ⟨b3, hb3⟩ : ∃ b, b = w21.heap.size := ⟨_, rfl⟩
  obtain ⟨w22, hw22⟩ : ∃ x, x = w21.alloc (.cells (prC p q) 26) := ⟨_, rfl⟩
  have hw' := hw22
  simp only [prC] at hw'
  rw [← hw22] at B_2 P_2 K3_0
  rw [← hb3] at K3_0 ⊢
  first | rw [← hw22] | rw [← hw']
  clear hw22 hw' hb3
  go_wp2_with fail
  refine (HR.out _).mono ?_
  rintro e w23 ⟨q2, rfl, hp, hb⟩
  have P2_0 := Lib.hid hp
  clear hp
  have B_4 := Lib.hid (B_2.out.trans (Below.mono hb B_2.out.size))
  have P_4 := Lib.hid (P_2.out.below hb)
  have K3_4 := Lib.hid (K3_0.out.below hb)
  clear hb B_2 P_2 K3_0
  have BAx := below_alloc w23 (.cells (prC p q2) 26)
  have K5_0 := Lib.hid (Bx.new w23 (prC p q2) 26)
  have B_5 := Lib.hid (B_4.out.trans (Below.mono BAx B_4.out.size))
  have P_5 := Lib.hid (P_4.out.below BAx)
  have K3_5 := Lib.hid (K3_4.out.below BAx)
  have P2_5 := Lib.hid (P2_0.out.below BAx)
  clear BAx B_4 P_4 K3_4 P2_0
  go_upto_region 4 with (fail)
  obtain ⟨b5, hb5⟩ : ∃ b, b = w23.heap.size := ⟨_, rfl⟩
  obtain ⟨w24, hw24⟩ : ∃ x, x = w23.alloc (.cells (prC p q2) 26) := ⟨_, rfl⟩
  have hw' := hw24
  simp only [prC] at hw'
  rw [← hw24] at B_5 P_5 K3_5 P2_5 K5_0
  rw [← hb5] at K5_0 ⊢
  first | rw [← hw24] | rw [← hw']
  clear hw24 hw' hb5
  go_wp2_with fail
  refine (alive_any _).mono ?_
  rintro e w25 ⟨rfl, hb⟩
  have B_7 := Lib.hid (B_5.out.trans (Below.mono hb B_5.out.size))
  have P_7 := Lib.hid (P_5.out.below hb)
  have K3_7 := Lib.hid (K3_5.out.below hb)
  have P2_7 := Lib.hid (P2_5.out.below hb)
  have K5_7 := Lib.hid (K5_0.out.below hb)
  clear hb B_5 P_5 K3_5 P2_5 K5_0
  obtain ⟨a0, a1, a2, a3, a4, a5⟩ := K3_7.out.cells6
  obtain ⟨k0, k1, k2, k3, k4, k5⟩ := K5_7.out.cells6
  go_wp2_with fail
  clear a0 a1 a2 a3 a4 a5 k0 k1 k2 k3 k4 k5
  refine (HSY.out _ _ _ P_7.out P2_7.out).mono ?_
  rintro e w26 ⟨rfl, hb⟩
  have B_8 := Lib.hid (B_7.out.trans (Below.mono hb B_7.out.size))
  have P_8 := Lib.hid (P_7.out.below hb)
  have K3_8 := Lib.hid (K3_7.out.below hb)
  have P2_8 := Lib.hid (P2_7.out.below hb)
  have K5_8 := Lib.hid (K5_7.out.below hb)
  clear hb B_7 P_7 K3_7 P2_7 K5_7
  go_wp2_with fail
  go_ret
  exact ⟨ret_bool (by first | rfl | simp), B_8.out⟩
set_option maxRecDepth 100000 in
set_option maxHeartbeats 8000000 in
theorem decodes_hi (s : ByteArray) (w : World) (hs : s.size ≤ 9223372036854775807) (h6 : (600 : Int) < (s.size : Int)) : Calls Try.prog 4 #[.string s] w (Says w) := by
  obtain ⟨s1, hs1⟩ : ∃ s1, s1 = s.extract 0 600 := ⟨_, rfl⟩
  have hs1l : s1.size ≤ 600 := by rw [hs1]; first | omega | (rw [ByteArray.size_extract]; omega)
  have HS1 := Lib.hid hs1
  have HD := Lib.hid (fun W => Decode_any s1 W (by omega))
  have HR := Lib.hid (fun W => refDecode_any s1 W (by omega))
  unfold GotDec at HD HR
  obtain ⟨z, hz⟩ : ∃ z, z = decZ (tx s1) := ⟨_, rfl⟩
  rw [← hz] at HD HR
  clear hz hs1
  obtain ⟨p, c⟩ := z
  dsimp only at HD HR
  have HSY := Lib.hid (fun W q q2 (H : Prg W p q) (H2 : Prg W p q2) => Same_yes p q q2 W H H2)
  have B0 := Lib.hid (Below.refl w.heap.size w)
  go_enter Try.func4, Try.ntmps4
  go_upto_region 2 with (fail)
  first | rw [← HS1.out] | trace_state
  go_wp2_with fail
  refine (HD.out _).mono ?_
  rintro e w21 ⟨q, rfl, hp, hb⟩
  have P_0 := Lib.hid hp
  clear hp
  have B_1 := Lib.hid (B0.out.trans (Below.mono hb B0.out.size))
  clear hb B0
  have BAx := below_alloc w21 (.cells (prC p q) 26)
  have K3_0 := Lib.hid (Bx.new w21 (prC p q) 26)
  have B_2 := Lib.hid (B_1.out.trans (Below.mono BAx B_1.out.size))
  have P_2 := Lib.hid (P_0.out.below BAx)
  clear BAx B_1 P_0
  go_upto_region 3 with (fail)
  obtain ⟨b3, hb3⟩ : ∃ b, b = w21.heap.size := ⟨_, rfl⟩
  obtain ⟨w22, hw22⟩ : ∃ x, x = w21.alloc (.cells (prC p q) 26) := ⟨_, rfl⟩
  have hw' := hw22
  simp only [prC] at hw'
  rw [← hw22] at B_2 P_2 K3_0
  rw [← hb3] at K3_0 ⊢
  first | rw [← hw22] | rw [← hw']
  clear hw22 hw' hb3
  go_wp2_with fail
  refine (HR.out _).mono ?_
  rintro e w23 ⟨q2, rfl, hp, hb⟩
  have P2_0 := Lib.hid hp
  clear hp
  have B_4 := Lib.hid (B_2.out.trans (Below.mono hb B_2.out.size))
  have P_4 := Lib.hid (P_2.out.below hb)
  have K3_4 := Lib.hid (K3_0.out.below hb)
  clear hb B_2 P_2 K3_0
  have BAx := below_alloc w23 (.cells (prC p q2) 26)
  have K5_0 := Lib.hid (Bx.new w23 (prC p q2) 26)
  have B_5 := Lib.hid (B_4.out.trans (Below.mono BAx B_4.out.size))
  have P_5 := Lib.hid (P_4.out.below BAx)
  have K3_5 := Lib.hid (K3_4.out.below BAx)
  have P2_5 := Lib.hid (P2_0.out.below BAx)
  clear BAx B_4 P_4 K3_4 P2_0
  go_upto_region 4 with (fail)
  obtain ⟨b5, hb5⟩ : ∃ b, b = w23.heap.size := ⟨_, rfl⟩
  obtain ⟨w24, hw24⟩ : ∃ x, x = w23.alloc (.cells (prC p q2) 26) := ⟨_, rfl⟩
  have hw' := hw24
  simp only [prC] at hw'
  rw [← hw24] at B_5 P_5 K3_5 P2_5 K5_0
  rw [← hb5] at K5_0 ⊢
  first | rw [← hw24] | rw [← hw']
  clear hw24 hw' hb5
  go_wp2_with fail
  refine (alive_any _).mono ?_
  rintro e w25 ⟨rfl, hb⟩
  have B_7 := Lib.hid (B_5.out.trans (Below.mono hb B_5.out.size))
  have P_7 := Lib.hid (P_5.out.below hb)
  have K3_7 := Lib.hid (K3_5.out.below hb)
  have P2_7 := Lib.hid (P2_5.out.below hb)
  have K5_7 := Lib.hid (K5_0.out.below hb)
  clear hb B_5 P_5 K3_5 P2_5 K5_0
  obtain ⟨a0, a1, a2, a3, a4, a5⟩ := K3_7.out.cells6
  obtain ⟨k0, k1, k2, k3, k4, k5⟩ := K5_7.out.cells6
  go_wp2_with fail
  clear a0 a1 a2 a3 a4 a5 k0 k1 k2 k3 k4 k5
  refine (HSY.out _ _ _ P_7.out P2_7.out).mono ?_
  rintro e w26 ⟨rfl, hb⟩
  have B_8 := Lib.hid (B_7.out.trans (Below.mono hb B_7.out.size))
  have P_8 := Lib.hid (P_7.out.below hb)
  have K3_8 := Lib.hid (K3_7.out.below hb)
  have P2_8 := Lib.hid (P2_7.out.below hb)
  have K5_8 := Lib.hid (K5_7.out.below hb)
  clear hb B_7 P_7 K3_7 P2_7 K5_7
  go_wp2_with fail
  go_ret
  exact ⟨ret_bool (by first | rfl | simp), B_8.out⟩
theorem decodes_any (s : ByteArray) (w : World) (hs : s.size ≤ 9223372036854775807) : Calls Try.prog 4 #[.string s] w (Says w) := by
  by_cases h6 : (600 : Int) < (s.size : Int)
  · exact decodes_hi s w hs h6
  · exact decodes_lo s w hs h6
end Go.Proofs.Ytddkckppmjcclaa
