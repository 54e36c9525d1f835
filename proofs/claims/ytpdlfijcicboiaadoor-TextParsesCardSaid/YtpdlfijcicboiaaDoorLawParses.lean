/- TextParses: the walk. -/
import Derived.Test.YtpdlfijcicboiaaDoorLawPrints
namespace Go.Proofs.YtpdlfijcicboiaaDoor
open Go.RowKit
set_option linter.unusedSimpArgs false
set_option linter.unusedVariables false
set_option maxRecDepth 100000 in
set_option maxHeartbeats 8000000 in
theorem parses_few (s : ByteArray) (w : World) (hE : EnvS w) (hs : s.size ≤ 1100) : Calls Tryd.prog 4 #[.string s] w (Says w) := by
  have hm' : min (s.size : Int) 1100 = (s.size : Int) := Int.min_eq_left (by omega)
  have hT1 : s.size ≤ 10000 := by
    omega
  obtain ⟨T, hT⟩ : ∃ T, T = s := ⟨_, rfl⟩
  rw [← hT] at hT1
  have HT := Lib.hid hT
  have HT1 := Lib.hid hT1
  have HE := Lib.hid hE
  have HP := Lib.hid (Parse_any T w HT1.out hE)
  have HR := Lib.hid (fun W => refParse_any T W HT1.out)
  have HA := Lib.hid (fun W (h : EnvS W) => alive_any W h)
  unfold ParTo at HP HR
  obtain ⟨⟨L, i, j⟩, hp⟩ : ∃ p, p = peZ T := ⟨_, rfl⟩
  rw [← hp] at HP HR
  dsimp only at HP HR
  have hii : (i == i) = true := by simp
  have hjj : (j == j) = true := by simp
  clear hT hT1 hE hp
  go_enter Tryd.func4, Tryd.ntmps4
  go_upto_region 2 with (fail)
  rw [← HT.out]
  go_wp2_with fail
  refine HP.out.mono ?_
  rintro e w1 ⟨a, n, c, rfl, h1, hb⟩
  have K1 := Lib.hid h1; have B1 := Lib.hid hb
  clear h1 hb
  go_wp2_with fail
  refine (HR.out _).mono ?_
  rintro e w2 ⟨a2, n2, c2, rfl, h2, hb⟩
  have K2 := Lib.hid (K1.out.below hb); have M2 := Lib.hid h2; have B2 := Lib.hid (B1.out.trans (Below.mono hb B1.out.size))
  have HAL := Lib.hid (HA.out _ (HE.out.below B2.out))
  clear h2 hb
  go_wp2_with fail
  refine HAL.out.mono ?_
  rintro e w3 ⟨rfl, hb⟩
  have HI := Lib.hid (Instrs_yes a a2 n n2 c c2 L w3 (K2.out.below hb) (M2.out.below hb))
  have B3 := Lib.hid (B2.out.trans (Below.mono hb B2.out.size))
  clear hb
  go_wp2_with fail
  refine HI.out.mono ?_
  rintro e w4 ⟨rfl, hb⟩
  have B4 := Lib.hid (B3.out.trans (Below.mono hb B3.out.size))
  clear hb
  go_wp2_with fail
  go_ret
  exact ⟨rfl, B4.out⟩
set_option maxRecDepth 100000 in
set_option maxHeartbeats 8000000 in
theorem parses_many (s : ByteArray) (w : World) (hE : EnvS w) (hs : 1100 < s.size) : Calls Tryd.prog 4 #[.string s] w (Says w) := by
  have hm' : min (s.size : Int) 1100 = 1100 := Int.min_eq_right (by omega)
  have hs' : (1100 : Int) ≤ (s.size : Int) := by omega
  have hT1 : (s.extract 0 1100).size ≤ 10000 := by
    rw [Lib.size_eq, Lib.extract_data]
    simp
    omega
  obtain ⟨T, hT⟩ : ∃ T, T = (s.extract 0 1100) := ⟨_, rfl⟩
  rw [← hT] at hT1
  have HT := Lib.hid hT
  have HT1 := Lib.hid hT1
  have HE := Lib.hid hE
  have HP := Lib.hid (Parse_any T w HT1.out hE)
  have HR := Lib.hid (fun W => refParse_any T W HT1.out)
  have HA := Lib.hid (fun W (h : EnvS W) => alive_any W h)
  unfold ParTo at HP HR
  obtain ⟨⟨L, i, j⟩, hp⟩ : ∃ p, p = peZ T := ⟨_, rfl⟩
  rw [← hp] at HP HR
  dsimp only at HP HR
  have hii : (i == i) = true := by simp
  have hjj : (j == j) = true := by simp
  clear hT hT1 hE hp
  go_enter Tryd.func4, Tryd.ntmps4
  go_upto_region 2 with (fail)
  rw [← HT.out]
  go_wp2_with fail
  refine HP.out.mono ?_
  rintro e w1 ⟨a, n, c, rfl, h1, hb⟩
  have K1 := Lib.hid h1; have B1 := Lib.hid hb
  clear h1 hb
  go_wp2_with fail
  refine (HR.out _).mono ?_
  rintro e w2 ⟨a2, n2, c2, rfl, h2, hb⟩
  have K2 := Lib.hid (K1.out.below hb); have M2 := Lib.hid h2; have B2 := Lib.hid (B1.out.trans (Below.mono hb B1.out.size))
  have HAL := Lib.hid (HA.out _ (HE.out.below B2.out))
  clear h2 hb
  go_wp2_with fail
  refine HAL.out.mono ?_
  rintro e w3 ⟨rfl, hb⟩
  have HI := Lib.hid (Instrs_yes a a2 n n2 c c2 L w3 (K2.out.below hb) (M2.out.below hb))
  have B3 := Lib.hid (B2.out.trans (Below.mono hb B2.out.size))
  clear hb
  go_wp2_with fail
  refine HI.out.mono ?_
  rintro e w4 ⟨rfl, hb⟩
  have B4 := Lib.hid (B3.out.trans (Below.mono hb B3.out.size))
  clear hb
  go_wp2_with fail
  go_ret
  exact ⟨rfl, B4.out⟩
theorem parses_walk (s : ByteArray) (w : World) (hE : EnvS w) : Calls Tryd.prog 4 #[.string s] w (Says w) := by
  by_cases h : s.size ≤ 1100
  · exact parses_few s w hE h
  · exact parses_many s w hE (by omega)
end Go.Proofs.YtpdlfijcicboiaaDoor
