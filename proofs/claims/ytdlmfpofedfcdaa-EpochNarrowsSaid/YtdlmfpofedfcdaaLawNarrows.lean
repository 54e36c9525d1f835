/- The walk of EpochNarrows: it returns true, and writes nothing that was there. -/
import Derived.Test.YtdlmfpofedfcdaaLawTurns
namespace Go.Proofs.Ytdlmfpofedfcdaa
open Go.RowKit

theorem sh64 (v : Int) : shE v 64 = (0, 0) := by
  rw [shE_ok (by omega) (by omega), shL, if_pos (by omega), wrap64_eq, show (64 : Int).toNat = 64 from rfl]
  have : (v * 2 ^ 64 + 9223372036854775808) % 18446744073709551616 - 9223372036854775808 = 0 := by omega
  rw [this]
theorem shm64_neg (v : Int) (hv : I64 v) (h : v < 0) : shE v (-64) = (-1, 0) := by
  unfold I64 at hv
  rw [shE_ok (by omega) (by omega), shL, if_neg (by omega), show (- -64 : Int).toNat = 64 from rfl]
  have : v / 2 ^ 64 = -1 := by omega
  rw [this]
theorem shm64_pos (v : Int) (hv : I64 v) (h : ¬ v < 0) : shE v (-64) = (0, 0) := by
  unfold I64 at hv
  rw [shE_ok (by omega) (by omega), shL, if_neg (by omega), show (- -64 : Int).toNat = 64 from rfl]
  have : v / 2 ^ 64 = 0 := by omega
  rw [this]

theorem idem0 (v : Int) : narE (narL v 0) 0 = (narL v 0, 0) := by
  rw [narE_ok (by omega) (by omega)]
  have : narL (narL v 0) 0 = narL v 0 := by
    simp only [narL]; simp; try omega
  rw [this]
theorem plus0 (v k : Int) : narE (wrap64 (v + k * 256)) 0 = (narL v 0, 0) := by
  rw [narE_ok (by omega) (by omega)]
  have : narL (wrap64 (v + k * 256)) 0 = narL v 0 := by
    rw [wrap64_eq]; simp only [narL]; simp; try omega
  rw [this]

theorem down0 (v : Int) : shE (shL v 56) (-56) = (narL v 0, 0) := by
  rw [shE_ok (by omega) (by omega)]
  have : shL (shL v 56) (-56) = narL v 0 := by
    rw [shL, if_neg (by omega), shL, if_pos (by omega), show (- -56 : Int).toNat = 56 from rfl, show (56 : Int).toNat = 56 from rfl, wrap64_eq]
    show _ = (v + 128) % 256 - 128
    have e : ∀ x : Int, x * 2 ^ 56 = x * 72057594037927936 := fun x => by rfl
    have e2 : ∀ x : Int, x / 2 ^ 56 = x / 72057594037927936 := fun x => by rfl
    rw [e, e2]; omega
  rw [this]

theorem idem1 (v : Int) : narE (narL v 1) 1 = (narL v 1, 0) := by
  rw [narE_ok (by omega) (by omega)]
  have : narL (narL v 1) 1 = narL v 1 := by
    simp only [narL]; simp; try omega
  rw [this]
theorem plus1 (v k : Int) : narE (wrap64 (v + k * 256)) 1 = (narL v 1, 0) := by
  rw [narE_ok (by omega) (by omega)]
  have : narL (wrap64 (v + k * 256)) 1 = narL v 1 := by
    rw [wrap64_eq]; simp only [narL]; simp; try omega
  rw [this]

theorem idem2 (v : Int) : narE (narL v 2) 2 = (narL v 2, 0) := by
  rw [narE_ok (by omega) (by omega)]
  have : narL (narL v 2) 2 = narL v 2 := by
    simp only [narL]; simp; try omega
  rw [this]
theorem plus2 (v k : Int) : narE (wrap64 (v + k * 65536)) 2 = (narL v 2, 0) := by
  rw [narE_ok (by omega) (by omega)]
  have : narL (wrap64 (v + k * 65536)) 2 = narL v 2 := by
    rw [wrap64_eq]; simp only [narL]; simp; try omega
  rw [this]

theorem down2 (v : Int) : shE (shL v 48) (-48) = (narL v 2, 0) := by
  rw [shE_ok (by omega) (by omega)]
  have : shL (shL v 48) (-48) = narL v 2 := by
    rw [shL, if_neg (by omega), shL, if_pos (by omega), show (- -48 : Int).toNat = 48 from rfl, show (48 : Int).toNat = 48 from rfl, wrap64_eq]
    show _ = (v + 32768) % 65536 - 32768
    have e : ∀ x : Int, x * 2 ^ 48 = x * 281474976710656 := fun x => by rfl
    have e2 : ∀ x : Int, x / 2 ^ 48 = x / 281474976710656 := fun x => by rfl
    rw [e, e2]; omega
  rw [this]

theorem idem3 (v : Int) : narE (narL v 3) 3 = (narL v 3, 0) := by
  rw [narE_ok (by omega) (by omega)]
  have : narL (narL v 3) 3 = narL v 3 := by
    simp only [narL]; simp; try omega
  rw [this]
theorem plus3 (v k : Int) : narE (wrap64 (v + k * 65536)) 3 = (narL v 3, 0) := by
  rw [narE_ok (by omega) (by omega)]
  have : narL (wrap64 (v + k * 65536)) 3 = narL v 3 := by
    rw [wrap64_eq]; simp only [narL]; simp; try omega
  rw [this]

theorem idem4 (v : Int) : narE (narL v 4) 4 = (narL v 4, 0) := by
  rw [narE_ok (by omega) (by omega)]
  have : narL (narL v 4) 4 = narL v 4 := by
    simp only [narL]; simp; try omega
  rw [this]
theorem plus4 (v k : Int) : narE (wrap64 (v + k * 4294967296)) 4 = (narL v 4, 0) := by
  rw [narE_ok (by omega) (by omega)]
  have : narL (wrap64 (v + k * 4294967296)) 4 = narL v 4 := by
    rw [wrap64_eq]; simp only [narL]; simp; try omega
  rw [this]

theorem down4 (v : Int) : shE (shL v 32) (-32) = (narL v 4, 0) := by
  rw [shE_ok (by omega) (by omega)]
  have : shL (shL v 32) (-32) = narL v 4 := by
    rw [shL, if_neg (by omega), shL, if_pos (by omega), show (- -32 : Int).toNat = 32 from rfl, show (32 : Int).toNat = 32 from rfl, wrap64_eq]
    show _ = (v + 2147483648) % 4294967296 - 2147483648
    have e : ∀ x : Int, x * 2 ^ 32 = x * 4294967296 := fun x => by rfl
    have e2 : ∀ x : Int, x / 2 ^ 32 = x / 4294967296 := fun x => by rfl
    rw [e, e2]; omega
  rw [this]

theorem idem5 (v : Int) : narE (narL v 5) 5 = (narL v 5, 0) := by
  rw [narE_ok (by omega) (by omega)]
  have : narL (narL v 5) 5 = narL v 5 := by
    simp only [narL]; simp; try omega
  rw [this]
theorem plus5 (v k : Int) : narE (wrap64 (v + k * 4294967296)) 5 = (narL v 5, 0) := by
  rw [narE_ok (by omega) (by omega)]
  have : narL (wrap64 (v + k * 4294967296)) 5 = narL v 5 := by
    rw [wrap64_eq]; simp only [narL]; simp; try omega
  rw [this]

set_option maxRecDepth 100000 in
set_option maxHeartbeats 8000000 in
theorem narrows_walk (v k n : Int) (w : World) (hv : I64 v) : Calls Try.prog 6 #[.int .i64 v, .int .i64 k, .int .i64 n] w (Says w) := by
  have HV := Lib.hid hv
  obtain ⟨b1, b2⟩ := hv
  obtain ⟨c1, c2⟩ := tmod_bd k 6 (by omega)
  obtain ⟨d1, d2⟩ := tmod_bd n 1000 (by omega)
  have Z := Lib.hid (sh64 v)
  go_enter Try.func6, Try.ntmps6
  go_wp2_with fail
  obtain ⟨K, hK⟩ : ∃ K, K = k.tmod 6 % 6 := ⟨_, rfl⟩
  have e2 : (k.tmod 6 + 6) % 6 = k.tmod 6 % 6 := Int.add_emod_right ..
  obtain ⟨n1, hn1⟩ : ∃ x, x = n.tmod 1000 := ⟨_, rfl⟩
  rw [e2, ← hK, ← hn1]
  have hK6 : K = 0 ∨ K = 1 ∨ K = 2 ∨ K = 3 ∨ K = 4 ∨ K = 5 := by omega
  rw [← hn1] at d1 d2
  clear hn1 hK c1 c2 e2
  rcases hK6 with rfl | rfl | rfl | rfl | rfl | rfl
  · have N1 := Lib.hid (narE_ok (v := v) (k := 0) (by omega) (by omega))
    have N2 := Lib.hid (idem0 v)
    have N3 := Lib.hid (plus0 v n1)
    have S1 := Lib.hid (shE_ok (v := v) (n := 56) (by omega) (by omega))
    have S2 := Lib.hid (down0 v)
    have N4 := Lib.hid (narE_ok (v := v) (k := 0) (by omega) (by omega))
    refine (narrow_any _ _ _).mono ?_
    rintro e w1 ⟨rfl, hb1⟩
    have HBW1 := Lib.hid hb1
    clear hb1
    rw [N1.out]
    go_wp2_with fail
    refine (narrow_any _ _ _).mono ?_
    rintro e w2 ⟨rfl, hb2⟩
    have HBW2 := Lib.hid (HBW1.out.trans (hb2.mono HBW1.out.size))
    clear hb2
    rw [N2.out]
    go_wp2_with fail
    have hba := HBW2.out.trans ((below_alloc _ (.cells #[.int .i64 8, .int .i64 8, .int .i64 16, .int .i64 16, .int .i64 32, .int .i64 32] 3)).mono HBW2.out.size)
    have HBA := Lib.hid hba; clear hba
    refine (narrow_any _ _ _).mono ?_
    rintro e w3 ⟨rfl, hb3⟩
    have HBW3 := Lib.hid (HBA.out.trans (hb3.mono HBA.out.size)); clear hb3
    rw [N3.out]
    go_wp2_with fail
    refine (shift_any _ _ _).mono ?_
    rintro e w' ⟨rfl, rfl⟩
    rw [S1.out]
    go_wp2_with fail
    refine (shift_any _ _ _).mono ?_
    rintro e w' ⟨rfl, rfl⟩
    rw [S2.out]
    go_wp2_with fail
    refine (narrow_any _ _ _).mono ?_
    rintro e w4 ⟨rfl, hb4⟩
    have HBW4 := Lib.hid (HBW3.out.trans (hb4.mono HBW3.out.size))
    clear hb4
    rw [N4.out]
    go_wp2_with fail
    refine (shift_any _ _ _).mono ?_
    rintro e w' ⟨rfl, rfl⟩
    rw [Z.out]
    by_cases hneg : v < 0
    · have SS := Lib.hid (shm64_neg v HV.out hneg)
      go_wp2_with fail
      refine (shift_any _ _ _).mono ?_
      rintro e w' ⟨rfl, rfl⟩
      rw [SS.out]
      have hxx : ∀ y : Int, (y == y) = true := fun y => by simp
      obtain ⟨x, hx⟩ : ∃ x, x = narL v 0 := ⟨_, rfl⟩
      obtain ⟨y, hy⟩ : ∃ y, y = narL v 0 := ⟨_, rfl⟩
      try rw [← hy]
      try rw [← hx]
      clear hx hy
      have h1 := hxx x; have h2 := hxx y; clear hxx
      go_wp2_with fail
      refine (alive_any _).mono ?_
      rintro e w' ⟨rfl, rfl⟩
      go_wp2_with fail
      go_ret
      exact ⟨ret_bool rfl, HBW4.out⟩
    · have SS := Lib.hid (shm64_pos v HV.out hneg)
      go_wp2_with fail
      refine (shift_any _ _ _).mono ?_
      rintro e w' ⟨rfl, rfl⟩
      rw [SS.out]
      have hxx : ∀ y : Int, (y == y) = true := fun y => by simp
      obtain ⟨x, hx⟩ : ∃ x, x = narL v 0 := ⟨_, rfl⟩
      obtain ⟨y, hy⟩ : ∃ y, y = narL v 0 := ⟨_, rfl⟩
      try rw [← hy]
      try rw [← hx]
      clear hx hy
      have h1 := hxx x; have h2 := hxx y; clear hxx
      go_wp2_with fail
      refine (alive_any _).mono ?_
      rintro e w' ⟨rfl, rfl⟩
      go_wp2_with fail
      go_ret
      exact ⟨ret_bool rfl, HBW4.out⟩
  · have N1 := Lib.hid (narE_ok (v := v) (k := 1) (by omega) (by omega))
    have N2 := Lib.hid (idem1 v)
    have N3 := Lib.hid (plus1 v n1)
    have S1 := Lib.hid (shE_ok (v := v) (n := 56) (by omega) (by omega))
    have S2 := Lib.hid (down0 v)
    have N4 := Lib.hid (narE_ok (v := v) (k := 0) (by omega) (by omega))
    refine (narrow_any _ _ _).mono ?_
    rintro e w1 ⟨rfl, hb1⟩
    have HBW1 := Lib.hid hb1
    clear hb1
    rw [N1.out]
    go_wp2_with fail
    refine (narrow_any _ _ _).mono ?_
    rintro e w2 ⟨rfl, hb2⟩
    have HBW2 := Lib.hid (HBW1.out.trans (hb2.mono HBW1.out.size))
    clear hb2
    rw [N2.out]
    go_wp2_with fail
    have hba := HBW2.out.trans ((below_alloc _ (.cells #[.int .i64 8, .int .i64 8, .int .i64 16, .int .i64 16, .int .i64 32, .int .i64 32] 3)).mono HBW2.out.size)
    have HBA := Lib.hid hba; clear hba
    refine (narrow_any _ _ _).mono ?_
    rintro e w3 ⟨rfl, hb3⟩
    have HBW3 := Lib.hid (HBA.out.trans (hb3.mono HBA.out.size)); clear hb3
    rw [N3.out]
    go_wp2_with fail
    refine (shift_any _ _ _).mono ?_
    rintro e w' ⟨rfl, rfl⟩
    rw [S1.out]
    go_wp2_with fail
    refine (shift_any _ _ _).mono ?_
    rintro e w' ⟨rfl, rfl⟩
    rw [S2.out]
    go_wp2_with fail
    refine (narrow_any _ _ _).mono ?_
    rintro e w4 ⟨rfl, hb4⟩
    have HBW4 := Lib.hid (HBW3.out.trans (hb4.mono HBW3.out.size))
    clear hb4
    rw [N4.out]
    go_wp2_with fail
    refine (shift_any _ _ _).mono ?_
    rintro e w' ⟨rfl, rfl⟩
    rw [Z.out]
    by_cases hneg : v < 0
    · have SS := Lib.hid (shm64_neg v HV.out hneg)
      go_wp2_with fail
      refine (shift_any _ _ _).mono ?_
      rintro e w' ⟨rfl, rfl⟩
      rw [SS.out]
      have hxx : ∀ y : Int, (y == y) = true := fun y => by simp
      obtain ⟨x, hx⟩ : ∃ x, x = narL v 1 := ⟨_, rfl⟩
      obtain ⟨y, hy⟩ : ∃ y, y = narL v 0 := ⟨_, rfl⟩
      try rw [← hy]
      try rw [← hx]
      clear hx hy
      have h1 := hxx x; have h2 := hxx y; clear hxx
      go_wp2_with fail
      refine (alive_any _).mono ?_
      rintro e w' ⟨rfl, rfl⟩
      go_wp2_with fail
      go_ret
      exact ⟨ret_bool rfl, HBW4.out⟩
    · have SS := Lib.hid (shm64_pos v HV.out hneg)
      go_wp2_with fail
      refine (shift_any _ _ _).mono ?_
      rintro e w' ⟨rfl, rfl⟩
      rw [SS.out]
      have hxx : ∀ y : Int, (y == y) = true := fun y => by simp
      obtain ⟨x, hx⟩ : ∃ x, x = narL v 1 := ⟨_, rfl⟩
      obtain ⟨y, hy⟩ : ∃ y, y = narL v 0 := ⟨_, rfl⟩
      try rw [← hy]
      try rw [← hx]
      clear hx hy
      have h1 := hxx x; have h2 := hxx y; clear hxx
      go_wp2_with fail
      refine (alive_any _).mono ?_
      rintro e w' ⟨rfl, rfl⟩
      go_wp2_with fail
      go_ret
      exact ⟨ret_bool rfl, HBW4.out⟩
  · have N1 := Lib.hid (narE_ok (v := v) (k := 2) (by omega) (by omega))
    have N2 := Lib.hid (idem2 v)
    have N3 := Lib.hid (plus2 v n1)
    have S1 := Lib.hid (shE_ok (v := v) (n := 48) (by omega) (by omega))
    have S2 := Lib.hid (down2 v)
    have N4 := Lib.hid (narE_ok (v := v) (k := 2) (by omega) (by omega))
    refine (narrow_any _ _ _).mono ?_
    rintro e w1 ⟨rfl, hb1⟩
    have HBW1 := Lib.hid hb1
    clear hb1
    rw [N1.out]
    go_wp2_with fail
    refine (narrow_any _ _ _).mono ?_
    rintro e w2 ⟨rfl, hb2⟩
    have HBW2 := Lib.hid (HBW1.out.trans (hb2.mono HBW1.out.size))
    clear hb2
    rw [N2.out]
    go_wp2_with fail
    have hba := HBW2.out.trans ((below_alloc _ (.cells #[.int .i64 8, .int .i64 8, .int .i64 16, .int .i64 16, .int .i64 32, .int .i64 32] 3)).mono HBW2.out.size)
    have HBA := Lib.hid hba; clear hba
    refine (narrow_any _ _ _).mono ?_
    rintro e w3 ⟨rfl, hb3⟩
    have HBW3 := Lib.hid (HBA.out.trans (hb3.mono HBA.out.size)); clear hb3
    rw [N3.out]
    go_wp2_with fail
    refine (shift_any _ _ _).mono ?_
    rintro e w' ⟨rfl, rfl⟩
    rw [S1.out]
    go_wp2_with fail
    refine (shift_any _ _ _).mono ?_
    rintro e w' ⟨rfl, rfl⟩
    rw [S2.out]
    go_wp2_with fail
    refine (narrow_any _ _ _).mono ?_
    rintro e w4 ⟨rfl, hb4⟩
    have HBW4 := Lib.hid (HBW3.out.trans (hb4.mono HBW3.out.size))
    clear hb4
    rw [N4.out]
    go_wp2_with fail
    refine (shift_any _ _ _).mono ?_
    rintro e w' ⟨rfl, rfl⟩
    rw [Z.out]
    by_cases hneg : v < 0
    · have SS := Lib.hid (shm64_neg v HV.out hneg)
      go_wp2_with fail
      refine (shift_any _ _ _).mono ?_
      rintro e w' ⟨rfl, rfl⟩
      rw [SS.out]
      have hxx : ∀ y : Int, (y == y) = true := fun y => by simp
      obtain ⟨x, hx⟩ : ∃ x, x = narL v 2 := ⟨_, rfl⟩
      obtain ⟨y, hy⟩ : ∃ y, y = narL v 2 := ⟨_, rfl⟩
      try rw [← hy]
      try rw [← hx]
      clear hx hy
      have h1 := hxx x; have h2 := hxx y; clear hxx
      go_wp2_with fail
      refine (alive_any _).mono ?_
      rintro e w' ⟨rfl, rfl⟩
      go_wp2_with fail
      go_ret
      exact ⟨ret_bool rfl, HBW4.out⟩
    · have SS := Lib.hid (shm64_pos v HV.out hneg)
      go_wp2_with fail
      refine (shift_any _ _ _).mono ?_
      rintro e w' ⟨rfl, rfl⟩
      rw [SS.out]
      have hxx : ∀ y : Int, (y == y) = true := fun y => by simp
      obtain ⟨x, hx⟩ : ∃ x, x = narL v 2 := ⟨_, rfl⟩
      obtain ⟨y, hy⟩ : ∃ y, y = narL v 2 := ⟨_, rfl⟩
      try rw [← hy]
      try rw [← hx]
      clear hx hy
      have h1 := hxx x; have h2 := hxx y; clear hxx
      go_wp2_with fail
      refine (alive_any _).mono ?_
      rintro e w' ⟨rfl, rfl⟩
      go_wp2_with fail
      go_ret
      exact ⟨ret_bool rfl, HBW4.out⟩
  · have N1 := Lib.hid (narE_ok (v := v) (k := 3) (by omega) (by omega))
    have N2 := Lib.hid (idem3 v)
    have N3 := Lib.hid (plus3 v n1)
    have S1 := Lib.hid (shE_ok (v := v) (n := 48) (by omega) (by omega))
    have S2 := Lib.hid (down2 v)
    have N4 := Lib.hid (narE_ok (v := v) (k := 2) (by omega) (by omega))
    refine (narrow_any _ _ _).mono ?_
    rintro e w1 ⟨rfl, hb1⟩
    have HBW1 := Lib.hid hb1
    clear hb1
    rw [N1.out]
    go_wp2_with fail
    refine (narrow_any _ _ _).mono ?_
    rintro e w2 ⟨rfl, hb2⟩
    have HBW2 := Lib.hid (HBW1.out.trans (hb2.mono HBW1.out.size))
    clear hb2
    rw [N2.out]
    go_wp2_with fail
    have hba := HBW2.out.trans ((below_alloc _ (.cells #[.int .i64 8, .int .i64 8, .int .i64 16, .int .i64 16, .int .i64 32, .int .i64 32] 3)).mono HBW2.out.size)
    have HBA := Lib.hid hba; clear hba
    refine (narrow_any _ _ _).mono ?_
    rintro e w3 ⟨rfl, hb3⟩
    have HBW3 := Lib.hid (HBA.out.trans (hb3.mono HBA.out.size)); clear hb3
    rw [N3.out]
    go_wp2_with fail
    refine (shift_any _ _ _).mono ?_
    rintro e w' ⟨rfl, rfl⟩
    rw [S1.out]
    go_wp2_with fail
    refine (shift_any _ _ _).mono ?_
    rintro e w' ⟨rfl, rfl⟩
    rw [S2.out]
    go_wp2_with fail
    refine (narrow_any _ _ _).mono ?_
    rintro e w4 ⟨rfl, hb4⟩
    have HBW4 := Lib.hid (HBW3.out.trans (hb4.mono HBW3.out.size))
    clear hb4
    rw [N4.out]
    go_wp2_with fail
    refine (shift_any _ _ _).mono ?_
    rintro e w' ⟨rfl, rfl⟩
    rw [Z.out]
    by_cases hneg : v < 0
    · have SS := Lib.hid (shm64_neg v HV.out hneg)
      go_wp2_with fail
      refine (shift_any _ _ _).mono ?_
      rintro e w' ⟨rfl, rfl⟩
      rw [SS.out]
      have hxx : ∀ y : Int, (y == y) = true := fun y => by simp
      obtain ⟨x, hx⟩ : ∃ x, x = narL v 3 := ⟨_, rfl⟩
      obtain ⟨y, hy⟩ : ∃ y, y = narL v 2 := ⟨_, rfl⟩
      try rw [← hy]
      try rw [← hx]
      clear hx hy
      have h1 := hxx x; have h2 := hxx y; clear hxx
      go_wp2_with fail
      refine (alive_any _).mono ?_
      rintro e w' ⟨rfl, rfl⟩
      go_wp2_with fail
      go_ret
      exact ⟨ret_bool rfl, HBW4.out⟩
    · have SS := Lib.hid (shm64_pos v HV.out hneg)
      go_wp2_with fail
      refine (shift_any _ _ _).mono ?_
      rintro e w' ⟨rfl, rfl⟩
      rw [SS.out]
      have hxx : ∀ y : Int, (y == y) = true := fun y => by simp
      obtain ⟨x, hx⟩ : ∃ x, x = narL v 3 := ⟨_, rfl⟩
      obtain ⟨y, hy⟩ : ∃ y, y = narL v 2 := ⟨_, rfl⟩
      try rw [← hy]
      try rw [← hx]
      clear hx hy
      have h1 := hxx x; have h2 := hxx y; clear hxx
      go_wp2_with fail
      refine (alive_any _).mono ?_
      rintro e w' ⟨rfl, rfl⟩
      go_wp2_with fail
      go_ret
      exact ⟨ret_bool rfl, HBW4.out⟩
  · have N1 := Lib.hid (narE_ok (v := v) (k := 4) (by omega) (by omega))
    have N2 := Lib.hid (idem4 v)
    have N3 := Lib.hid (plus4 v n1)
    have S1 := Lib.hid (shE_ok (v := v) (n := 32) (by omega) (by omega))
    have S2 := Lib.hid (down4 v)
    have N4 := Lib.hid (narE_ok (v := v) (k := 4) (by omega) (by omega))
    refine (narrow_any _ _ _).mono ?_
    rintro e w1 ⟨rfl, hb1⟩
    have HBW1 := Lib.hid hb1
    clear hb1
    rw [N1.out]
    go_wp2_with fail
    refine (narrow_any _ _ _).mono ?_
    rintro e w2 ⟨rfl, hb2⟩
    have HBW2 := Lib.hid (HBW1.out.trans (hb2.mono HBW1.out.size))
    clear hb2
    rw [N2.out]
    go_wp2_with fail
    have hba := HBW2.out.trans ((below_alloc _ (.cells #[.int .i64 8, .int .i64 8, .int .i64 16, .int .i64 16, .int .i64 32, .int .i64 32] 3)).mono HBW2.out.size)
    have HBA := Lib.hid hba; clear hba
    refine (narrow_any _ _ _).mono ?_
    rintro e w3 ⟨rfl, hb3⟩
    have HBW3 := Lib.hid (HBA.out.trans (hb3.mono HBA.out.size)); clear hb3
    rw [N3.out]
    go_wp2_with fail
    refine (shift_any _ _ _).mono ?_
    rintro e w' ⟨rfl, rfl⟩
    rw [S1.out]
    go_wp2_with fail
    refine (shift_any _ _ _).mono ?_
    rintro e w' ⟨rfl, rfl⟩
    rw [S2.out]
    go_wp2_with fail
    refine (narrow_any _ _ _).mono ?_
    rintro e w4 ⟨rfl, hb4⟩
    have HBW4 := Lib.hid (HBW3.out.trans (hb4.mono HBW3.out.size))
    clear hb4
    rw [N4.out]
    go_wp2_with fail
    refine (shift_any _ _ _).mono ?_
    rintro e w' ⟨rfl, rfl⟩
    rw [Z.out]
    by_cases hneg : v < 0
    · have SS := Lib.hid (shm64_neg v HV.out hneg)
      go_wp2_with fail
      refine (shift_any _ _ _).mono ?_
      rintro e w' ⟨rfl, rfl⟩
      rw [SS.out]
      have hxx : ∀ y : Int, (y == y) = true := fun y => by simp
      obtain ⟨x, hx⟩ : ∃ x, x = narL v 4 := ⟨_, rfl⟩
      obtain ⟨y, hy⟩ : ∃ y, y = narL v 4 := ⟨_, rfl⟩
      try rw [← hy]
      try rw [← hx]
      clear hx hy
      have h1 := hxx x; have h2 := hxx y; clear hxx
      go_wp2_with fail
      refine (alive_any _).mono ?_
      rintro e w' ⟨rfl, rfl⟩
      go_wp2_with fail
      go_ret
      exact ⟨ret_bool rfl, HBW4.out⟩
    · have SS := Lib.hid (shm64_pos v HV.out hneg)
      go_wp2_with fail
      refine (shift_any _ _ _).mono ?_
      rintro e w' ⟨rfl, rfl⟩
      rw [SS.out]
      have hxx : ∀ y : Int, (y == y) = true := fun y => by simp
      obtain ⟨x, hx⟩ : ∃ x, x = narL v 4 := ⟨_, rfl⟩
      obtain ⟨y, hy⟩ : ∃ y, y = narL v 4 := ⟨_, rfl⟩
      try rw [← hy]
      try rw [← hx]
      clear hx hy
      have h1 := hxx x; have h2 := hxx y; clear hxx
      go_wp2_with fail
      refine (alive_any _).mono ?_
      rintro e w' ⟨rfl, rfl⟩
      go_wp2_with fail
      go_ret
      exact ⟨ret_bool rfl, HBW4.out⟩
  · have N1 := Lib.hid (narE_ok (v := v) (k := 5) (by omega) (by omega))
    have N2 := Lib.hid (idem5 v)
    have N3 := Lib.hid (plus5 v n1)
    have S1 := Lib.hid (shE_ok (v := v) (n := 32) (by omega) (by omega))
    have S2 := Lib.hid (down4 v)
    have N4 := Lib.hid (narE_ok (v := v) (k := 4) (by omega) (by omega))
    refine (narrow_any _ _ _).mono ?_
    rintro e w1 ⟨rfl, hb1⟩
    have HBW1 := Lib.hid hb1
    clear hb1
    rw [N1.out]
    go_wp2_with fail
    refine (narrow_any _ _ _).mono ?_
    rintro e w2 ⟨rfl, hb2⟩
    have HBW2 := Lib.hid (HBW1.out.trans (hb2.mono HBW1.out.size))
    clear hb2
    rw [N2.out]
    go_wp2_with fail
    have hba := HBW2.out.trans ((below_alloc _ (.cells #[.int .i64 8, .int .i64 8, .int .i64 16, .int .i64 16, .int .i64 32, .int .i64 32] 3)).mono HBW2.out.size)
    have HBA := Lib.hid hba; clear hba
    refine (narrow_any _ _ _).mono ?_
    rintro e w3 ⟨rfl, hb3⟩
    have HBW3 := Lib.hid (HBA.out.trans (hb3.mono HBA.out.size)); clear hb3
    rw [N3.out]
    go_wp2_with fail
    refine (shift_any _ _ _).mono ?_
    rintro e w' ⟨rfl, rfl⟩
    rw [S1.out]
    go_wp2_with fail
    refine (shift_any _ _ _).mono ?_
    rintro e w' ⟨rfl, rfl⟩
    rw [S2.out]
    go_wp2_with fail
    refine (narrow_any _ _ _).mono ?_
    rintro e w4 ⟨rfl, hb4⟩
    have HBW4 := Lib.hid (HBW3.out.trans (hb4.mono HBW3.out.size))
    clear hb4
    rw [N4.out]
    go_wp2_with fail
    refine (shift_any _ _ _).mono ?_
    rintro e w' ⟨rfl, rfl⟩
    rw [Z.out]
    by_cases hneg : v < 0
    · have SS := Lib.hid (shm64_neg v HV.out hneg)
      go_wp2_with fail
      refine (shift_any _ _ _).mono ?_
      rintro e w' ⟨rfl, rfl⟩
      rw [SS.out]
      have hxx : ∀ y : Int, (y == y) = true := fun y => by simp
      obtain ⟨x, hx⟩ : ∃ x, x = narL v 5 := ⟨_, rfl⟩
      obtain ⟨y, hy⟩ : ∃ y, y = narL v 4 := ⟨_, rfl⟩
      try rw [← hy]
      try rw [← hx]
      clear hx hy
      have h1 := hxx x; have h2 := hxx y; clear hxx
      go_wp2_with fail
      refine (alive_any _).mono ?_
      rintro e w' ⟨rfl, rfl⟩
      go_wp2_with fail
      go_ret
      exact ⟨ret_bool rfl, HBW4.out⟩
    · have SS := Lib.hid (shm64_pos v HV.out hneg)
      go_wp2_with fail
      refine (shift_any _ _ _).mono ?_
      rintro e w' ⟨rfl, rfl⟩
      rw [SS.out]
      have hxx : ∀ y : Int, (y == y) = true := fun y => by simp
      obtain ⟨x, hx⟩ : ∃ x, x = narL v 5 := ⟨_, rfl⟩
      obtain ⟨y, hy⟩ : ∃ y, y = narL v 4 := ⟨_, rfl⟩
      try rw [← hy]
      try rw [← hx]
      clear hx hy
      have h1 := hxx x; have h2 := hxx y; clear hxx
      go_wp2_with fail
      refine (alive_any _).mono ?_
      rintro e w' ⟨rfl, rfl⟩
      go_wp2_with fail
      go_ret
      exact ⟨ret_bool rfl, HBW4.out⟩
end Go.Proofs.Ytdlmfpofedfcdaa
