/- The walk of EpochTurns: it returns true, and writes nothing that was there. -/
import Derived.Test.YtdlmfpofedfcdaaNar
namespace Go.Proofs.Ytdlmfpofedfcdaa
open Go.RowKit

def Says (w : World) (e : Ending) (w' : World) : Prop := e = .returned (.bool true) ∧ Below w.heap.size w w'

set_option maxRecDepth 100000 in
theorem alive_any (w : World) : Calls Try.prog 13 #[] w fun e w' => e = .returned (.bool true) ∧ w = w' := by
  have h1 := Lib.hid (show packE 3 5 = (53, 0) by decide)
  have h2 := Lib.hid (show shE (-5) (-1) = (-3, 0) by decide)
  go_enter Try.func13, Try.ntmps13
  go_wp2_with fail
  refine (pack_any _ _ _).mono ?_
  rintro e w' ⟨rfl, rfl⟩
  rw [h1.out]
  go_wp2_with fail
  refine (shift_any _ _ _).mono ?_
  rintro e w' ⟨rfl, rfl⟩
  rw [h2.out]
  go_wp2_with fail
  go_ret
  exact ⟨ret_bool rfl, rfl⟩

set_option maxRecDepth 100000 in
set_option maxHeartbeats 1000000 in
theorem turns_lo_lo (v k n : Int) (w : World) (hv : I64 v) (hk : k < 0) (hn : n < -64) :
    Calls Try.prog 4 #[.int .i64 v, .int .i64 k, .int .i64 n] w (Says w) := by
  have HV := Lib.hid hv; clear hv
  have N1 := Lib.hid (show narE v k = (0, 1) from if_pos (by omega))
  have S1 := Lib.hid (show shE v n = (0, 1) from if_pos (by omega))
  go_enter Try.func4, Try.ntmps4
  go_wp2_with fail
  refine (narrow_any _ _ _).mono ?_
  rintro e w1 ⟨rfl, hb1⟩
  have HBW1 := Lib.hid hb1
  clear hb1
  rw [N1.out]
  go_wp2_with fail
  refine (shift_any _ _ _).mono ?_
  rintro e w' ⟨rfl, rfl⟩
  rw [S1.out]
  go_wp2_with fail
  refine (alive_any _).mono ?_
  rintro e w' ⟨rfl, rfl⟩
  go_wp2_with fail
  go_ret
  exact ⟨ret_bool rfl, HBW1.out⟩

set_option maxRecDepth 100000 in
set_option maxHeartbeats 1000000 in
theorem turns_lo_hi (v k n : Int) (w : World) (hv : I64 v) (hk : k < 0) (hn : ¬ n < -64) (hn2 : 64 < n) :
    Calls Try.prog 4 #[.int .i64 v, .int .i64 k, .int .i64 n] w (Says w) := by
  have HV := Lib.hid hv; clear hv
  have N1 := Lib.hid (show narE v k = (0, 1) from if_pos (by omega))
  have S1 := Lib.hid (show shE v n = (0, 1) from if_pos (by omega))
  go_enter Try.func4, Try.ntmps4
  go_wp2_with fail
  refine (narrow_any _ _ _).mono ?_
  rintro e w1 ⟨rfl, hb1⟩
  have HBW1 := Lib.hid hb1
  clear hb1
  rw [N1.out]
  go_wp2_with fail
  refine (shift_any _ _ _).mono ?_
  rintro e w' ⟨rfl, rfl⟩
  rw [S1.out]
  go_wp2_with fail
  refine (alive_any _).mono ?_
  rintro e w' ⟨rfl, rfl⟩
  go_wp2_with fail
  go_ret
  exact ⟨ret_bool rfl, HBW1.out⟩

set_option maxRecDepth 100000 in
set_option maxHeartbeats 1000000 in
theorem turns_lo_ok (v k n : Int) (w : World) (hv : I64 v) (hk : k < 0) (hn : ¬ n < -64) (hn2 : ¬ 64 < n) :
    Calls Try.prog 4 #[.int .i64 v, .int .i64 k, .int .i64 n] w (Says w) := by
  have HV := Lib.hid hv; clear hv
  have N1 := Lib.hid (show narE v k = (0, 1) from if_pos (by omega))
  have S1 := Lib.hid (shE_ok (v := v) (n := n) (by omega) (by omega))
  go_enter Try.func4, Try.ntmps4
  go_wp2_with fail
  refine (narrow_any _ _ _).mono ?_
  rintro e w1 ⟨rfl, hb1⟩
  have HBW1 := Lib.hid hb1
  clear hb1
  rw [N1.out]
  go_wp2_with fail
  refine (shift_any _ _ _).mono ?_
  rintro e w' ⟨rfl, rfl⟩
  rw [S1.out]
  go_wp2_with fail
  refine (alive_any _).mono ?_
  rintro e w' ⟨rfl, rfl⟩
  obtain ⟨y, hy⟩ : ∃ y, y = shL v n := ⟨_, rfl⟩
  rw [← hy]
  have HY := Lib.hid hy; clear hy
  have hyy : (y == y) = true := by simp
  go_wp2_with fail
  refine (refshift_any _ _ _ HV.out (by omega) (by omega)).mono ?_
  rintro e w' ⟨rfl, rfl⟩
  rw [← HY.out]
  go_wp2_with fail
  go_ret
  exact ⟨ret_bool rfl, HBW1.out⟩

set_option maxRecDepth 100000 in
set_option maxHeartbeats 1000000 in
theorem turns_hi_lo (v k n : Int) (w : World) (hv : I64 v) (hk : ¬ k < 0) (hk2 : 5 < k) (hn : n < -64) :
    Calls Try.prog 4 #[.int .i64 v, .int .i64 k, .int .i64 n] w (Says w) := by
  have HV := Lib.hid hv; clear hv
  have N1 := Lib.hid (show narE v k = (0, 1) from if_pos (by omega))
  have S1 := Lib.hid (show shE v n = (0, 1) from if_pos (by omega))
  go_enter Try.func4, Try.ntmps4
  go_wp2_with fail
  refine (narrow_any _ _ _).mono ?_
  rintro e w1 ⟨rfl, hb1⟩
  have HBW1 := Lib.hid hb1
  clear hb1
  rw [N1.out]
  go_wp2_with fail
  refine (shift_any _ _ _).mono ?_
  rintro e w' ⟨rfl, rfl⟩
  rw [S1.out]
  go_wp2_with fail
  refine (alive_any _).mono ?_
  rintro e w' ⟨rfl, rfl⟩
  go_wp2_with fail
  go_ret
  exact ⟨ret_bool rfl, HBW1.out⟩

set_option maxRecDepth 100000 in
set_option maxHeartbeats 1000000 in
theorem turns_hi_hi (v k n : Int) (w : World) (hv : I64 v) (hk : ¬ k < 0) (hk2 : 5 < k) (hn : ¬ n < -64) (hn2 : 64 < n) :
    Calls Try.prog 4 #[.int .i64 v, .int .i64 k, .int .i64 n] w (Says w) := by
  have HV := Lib.hid hv; clear hv
  have N1 := Lib.hid (show narE v k = (0, 1) from if_pos (by omega))
  have S1 := Lib.hid (show shE v n = (0, 1) from if_pos (by omega))
  go_enter Try.func4, Try.ntmps4
  go_wp2_with fail
  refine (narrow_any _ _ _).mono ?_
  rintro e w1 ⟨rfl, hb1⟩
  have HBW1 := Lib.hid hb1
  clear hb1
  rw [N1.out]
  go_wp2_with fail
  refine (shift_any _ _ _).mono ?_
  rintro e w' ⟨rfl, rfl⟩
  rw [S1.out]
  go_wp2_with fail
  refine (alive_any _).mono ?_
  rintro e w' ⟨rfl, rfl⟩
  go_wp2_with fail
  go_ret
  exact ⟨ret_bool rfl, HBW1.out⟩

set_option maxRecDepth 100000 in
set_option maxHeartbeats 1000000 in
theorem turns_hi_ok (v k n : Int) (w : World) (hv : I64 v) (hk : ¬ k < 0) (hk2 : 5 < k) (hn : ¬ n < -64) (hn2 : ¬ 64 < n) :
    Calls Try.prog 4 #[.int .i64 v, .int .i64 k, .int .i64 n] w (Says w) := by
  have HV := Lib.hid hv; clear hv
  have N1 := Lib.hid (show narE v k = (0, 1) from if_pos (by omega))
  have S1 := Lib.hid (shE_ok (v := v) (n := n) (by omega) (by omega))
  go_enter Try.func4, Try.ntmps4
  go_wp2_with fail
  refine (narrow_any _ _ _).mono ?_
  rintro e w1 ⟨rfl, hb1⟩
  have HBW1 := Lib.hid hb1
  clear hb1
  rw [N1.out]
  go_wp2_with fail
  refine (shift_any _ _ _).mono ?_
  rintro e w' ⟨rfl, rfl⟩
  rw [S1.out]
  go_wp2_with fail
  refine (alive_any _).mono ?_
  rintro e w' ⟨rfl, rfl⟩
  obtain ⟨y, hy⟩ : ∃ y, y = shL v n := ⟨_, rfl⟩
  rw [← hy]
  have HY := Lib.hid hy; clear hy
  have hyy : (y == y) = true := by simp
  go_wp2_with fail
  refine (refshift_any _ _ _ HV.out (by omega) (by omega)).mono ?_
  rintro e w' ⟨rfl, rfl⟩
  rw [← HY.out]
  go_wp2_with fail
  go_ret
  exact ⟨ret_bool rfl, HBW1.out⟩

set_option maxRecDepth 100000 in
set_option maxHeartbeats 1000000 in
theorem turns_ok_lo (v k n : Int) (w : World) (hv : I64 v) (hk : ¬ k < 0) (hk2 : ¬ 5 < k) (hn : n < -64) :
    Calls Try.prog 4 #[.int .i64 v, .int .i64 k, .int .i64 n] w (Says w) := by
  have HV := Lib.hid hv; clear hv
  have N1 := Lib.hid (narE_ok (v := v) (k := k) (by omega) (by omega))
  have S1 := Lib.hid (show shE v n = (0, 1) from if_pos (by omega))
  go_enter Try.func4, Try.ntmps4
  go_wp2_with fail
  refine (narrow_any _ _ _).mono ?_
  rintro e w1 ⟨rfl, hb1⟩
  have HBW1 := Lib.hid hb1
  clear hb1
  rw [N1.out]
  go_wp2_with fail
  refine (shift_any _ _ _).mono ?_
  rintro e w' ⟨rfl, rfl⟩
  rw [S1.out]
  go_wp2_with fail
  refine (alive_any _).mono ?_
  rintro e w' ⟨rfl, rfl⟩
  obtain ⟨x, hx⟩ : ∃ x, x = narL v k := ⟨_, rfl⟩
  rw [← hx]
  have HX := Lib.hid hx; clear hx
  have hxx : (x != x) = false := by simp
  go_wp2_with fail
  refine (refnar_any _ _ _ HV.out (by omega) (by omega)).mono ?_
  rintro e w' ⟨rfl, rfl⟩
  rw [← HX.out]
  go_wp2_with fail
  go_ret
  exact ⟨ret_bool rfl, HBW1.out⟩

set_option maxRecDepth 100000 in
set_option maxHeartbeats 1000000 in
theorem turns_ok_hi (v k n : Int) (w : World) (hv : I64 v) (hk : ¬ k < 0) (hk2 : ¬ 5 < k) (hn : ¬ n < -64) (hn2 : 64 < n) :
    Calls Try.prog 4 #[.int .i64 v, .int .i64 k, .int .i64 n] w (Says w) := by
  have HV := Lib.hid hv; clear hv
  have N1 := Lib.hid (narE_ok (v := v) (k := k) (by omega) (by omega))
  have S1 := Lib.hid (show shE v n = (0, 1) from if_pos (by omega))
  go_enter Try.func4, Try.ntmps4
  go_wp2_with fail
  refine (narrow_any _ _ _).mono ?_
  rintro e w1 ⟨rfl, hb1⟩
  have HBW1 := Lib.hid hb1
  clear hb1
  rw [N1.out]
  go_wp2_with fail
  refine (shift_any _ _ _).mono ?_
  rintro e w' ⟨rfl, rfl⟩
  rw [S1.out]
  go_wp2_with fail
  refine (alive_any _).mono ?_
  rintro e w' ⟨rfl, rfl⟩
  obtain ⟨x, hx⟩ : ∃ x, x = narL v k := ⟨_, rfl⟩
  rw [← hx]
  have HX := Lib.hid hx; clear hx
  have hxx : (x != x) = false := by simp
  go_wp2_with fail
  refine (refnar_any _ _ _ HV.out (by omega) (by omega)).mono ?_
  rintro e w' ⟨rfl, rfl⟩
  rw [← HX.out]
  go_wp2_with fail
  go_ret
  exact ⟨ret_bool rfl, HBW1.out⟩

set_option maxRecDepth 100000 in
set_option maxHeartbeats 1000000 in
theorem turns_ok_ok (v k n : Int) (w : World) (hv : I64 v) (hk : ¬ k < 0) (hk2 : ¬ 5 < k) (hn : ¬ n < -64) (hn2 : ¬ 64 < n) :
    Calls Try.prog 4 #[.int .i64 v, .int .i64 k, .int .i64 n] w (Says w) := by
  have HV := Lib.hid hv; clear hv
  have N1 := Lib.hid (narE_ok (v := v) (k := k) (by omega) (by omega))
  have S1 := Lib.hid (shE_ok (v := v) (n := n) (by omega) (by omega))
  go_enter Try.func4, Try.ntmps4
  go_wp2_with fail
  refine (narrow_any _ _ _).mono ?_
  rintro e w1 ⟨rfl, hb1⟩
  have HBW1 := Lib.hid hb1
  clear hb1
  rw [N1.out]
  go_wp2_with fail
  refine (shift_any _ _ _).mono ?_
  rintro e w' ⟨rfl, rfl⟩
  rw [S1.out]
  go_wp2_with fail
  refine (alive_any _).mono ?_
  rintro e w' ⟨rfl, rfl⟩
  obtain ⟨x, hx⟩ : ∃ x, x = narL v k := ⟨_, rfl⟩
  rw [← hx]
  have HX := Lib.hid hx; clear hx
  have hxx : (x != x) = false := by simp
  go_wp2_with fail
  refine (refnar_any _ _ _ HV.out (by omega) (by omega)).mono ?_
  rintro e w' ⟨rfl, rfl⟩
  rw [← HX.out]
  clear hxx
  obtain ⟨y, hy⟩ : ∃ y, y = shL v n := ⟨_, rfl⟩
  rw [← hy]
  have HY := Lib.hid hy; clear hy
  have hyy : (y == y) = true := by simp
  have hxx : (x != x) = false := by simp
  go_wp2_with fail
  refine (refshift_any _ _ _ HV.out (by omega) (by omega)).mono ?_
  rintro e w' ⟨rfl, rfl⟩
  rw [← HY.out]
  go_wp2_with fail
  go_ret
  exact ⟨ret_bool rfl, HBW1.out⟩

theorem turns_walk (v k n : Int) (w : World) (hv : I64 v) : Calls Try.prog 4 #[.int .i64 v, .int .i64 k, .int .i64 n] w (Says w) := by
  by_cases hk : k < 0
  · by_cases hn : n < -64
    · exact turns_lo_lo v k n w hv hk hn
    · by_cases hn2 : 64 < n
      · exact turns_lo_hi v k n w hv hk hn hn2
      · exact turns_lo_ok v k n w hv hk hn hn2
  · by_cases hk2 : 5 < k
    · by_cases hn : n < -64
      · exact turns_hi_lo v k n w hv hk hk2 hn
      · by_cases hn2 : 64 < n
        · exact turns_hi_hi v k n w hv hk hk2 hn hn2
        · exact turns_hi_ok v k n w hv hk hk2 hn hn2
    · by_cases hn : n < -64
      · exact turns_ok_lo v k n w hv hk hk2 hn
      · by_cases hn2 : 64 < n
        · exact turns_ok_hi v k n w hv hk hk2 hn hn2
        · exact turns_ok_ok v k n w hv hk hk2 hn hn2
end Go.Proofs.Ytdlmfpofedfcdaa
