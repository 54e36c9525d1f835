/- Contracts of Narrow and Shift, and the reference's. -/
import Derived.Test.YtdlmfpofedfcdaaEp
namespace Go.Proofs.Ytdlmfpofedfcdaa
open Go.RowKit

def narL (v k : Int) : Int :=
  if k = 0 then (v + 128) % 256 - 128 else if k = 1 then v % 256 else if k = 2 then (v + 32768) % 65536 - 32768 else if k = 3 then v % 65536
  else if k = 4 then (v + 2147483648) % 4294967296 - 2147483648 else v % 4294967296
def narE (v k : Int) : Int × Int := if k < 0 ∨ 6 ≤ k then (0, 1) else (narL v k, 0)
theorem narE_ok {v k : Int} (h0 : 0 ≤ k) (h1 : k < 6) : narE v k = (narL v k, 0) := if_neg (by omega)

theorem wrap_i8 (n : Int) : IntKind.i8.wrap n = (n + 128) % 256 - 128 := by simp [IntKind.wrap, IntKind.bits, IntKind.signed]; split <;> omega
theorem wrap_i16 (n : Int) : IntKind.i16.wrap n = (n + 32768) % 65536 - 32768 := by simp [IntKind.wrap, IntKind.bits, IntKind.signed]; split <;> omega

set_option maxRecDepth 100000 in
theorem nar0 (v : Int) (w : World) : Calls Try.prog 33 #[.int .i64 v] w fun e w' => e = .returned (.int .i64 (narL v 0)) ∧ w = w' := by
  go_enter Try.func33, Try.ntmps33
  go_wp2
  go_ret
  exact ⟨ret_int (by rw [wrap_i8, IntWalk.wrap64_in _ ⟨by omega, by omega⟩]; rfl), rfl⟩
set_option maxRecDepth 100000 in
theorem nar1 (v : Int) (w : World) : Calls Try.prog 34 #[.int .i64 v] w fun e w' => e = .returned (.int .i64 (narL v 1)) ∧ w = w' := by
  go_enter Try.func34, Try.ntmps34
  go_wp2
  go_ret
  exact ⟨ret_int rfl, rfl⟩
set_option maxRecDepth 100000 in
theorem nar2 (v : Int) (w : World) : Calls Try.prog 35 #[.int .i64 v] w fun e w' => e = .returned (.int .i64 (narL v 2)) ∧ w = w' := by
  go_enter Try.func35, Try.ntmps35
  go_wp2
  go_ret
  exact ⟨ret_int (by rw [wrap_i16, IntWalk.wrap64_in _ ⟨by omega, by omega⟩]; rfl), rfl⟩
set_option maxRecDepth 100000 in
theorem nar3 (v : Int) (w : World) : Calls Try.prog 36 #[.int .i64 v] w fun e w' => e = .returned (.int .i64 (narL v 3)) ∧ w = w' := by
  go_enter Try.func36, Try.ntmps36
  go_wp2
  go_ret
  exact ⟨ret_int (by first | rfl | (rw [IntKind.wrap_u16, IntWalk.wrap64_in _ ⟨by omega, by omega⟩]; rfl)), rfl⟩
set_option maxRecDepth 100000 in
theorem nar4 (v : Int) (w : World) : Calls Try.prog 37 #[.int .i64 v] w fun e w' => e = .returned (.int .i64 (narL v 4)) ∧ w = w' := by
  go_enter Try.func37, Try.ntmps37
  go_wp2
  go_ret
  exact ⟨ret_int (by
    have e : ∀ x, wrap32 x = (x + 2147483648) % 4294967296 - 2147483648 := fun x => by simp only [wrap32]
    rw [e, IntWalk.wrap64_in _ ⟨by omega, by omega⟩]; rfl), rfl⟩
set_option maxRecDepth 100000 in
theorem nar5 (v : Int) (w : World) : Calls Try.prog 38 #[.int .i64 v] w fun e w' => e = .returned (.int .i64 (narL v 5)) ∧ w = w' := by
  go_enter Try.func38, Try.ntmps38
  go_wp2
  go_ret
  exact ⟨ret_int (by first | rfl | (rw [IntKind.wrap_u32, IntWalk.wrap64_in _ ⟨by omega, by omega⟩]; rfl)), rfl⟩

set_option maxRecDepth 100000 in
theorem narrowers_any (w : World) : Calls Try.prog 27 #[] w fun e w' => e = .returned (.agg #[.func (.func 33) #[] #[], .func (.func 34) #[] #[], .func (.func 35) #[] #[], .func (.func 36) #[] #[], .func (.func 37) #[] #[], .func (.func 38) #[] #[]]) ∧ Below w.heap.size w w' := by
  go_enter Try.func27, Try.ntmps27
  go_wp2
  go_returns
  exact ⟨rfl, by go_grown⟩

set_option maxRecDepth 100000 in
set_option maxHeartbeats 1000000 in
theorem narrow_any (v k : Int) (w : World) : Calls Try.prog 19 #[.int .i64 v, .int .i64 k] w fun e w' => e = .returned (.tuple #[.int .i64 (narE v k).1, .int .i64 (narE v k).2]) ∧ Below w.heap.size w w' := by
  by_cases h0 : k < 0
  · have hn : narE v k = (0, 1) := if_pos (.inl h0)
    have HN := Lib.hid hn; clear hn
    go_enter Try.func19, Try.ntmps19
    go_wp2_with fail
    go_ret2
    exact ⟨ret_int_err (by rw [HN.out]) (by rw [HN.out]), Below.refl _ _⟩
  · by_cases h6 : 6 ≤ k
    · have hn : narE v k = (0, 1) := if_pos (.inr h6)
      have HN := Lib.hid hn; clear hn
      go_enter Try.func19, Try.ntmps19
      go_wp2_with fail
      go_ret2
      exact ⟨ret_int_err (by rw [HN.out]) (by rw [HN.out]), Below.refl _ _⟩
    · have hk : k = 0 ∨ k = 1 ∨ k = 2 ∨ k = 3 ∨ k = 4 ∨ k = 5 := by omega
      clear h0 h6
      rcases hk with rfl | rfl | rfl | rfl | rfl | rfl
      · go_enter Try.func19, Try.ntmps19
        go_wp2_with fail
        refine (narrowers_any _).mono ?_
        rintro e w1 ⟨rfl, hb⟩
        have HB := Lib.hid hb; clear hb
        have hix : ∀ w, (Instr.index 55 (.agg #[.func (.func 33) #[] #[], .func (.func 34) #[] #[], .func (.func 35) #[] #[], .func (.func 36) #[] #[], .func (.func 37) #[] #[], .func (.func 38) #[] #[]]) (.int .i64 0)).run Try.prog w = .ok (.func (.func 33) #[] #[]) w := fun _ => by kernel_rfl
        go_wp2_with fail
        refine (nar0 _ _).mono ?_
        rintro e w' ⟨rfl, rfl⟩
        go_wp2_with fail
        go_ret2
        exact ⟨ret_int_err (by rw [narE_ok (by omega) (by omega)]) (by rw [narE_ok (by omega) (by omega)]), HB.out⟩
      · go_enter Try.func19, Try.ntmps19
        go_wp2_with fail
        refine (narrowers_any _).mono ?_
        rintro e w1 ⟨rfl, hb⟩
        have HB := Lib.hid hb; clear hb
        have hix : ∀ w, (Instr.index 55 (.agg #[.func (.func 33) #[] #[], .func (.func 34) #[] #[], .func (.func 35) #[] #[], .func (.func 36) #[] #[], .func (.func 37) #[] #[], .func (.func 38) #[] #[]]) (.int .i64 1)).run Try.prog w = .ok (.func (.func 34) #[] #[]) w := fun _ => by kernel_rfl
        go_wp2_with fail
        refine (nar1 _ _).mono ?_
        rintro e w' ⟨rfl, rfl⟩
        go_wp2_with fail
        go_ret2
        exact ⟨ret_int_err (by rw [narE_ok (by omega) (by omega)]) (by rw [narE_ok (by omega) (by omega)]), HB.out⟩
      · go_enter Try.func19, Try.ntmps19
        go_wp2_with fail
        refine (narrowers_any _).mono ?_
        rintro e w1 ⟨rfl, hb⟩
        have HB := Lib.hid hb; clear hb
        have hix : ∀ w, (Instr.index 55 (.agg #[.func (.func 33) #[] #[], .func (.func 34) #[] #[], .func (.func 35) #[] #[], .func (.func 36) #[] #[], .func (.func 37) #[] #[], .func (.func 38) #[] #[]]) (.int .i64 2)).run Try.prog w = .ok (.func (.func 35) #[] #[]) w := fun _ => by kernel_rfl
        go_wp2_with fail
        refine (nar2 _ _).mono ?_
        rintro e w' ⟨rfl, rfl⟩
        go_wp2_with fail
        go_ret2
        exact ⟨ret_int_err (by rw [narE_ok (by omega) (by omega)]) (by rw [narE_ok (by omega) (by omega)]), HB.out⟩
      · go_enter Try.func19, Try.ntmps19
        go_wp2_with fail
        refine (narrowers_any _).mono ?_
        rintro e w1 ⟨rfl, hb⟩
        have HB := Lib.hid hb; clear hb
        have hix : ∀ w, (Instr.index 55 (.agg #[.func (.func 33) #[] #[], .func (.func 34) #[] #[], .func (.func 35) #[] #[], .func (.func 36) #[] #[], .func (.func 37) #[] #[], .func (.func 38) #[] #[]]) (.int .i64 3)).run Try.prog w = .ok (.func (.func 36) #[] #[]) w := fun _ => by kernel_rfl
        go_wp2_with fail
        refine (nar3 _ _).mono ?_
        rintro e w' ⟨rfl, rfl⟩
        go_wp2_with fail
        go_ret2
        exact ⟨ret_int_err (by rw [narE_ok (by omega) (by omega)]) (by rw [narE_ok (by omega) (by omega)]), HB.out⟩
      · go_enter Try.func19, Try.ntmps19
        go_wp2_with fail
        refine (narrowers_any _).mono ?_
        rintro e w1 ⟨rfl, hb⟩
        have HB := Lib.hid hb; clear hb
        have hix : ∀ w, (Instr.index 55 (.agg #[.func (.func 33) #[] #[], .func (.func 34) #[] #[], .func (.func 35) #[] #[], .func (.func 36) #[] #[], .func (.func 37) #[] #[], .func (.func 38) #[] #[]]) (.int .i64 4)).run Try.prog w = .ok (.func (.func 37) #[] #[]) w := fun _ => by kernel_rfl
        go_wp2_with fail
        refine (nar4 _ _).mono ?_
        rintro e w' ⟨rfl, rfl⟩
        go_wp2_with fail
        go_ret2
        exact ⟨ret_int_err (by rw [narE_ok (by omega) (by omega)]) (by rw [narE_ok (by omega) (by omega)]), HB.out⟩
      · go_enter Try.func19, Try.ntmps19
        go_wp2_with fail
        refine (narrowers_any _).mono ?_
        rintro e w1 ⟨rfl, hb⟩
        have HB := Lib.hid hb; clear hb
        have hix : ∀ w, (Instr.index 55 (.agg #[.func (.func 33) #[] #[], .func (.func 34) #[] #[], .func (.func 35) #[] #[], .func (.func 36) #[] #[], .func (.func 37) #[] #[], .func (.func 38) #[] #[]]) (.int .i64 5)).run Try.prog w = .ok (.func (.func 38) #[] #[]) w := fun _ => by kernel_rfl
        go_wp2_with fail
        refine (nar5 _ _).mono ?_
        rintro e w' ⟨rfl, rfl⟩
        go_wp2_with fail
        go_ret2
        exact ⟨ret_int_err (by rw [narE_ok (by omega) (by omega)]) (by rw [narE_ok (by omega) (by omega)]), HB.out⟩

/-! ### Shift -/
def shL (v n : Int) : Int := if 0 ≤ n then wrap64 (v * 2 ^ n.toNat) else v / 2 ^ (-n).toNat
def shE (v n : Int) : Int × Int := if n < -64 ∨ 64 < n then (0, 1) else (shL v n, 0)
theorem shE_ok {v n : Int} (h0 : -64 ≤ n) (h1 : n ≤ 64) : shE v n = (shL v n, 0) := if_neg (by omega)

set_option maxRecDepth 100000 in
theorem shift_any (v n : Int) (w : World) : Calls Try.prog 20 #[.int .i64 v, .int .i64 n] w fun e w' => e = .returned (.tuple #[.int .i64 (shE v n).1, .int .i64 (shE v n).2]) ∧ w = w' := by
  by_cases h0 : n < -64
  · have HN := Lib.hid (show shE v n = (0, 1) from if_pos (.inl h0))
    go_enter Try.func20, Try.ntmps20
    go_wp2
    go_ret2
    exact ⟨ret_int_err (by rw [HN.out]) (by rw [HN.out]), rfl⟩
  · by_cases h6 : 64 < n
    · have HN := Lib.hid (show shE v n = (0, 1) from if_pos (.inr h6))
      go_enter Try.func20, Try.ntmps20
      go_wp2
      go_ret2
      exact ⟨ret_int_err (by rw [HN.out]) (by rw [HN.out]), rfl⟩
    · have HN := Lib.hid (shE_ok (v := v) (n := n) (by omega) (by omega))
      by_cases hn : n < 0
      · have HS := Lib.hid (show shL v n = v / 2 ^ (-n).toNat from if_neg (by omega))
        go_enter Try.func20, Try.ntmps20
        go_wp2
        go_ret2
        exact ⟨ret_int_err (by rw [HN.out]; exact HS.out.symm) (by rw [HN.out]), rfl⟩
      · have HS := Lib.hid (show shL v n = wrap64 (v * 2 ^ n.toNat) from if_pos (by omega))
        go_enter Try.func20, Try.ntmps20
        go_wp2
        go_ret2
        exact ⟨ret_int_err (by rw [HN.out]; exact HS.out.symm) (by rw [HN.out]), rfl⟩

/-! ### the reference's Narrow -/
theorem mod_fix (v n : Int) (hn : 0 < n) : (v.tmod n + n) % n = v % n := by
  rw [Int.add_emod_right]
  rcases Int.le_total 0 v with h | h
  · rw [Int.tmod_eq_emod_of_nonneg h, Int.emod_emod_of_dvd _ (Int.dvd_refl n)]
  · obtain ⟨u, rfl⟩ : ∃ u, v = -u := ⟨-v, by omega⟩
    rw [Int.neg_tmod, Int.tmod_eq_emod_of_nonneg (by omega)]
    rw [Int.neg_emod, Int.neg_emod]
    simp [Int.emod_emod_of_dvd _ (Int.dvd_refl n), Int.dvd_iff_emod_eq_zero]
theorem tmod_bd (v n : Int) (hn : 0 < n) : -n < v.tmod n ∧ v.tmod n < n := by
  rcases Int.le_total 0 v with h | h
  · rw [Int.tmod_eq_emod_of_nonneg h]; exact ⟨by have := Int.emod_nonneg v (show n ≠ 0 by omega); omega, Int.emod_lt_of_pos v hn⟩
  · obtain ⟨u, rfl⟩ : ∃ u, v = -u := ⟨-v, by omega⟩
    rw [Int.neg_tmod, Int.tmod_eq_emod_of_nonneg (by omega)]
    have := Int.emod_nonneg u (show n ≠ 0 by omega); have := Int.emod_lt_of_pos u hn; omega

set_option maxRecDepth 100000 in
set_option maxHeartbeats 2000000 in
theorem refnar_any (v k : Int) (w : World) (hv : I64 v) (h0 : 0 ≤ k) (h6 : k < 6) : Calls Try.prog 21 #[.int .i64 v, .int .i64 k] w fun e w' => e = .returned (.int .i64 (narL v k)) ∧ w = w' := by
  obtain ⟨b1, b2⟩ := hv
  have hk : k = 0 ∨ k = 1 ∨ k = 2 ∨ k = 3 ∨ k = 4 ∨ k = 5 := by omega
  clear h0 h6
  rcases hk with rfl | rfl | rfl | rfl | rfl | rfl
  · obtain ⟨c1, c2⟩ := tmod_bd v 256 (by omega)
    have HT := Lib.hid (mod_fix v 256 (by omega))
    go_enter Try.func21, Try.ntmps21
    go_wp2
    all_goals go_ret
    all_goals exact ⟨ret_int (by have := HT.out; show _ = (v + 128) % 256 - 128; omega), rfl⟩
  · obtain ⟨c1, c2⟩ := tmod_bd v 256 (by omega)
    have HT := Lib.hid (mod_fix v 256 (by omega))
    go_enter Try.func21, Try.ntmps21
    go_wp2
    all_goals go_ret
    all_goals exact ⟨ret_int (by have := HT.out; show _ = v % 256; omega), rfl⟩
  · obtain ⟨c1, c2⟩ := tmod_bd v 65536 (by omega)
    have HT := Lib.hid (mod_fix v 65536 (by omega))
    go_enter Try.func21, Try.ntmps21
    go_wp2
    all_goals go_ret
    all_goals exact ⟨ret_int (by have := HT.out; show _ = (v + 32768) % 65536 - 32768; omega), rfl⟩
  · obtain ⟨c1, c2⟩ := tmod_bd v 65536 (by omega)
    have HT := Lib.hid (mod_fix v 65536 (by omega))
    go_enter Try.func21, Try.ntmps21
    go_wp2
    all_goals go_ret
    all_goals exact ⟨ret_int (by have := HT.out; show _ = v % 65536; omega), rfl⟩
  · obtain ⟨c1, c2⟩ := tmod_bd v 4294967296 (by omega)
    have HT := Lib.hid (mod_fix v 4294967296 (by omega))
    go_enter Try.func21, Try.ntmps21
    go_wp2
    all_goals go_ret
    all_goals exact ⟨ret_int (by have := HT.out; show _ = (v + 2147483648) % 4294967296 - 2147483648; omega), rfl⟩
  · obtain ⟨c1, c2⟩ := tmod_bd v 4294967296 (by omega)
    have HT := Lib.hid (mod_fix v 4294967296 (by omega))
    go_enter Try.func21, Try.ntmps21
    go_wp2
    all_goals go_ret
    all_goals exact ⟨ret_int (by have := HT.out; show _ = v % 4294967296; omega), rfl⟩

set_option maxRecDepth 100000 in
theorem half_any (v : Int) (w : World) (hv : I64 v) : Calls Try.prog 29 #[.int .i64 v] w fun e w' => e = .returned (.int .i64 (v / 2)) ∧ w = w' := by
  obtain ⟨b1, b2⟩ := hv
  by_cases h0 : v < 0
  · obtain ⟨u, rfl⟩ : ∃ u, v = -u := ⟨-v, by omega⟩
    have ED := Lib.hid (Int.tdiv_eq_ediv_of_nonneg (a := u) (b := 2) (by omega))
    by_cases hu : u % 2 = 0
    · have hb : (-(u % 2) != 0) = false := by rw [hu]; rfl
      have HU := Lib.hid hu; clear hu
      go_enter Try.func29, Try.ntmps29
      go_wp2
      go_ret
      exact ⟨ret_int (by have := HU.out; rw [ED.out, IntWalk.wrap64_in _ ⟨by omega, by omega⟩]; omega), rfl⟩
    · have hb : (-(u % 2) != 0) = true := by rw [bne_iff_ne]; omega
      have HU := Lib.hid hu; clear hu
      go_enter Try.func29, Try.ntmps29
      go_wp2
      go_ret
      exact ⟨ret_int (by have := HU.out; rw [ED.out, IntWalk.wrap64_in (-(u / 2)) ⟨by omega, by omega⟩, IntWalk.wrap64_in _ ⟨by omega, by omega⟩]; omega), rfl⟩
  · go_enter Try.func29, Try.ntmps29
    go_wp2
    go_ret
    exact ⟨ret_int rfl, rfl⟩

/-! ### the reference's Shift -/
theorem wrap64_eq (x : Int) : wrap64 x = (x + 9223372036854775808) % 18446744073709551616 - 9223372036854775808 := by simp only [wrap64]
theorem wrap64_i64 (x : Int) : I64 (wrap64 x) := by rw [wrap64_eq]; exact ⟨by omega, by omega⟩
theorem wrap64_dbl (x : Int) : wrap64 (2 * wrap64 x) = wrap64 (2 * x) := by rw [wrap64_eq, wrap64_eq, wrap64_eq]; omega
theorem u64_dbl (x : Int) : wrap64 (IntKind.u64.wrap (IntKind.u64.wrap x * 2)) = wrap64 (2 * x) := by rw [wrap64_eq, wrap64_eq, IntKind.wrap_u64, IntKind.wrap_u64]; omega

set_option maxRecDepth 100000 in
theorem refshift_up (v n : Int) (w : World) (hv : I64 v) (h0 : 0 ≤ n) (h1 : n ≤ 64) : Calls Try.prog 22 #[.int .i64 v, .int .i64 n] w fun e w' => e = .returned (.int .i64 (wrap64 (v * 2 ^ n.toNat))) ∧ w = w' := by
  obtain ⟨m, rfl⟩ := Int.eq_ofNat_of_zero_le h0
  rw [Int.toNat_natCast]
  have HV := Lib.hid hv; clear hv
  go_enter Try.func22, Try.ntmps22
  go_wp2_with fail
  go_loop [0, 5] (fun t i => ∃ k : Nat, k ≤ m ∧ i = .int .i64 k ∧ t = .int .i64 (wrap64 (v * 2 ^ k))) (fun _ i => m - (intOf i).toNat)
  case atStart => exact ⟨0, Nat.zero_le _, rfl, by rw [Int.pow_zero, Int.mul_one, IntWalk.wrap64_in _ HV.out]⟩
  case round =>
    obtain ⟨k, hk, rfl, rfl⟩ := hrel
    have hs : v * 2 ^ (k + 1) = 2 * (v * 2 ^ k) := by rw [Int.pow_succ, ← Int.mul_assoc, Int.mul_comm]
    have hd := wrap64_dbl (v * 2 ^ k)
    obtain ⟨x, hx⟩ : ∃ x, x = wrap64 (v * 2 ^ k) := ⟨_, rfl⟩
    obtain ⟨y, hy⟩ : ∃ y, y = v * 2 ^ k := ⟨_, rfl⟩
    rw [← hx] at hd ⊢
    have HS := Lib.hid hs; have HD := Lib.hid hd; have HX := Lib.hid hx; clear hs hd hx hy
    by_cases hlt : k < m
    · go_wp2_with fail
      go_round
      case rel =>
        refine ⟨k + 1, by omega, by go_num, ?_⟩
        rw [HS.out, ← HD.out, ← u64_dbl]
      case measure => simp [intOf]; omega
    · obtain rfl : k = m := by omega
      go_wp2_with fail
      go_loop [0, 6] (fun t i => i = .int .i64 0 ∧ t = .int .i64 x) (fun _ _ => 0)
      case atStart => exact ⟨rfl, rfl⟩
      case round =>
        obtain ⟨rfl, rfl⟩ := hrel
        go_wp2_with fail
        go_ret
        exact ⟨ret_int HX.out, rfl⟩

theorem div_half (v : Int) (k : Nat) : v / 2 ^ (k + 1) = v / 2 ^ k / 2 := by rw [Int.pow_succ, Int.ediv_ediv_of_nonneg (by exact Int.pow_nonneg (by omega))]
theorem div_i64 (v : Int) (k : Nat) (hv : I64 v) : I64 (v / 2 ^ k) := by
  induction k with
  | zero => simpa using hv
  | succ k ih => rw [div_half]; unfold I64 at *; omega

set_option maxRecDepth 100000 in
theorem refshift_down (v n : Int) (w : World) (hv : I64 v) (h0 : n < 0) (h1 : -64 ≤ n) : Calls Try.prog 22 #[.int .i64 v, .int .i64 n] w fun e w' => e = .returned (.int .i64 (v / 2 ^ (-n).toNat)) ∧ w = w' := by
  obtain ⟨m, rfl⟩ : ∃ m : Nat, n = -(m : Int) := ⟨(-n).toNat, by omega⟩
  rw [show (- -(m : Int)).toNat = m by omega]
  have HV := Lib.hid hv; clear hv
  go_enter Try.func22, Try.ntmps22
  go_wp2_with fail
  go_loop [0, 5] (fun t i => i = .int .i64 0 ∧ t = .int .i64 v) (fun _ i => 0)
  case atStart => exact ⟨rfl, rfl⟩
  case round =>
    obtain ⟨rfl, rfl⟩ := hrel
    go_wp2_with fail
    go_loop [0, 6] (fun t i => ∃ k : Nat, k ≤ m ∧ i = .int .i64 k ∧ t = .int .i64 (v / 2 ^ k)) (fun _ i => m - (intOf i).toNat)
    case atStart => exact ⟨0, Nat.zero_le _, rfl, by rw [Int.pow_zero, Int.ediv_one]⟩
    case round =>
      obtain ⟨k, hk, rfl, rfl⟩ := hrel
      have HI := Lib.hid (div_i64 v k HV.out)
      have HD := Lib.hid (div_half v k)
      obtain ⟨x, hx⟩ : ∃ x, x = v / 2 ^ k := ⟨_, rfl⟩
      rw [← hx] at HI HD ⊢
      have HX := Lib.hid hx; clear hx
      by_cases hlt : k < m
      · go_wp2_with fail
        refine (half_any _ _ HI.out).mono ?_
        rintro e w' ⟨rfl, rfl⟩
        go_wp2_with fail
        go_round
        case rel => exact ⟨k + 1, by omega, by go_num, by rw [HD.out]⟩
        case measure => simp [intOf]; omega
      · obtain rfl : k = m := by omega
        go_wp2_with fail
        go_ret
        exact ⟨ret_int HX.out, rfl⟩
theorem refshift_any (v n : Int) (w : World) (hv : I64 v) (h0 : -64 ≤ n) (h1 : n ≤ 64) : Calls Try.prog 22 #[.int .i64 v, .int .i64 n] w fun e w' => e = .returned (.int .i64 (shL v n)) ∧ w = w' := by
  by_cases hn : 0 ≤ n
  · rw [shL, if_pos hn]; exact refshift_up v n w hv hn h1
  · rw [shL, if_neg hn]; exact refshift_down v n w hv (by omega) h0
end Go.Proofs.Ytdlmfpofedfcdaa
