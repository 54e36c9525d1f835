/- VarintOrder: the walk. -/
import Derived.Test.YtmmhjdpodagkhaaLaw0
namespace Go.Proofs.Ytmmhjdpodagkhaa
open Go.RowKit

theorem wrap_mod (a : Int) (h : I64 a) : wrap64 ((IntKind.u64.wrap a).tmod 2147483648) = a % 2147483648 := by
  unfold I64 at h
  have e : IntKind.u64.wrap a = a % 18446744073709551616 := by
    unfold IntKind.wrap; simp [IntKind.bits, IntKind.signed] <;> omega
  rw [e, Int.tmod_eq_emod_of_nonneg (by omega), IntWalk.wrap64_in _ ⟨by omega, by omega⟩]; omega

theorem putF_mono (f : Nat) (a b : Int) (h0 : 0 ≤ a) (h : a ≤ b) : (putF f a).length ≤ (putF f b).length := by
  induction f generalizing a b with
  | zero => simp [putF]
  | succ f ih =>
    by_cases ha : a < 128
    · rw [putF_one _ _ ha]; exact (putF_len _ _).1
    · rw [putF_more _ _ ha, putF_more _ _ (by omega), List.length_cons, List.length_cons]
      have := ih (a / 128) (b / 128) (by omega) (by omega); omega
theorem put_pre {a b : Int} (h0 : 0 ≤ a) (h1 : a ≤ 2147483647) (g0 : 0 ≤ b) (g1 : b ≤ 2147483647) (h : (strOf (putL b)).extract 0 (strOf (putL a)).size = strOf (putL a)) : a = b := by
  have e := congrArg tx h
  rw [tx_take, tx_strOf _ (putL_byt g0 (by omega)), tx_strOf _ (putL_byt h0 (by omega)), strOf_size] at e
  have d := List.take_append_drop (putL a).length (putL b)
  rw [e] at d
  have x := get_put a ((putL b).drop (putL a).length) h0 h1
  have y := get_put b [] g0 g1
  rw [d] at x
  rw [List.append_nil, x] at y
  exact congrArg (·.1) y

theorem toList_inj {s t : ByteArray} (h : s.toList = t.toList) : s = t := by
  rw [← data_toList, ← data_toList] at h
  exact ByteArray.ext (Array.ext' h)
theorem extract_all (s : ByteArray) : s.extract 0 s.size = s := by simp

set_option maxRecDepth 100000 in
set_option maxHeartbeats 2000000 in
theorem order_eq (a b x y : Int) (w : World) (hx : wrap64 ((IntKind.u64.wrap a).tmod 2147483648) = x) (hy : wrap64 ((IntKind.u64.wrap b).tmod 2147483648) = y) (x0 : 0 ≤ x) (x1 : x ≤ 2147483647) (y0 : 0 ≤ y) (y1 : y ≤ 2147483647) (h : x = y) : Calls Try.prog 6 #[.int .i64 a, .int .i64 b] w (Says w) := by
  subst h
  have hs1 : 1 ≤ (strOf (putL x)).size := by rw [strOf_size]; exact (putL_len x).1
  have hs5 : (strOf (putL x)).size ≤ 5 := by rw [strOf_size]; exact (putL_len x).2
  obtain ⟨S, hS⟩ : ∃ S, S = strOf (putL x) := ⟨_, rfl⟩
  have HS := Lib.hid hS
  rw [← hS] at hs1 hs5; clear hS
  have hs1' : (1 : Int) ≤ S.size := by omega
  go_enter Try.func6, Try.ntmps6
  go_wp2_with fail
  refine (Put_ok _ _ x0 x1).mono ?_
  rintro e w1 ⟨rfl, hb1⟩
  have HBW1 := Lib.hid hb1
  clear hb1
  rw [← HS.out]
  go_wp2_with fail
  refine (Put_ok _ _ y0 y1).mono ?_
  rintro e w2 ⟨rfl, hb2⟩
  have HBW2 := Lib.hid (HBW1.out.trans (hb2.mono HBW1.out.size))
  clear hb2
  rw [← HS.out]
  go_wp2_with fail
  refine (alive_any _).mono ?_
  rintro e w3 ⟨rfl, hb3⟩
  have HBW3 := Lib.hid (HBW2.out.trans (hb3.mono HBW2.out.size))
  clear hb3
  go_wp2_with fail
  go_ret
  exact ⟨ret_bool rfl, HBW3.out⟩

set_option maxRecDepth 100000 in
set_option maxHeartbeats 2000000 in
theorem order_lt (a b x y : Int) (w : World) (hx : wrap64 ((IntKind.u64.wrap a).tmod 2147483648) = x) (hy : wrap64 ((IntKind.u64.wrap b).tmod 2147483648) = y) (x0 : 0 ≤ x) (x1 : x ≤ 2147483647) (y0 : 0 ≤ y) (y1 : y ≤ 2147483647) (h : x < y) : Calls Try.prog 6 #[.int .i64 a, .int .i64 b] w (Says w) := by
  have hs1 : 1 ≤ (strOf (putL x)).size := by rw [strOf_size]; exact (putL_len x).1
  have hs5 : (strOf (putL y)).size ≤ 5 := by rw [strOf_size]; exact (putL_len y).2
  have hst : (strOf (putL x)).size ≤ (strOf (putL y)).size := by rw [strOf_size, strOf_size]; exact putF_mono 4 _ _ x0 (by omega)
  have hne : ((strOf (putL x)).toList == (strOf (putL y)).toList) = false := by
    rw [beq_eq_false_iff_ne]; intro hh
    have := put_pre x0 x1 y0 y1 (by rw [← toList_inj hh]; exact extract_all _)
    omega
  have hpr : (((strOf (putL y)).extract 0 (strOf (putL x)).size).toList == (strOf (putL x)).toList) = false := by
    rw [beq_eq_false_iff_ne]; intro hh
    have := put_pre x0 x1 y0 y1 (toList_inj hh)
    omega
  obtain ⟨S, hS⟩ : ∃ S, S = strOf (putL x) := ⟨_, rfl⟩
  obtain ⟨T, hT⟩ : ∃ S, S = strOf (putL y) := ⟨_, rfl⟩
  have HS := Lib.hid hS; have HT := Lib.hid hT
  rw [← hS] at hs1 hst hne hpr; rw [← hT] at hs5 hst hne hpr; clear hS hT
  have hlh : (x == y) = false := by rw [beq_eq_false_iff_ne]; omega
  have hst' : (S.size : Int) ≤ T.size := by omega
  have hs1' : (1 : Int) ≤ S.size := by omega
  go_enter Try.func6, Try.ntmps6
  go_wp2_with fail
  refine (Put_ok _ _ x0 x1).mono ?_
  rintro e w1 ⟨rfl, hb1⟩
  have HBW1 := Lib.hid hb1
  clear hb1
  rw [← HS.out]
  go_wp2_with fail
  refine (Put_ok _ _ y0 y1).mono ?_
  rintro e w2 ⟨rfl, hb2⟩
  have HBW2 := Lib.hid (HBW1.out.trans (hb2.mono HBW1.out.size))
  clear hb2
  rw [← HT.out]
  go_wp2_with fail
  refine (alive_any _).mono ?_
  rintro e w3 ⟨rfl, hb3⟩
  have HBW3 := Lib.hid (HBW2.out.trans (hb3.mono HBW2.out.size))
  clear hb3
  go_wp2_with fail
  go_ret
  exact ⟨ret_bool rfl, HBW3.out⟩

set_option maxRecDepth 100000 in
set_option maxHeartbeats 2000000 in
theorem order_gt (a b x y : Int) (w : World) (hx : wrap64 ((IntKind.u64.wrap a).tmod 2147483648) = x) (hy : wrap64 ((IntKind.u64.wrap b).tmod 2147483648) = y) (x0 : 0 ≤ x) (x1 : x ≤ 2147483647) (y0 : 0 ≤ y) (y1 : y ≤ 2147483647) (h : y < x) : Calls Try.prog 6 #[.int .i64 a, .int .i64 b] w (Says w) := by
  have hs1 : 1 ≤ (strOf (putL y)).size := by rw [strOf_size]; exact (putL_len y).1
  have hs5 : (strOf (putL x)).size ≤ 5 := by rw [strOf_size]; exact (putL_len x).2
  have hst : (strOf (putL y)).size ≤ (strOf (putL x)).size := by rw [strOf_size, strOf_size]; exact putF_mono 4 _ _ y0 (by omega)
  have hne : ((strOf (putL y)).toList == (strOf (putL x)).toList) = false := by
    rw [beq_eq_false_iff_ne]; intro hh
    have := put_pre y0 y1 x0 x1 (by rw [← toList_inj hh]; exact extract_all _)
    omega
  have hpr : (((strOf (putL x)).extract 0 (strOf (putL y)).size).toList == (strOf (putL y)).toList) = false := by
    rw [beq_eq_false_iff_ne]; intro hh
    have := put_pre y0 y1 x0 x1 (toList_inj hh)
    omega
  obtain ⟨S, hS⟩ : ∃ S, S = strOf (putL y) := ⟨_, rfl⟩
  obtain ⟨T, hT⟩ : ∃ S, S = strOf (putL x) := ⟨_, rfl⟩
  have HS := Lib.hid hS; have HT := Lib.hid hT
  rw [← hS] at hs1 hst hne hpr; rw [← hT] at hs5 hst hne hpr; clear hS hT
  have hlh : (y == x) = false := by rw [beq_eq_false_iff_ne]; omega
  have hst' : (S.size : Int) ≤ T.size := by omega
  have hs1' : (1 : Int) ≤ S.size := by omega
  go_enter Try.func6, Try.ntmps6
  go_wp2_with fail
  refine (Put_ok _ _ y0 y1).mono ?_
  rintro e w1 ⟨rfl, hb1⟩
  have HBW1 := Lib.hid hb1
  clear hb1
  rw [← HS.out]
  go_wp2_with fail
  refine (Put_ok _ _ x0 x1).mono ?_
  rintro e w2 ⟨rfl, hb2⟩
  have HBW2 := Lib.hid (HBW1.out.trans (hb2.mono HBW1.out.size))
  clear hb2
  rw [← HT.out]
  go_wp2_with fail
  refine (alive_any _).mono ?_
  rintro e w3 ⟨rfl, hb3⟩
  have HBW3 := Lib.hid (HBW2.out.trans (hb3.mono HBW2.out.size))
  clear hb3
  go_wp2_with fail
  go_ret
  exact ⟨ret_bool rfl, HBW3.out⟩

theorem order_walk (a b : Int) (w : World) (ha : I64 a) (hb : I64 b) : Calls Try.prog 6 #[.int .i64 a, .int .i64 b] w (Says w) := by
  have ea := wrap_mod a ha
  have eb := wrap_mod b hb
  rcases Int.lt_trichotomy (a % 2147483648) (b % 2147483648) with h | h | h
  · exact order_lt a b _ _ w ea eb (by omega) (by omega) (by omega) (by omega) h
  · exact order_eq a b _ _ w ea eb (by omega) (by omega) (by omega) (by omega) h
  · exact order_gt a b _ _ w ea eb (by omega) (by omega) (by omega) (by omega) h
end Go.Proofs.Ytmmhjdpodagkhaa
