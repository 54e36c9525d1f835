/- Contract of Get. -/
import Derived.Test.YtddkckppmjcclaaText
namespace Go.Proofs.Ytddkckppmjcclaa
open Go.RowKit
set_option linter.unusedSimpArgs false
set_option linter.unusedVariables false

def getZ (T : List Int) (at_ : Int) : Int × Int × Int :=
  if at_ < 0 ∨ (T.length : Int) < at_ then (0, 0, 3)
  else ((getS (T.drop at_.toNat)).1, if (getS (T.drop at_.toNat)).2.2 = 0 then at_ + (getS (T.drop at_.toNat)).2.1 else 0, (getS (T.drop at_.toNat)).2.2)
theorem getZ_in (T : List Int) (p : Nat) (h : p ≤ T.length) : getZ T p = ((getS (T.drop p)).1, if (getS (T.drop p)).2.2 = 0 then (p : Int) + (getS (T.drop p)).2.1 else 0, (getS (T.drop p)).2.2) := by
  rw [getZ, if_neg (by omega), Int.toNat_natCast]
theorem getZ_out (T : List Int) (a : Int) (h : a < 0 ∨ (T.length : Int) < a) : getZ T a = (0, 0, 3) := if_pos h

theorem en_drop (T : List Int) (a i : Nat) : en (T.drop a) i = en T (a + i) := by simp [en]

theorem getS_short (S : List Int) (h : ∀ j, j < S.length → 128 ≤ en S j) (hl : S.length < 5) : getS S = (0, 0, 9) := by
  unfold getS; rw [cut_none 5 S (fun j _ hj => h j hj)]; simp only []; rw [if_neg (by omega)]
theorem getS_long (S : List Int) (h : ∀ j, j < 5 → 128 ≤ en S j) (hl : 5 ≤ S.length) : getS S = (0, 0, 10) := by
  unfold getS; rw [cut_none 5 S (fun j hj _ => h j hj)]; simp only []; rw [if_pos hl]
theorem getS_hit (S : List Int) (k : Nat) (h : ∀ j, j < k → 128 ≤ en S j) (hk : k < S.length) (hb : en S k < 128) (h5 : k < 5) :
    getS S = if 0 < k ∧ en S k = 0 then (0, 0, 10) else if 2147483647 < valN (S.take (k + 1)) then (0, 0, 8) else (valN (S.take (k + 1)), k + 1, 0) := by
  unfold getS
  rw [cut_hit 5 S k h hk hb h5]
  simp only [Nat.add_sub_cancel]
  by_cases hz : 0 < k ∧ en S k = 0
  · rw [if_pos ⟨by omega, hz.2⟩, if_pos hz]
  · rw [if_neg (fun x => hz ⟨by omega, x.2⟩), if_neg hz]
theorem getZ_hit (T S : List Int) (p k : Nat) (hp : p ≤ T.length) (hS : S = T.drop p) (h : ∀ j, j < k → 128 ≤ en S j) (hk : k < S.length) (hb : en S k < 128) (h5 : k < 5) :
    getZ T p = gotE (valN (S.take (k + 1))) ((p : Int) + k + 1) (decide (0 < k) && decide (en S k = 0)) := by
  have hv := val_bd S (k + 1)
  have e0 := getS_hit S k h hk hb h5
  rw [getZ_in T p hp, ← hS]
  by_cases hz : 0 < k ∧ en S k = 0
  · rw [if_pos hz] at e0
    have hd : (decide (0 < k) && decide (en S k = 0)) = true := by rw [decide_eq_true hz.1, decide_eq_true hz.2]; rfl
    rw [e0, hd]; rfl
  · have hd : (decide (0 < k) && decide (en S k = 0)) = false := by
      rw [Bool.and_eq_false_iff, decide_eq_false_iff_not, decide_eq_false_iff_not]
      by_cases h0 : 0 < k
      · exact .inr fun h => hz ⟨h0, h⟩
      · exact .inl h0
    rw [if_neg hz] at e0
    by_cases hb : 2147483647 < valN (S.take (k + 1))
    · rw [if_pos hb] at e0
      have hs : smallB (valN (S.take (k + 1))) = false := by rw [smallB, decide_eq_false_iff_not]; omega
      rw [hd, gotE, if_neg (show ¬ (false = true) by simp), hs, e0]; rfl
    · rw [if_neg hb] at e0
      have hs : smallB (valN (S.take (k + 1))) = true := by rw [smallB, decide_eq_true_eq]; omega
      rw [hd, gotE, if_neg (show ¬ (false = true) by simp), hs, e0]
      show (valN (S.take (k + 1)), (p : Int) + ((k + 1 : Nat) : Int), (0 : Int)) = (valN (S.take (k + 1)), (p : Int) + k + 1, 0)
      rw [Int.natCast_add, ← Int.add_assoc]; rfl

theorem or_nat (n d k : Nat) (hk : k < 5) (hn : n < 128 ^ k) (hd : d < 128) : bits .or .i64 (n : Int) ((d * 2 ^ (7 * k) : Nat) : Int) = ((n + d * 128 ^ k : Nat) : Int) := by
  have hp : (2 : Nat) ^ (7 * k) = 128 ^ k := by rw [Nat.pow_mul]
  rw [hp]
  have hb : (128 : Nat) ^ k ≤ 268435456 := by
    have : (128 : Nat) ^ k ≤ 128 ^ 4 := Nat.pow_le_pow_right (by omega) (by omega)
    simpa using this
  have hdb : d * 128 ^ k ≤ 127 * 268435456 := Nat.mul_le_mul (by omega) hb
  show IntKind.i64.wrap ((BitVec.ofInt 64 (n : Int) ||| BitVec.ofInt 64 ((d * 128 ^ k : Nat) : Int)).toNat : Int) = _
  rw [BitVec.toNat_or, ofInt_nat _ (by omega), ofInt_nat _ (by omega)]
  have : n ||| d * 128 ^ k = n + d * 128 ^ k := by
    have := Nat.two_pow_add_eq_or_of_lt (i := 7 * k) (b := n) (by rw [hp]; exact hn) d
    rw [hp, Nat.mul_comm] at this
    rw [Nat.or_comm, ← this, Nat.add_comm]
  rw [this]
  exact IntWalk.i64_in _ ⟨by omega, by omega⟩
theorem or_val (S : List Int) (k : Nat) (hS : Byt S) (hk : k < S.length) (h5 : k < 5) :
    bits .or .i64 (valN (S.take k)) (wrap64 (bits .and .i64 (en S k) 127 * 2 ^ (7 * k))) = valN (S.take (k + 1)) := by
  obtain ⟨h0, h1⟩ := val_bd S k
  obtain ⟨b0, b1⟩ := hS _ (en_mem S k hk)
  rw [val_succ S k hk, and127 _ b0 (by omega)]
  have hb : (128 : Nat) ^ k ≤ 268435456 := by
    have : (128 : Nat) ^ k ≤ 128 ^ 4 := Nat.pow_le_pow_right (by omega) (by omega)
    simpa using this
  obtain ⟨n, hn⟩ := Int.eq_ofNat_of_zero_le h0
  obtain ⟨d, hd⟩ := Int.eq_ofNat_of_zero_le (show 0 ≤ en S k % 128 by omega)
  rw [hn, hd]
  have hp : (2 : Nat) ^ (7 * k) = 128 ^ k := by rw [Nat.pow_mul]
  have hdb : d * 128 ^ k ≤ 127 * 268435456 := Nat.mul_le_mul (by omega) hb
  have e1 : ((d : Int) * 2 ^ (7 * k)) = ((d * 2 ^ (7 * k) : Nat) : Int) := by rw [Int.natCast_mul, Int.natCast_pow]; rfl
  rw [e1, IntWalk.wrap64_in _ ⟨by omega, by rw [hp]; omega⟩, or_nat n d k h5 (by
    have : ((n : Nat) : Int) < ((128 ^ k : Nat) : Int) := by rw [Int.natCast_pow]; rw [← hn]; exact h1
    omega) (by omega), Int.natCast_add, Int.natCast_mul, Int.natCast_pow]; rfl

set_option maxRecDepth 100000 in
set_option maxHeartbeats 1000000 in
theorem get_in (s : ByteArray) (p : Nat) (w : World) (hp : p ≤ s.size) (hs : s.size ≤ 1000000) :
    Calls Try.prog 58 #[.string s, .int .i64 p] w fun e w' => e = .returned (.tuple #[.int .i64 (getZ (tx s) p).1, .int .i64 (getZ (tx s) p).2.1, .int .i64 (getZ (tx s) p).2.2]) ∧ w = w' := by
  obtain ⟨S, hS⟩ : ∃ S, S = (tx s).drop p := ⟨_, rfl⟩
  have hSl : S.length = s.size - p := by rw [hS, List.length_drop, tx_len]
  have hSe : ∀ i (h : p + i < s.size), ((s[p + i]'h).toNat : Int) = en S i := fun i h => by rw [PlainAid.get_bt s _ h, hS, en_drop, bt_en]
  have hSb : Byt S := by rw [hS]; exact byt_drop (tx_byt s) p
  have HIT := Lib.hid (getZ_hit (tx s) S p · (by rw [tx_len]; exact hp) hS)
  have IN := Lib.hid (getZ_in (tx s) p (by rw [tx_len]; exact hp))
  rw [← hS] at IN
  have SL := Lib.hid hSl; have SE := Lib.hid hSe; have SB := Lib.hid hSb
  clear hSl hSe hSb hS
  have hd0 : decide ((p : Int) < 0) = false := by rw [decide_eq_false_iff_not]; omega
  have hd1 : decide (s.size < p) = false := by rw [decide_eq_false_iff_not]; omega
  go_enter Try.func58, Try.ntmps58
  go_wp2_with fail
  go_loop [7, 18] (fun n i => ∃ k : Nat, k ≤ 5 ∧ k ≤ S.length ∧ i = .int .i64 k ∧ n = .int .i64 (valN (S.take k)) ∧ Hid (∀ j, j < k → 128 ≤ en S j)) (fun _ i => 5 - (intOf i).toNat)
  case atStart => exact ⟨0, by omega, by omega, rfl, rfl, fun j hj => absurd hj (by omega)⟩
  case round =>
    obtain ⟨k, hk, hkl, rfl, rfl, H1⟩ := hrel
    by_cases h5 : k < 5
    · by_cases hend : k < S.length
      · have hin : p + k < s.size := by rw [SL.out] at hend; omega
        have hin' : (p : Int) + (k : Int) < (s.size : Int) := by omega
        have hne : ((p : Int) + (k : Int) == (s.size : Int)) = false := by rw [beq_eq_false_iff_ne]; omega
        have hbk := SE.out k
        obtain ⟨b0, b1⟩ := SB.out _ (en_mem S k hend)
        have OR := Lib.hid (or_val S k SB.out hend h5)
        have HITK := Lib.hid (HIT.out k H1.out hend)
        obtain ⟨b, hb⟩ : ∃ b, b = en S k := ⟨_, rfl⟩
        rw [← hb] at hbk b0 b1 OR HITK
        have HBE := Lib.hid hb; clear hb
        by_cases h128 : b < 128
        · by_cases hz : b = 0
          · have HZ := Lib.hid (HITK.out h128 h5); rw [decide_eq_true hz, Bool.and_true] at HZ
            subst hz
            go_wp2_with fail
            rw [OR.out]
            refine (got_any _ _ _ _).mono ?_
            rintro e w' ⟨rfl, rfl⟩
            go_wp2_with fail
            go_ret3
            exact ⟨by rw [HZ.out]; rfl, rfl⟩
          · have HZ := Lib.hid (HITK.out h128 h5); rw [decide_eq_false hz, Bool.and_false] at HZ
            have hzb : (b == 0) = false := by rw [beq_eq_false_iff_ne]; exact hz
            go_wp2_with fail
            rw [OR.out]
            refine (got_any _ _ _ _).mono ?_
            rintro e w' ⟨rfl, rfl⟩
            go_wp2_with fail
            go_ret3
            exact ⟨by rw [HZ.out]; rfl, rfl⟩
        · go_wp2_with fail
          go_round
          case rel =>
            refine ⟨k + 1, by omega, by omega, by go_num, by rw [OR.out], fun j hj => ?_⟩
            by_cases hjk : j = k
            · rw [hjk, ← HBE.out]; omega
            · exact H1.out j (by omega)
          case measure => simp [intOf]; omega
      · have hne : ((p : Int) + (k : Int) == (s.size : Int)) = true := by rw [beq_iff_eq]; have := SL.out; omega
        have HS := Lib.hid (getS_short S (fun j hj => H1.out j (by omega)) (by omega))
        go_wp2_with fail
        go_ret3
        exact ⟨by rw [IN.out, HS.out]; rfl, rfl⟩
    · have HS := Lib.hid (getS_long S (fun j hj => H1.out j (by omega)) (by omega))
      go_wp2_with fail
      go_ret3
      exact ⟨by rw [IN.out, HS.out]; rfl, rfl⟩

set_option maxRecDepth 100000 in
theorem get_any (s : ByteArray) (a : Int) (w : World) (hs : s.size ≤ 1000000) :
    Calls Try.prog 58 #[.string s, .int .i64 a] w fun e w' => e = .returned (.tuple #[.int .i64 (getZ (tx s) a).1, .int .i64 (getZ (tx s) a).2.1, .int .i64 (getZ (tx s) a).2.2]) ∧ w = w' := by
  by_cases h0 : a < 0
  · have HZ := Lib.hid (getZ_out (tx s) a (.inl h0))
    go_enter Try.func58, Try.ntmps58
    go_wp2_with fail
    go_ret3
    exact ⟨by rw [HZ.out]; rfl, rfl⟩
  · by_cases h1 : (s.size : Int) < a
    · have HZ := Lib.hid (getZ_out (tx s) a (.inr (by rw [tx_len]; exact h1)))
      go_enter Try.func58, Try.ntmps58
      go_wp2_with fail
      go_ret3
      exact ⟨by rw [HZ.out]; rfl, rfl⟩
    · obtain ⟨p, rfl⟩ := Int.eq_ofNat_of_zero_le (show 0 ≤ a by omega)
      exact get_in s p w (by omega) hs
end Go.Proofs.Ytddkckppmjcclaa
