/- Contracts of the reference's end and Get. -/
import Derived.Test.YtddkckppmjcclaaRef
namespace Go.Proofs.Ytddkckppmjcclaa
open Go.RowKit
set_option linter.unusedSimpArgs false
set_option linter.unusedVariables false

def endZ (S : List Int) : Nat × Bool :=
  match cutN 5 S with
  | some k => (k, true)
  | none => (min 5 S.length, false)
theorem endZ_hit (S : List Int) (i : Nat) (h : ∀ j, j < i → 128 ≤ en S j) (hi : i < S.length) (hb : en S i < 128) (h5 : i < 5) : endZ S = (i + 1, true) := by
  unfold endZ; rw [cut_hit 5 S i h hi hb h5]
theorem endZ_out (S : List Int) (i : Nat) (h : ∀ j, j < i → 128 ≤ en S j) (hi : i ≤ S.length) (h5 : i ≤ 5) (he : ¬ (i < S.length ∧ i < 5)) : endZ S = (i, false) := by
  unfold endZ; rw [cut_none 5 S (fun j hj hl => h j (by omega))]; simp only []; rw [show min 5 S.length = i by omega]


set_option maxRecDepth 100000 in
set_option maxHeartbeats 1000000 in
theorem end_in (s : ByteArray) (p : Nat) (w : World) (hp : p ≤ s.size) (hs : s.size ≤ 1000000) :
    Calls Try.prog 61 #[.string s, .int .i64 p] w fun e w' => e = .returned (.tuple #[.int .i64 ((p : Int) + (endZ ((tx s).drop p)).1), .bool (endZ ((tx s).drop p)).2]) ∧ w = w' := by
  obtain ⟨S, hS⟩ : ∃ S, S = (tx s).drop p := ⟨_, rfl⟩
  have hSl : S.length = s.size - p := by rw [hS, List.length_drop, tx_len]
  have hSe : ∀ i (h : p + i < s.size), ((s[p + i]'h).toNat : Int) = en S i := fun i h => by rw [PlainAid.get_bt s _ h, hS, en_drop, bt_en]
  rw [← hS]
  have HIT := Lib.hid (endZ_hit S)
  have OUT := Lib.hid (endZ_out S)
  have SL := Lib.hid hSl; have SE := Lib.hid hSe
  clear hSl hSe hS
  go_enter Try.func61, Try.ntmps61
  go_wp2_with fail
  go_loop [6] (fun i => ∃ k : Nat, k ≤ 5 ∧ k ≤ S.length ∧ i = .int .i64 ((p : Int) + k) ∧ Hid (∀ j, j < k → 128 ≤ en S j)) (fun i => 5 + p - (intOf i).toNat)
  case atStart => exact ⟨0, by omega, by omega, by go_num, fun j hj => absurd hj (by omega)⟩
  case round =>
    obtain ⟨k, hk, hkl, rfl, H1⟩ := hrel
    by_cases h5 : k < 5
    · by_cases hend : k < S.length
      · have hin : p + k < s.size := by rw [SL.out] at hend; omega
        have hin' : (p : Int) + (k : Int) < (s.size : Int) := by omega
        have hbk := SE.out k hin
        obtain ⟨b, hb⟩ : ∃ b, b = en S k := ⟨_, rfl⟩
        rw [← hb] at hbk
        have HBE := Lib.hid hb; clear hb
        by_cases h128 : b < 128
        · have HZ := Lib.hid (HIT.out k H1.out hend (by rw [← HBE.out]; exact h128) h5)
          go_wp2_with fail
          go_ret2
          exact ⟨ret_int_bool (by rw [HZ.out]; simp; omega) (by rw [HZ.out]), rfl⟩
        · go_wp2_with fail
          go_round
          case rel =>
            refine ⟨k + 1, by omega, by omega, by go_num, fun j hj => ?_⟩
            by_cases hjk : j = k
            · rw [hjk, ← HBE.out]; omega
            · exact H1.out j (by omega)
          case measure => simp [intOf]; omega
      · have hin' : ¬ (p : Int) + (k : Int) < (s.size : Int) := by have := SL.out; omega
        have HZ := Lib.hid (OUT.out k H1.out hkl hk (by omega))
        go_wp2_with fail
        go_ret2
        exact ⟨ret_int_bool (by rw [HZ.out]) (by rw [HZ.out]), rfl⟩
    · have HZ := Lib.hid (OUT.out k H1.out hkl hk (by omega))
      go_wp2_with fail
      all_goals go_ret2
      all_goals exact ⟨ret_int_bool (by rw [HZ.out]) (by rw [HZ.out]), rfl⟩

theorem drop_succ (L : List Int) (j : Nat) (h : j < L.length) : L.drop j = en L j :: L.drop (j + 1) := by
  rw [List.drop_eq_getElem_cons h, en_get _ _ h]
theorem val_back (S : List Int) (k j : Nat) (hk : k ≤ S.length) (h : j < k) : valN ((S.take k).drop j) = en S j % 128 + 128 * valN ((S.take k).drop (j + 1)) := by
  rw [drop_succ _ _ (by rw [List.length_take]; omega), valN, en_take, if_pos h]
theorem val_end (S : List Int) (k : Nat) : valN ((S.take k).drop k) = 0 := by
  rw [List.drop_of_length_le (by rw [List.length_take]; omega)]; rfl
theorem valN_lt (l : List Int) : 0 ≤ valN l ∧ valN l < 128 ^ l.length := by
  have := val_bd l l.length
  rwa [List.take_length] at this
theorem val_small (S : List Int) (k j : Nat) (h5 : k ≤ 5) : 0 ≤ valN ((S.take k).drop j) ∧ valN ((S.take k).drop j) < 34359738368 := by
  have := valN_lt ((S.take k).drop j)
  have hl : ((S.take k).drop j).length ≤ 5 := by rw [List.length_drop, List.length_take]; omega
  have hp : (128 : Int) ^ ((S.take k).drop j).length ≤ 34359738368 := by
    rcases (show ((S.take k).drop j).length = 0 ∨ ((S.take k).drop j).length = 1 ∨ ((S.take k).drop j).length = 2 ∨ ((S.take k).drop j).length = 3 ∨ ((S.take k).drop j).length = 4 ∨ ((S.take k).drop j).length = 5 by omega) with e | e | e | e | e | e <;> rw [e] <;> decide
  omega

set_option maxRecDepth 100000 in
set_option maxHeartbeats 1000000 in
theorem refget_in (s : ByteArray) (p : Nat) (w : World) (hp : p ≤ s.size) (hs : s.size ≤ 1000000) :
    Calls Try.prog 53 #[.string s, .int .i64 p] w fun e w' => e = .returned (.tuple #[.int .i64 (getZ (tx s) p).1, .int .i64 (getZ (tx s) p).2.1, .int .i64 (getZ (tx s) p).2.2]) ∧ w = w' := by
  obtain ⟨S, hS⟩ : ∃ S, S = (tx s).drop p := ⟨_, rfl⟩
  have hSl : S.length = s.size - p := by rw [hS, List.length_drop, tx_len]
  have hSe : ∀ i (h : p + i < s.size), ((s[p + i]'h).toNat : Int) = en S i := fun i h => by rw [PlainAid.get_bt s _ h, hS, en_drop, bt_en]
  have IN := Lib.hid (getZ_in (tx s) p (by rw [tx_len]; exact hp))
  have hend := fun W => end_in s p W hp hs
  rw [← hS] at IN hend
  have hSb : Byt S := by rw [hS]; exact byt_drop (tx_byt s) p
  have SB := Lib.hid hSb; clear hSb hS
  cases hc : cutN 5 S with
  | none =>
    have hE := Lib.hid (show endZ S = (min 5 S.length, false) by unfold endZ; rw [hc])
    by_cases h5 : 5 ≤ S.length
    · have hG := Lib.hid (show getS S = (0, 0, 10) by unfold getS; rw [hc]; simp only []; rw [if_pos h5])
      rw [Nat.min_eq_left h5] at hE
      have HEND := Lib.hid hend; clear hend hSl hSe hc
      go_enter Try.func53, Try.ntmps53
      go_wp2_with fail
      refine (HEND.out _).mono ?_
      rintro e w' ⟨rfl, rfl⟩
      rw [hE.out]
      go_wp2_with fail
      go_ret3
      exact ⟨by rw [IN.out, hG.out]; rfl, rfl⟩
    · have hG := Lib.hid (show getS S = (0, 0, 9) by unfold getS; rw [hc]; simp only []; rw [if_neg h5])
      rw [Nat.min_eq_right (by omega)] at hE
      have HEND := Lib.hid hend; clear hend hSl hSe hc
      have hne : ((p : Int) + (S.length : Int) == (p : Int) + 5) = false := by rw [beq_eq_false_iff_ne]; omega
      go_enter Try.func53, Try.ntmps53
      go_wp2_with fail
      refine (HEND.out _).mono ?_
      rintro e w' ⟨rfl, rfl⟩
      rw [hE.out]
      go_wp2_with fail
      go_ret3
      exact ⟨by rw [IN.out, hG.out]; rfl, rfl⟩
  | some k =>
    obtain ⟨k1, k5, kl, hx1, hx2⟩ := cut_some 5 S k hc
    have hE := Lib.hid (show endZ S = (k, true) by unfold endZ; rw [hc])
    have HEND := Lib.hid hend; clear hend
    have hG : getS S = if 1 < k ∧ en S (k - 1) = 0 then (0, 0, 10) else if 2147483647 < valN (S.take k) then (0, 0, 8) else (valN (S.take k), k, 0) := by unfold getS; rw [hc]
    have hkb : ((s[p + k - 1]'(by omega)).toNat : Int) = en S (k - 1) := by
      have := hSe (k - 1) (by omega)
      simpa only [show p + (k - 1) = p + k - 1 by omega] using this
    have SE := Lib.hid hSe; have SL := Lib.hid hSl
    have VB := Lib.hid (val_back S k); have VS := Lib.hid (val_small S k); have VE := Lib.hid (val_end S k)
    have hks : p + k ≤ s.size := by omega
    have hks' : (p : Int) + k ≤ s.size := by omega
    clear hSe hc hx1 hx2
    by_cases hz : 1 < k ∧ en S (k - 1) = 0
    · rw [if_pos hz] at hG
      obtain ⟨hz1, hz0⟩ := hz
      have HG := Lib.hid hG
      clear hG
      rw [hz0] at hkb
      have hlt : decide ((p : Int) + 1 < (p : Int) + k) = true := by rw [decide_eq_true_eq]; omega
      have hlt2 : decide (p + 1 < p + k) = true := by rw [decide_eq_true_eq]; omega
      clear hz0
      go_enter Try.func53, Try.ntmps53
      go_wp2_with fail
      refine (HEND.out _).mono ?_
      rintro e w' ⟨rfl, rfl⟩
      rw [hE.out]
      go_wp2_with fail
      go_ret3
      exact ⟨by rw [IN.out, HG.out]; rfl, rfl⟩
    · rw [if_neg hz] at hG
      have HG := Lib.hid hG
      clear hG
      obtain ⟨v, hv⟩ : ∃ v, v = valN (S.take k) := ⟨_, rfl⟩
      rw [← hv] at HG
      have HV := Lib.hid hv; clear hv
      have hzz : 1 < k → (en S (k - 1) == 0) = false := fun hk1 => by rw [beq_eq_false_iff_ne]; exact fun h => hz ⟨hk1, h⟩
      obtain ⟨z, hzd⟩ : ∃ z, z = en S (k - 1) := ⟨_, rfl⟩
      rw [← hzd] at hzz hkb
      clear hzd
      clear hz
      by_cases hk1 : 1 < k
      all_goals first | specialize hzz hk1 | clear hzz
      all_goals
        go_enter Try.func53, Try.ntmps53
        go_wp2_with fail
        refine (HEND.out _).mono ?_
        rintro e w' ⟨rfl, rfl⟩
        rw [hE.out]
        go_wp2_with fail
        go_loop [9, 10] (fun n i => ∃ j : Nat, j ≤ k ∧ i = .int .i64 ((p : Int) + j - 1) ∧ n = .int .i64 (valN ((S.take k).drop j))) (fun _ i => (intOf i - p + 1).toNat)
        case atStart => exact ⟨k, by omega, by go_num, by rw [VE.out]⟩
        case round =>
          obtain ⟨j, hj, rfl, rfl⟩ := hrel
          by_cases hj0 : 0 < j
          · obtain ⟨i, rfl⟩ : ∃ i, j = i + 1 := ⟨j - 1, by omega⟩
            have hin : p + i < s.size := by omega
            have hbk := SE.out i hin
            obtain ⟨vb0, vb1⟩ := VS.out i k5
            obtain ⟨vc0, vc1⟩ := VS.out (i + 1) k5
            have VBI := VB.out i kl (by omega)
            obtain ⟨b0, b1⟩ := SB.out _ (en_mem S i (by omega))
            obtain ⟨b, hb⟩ : ∃ b, b = en S i := ⟨_, rfl⟩
            rw [← hb] at hbk VBI b0 b1
            have HBE := Lib.hid hb; clear hb
            obtain ⟨x, hx⟩ : ∃ x, x = valN ((S.take k).drop (i + 1)) := ⟨_, rfl⟩
            rw [← hx] at VBI vc0 vc1
            obtain ⟨y, hy⟩ : ∃ x, x = valN ((S.take k).drop i) := ⟨_, rfl⟩
            rw [← hy] at VBI vb0 vb1
            rw [← hx]
            have HX := Lib.hid hx; have HY := Lib.hid hy; clear hx hy
            have HVB := Lib.hid VBI
            go_wp2_with fail
            go_round
            case rel => exact ⟨i, by omega, by go_num, by rw [← HY.out]; go_num⟩
            case measure => simp [intOf]; omega
          · have hj0' : j = 0 := by omega
            subst hj0'
            have hv2 : valN ((S.take k).drop 0) = v := by rw [List.drop_zero, HV.out]
            rw [hv2]
            by_cases hov : 2147483647 < v
            · have HG2 := Lib.hid HG.out
              rw [if_pos hov] at HG2
              go_wp2_with fail
              go_ret3
              exact ⟨by rw [IN.out, HG2.out]; rfl, rfl⟩
            · have HG2 := Lib.hid HG.out
              rw [if_neg hov] at HG2
              go_wp2_with fail
              go_ret3
              exact ⟨by rw [IN.out, HG2.out]; rfl, rfl⟩
end Go.Proofs.Ytddkckppmjcclaa
