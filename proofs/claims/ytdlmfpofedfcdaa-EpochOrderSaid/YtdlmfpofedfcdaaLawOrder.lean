/- The walk of EpochOrder: it returns true, and writes nothing that was there. -/
import Derived.Test.YtdlmfpofedfcdaaLawKnows
import Derived.Test.YtdlmfpofedfcdaaBytes
namespace Go.Proofs.Ytdlmfpofedfcdaa
open Go.RowKit

def valL : List UInt8 → Nat
  | [] => 0
  | x :: xs => x.toNat * 256 ^ xs.length + valL xs
theorem valL_lt (l : List UInt8) : valL l < 256 ^ l.length := by
  induction l with
  | nil => simp [valL]
  | cons x xs ih =>
    have := x.toNat_lt
    have h1 : x.toNat * 256 ^ xs.length ≤ 255 * 256 ^ xs.length := Nat.mul_le_mul_right _ (by omega)
    simp only [valL, List.length_cons, Nat.pow_succ]
    omega
theorem less_val (l m : List UInt8) (h : l.length = m.length) : Op.bytesLess l m = decide (valL l < valL m) := by
  induction l generalizing m with
  | nil => cases m with
    | nil => simp [Op.bytesLess, valL]
    | cons y ys => simp at h
  | cons x xs ih => cases m with
    | nil => simp at h
    | cons y ys =>
      have hl : xs.length = ys.length := by simpa using h
      have h1 := valL_lt xs; have h2 := valL_lt ys
      rw [hl] at h1
      unfold Op.bytesLess
      simp only [valL, hl, ih ys hl]
      generalize 256 ^ ys.length = P at *
      rcases Nat.lt_trichotomy x.toNat y.toNat with hc | hc | hc
      · have e1 : decide (x < y) = true := by rw [decide_eq_true_eq]; exact UInt8.lt_iff_toNat_lt.2 hc
        have e2 : x.toNat * P + P ≤ y.toNat * P := by rw [← Nat.succ_mul]; exact Nat.mul_le_mul_right _ hc
        rw [e1, Bool.true_or]; symm; rw [decide_eq_true_eq]; omega
      · have e0 : x = y := UInt8.toNat_inj.1 hc
        subst e0
        have e1 : decide (x < x) = false := by rw [decide_eq_false_iff_not]; exact fun h => absurd (UInt8.lt_iff_toNat_lt.1 h) (by omega)
        rw [e1, Bool.false_or, beq_self_eq_true, Bool.true_and, Bool.eq_iff_iff, decide_eq_true_eq, decide_eq_true_eq]; omega
      · have e1 : decide (x < y) = false := by rw [decide_eq_false_iff_not]; exact fun h => absurd (UInt8.lt_iff_toNat_lt.1 h) (by omega)
        have e2 : (x == y) = false := by rw [beq_eq_false_iff_ne]; intro h; subst h; omega
        have e3 : y.toNat * P + P ≤ x.toNat * P := by rw [← Nat.succ_mul]; exact Nat.mul_le_mul_right _ hc
        rw [e1, e2, Bool.false_or, Bool.false_and]; symm; rw [decide_eq_false_iff_not]; omega
theorem byteN_eq (a : Int) (i : Nat) : (byteU a i).toNat = (byteN a i).toNat := by have := byteU_int a i; omega
theorem val_bytes (a : Int) (h0 : 0 ≤ a) (h1 : a < 17592186044432) : (valL (bytesL a) : Int) = a := by
  have e : bytesL a = [byteU a 0, byteU a 1, byteU a 2, byteU a 3, byteU a 4, byteU a 5, byteU a 6, byteU a 7] := rfl
  rw [e]
  simp only [valL, List.length_cons, List.length_nil, byteN_eq]
  have d : ∀ i, byteN a i = a / 2 ^ (56 - 8 * i) % 256 := fun i => rfl
  have d0 : byteN a 0 = a / 72057594037927936 % 256 := rfl
  have d1 : byteN a 1 = a / 281474976710656 % 256 := rfl
  have d2 : byteN a 2 = a / 1099511627776 % 256 := rfl
  have d3 : byteN a 3 = a / 4294967296 % 256 := rfl
  have d4 : byteN a 4 = a / 16777216 % 256 := rfl
  have d5 : byteN a 5 = a / 65536 % 256 := rfl
  have d6 : byteN a 6 = a / 256 % 256 := rfl
  have d7 : byteN a 7 = a % 256 := by show a / 1 % 256 = _; rw [Int.ediv_one]
  rw [d0, d1, d2, d3, d4, d5, d6, d7]
  have q1 : a / 65536 = a / 256 / 256 := by omega
  have q2 : a / 16777216 = a / 65536 / 256 := by omega
  have q3 : a / 4294967296 = a / 16777216 / 256 := by omega
  have q4 : a / 1099511627776 = a / 4294967296 / 256 := by omega
  have q5 : a / 281474976710656 = 0 := by omega
  have q6 : a / 72057594037927936 = 0 := by omega
  rw [q5, q6]
  simp only [Nat.reducePow, Nat.reduceAdd]
  omega
theorem bytes_less (a b : Int) (ha : isEp a) (hb : isEp b) : Op.bytesLess (bytesL a) (bytesL b) = decide (a < b) := by
  rw [less_val _ _ (by simp [bytesL])]
  have := val_bytes a ha.1 ha.2; have := val_bytes b hb.1 hb.2
  rw [Bool.eq_iff_iff, decide_eq_true_eq, decide_eq_true_eq]; omega

set_option maxRecDepth 100000 in
set_option maxHeartbeats 8000000 in
theorem order_walk (s t g h : Int) (w : World) : Calls Try.prog 7 #[.int .i64 s, .int .i64 t, .int .i64 g, .int .i64 h] w (Says w) := by
  obtain ⟨d1, d2⟩ := tmod_bd g 16 (by omega)
  obtain ⟨d3, d4⟩ := tmod_bd h 16 (by omega)
  obtain ⟨t1, t2⟩ := u40 s
  obtain ⟨t3, t4⟩ := u40 t
  go_enter Try.func7, Try.ntmps7
  go_wp2_with fail
  obtain ⟨S, hS⟩ : ∃ T, T = wrap64 ((IntKind.u64.wrap s).tmod 1099511627776) := ⟨_, rfl⟩
  obtain ⟨T, hT⟩ : ∃ T, T = wrap64 ((IntKind.u64.wrap t).tmod 1099511627776) := ⟨_, rfl⟩
  obtain ⟨k, hK⟩ : ∃ k : Nat, g.tmod 16 % 16 = (k : Int) := ⟨(g.tmod 16 % 16).toNat, by omega⟩
  obtain ⟨m, hM⟩ : ∃ k : Nat, h.tmod 16 % 16 = (k : Int) := ⟨(h.tmod 16 % 16).toNat, by omega⟩
  have e2 : (g.tmod 16 + 16) % 16 = g.tmod 16 % 16 := Int.add_emod_right ..
  have e3 : (h.tmod 16 + 16) % 16 = h.tmod 16 % 16 := Int.add_emod_right ..
  rw [e2, e3, hK, hM, ← hS, ← hT]
  rw [← hS] at t1 t2
  rw [← hT] at t3 t4
  have hk : k < 16 := by omega
  have hm : m < 16 := by omega
  clear hS hT hK hM e2 e3 d1 d2 d3 d4
  have P1 := Lib.hid (packE_ok (t := S) (g := k) t1 (by omega) (by omega) (by omega))
  have P2 := Lib.hid (packE_ok (t := T) (g := m) t3 (by omega) (by omega) (by omega))
  have I1 := Lib.hid (ep_i64 S k hk t1 (by omega))
  have I2 := Lib.hid (ep_i64 T m hm t3 (by omega))
  have E1 := Lib.hid (ep_of S k hk t1 (by omega)).1
  have E2 := Lib.hid (ep_of T m hm t3 (by omega)).1
  have BL := Lib.hid (bytes_less _ _ E1.out E2.out)
  have L1 := Lib.hid (show (bytesL (16 * S + k)).length = 8 by simp [bytesL])
  have L2 := Lib.hid (show (bytesL (16 * T + m)).length = 8 by simp [bytesL])
  skip
  refine (pack_any _ _ _).mono ?_
  rintro e w' ⟨rfl, rfl⟩
  rw [P1.out]
  go_wp2_with fail
  refine (pack_any _ _ _).mono ?_
  rintro e w' ⟨rfl, rfl⟩
  rw [P2.out]
  obtain ⟨A, hA⟩ : ∃ A, A = 16 * S + (k : Int) := ⟨_, rfl⟩
  obtain ⟨B, hB⟩ : ∃ A, A = 16 * T + (m : Int) := ⟨_, rfl⟩
  rw [← hA, ← hB]
  rw [← hA] at I1 E1 BL L1
  rw [← hB] at I2 E2 BL L2
  have HA := Lib.hid hA; have HB := Lib.hid hB; clear hA hB
  go_wp2_with fail
  refine (bytes_ok _ _ I1.out E1.out).mono ?_
  rintro e w1 ⟨rfl, hb1⟩
  have HBW1 := Lib.hid hb1
  clear hb1
  go_wp2_with fail
  refine (bytes_ok _ _ I2.out E2.out).mono ?_
  rintro e w2 ⟨rfl, hb2⟩
  have HBW2 := Lib.hid (HBW1.out.trans (hb2.mono HBW1.out.size))
  clear hb2
  obtain ⟨x, hx⟩ : ∃ x : ByteArray, x = ⟨(bytesL A).toArray⟩ := ⟨_, rfl⟩
  obtain ⟨y, hy⟩ : ∃ x : ByteArray, x = ⟨(bytesL B).toArray⟩ := ⟨_, rfl⟩
  rw [← hx, ← hy]
  have x8 : ((x.size : Int) != 8) = false := by rw [hx]; show (((bytesL A).length : Int) != 8) = false; rw [L1.out]; rfl
  have y8 : ((y.size : Int) != 8) = false := by rw [hy]; show (((bytesL B).length : Int) != 8) = false; rw [L2.out]; rfl
  have bl := BL.out
  have xl : x.toList = bytesL A := by rw [hx]; simp
  have yl : y.toList = bytesL B := by rw [hy]; simp
  rw [← xl, ← yl] at bl
  have BL2 := Lib.hid bl; clear bl xl yl hx hy
  go_wp2_with fail
  refine (alive_any _).mono ?_
  rintro e w' ⟨rfl, rfl⟩
  clear x8 y8
  have ha := HA.out; have hb := HB.out
  by_cases hkm : k = m
  · subst hkm
    rcases Int.lt_trichotomy S T with hc | hc | hc
    · have h1 : A < B := by omega
      have bl := BL2.out; rw [decide_eq_true (show A < B by omega)] at bl
      clear ha hb BL2
      go_wp2_with fail
      go_ret
      first | exact ⟨ret_bool rfl, HBW2.out⟩ | exact ⟨ret_bool (by rw [decide_eq_false (show ¬ A < B by omega), decide_eq_false (show ¬ S < T by omega)]; rfl), HBW2.out⟩
    · subst hc
      have h1 : A = B := by omega
      subst h1
      have bl := BL2.out; rw [decide_eq_false (show ¬ A < A by omega)] at bl
      clear ha hb BL2
      go_wp2_with fail
      go_ret
      first | exact ⟨ret_bool rfl, HBW2.out⟩ | exact ⟨ret_bool (by rw [decide_eq_false (show ¬ A < B by omega), decide_eq_false (show ¬ S < T by omega)]; rfl), HBW2.out⟩
    · have h1 : B < A := by omega
      have hab : (A == B) = false := by rw [beq_eq_false_iff_ne]; omega
      have hst : (S == T) = false := by rw [beq_eq_false_iff_ne]; omega
      have bl := BL2.out; rw [decide_eq_false (show ¬ A < B by omega)] at bl
      clear ha hb BL2
      go_wp2_with fail
      go_ret
      first | exact ⟨ret_bool rfl, HBW2.out⟩ | exact ⟨ret_bool (by rw [decide_eq_false (show ¬ A < B by omega), decide_eq_false (show ¬ S < T by omega)]; rfl), HBW2.out⟩
  · have hkm' : ((k : Int) != m) = true := by rw [bne_iff_ne]; omega
    have hkm2 : ((k : Int) == m) = false := by rw [beq_eq_false_iff_ne]; omega
    rcases Int.lt_trichotomy A B with hc | hc | hc
    · by_cases hst : S = T
      · subst hst
        have bl := BL2.out; rw [decide_eq_true (show A < B by omega)] at bl
        clear hkm
        clear ha hb BL2
        go_wp2_with fail
        go_ret
        first | exact ⟨ret_bool rfl, HBW2.out⟩ | exact ⟨ret_bool (by rw [decide_eq_false (show ¬ A < B by omega), decide_eq_false (show ¬ S < T by omega)]; rfl), HBW2.out⟩
      · have hst2 : (S == T) = false := by rw [beq_eq_false_iff_ne]; exact hst
        have bl := BL2.out; rw [decide_eq_true (show A < B by omega)] at bl
        clear hkm hst
        clear ha hb BL2
        go_wp2_with fail
        go_ret
        first | exact ⟨ret_bool rfl, HBW2.out⟩ | exact ⟨ret_bool (by rw [decide_eq_false (show ¬ A < B by omega), decide_eq_false (show ¬ S < T by omega)]; rfl), HBW2.out⟩
    · exact absurd (show k = m by omega) hkm
    · by_cases hst : S = T
      · subst hst
        have hab : (A == B) = false := by rw [beq_eq_false_iff_ne]; omega
        have bl := BL2.out; rw [decide_eq_false (show ¬ A < B by omega)] at bl
        clear hkm
        clear ha hb BL2
        go_wp2_with fail
        go_ret
        first | exact ⟨ret_bool rfl, HBW2.out⟩ | exact ⟨ret_bool (by rw [decide_eq_false (show ¬ A < B by omega), decide_eq_false (show ¬ S < T by omega)]; rfl), HBW2.out⟩
      · have hst2 : (S == T) = false := by rw [beq_eq_false_iff_ne]; exact hst
        have hab : (A == B) = false := by rw [beq_eq_false_iff_ne]; omega
        have bl := BL2.out; rw [decide_eq_false (show ¬ A < B by omega)] at bl
        clear hkm hst
        clear ha hb BL2
        go_wp2_with fail
        go_ret
        first | exact ⟨ret_bool rfl, HBW2.out⟩ | exact ⟨ret_bool (by rw [decide_eq_false (show ¬ A < B by omega), decide_eq_false (show ¬ S < T by omega)]; rfl), HBW2.out⟩
end Go.Proofs.Ytdlmfpofedfcdaa
