/- Contracts of epoch: Pack, Unpack, Known, Narrow, Shift, and the reference's. -/
import Derived.Test.YtdlmfpofedfcdaaJoin
import Derived.Laws.BitsAllLaws
import Derived.Laws.EntriesVeiled
namespace Go.Proofs.Ytdlmfpofedfcdaa
open Go.RowKit

theorem ofInt_nat (a : Nat) (ha : a < 18446744073709551616) : (BitVec.ofInt 64 (a : Int)).toNat = a := by
  rw [BitVec.ofInt_natCast, BitVec.toNat_ofNat]; exact Nat.mod_eq_of_lt (by omega)
theorem or16_nat (t g : Nat) (ht : t ≤ 1099511627776) (hg : g < 16) : bits .or .i64 ((t * 16 : Nat) : Int) (g : Int) = ((t * 16 + g : Nat) : Int) := by
  show IntKind.i64.wrap ((BitVec.ofInt 64 ((t * 16 : Nat) : Int) ||| BitVec.ofInt 64 (g : Int)).toNat : Int) = _
  rw [BitVec.toNat_or, ofInt_nat _ (by omega), ofInt_nat g (by omega)]
  have : t * 16 ||| g = t * 16 + g := by
    have := Nat.two_pow_add_eq_or_of_lt (i := 4) (b := g) (by omega) t
    rw [show (2:Nat)^4 = 16 from rfl, Nat.mul_comm] at this
    exact this.symm
  rw [this]
  exact IntWalk.i64_in _ ⟨by omega, by omega⟩
theorem or16 (t g : Int) (h1 : 0 ≤ t) (h2 : t ≤ 1099511627776) (h3 : 0 ≤ g) (h4 : g < 16) : bits .or .i64 (t * 16) g = 16 * t + g := by
  obtain ⟨T, rfl⟩ := Int.eq_ofNat_of_zero_le h1
  obtain ⟨G, rfl⟩ := Int.eq_ofNat_of_zero_le h3
  have := or16_nat T G (by omega) (by omega)
  rw [show ((T : Int) * 16) = ((T * 16 : Nat) : Int) by omega, this]; omega
theorem and15 (e : Int) (h0 : 0 ≤ e) (h1 : e ≤ 9223372036854775807) : bits .and .i64 e 15 = e % 16 := by
  obtain ⟨E, rfl⟩ := Int.eq_ofNat_of_zero_le h0
  show IntKind.i64.wrap ((BitVec.ofInt 64 (E : Int) &&& BitVec.ofInt 64 ((15 : Nat) : Int)).toNat : Int) = _
  rw [BitVec.toNat_and, ofInt_nat _ (by omega), ofInt_nat 15 (by omega)]
  have : E &&& 15 = E % 16 := Nat.and_two_pow_sub_one_eq_mod E 4
  rw [this, IntWalk.i64_in _ ⟨by omega, by omega⟩]; omega

theorem ret_int2_err {a a' b b' c c' : Int} (h : a = a') (k : b = b') (l : c = c') : Ending.returned (.tuple #[.int .i64 a, .int .i64 b, .int .i64 c]) = .returned (.tuple #[.int .i64 a', .int .i64 b', .int .i64 c']) := by rw [h, k, l]

/-! ### Pack -/
def packE (t g : Int) : Int × Int := if t < 0 ∨ 1099511627776 < t then (0, 1) else if g < 0 ∨ 16 ≤ g then (0, 3) else (16 * t + g, 0)
theorem packE_ok {t g : Int} (h1 : 0 ≤ t) (h2 : t ≤ 1099511627776) (h3 : 0 ≤ g) (h4 : g < 16) : packE t g = (16 * t + g, 0) := by
  rw [packE, if_neg (by omega), if_neg (by omega)]

set_option maxRecDepth 100000 in
theorem pack_any (t g : Int) (w : World) :
    Calls Try.prog 9 #[.int .i64 t, .int .i64 g] w fun e w' => e = .returned (.tuple #[.int .i64 (packE t g).1, .int .i64 (packE t g).2]) ∧ w = w' := by
  by_cases h1 : t < 0
  · go_enter Try.func9, Try.ntmps9
    go_wp2
    go_ret2
    exact ⟨ret_int_err (by rw [packE, if_pos (by omega)]) (by rw [packE, if_pos (by omega)]), rfl⟩
  · by_cases h2 : 1099511627776 < t
    · go_enter Try.func9, Try.ntmps9
      go_wp2
      go_ret2
      exact ⟨ret_int_err (by rw [packE, if_pos (by omega)]) (by rw [packE, if_pos (by omega)]), rfl⟩
    · by_cases h3 : g < 0
      · go_enter Try.func9, Try.ntmps9
        go_wp2
        go_ret2
        exact ⟨ret_int_err (by rw [packE, if_neg (by omega), if_pos (by omega)]) (by rw [packE, if_neg (by omega), if_pos (by omega)]), rfl⟩
      · by_cases h4 : 16 ≤ g
        · go_enter Try.func9, Try.ntmps9
          go_wp2
          go_ret2
          exact ⟨ret_int_err (by rw [packE, if_neg (by omega), if_pos (by omega)]) (by rw [packE, if_neg (by omega), if_pos (by omega)]), rfl⟩
        · have ho := Lib.hid (or16 t g (by omega) (by omega) (by omega) (by omega))
          have hp := Lib.hid (packE_ok (t := t) (g := g) (by omega) (by omega) (by omega) (by omega))
          go_enter Try.func9, Try.ntmps9
          go_wp2
          go_ret2
          exact ⟨ret_int_err (by rw [hp.out]; exact ho.out) (by rw [hp.out]), rfl⟩

/-! ### Unpack -/
def isEp (e : Int) : Prop := 0 ≤ e ∧ e < 17592186044432
instance (e : Int) : Decidable (isEp e) := by unfold isEp; infer_instance
def unpackE (e : Int) : Int × Int × Int := if isEp e then (e / 16, e % 16, 0) else (0, 0, 1)
theorem unpackE_ok {e : Int} (h : isEp e) : unpackE e = (e / 16, e % 16, 0) := if_pos h
theorem unpackE_bad {e : Int} (h : ¬ isEp e) : unpackE e = (0, 0, 1) := if_neg h

set_option maxRecDepth 100000 in
theorem unpack_any (e : Int) (w : World) (he : I64 e) :
    Calls Try.prog 10 #[.int .i64 e] w fun e' w' => e' = .returned (.tuple #[.int .i64 (unpackE e).1, .int .i64 (unpackE e).2.1, .int .i64 (unpackE e).2.2]) ∧ w = w' := by
  obtain ⟨b1, b2⟩ := he
  by_cases h : isEp e
  · have hu := Lib.hid (unpackE_ok h)
    obtain ⟨h1, h2⟩ := h
    have ha := Lib.hid (and15 e h1 (by omega))
    have h3 : ¬ e / 16 < 0 := by omega
    have h4 : ¬ 1099511627776 < e / 16 := by omega
    go_enter Try.func10, Try.ntmps10
    go_wp2
    go_ret3
    exact ⟨ret_int2_err (by rw [hu.out]) (by rw [hu.out]; exact ha.out) (by rw [hu.out]), rfl⟩
  · have hu := Lib.hid (unpackE_bad h)
    unfold isEp at h
    by_cases h3 : e / 16 < 0
    · go_enter Try.func10, Try.ntmps10
      go_wp2
      go_ret3
      exact ⟨ret_int2_err (by rw [hu.out]) (by rw [hu.out]) (by rw [hu.out]), rfl⟩
    · have h4 : 1099511627776 < e / 16 := by omega
      clear h
      go_enter Try.func10, Try.ntmps10
      go_wp2
      go_ret3
      exact ⟨ret_int2_err (by rw [hu.out]) (by rw [hu.out]) (by rw [hu.out]), rfl⟩

/-! ### Known -/
def knownE (e : Int) (c : List Int) : Bool × Int := if isEp e then (if rightB c = true then (decide (e / 16 ≤ en c (e % 16).toNat), 0) else (false, 1)) else (false, 1)

set_option maxRecDepth 100000 in
theorem known_any (e : Int) (a : Option Addr) (len cap : Nat) (c : List Int) (w : World) (he : I64 e) (h : Ints w a len cap c) :
    Calls Try.prog 11 #[.int .i64 e, .slice a len cap] w fun e' w' => e' = .returned (.tuple #[.bool (knownE e c).1, .int .i64 (knownE e c).2]) ∧ w = w' := by
  have H := Lib.hid h; have HE := Lib.hid he; clear h he
  by_cases hep : isEp e
  · have hu := Lib.hid (unpackE_ok hep)
    have hr1 : 0 ≤ e % 16 := by omega
    have hr2 : e % 16 < 16 := by omega
    cases hr : rightB c with
    | true =>
      have ha := Lib.hid (atE_ok hr hr1 hr2)
      have hk : knownE e c = (decide (e / 16 ≤ en c (e % 16).toNat), 0) := by rw [knownE, if_pos hep, if_pos hr]
      have HK := Lib.hid hk; clear hk hr hep
      go_enter Try.func11, Try.ntmps11
      go_wp2_with fail
      refine (unpack_any _ _ HE.out).mono ?_
      rintro e' w' ⟨rfl, rfl⟩
      rw [hu.out]
      go_wp2_with fail
      refine (at_any _ _ _ _ _ _ H.out).mono ?_
      rintro e' w' ⟨rfl, rfl⟩
      rw [ha.out]
      go_wp2_with fail
      go_ret2
      exact ⟨ret_bool_err (by rw [HK.out]) (by rw [HK.out]), rfl⟩
    | false =>
      have ha := Lib.hid (atE_bad (g := e % 16) hr)
      have hk : knownE e c = (false, 1) := by rw [knownE, if_pos hep, if_neg (by simp [hr])]
      have HK := Lib.hid hk; clear hk hr hep
      go_enter Try.func11, Try.ntmps11
      go_wp2_with fail
      refine (unpack_any _ _ HE.out).mono ?_
      rintro e' w' ⟨rfl, rfl⟩
      rw [hu.out]
      go_wp2_with fail
      refine (at_any _ _ _ _ _ _ H.out).mono ?_
      rintro e' w' ⟨rfl, rfl⟩
      rw [ha.out]
      go_wp2_with fail
      go_ret2
      exact ⟨ret_bool_err (by rw [HK.out]) (by rw [HK.out]), rfl⟩
  · have hu := Lib.hid (unpackE_bad hep)
    have hk : knownE e c = (false, 1) := by rw [knownE, if_neg hep]
    have HK := Lib.hid hk; clear hk hep
    go_enter Try.func11, Try.ntmps11
    go_wp2_with fail
    refine (unpack_any _ _ HE.out).mono ?_
    rintro e' w' ⟨rfl, rfl⟩
    rw [hu.out]
    go_wp2_with fail
    go_ret2
    exact ⟨ret_bool_err (by rw [HK.out]) (by rw [HK.out]), rfl⟩

/-! ### the reference's -/
set_option maxRecDepth 100000 in
theorem refepoch_any (e : Int) (w : World) : Calls Try.prog 14 #[.int .i64 e] w fun e' w' => e' = .returned (.bool (decide (isEp e))) ∧ w = w' := by
  by_cases h1 : 0 ≤ e
  · by_cases h2 : e < 17592186044432
    · go_enter Try.func14, Try.ntmps14
      go_wp2
      go_ret
      exact ⟨ret_bool (by symm; rw [decide_eq_true_eq]; exact ⟨h1, h2⟩), rfl⟩
    · go_enter Try.func14, Try.ntmps14
      go_wp2
      go_ret
      exact ⟨ret_bool (by symm; rw [decide_eq_false_iff_not]; unfold isEp; omega), rfl⟩
  · go_enter Try.func14, Try.ntmps14
    go_wp2
    go_ret
    exact ⟨ret_bool (by symm; rw [decide_eq_false_iff_not]; unfold isEp; omega), rfl⟩

set_option maxRecDepth 100000 in
theorem refunpack_any (e : Int) (w : World) (h0 : 0 ≤ e) (h1 : e < 17592186044432) : Calls Try.prog 15 #[.int .i64 e] w fun e' w' => e' = .returned (.tuple #[.int .i64 (e / 16), .int .i64 (e % 16)]) ∧ w = w' := by
  go_enter Try.func15, Try.ntmps15
  go_wp2
  go_ret2
  exact ⟨rfl, rfl⟩

set_option maxRecDepth 100000 in
theorem refknown_any (e : Int) (a : Option Addr) (len cap : Nat) (c : List Int) (w : World) (h0 : 0 ≤ e) (h1 : e < 17592186044432) (h : Ints w a len cap c) :
    Calls Try.prog 18 #[.int .i64 e, .slice a len cap] w fun e' w' => e' = .returned (.bool (decide (e / 16 ≤ en c (e % 16).toNat))) ∧ w = w' := by
  have H := Lib.hid h; clear h
  have hr1 : 0 ≤ e % 16 := by omega
  go_enter Try.func18, Try.ntmps18
  go_wp2_with fail
  refine (refat_any _ _ _ _ _ _ H.out hr1).mono ?_
  rintro e' w' ⟨rfl, rfl⟩
  go_wp2_with fail
  go_ret
  exact ⟨rfl, rfl⟩

end Go.Proofs.Ytdlmfpofedfcdaa
