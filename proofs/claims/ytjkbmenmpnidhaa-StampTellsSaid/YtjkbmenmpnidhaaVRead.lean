/- Contracts of the calls that only read: Right, entry, At, Leq, and the reference's. -/
import Derived.Test.YtjkbmenmpnidhaaRec
namespace Go.Proofs.Ytjkbmenmpnidhaa
open Go.RowKit

set_option maxRecDepth 100000 in
theorem right_any (a : Option Addr) (len cap : Nat) (l : List Int) (w : World) (h : Ints w a len cap l) :
    Calls Try.prog 56 #[.slice a len cap] w fun e w' => e = .returned (.bool (rightB l)) ∧ w = w' := by
  have hll := h.len_eq
  have hle := h.len_le
  by_cases h16 : 16 < len
  · have h16' : (16 : Int) < (len : Int) := by omega
    have hr : rightB l = false := by simp [rightB, hll]; omega
    have Hr := Lib.hid hr; clear hr hll h
    go_enter Try.func56, Try.ntmps56
    go_wp2
    go_ret
    exact ⟨ret_bool Hr.out.symm, rfl⟩
  · have H := Lib.hid h; have Hl := Lib.hid hll; clear hll h
    have h16' : ¬ (16 : Int) < (len : Int) := by omega
    go_enter Try.func56, Try.ntmps56
    go_wp2
    go_loop [10] (fun i => ∃ k : Nat, k ≤ len ∧ i = .int .i64 k ∧ (l.take k).all mayB = true) (fun i => len - (intOf i).toNat)
    case atStart => exact ⟨0, Nat.zero_le _, rfl, by simp⟩
    case round =>
      obtain ⟨k, hk, rfl, hall⟩ := hrel
      by_cases hlt : k < len
      · obtain ⟨b, off, rfl, hc⟩ := H.out.cell k hlt
        obtain ⟨b1, b2⟩ := H.out.bound k
        have hlk : k < l.length := by rw [Hl.out]; exact hlt
        have hs := all_take_succ l k hlk
        have hn := not_all_of l k hlk
        rw [hall] at hs
        have Hs := Lib.hid hs; have Hn := Lib.hid hn; clear hs hn hall
        obtain ⟨n, hn⟩ : ∃ n, n = en l k := ⟨_, rfl⟩
        rw [← hn] at hc b1 b2 Hs Hn
        clear hn
        by_cases h0 : n < 0
        · go_wp2
          go_ret
          exact ⟨ret_bool (by rw [rightB, Hn.out (by simp [mayB]; omega)]; simp), rfl⟩
        · by_cases h1 : 1099511627776 < n
          · go_wp2
            go_ret
            exact ⟨ret_bool (by rw [rightB, Hn.out (by simp [mayB]; omega)]; simp), rfl⟩
          · go_wp2
            go_round
            case rel => exact ⟨k + 1, by omega, by go_num, by rw [Hs.out]; simp [mayB]; omega⟩
            case measure => simp [intOf]; omega
      · go_wp2
        go_ret
        have hkl : k = len := by omega
        have : rightB l = true := by
          rw [hkl, ← Hl.out, List.take_length] at hall
          simp [rightB, Hl.out, hall]; omega
        exact ⟨ret_bool this.symm, rfl⟩

set_option maxRecDepth 100000 in
theorem entry_any (a : Option Addr) (len cap : Nat) (l : List Int) (g : Int) (w : World) (h : Ints w a len cap l) (h0 : 0 ≤ g) :
    Calls Try.prog 97 #[.slice a len cap, .int .i64 g] w fun e w' => e = .returned (.int .i64 (en l g.toNat)) ∧ w = w' := by
  have Hl := Lib.hid h.len_eq
  have hle := h.len_le
  by_cases hg : (len : Int) ≤ g
  · clear h
    go_enter Try.func97, Try.ntmps97
    go_wp2
    go_ret
    exact ⟨ret_int (by rw [en_of_le l _ (by rw [Hl.out]; omega)]), rfl⟩
  · obtain ⟨k, rfl⟩ := Int.eq_ofNat_of_zero_le h0
    obtain ⟨b, off, rfl, hc⟩ := h.cell k (by omega)
    have hlt : (k : Int) < len := by omega
    clear h
    go_enter Try.func97, Try.ntmps97
    go_wp2
    go_ret
    exact ⟨ret_int rfl, rfl⟩

set_option maxRecDepth 100000 in
theorem refat_any (a : Option Addr) (len cap : Nat) (l : List Int) (g : Int) (w : World) (h : Ints w a len cap l) (h0 : 0 ≤ g) :
    Calls Try.prog 38 #[.slice a len cap, .int .i64 g] w fun e w' => e = .returned (.int .i64 (en l g.toNat)) ∧ w = w' := by
  have Hl := Lib.hid h.len_eq
  have hle := h.len_le
  by_cases hg : (len : Int) ≤ g
  · clear h
    go_enter Try.func38, Try.ntmps38
    go_wp2
    go_ret
    exact ⟨ret_int (by rw [en_of_le l _ (by rw [Hl.out]; omega)]), rfl⟩
  · obtain ⟨k, rfl⟩ := Int.eq_ofNat_of_zero_le h0
    obtain ⟨b, off, rfl, hc⟩ := h.cell k (by omega)
    have hlt : (k : Int) < len := by omega
    clear h
    go_enter Try.func38, Try.ntmps38
    go_wp2
    go_ret
    exact ⟨ret_int rfl, rfl⟩

/-- At: the entry, and why not. -/
def atE (c : List Int) (g : Int) : Int × Int := if rightB c = false then (0, 1) else if g < 0 ∨ 16 ≤ g then (0, 3) else (en c g.toNat, 0)
theorem atE_bad {c : List Int} {g : Int} (h : rightB c = false) : atE c g = (0, 1) := if_pos h
theorem atE_out {c : List Int} {g : Int} (h : rightB c = true) (hg : g < 0 ∨ 16 ≤ g) : atE c g = (0, 3) := by rw [atE, if_neg (by simp [h]), if_pos hg]
theorem atE_ok {c : List Int} {g : Int} (h : rightB c = true) (h0 : 0 ≤ g) (h1 : g < 16) : atE c g = (en c g.toNat, 0) := by rw [atE, if_neg (by simp [h]), if_neg (by omega)]

set_option maxRecDepth 100000 in
theorem at_any (a : Option Addr) (len cap : Nat) (l : List Int) (g : Int) (w : World) (h : Ints w a len cap l) :
    Calls Try.prog 54 #[.slice a len cap, .int .i64 g] w fun e w' => e = .returned (.tuple #[.int .i64 (atE l g).1, .int .i64 (atE l g).2]) ∧ w = w' := by
  have H := Lib.hid h; clear h
  cases hr : rightB l with
  | false =>
    have Hr := Lib.hid hr; clear hr
    go_enter Try.func54, Try.ntmps54
    go_wp2_with fail
    refine (right_any _ _ _ _ _ H.out).mono ?_
    rintro e w' ⟨rfl, rfl⟩
    rw [Hr.out]
    go_wp2_with fail
    go_ret2
    exact ⟨ret_int_err (by rw [atE_bad Hr.out]) (by rw [atE_bad Hr.out]), rfl⟩
  | true =>
    have Hr := Lib.hid hr; clear hr
    by_cases h0 : g < 0
    · go_enter Try.func54, Try.ntmps54
      go_wp2_with fail
      refine (right_any _ _ _ _ _ H.out).mono ?_
      rintro e w' ⟨rfl, rfl⟩
      rw [Hr.out]
      go_wp2_with fail
      go_ret2
      exact ⟨ret_int_err (by rw [atE_out Hr.out (by omega)]) (by rw [atE_out Hr.out (by omega)]), rfl⟩
    · by_cases h1 : 16 ≤ g
      · go_enter Try.func54, Try.ntmps54
        go_wp2_with fail
        refine (right_any _ _ _ _ _ H.out).mono ?_
        rintro e w' ⟨rfl, rfl⟩
        rw [Hr.out]
        go_wp2_with fail
        go_ret2
        exact ⟨ret_int_err (by rw [atE_out Hr.out (by omega)]) (by rw [atE_out Hr.out (by omega)]), rfl⟩
      · go_enter Try.func54, Try.ntmps54
        go_wp2_with fail
        refine (right_any _ _ _ _ _ H.out).mono ?_
        rintro e w' ⟨rfl, rfl⟩
        rw [Hr.out]
        go_wp2_with fail
        refine (entry_any _ _ _ _ _ _ H.out (by omega)).mono ?_
        rintro e w' ⟨rfl, rfl⟩
        go_wp2_with fail
        go_ret2
        exact ⟨ret_int_err (by rw [atE_ok Hr.out (by omega) (by omega)]) (by rw [atE_ok Hr.out (by omega) (by omega)]), rfl⟩

theorem leqB_no (a b : List Int) (k : Nat) (hk : k < a.length) (h : en b k < en a k) : leqB a b = false := by
  simp only [leqB, List.all_eq_false, List.mem_range, decide_eq_true_eq]
  exact ⟨k, hk, by omega⟩
theorem leqB_yes (a b : List Int) (h : ∀ i, i < a.length → en a i ≤ en b i) : leqB a b = true := by
  simp only [leqB, List.all_eq_true, List.mem_range, decide_eq_true_eq]; exact h
theorem refLeqB_no (a b : List Int) (k : Nat) (hk : k < 16) (h : en b k < en a k) : refLeqB a b = false := by
  simp only [refLeqB, List.all_eq_false, List.mem_range, decide_eq_true_eq]
  exact ⟨k, hk, by omega⟩
theorem refLeqB_yes (a b : List Int) (h : ∀ i, i < 16 → en a i ≤ en b i) : refLeqB a b = true := by
  simp only [refLeqB, List.all_eq_true, List.mem_range, decide_eq_true_eq]; exact h

/-- Leq: whether, and why not. -/
def leqE (a b : List Int) : Bool × Int := if rightB a = true ∧ rightB b = true then (leqB a b, 0) else (false, 1)
theorem leqE_bad {a b : List Int} (h : rightB a = false ∨ rightB b = false) : leqE a b = (false, 1) := if_neg (by rcases h with h | h <;> simp [h])
theorem leqE_ok {a b : List Int} (h : rightB a = true) (h2 : rightB b = true) : leqE a b = (leqB a b, 0) := if_pos ⟨h, h2⟩

end Go.Proofs.Ytjkbmenmpnidhaa
