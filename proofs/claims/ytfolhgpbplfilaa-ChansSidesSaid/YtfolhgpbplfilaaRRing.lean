/- Contracts of the ring's calls. -/
import Derived.Test.YtfolhgpbplfilaaRGath
namespace Go.Proofs.Ytfolhgpbplfilaa
open Go.RowKit

def rightZ (cap first : Int) (len : Nat) (count : Int) : Bool := decide (0 ≤ cap ∧ cap ≤ 8 ∧ (len : Int) = cap ∧ 0 ≤ first ∧ first < max cap 1 ∧ 0 ≤ count ∧ count ≤ cap)

set_option maxRecDepth 100000 in
set_option maxHeartbeats 1000000 in
theorem r_Right_any (cap first count : Int) (a : Option Addr) (len cp : Nat) (w : World) (hc : I64 cap) (hf : I64 first) (hk : I64 count) (_hl : (len : Int) ≤ 9223372036854775807) :
    Calls Try.prog 56 #[ringV cap first (.slice a len cp) count] w fun e w' => e = .returned (.bool (rightZ cap first len count)) ∧ Below w.heap.size w w' := by
  unfold I64 at hc hf hk
  unfold ringV
  by_cases h1 : cap < 0
  · have R := Lib.hid (show rightZ cap first len count = false by rw [rightZ, decide_eq_false_iff_not]; omega)
    go_enter Try.func56, Try.ntmps56
    go_wp2
    go_ret
    exact ⟨ret_bool R.out.symm, below_alloc _ _⟩
  by_cases h2 : 8 < cap
  · have R := Lib.hid (show rightZ cap first len count = false by rw [rightZ, decide_eq_false_iff_not]; omega)
    go_enter Try.func56, Try.ntmps56
    go_wp2
    go_ret
    exact ⟨ret_bool R.out.symm, below_alloc _ _⟩
  by_cases h3 : (len : Int) = cap
  · have h3b : ((len : Int) != cap) = false := by rw [bne_eq_false_iff_eq]; exact h3
    have H3 := Lib.hid h3; clear h3
    by_cases h4 : first < 0
    · have R := Lib.hid (show rightZ cap first len count = false by rw [rightZ, decide_eq_false_iff_not]; omega)
      go_enter Try.func56, Try.ntmps56
      go_wp2
      go_ret
      exact ⟨ret_bool R.out.symm, below_alloc _ _⟩
    by_cases h5 : first < max cap 1
    · by_cases h6 : count < 0
      · have R := Lib.hid (show rightZ cap first len count = false by rw [rightZ, decide_eq_false_iff_not]; omega)
        by_cases hc1 : cap < 1
        all_goals
          go_enter Try.func56, Try.ntmps56
          go_wp2
          go_ret
          exact ⟨ret_bool R.out.symm, below_alloc _ _⟩
      by_cases h7 : count ≤ cap
      · have R := Lib.hid (show rightZ cap first len count = true by rw [rightZ, decide_eq_true_eq]; exact ⟨by omega, by omega, H3.out, by omega, h5, by omega, h7⟩)
        by_cases hc1 : cap < 1
        all_goals
          go_enter Try.func56, Try.ntmps56
          go_wp2
          go_ret
          exact ⟨ret_bool R.out.symm, below_alloc _ _⟩
      · have R := Lib.hid (show rightZ cap first len count = false by rw [rightZ, decide_eq_false_iff_not]; omega)
        by_cases hc1 : cap < 1
        all_goals
          go_enter Try.func56, Try.ntmps56
          go_wp2
          go_ret
          exact ⟨ret_bool R.out.symm, below_alloc _ _⟩
    · have R := Lib.hid (show rightZ cap first len count = false by rw [rightZ, decide_eq_false_iff_not]; omega)
      by_cases hc1 : cap < 1
      all_goals
        go_enter Try.func56, Try.ntmps56
        go_wp2
        go_ret
        exact ⟨ret_bool R.out.symm, below_alloc _ _⟩
  · have h3b : ((len : Int) != cap) = true := by rw [bne_iff_ne]; exact h3
    have R := Lib.hid (show rightZ cap first len count = false by rw [rightZ, decide_eq_false_iff_not]; omega)
    clear h3
    go_enter Try.func56, Try.ntmps56
    go_wp2
    go_ret
    exact ⟨ret_bool R.out.symm, below_alloc _ _⟩
end Go.Proofs.Ytfolhgpbplfilaa
