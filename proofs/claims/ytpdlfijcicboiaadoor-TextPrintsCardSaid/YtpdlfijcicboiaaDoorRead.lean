/- Contracts of the calls that only read: Right, entry, At, Leq, and the reference's. -/
import Derived.Test.YtpdlfijcicboiaaDoorBase
namespace Go.Proofs.YtpdlfijcicboiaaDoor
open Go.RowKit
set_option linter.unusedSimpArgs false
set_option linter.unusedVariables false

/-- At: the entry, and why not. -/
def atE (c : List Int) (g : Int) : Int × Int := if rightB c = false then (0, 1) else if g < 0 ∨ 16 ≤ g then (0, 3) else (en c g.toNat, 0)
theorem atE_bad {c : List Int} {g : Int} (h : rightB c = false) : atE c g = (0, 1) := if_pos h
theorem atE_out {c : List Int} {g : Int} (h : rightB c = true) (hg : g < 0 ∨ 16 ≤ g) : atE c g = (0, 3) := by rw [atE, if_neg (by simp [h]), if_pos hg]
theorem atE_ok {c : List Int} {g : Int} (h : rightB c = true) (h0 : 0 ≤ g) (h1 : g < 16) : atE c g = (en c g.toNat, 0) := by rw [atE, if_neg (by simp [h]), if_neg (by omega)]

theorem leqB_no (a b : List Int) (k : Nat) (hk : k < a.length) (h : en b k < en a k) : leqB a b = false := by
  simp only [leqB, List.all_eq_false, List.mem_range, decide_eq_true_eq]
  exact ⟨k, hk, by omega⟩
theorem leqB_yes (a b : List Int) (h : ∀ i, i < a.length → en a i ≤ en b i) : leqB a b = true := by
  simp only [leqB, List.all_eq_true, List.mem_range, decide_eq_true_eq]; exact h
theorem refLeqB_no (a b : List Int) (k : Nat) (hk : k < 16) (h : en b k < en a k) : refLeqB a b = false := by
  simp only [refLeqB, List.all_eq_false, List.mem_range, decide_eq_true_eq]
  exact ⟨k, hk, by omega⟩
theorem refLeqB_yes (a b : List Int) (h : ∀ i, i < 16 → en a i ≤ en b i) : refLeqB a b = true := by
  simp only [refLeqB, List.all_eq_true, List.mem_range, decide_eq_true_eq]; exact h

/-- Leq: whether, and why not. -/
def leqE (a b : List Int) : Bool × Int := if rightB a = true ∧ rightB b = true then (leqB a b, 0) else (false, 1)
theorem leqE_bad {a b : List Int} (h : rightB a = false ∨ rightB b = false) : leqE a b = (false, 1) := if_neg (by rcases h with h | h <;> simp [h])
theorem leqE_ok {a b : List Int} (h : rightB a = true) (h2 : rightB b = true) : leqE a b = (leqB a b, 0) := if_pos ⟨h, h2⟩

end Go.Proofs.YtpdlfijcicboiaaDoor
