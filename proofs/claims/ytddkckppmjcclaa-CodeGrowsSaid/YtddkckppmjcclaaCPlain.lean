/- Plain facts for ProgCounts. -/
import Derived.Test.YtddkckppmjcclaaFew
namespace Go.Proofs.Ytddkckppmjcclaa
open Go.RowKit
set_option linter.unusedSimpArgs false
set_option linter.unusedVariables false
/-- how many are of an op below n -/
def sumC (l : List Ins) : Nat → Nat
  | 0 => 0
  | n + 1 => sumC l n + cnt l n
theorem cnt_cons (x : Ins) (xs : List Ins) (op : Int) : cnt (x :: xs) op = cnt xs op + if (x.op == op) = true then 1 else 0 := by
  unfold cnt
  cases h : (x.op == op) <;> simp [List.filter_cons, h]
theorem sumC_cons (x : Ins) (xs : List Ins) (h0 : 0 ≤ x.op) : ∀ n, sumC (x :: xs) n = sumC xs n + if x.op < (n : Int) then 1 else 0
  | 0 => by simp [sumC]; omega
  | n + 1 => by
    have ih := sumC_cons x xs h0 n
    unfold sumC
    rw [ih, cnt_cons]
    by_cases h1 : x.op = (n : Int)
    · have hb : (x.op == (n : Int)) = true := by rw [beq_iff_eq]; exact h1
      rw [if_pos hb, if_neg (by omega), if_pos (by omega)]; omega
    · have hb : ¬ (x.op == (n : Int)) = true := by rw [beq_iff_eq]; exact h1
      rw [if_neg hb]
      by_cases h2 : x.op < (n : Int)
      · rw [if_pos h2, if_pos (by omega)]; omega
      · rw [if_neg h2, if_neg (by omega)]; omega
theorem sumC_all : ∀ {l : List Ins}, (∀ x ∈ l, 0 ≤ x.op ∧ x.op < 14) → sumC l 14 = l.length
  | [], _ => by decide
  | x :: xs, h => by
    have hx := h x (by simp)
    rw [sumC_cons x xs hx.1, sumC_all (fun y hy => h y (List.mem_cons_of_mem _ hy)), if_pos (by simpa using hx.2)]; rfl
theorem sumC_le (l : List Ins) : ∀ n, sumC l n ≤ n * l.length
  | 0 => by simp [sumC]
  | n + 1 => by
    have h1 := sumC_le l n
    have h2 := cnt_le l n
    unfold sumC
    rw [Nat.add_mul]; omega
/-- what a right instruction keeps -/
theorem ins_parts {p : Pr} {bl : Nat} {x : Ins} (h : instrZ p bl x = 0) : (0 ≤ x.op ∧ x.op < 14) ∧ 0 ≤ x.a ∧ 0 ≤ x.b ∧ (x.op = 1 → x.a < p.caps.length) ∧ (x.op = 9 → x.a < p.blks.length) ∧ (x.op = 12 → x.a ≤ bl) := by
  unfold instrZ at h
  by_cases h1 : belowZ x.op 14 = false
  · rw [if_pos h1] at h; cases h
  · rw [if_neg h1] at h
    by_cases h2 : belowZ x.a (mostZ p x.op bl) = false
    · rw [if_pos h2] at h; cases h
    · rw [if_neg h2] at h
      by_cases h3 : x.b < 0 ∨ lastZ x.op bl < x.b
      · rw [if_pos h3] at h; cases h
      · simp [belowZ] at h1 h2
        refine ⟨by omega, h2.1, by omega, fun e => ?_, fun e => ?_, fun e => ?_⟩
        · have := h2.2; rw [e] at this; simpa [mostZ] using this
        · have := h2.2; rw [e] at this; simpa [mostZ] using this
        · have := h2.2; rw [e] at this; simp [mostZ] at this; omega
end Go.Proofs.Ytddkckppmjcclaa
