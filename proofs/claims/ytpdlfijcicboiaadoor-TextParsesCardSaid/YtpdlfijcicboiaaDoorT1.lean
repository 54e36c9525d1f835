/- How many numbers are written of an op, and what may be written: program and reference. -/
import Derived.Test.YtpdlfijcicboiaaDoorG1
namespace Go.Proofs.YtpdlfijcicboiaaDoor
open Go.RowKit
set_option linter.unusedSimpArgs false
set_option linter.unusedVariables false
def numZ (op : Int) : Int := if op = 0 then 0 else if op = 7 then 2 else 1
def mayZ (x : Ins) : Bool := decide (0 ≤ x.op ∧ x.op < 14 ∧ 0 ≤ x.a ∧ x.a < 1000 ∧ 0 ≤ x.b ∧ x.b < 1000 ∧ (x.op = 0 → x.a = 0) ∧ (x.op ≠ 7 → x.b = 0))
abbrev insV (x : Ins) : Value := .agg #[.int .i64 x.op, .int .i64 x.a, .int .i64 x.b]
set_option maxRecDepth 100000 in
set_option maxHeartbeats 4000000 in
theorem numbers_any (op : Int) (w : World) : Calls Tryd.prog 28 #[.int .i64 op] w fun e w' => e = .returned (.int .i64 (numZ op)) ∧ w = w' := by
  by_cases h0 : op = 0
  · subst h0
    go_enter Tryd.func28, Tryd.ntmps28
    go_wp2_with fail
    go_ret
    exact ⟨rfl, rfl⟩
  · have h0b : (op == 0) = false := by rw [beq_eq_false_iff_ne]; exact h0
    by_cases h7 : op = 7
    · subst h7
      go_enter Tryd.func28, Tryd.ntmps28
      go_wp2_with fail
      go_ret
      exact ⟨rfl, rfl⟩
    · have h7b : (op == 7) = false := by rw [beq_eq_false_iff_ne]; exact h7
      have HN := Lib.hid (show numZ op = 1 by unfold numZ; rw [if_neg h0, if_neg h7])
      go_enter Tryd.func28, Tryd.ntmps28
      go_wp2_with fail
      go_ret
      exact ⟨by rw [HN.out]; rfl, rfl⟩
set_option maxRecDepth 100000 in
set_option maxHeartbeats 4000000 in
theorem refNumbers_any (op : Int) (w : World) : Calls Tryd.prog 22 #[.int .i64 op] w fun e w' => e = .returned (.int .i64 (numZ op)) ∧ w = w' := by
  by_cases h0 : op = 0
  · subst h0
    go_enter Tryd.func22, Tryd.ntmps22
    go_wp2_with fail
    go_ret
    exact ⟨rfl, rfl⟩
  · have h0b : (op == 0) = false := by rw [beq_eq_false_iff_ne]; exact h0
    by_cases h7 : op = 7
    · subst h7
      go_enter Tryd.func22, Tryd.ntmps22
      go_wp2_with fail
      go_ret
      exact ⟨rfl, rfl⟩
    · have h7b : (op == 7) = false := by rw [beq_eq_false_iff_ne]; exact h7
      have HN := Lib.hid (show numZ op = 1 by unfold numZ; rw [if_neg h0, if_neg h7])
      go_enter Tryd.func22, Tryd.ntmps22
      go_wp2_with fail
      go_ret
      exact ⟨by rw [HN.out]; rfl, rfl⟩
set_option maxRecDepth 100000 in
set_option maxHeartbeats 8000000 in
theorem may_any (x : Ins) (w : World) : Calls Tryd.prog 17 #[insV x] w fun e w' => e = .returned (.bool (mayZ x)) ∧ Below w.heap.size w w' := by
  have B0 := Lib.hid (below_alloc w (.cells #[.int .i64 x.op, .int .i64 x.a, .int .i64 x.b] 31))
  have HN := Lib.hid (fun W => numbers_any x.op W)
  obtain ⟨op, a, b⟩ := x
  dsimp only at HN B0
  by_cases hin : 0 ≤ op ∧ op < 14 ∧ 0 ≤ a ∧ a < 1000 ∧ 0 ≤ b ∧ b < 1000
  · have h1 : ¬ op < 0 := by omega
    have h2 : ¬ 14 ≤ op := by omega
    have h2' : ¬ 13 < op := by omega
    have h3 : ¬ a < 0 := by omega
    have h4 : ¬ 1000 ≤ a := by omega
    have h4' : ¬ 999 < a := by omega
    have h5 : ¬ b < 0 := by omega
    have h6 : ¬ 1000 ≤ b := by omega
    have h6' : ¬ 999 < b := by omega
    have HM := Lib.hid (show mayZ ⟨op, a, b⟩ = (decide (0 < numZ op ∨ a = 0) && decide (1 < numZ op ∨ b = 0)) by
      unfold mayZ numZ
      rw [← Bool.decide_and]
      dsimp only
      apply decide_eq_decide.2
      by_cases h0 : op = 0
      · subst h0; simp; omega
      · by_cases h7 : op = 7
        · subst h7; simp; omega
        · simp [h0, h7]; omega)
    rw [HM.out]
    clear hin
    obtain ⟨nz, hnz⟩ : ∃ nz, nz = numZ op := ⟨_, rfl⟩
    rw [← hnz] at HN ⊢
    have hc : nz = 0 ∨ nz = 1 ∨ nz = 2 := by rw [hnz]; unfold numZ; split <;> (try split) <;> simp
    clear hnz HM
    have hz : (a = 0 ∨ (¬ a = 0 ∧ (a == 0) = false)) := by
      by_cases h : a = 0
      · exact .inl h
      · exact .inr ⟨h, by rw [beq_eq_false_iff_ne]; exact h⟩
    have hy : (b = 0 ∨ (¬ b = 0 ∧ (b == 0) = false)) := by
      by_cases h : b = 0
      · exact .inl h
      · exact .inr ⟨h, by rw [beq_eq_false_iff_ne]; exact h⟩
    rcases hc with rfl | rfl | rfl
    all_goals rcases hz with rfl | ⟨hz1, hz2⟩
    all_goals rcases hy with rfl | ⟨hy1, hy2⟩
    all_goals
      go_enter Tryd.func17, Tryd.ntmps17
      go_wp2_with fail
      refine (HN.out _).mono ?_
      rintro e w1 ⟨rfl, rfl⟩
      go_wp2_with fail
      go_ret
      exact ⟨ret_bool (by first | rfl | simp_all), B0.out⟩
  · have HM := Lib.hid (show mayZ ⟨op, a, b⟩ = false by unfold mayZ; rw [decide_eq_false_iff_not]; exact fun h => hin ⟨h.1, h.2.1, h.2.2.1, h.2.2.2.1, h.2.2.2.2.1, h.2.2.2.2.2.1⟩)
    rw [HM.out]
    have hbad : op < 0 ∨ (¬ op < 0 ∧ 14 ≤ op) ∨ (¬ op < 0 ∧ ¬ 14 ≤ op ∧ a < 0) ∨ (¬ op < 0 ∧ ¬ 14 ≤ op ∧ ¬ a < 0 ∧ 1000 ≤ a) ∨ (¬ op < 0 ∧ ¬ 14 ≤ op ∧ ¬ a < 0 ∧ ¬ 1000 ≤ a ∧ b < 0) ∨ (¬ op < 0 ∧ ¬ 14 ≤ op ∧ ¬ a < 0 ∧ ¬ 1000 ≤ a ∧ ¬ b < 0 ∧ 1000 ≤ b) := by omega
    clear hin HM
    rcases hbad with h1 | ⟨h1, h2⟩ | ⟨h1, h2, h3⟩ | ⟨h1, h2, h3, h4⟩ | ⟨h1, h2, h3, h4, h5⟩ | ⟨h1, h2, h3, h4, h5, h6⟩
    all_goals
      (try have g2 : 13 < op := by omega)
      (try have g2n : ¬ 13 < op := by omega)
      (try have g4 : 999 < a := by omega)
      (try have g4n : ¬ 999 < a := by omega)
      (try have g6 : 999 < b := by omega)
      go_enter Tryd.func17, Tryd.ntmps17
      go_wp2_with fail
      go_ret
      exact ⟨rfl, B0.out⟩
set_option maxRecDepth 100000 in
set_option maxHeartbeats 8000000 in
theorem refMay_any (x : Ins) (w : World) : Calls Tryd.prog 12 #[insV x] w fun e w' => e = .returned (.bool (mayZ x)) ∧ Below w.heap.size w w' := by
  have B0 := Lib.hid (below_alloc w (.cells #[.int .i64 x.op, .int .i64 x.a, .int .i64 x.b] 31))
  have HN := Lib.hid (fun W => refNumbers_any x.op W)
  obtain ⟨op, a, b⟩ := x
  dsimp only at HN B0
  by_cases hin : 0 ≤ op ∧ op < 14 ∧ 0 ≤ a ∧ a < 1000 ∧ 0 ≤ b ∧ b < 1000
  · have h1 : ¬ op < 0 := by omega
    have h2 : ¬ 14 ≤ op := by omega
    have h2' : ¬ 13 < op := by omega
    have h3 : ¬ a < 0 := by omega
    have h4 : ¬ 1000 ≤ a := by omega
    have h4' : ¬ 999 < a := by omega
    have h5 : ¬ b < 0 := by omega
    have h6 : ¬ 1000 ≤ b := by omega
    have h6' : ¬ 999 < b := by omega
    have HM := Lib.hid (show mayZ ⟨op, a, b⟩ = (decide (0 < numZ op ∨ a = 0) && decide (1 < numZ op ∨ b = 0)) by
      unfold mayZ numZ
      rw [← Bool.decide_and]
      dsimp only
      apply decide_eq_decide.2
      by_cases h0 : op = 0
      · subst h0; simp; omega
      · by_cases h7 : op = 7
        · subst h7; simp; omega
        · simp [h0, h7]; omega)
    rw [HM.out]
    clear hin
    obtain ⟨nz, hnz⟩ : ∃ nz, nz = numZ op := ⟨_, rfl⟩
    rw [← hnz] at HN ⊢
    have hc : nz = 0 ∨ nz = 1 ∨ nz = 2 := by rw [hnz]; unfold numZ; split <;> (try split) <;> simp
    clear hnz HM
    have hz : (a = 0 ∨ (¬ a = 0 ∧ (a == 0) = false)) := by
      by_cases h : a = 0
      · exact .inl h
      · exact .inr ⟨h, by rw [beq_eq_false_iff_ne]; exact h⟩
    have hy : (b = 0 ∨ (¬ b = 0 ∧ (b == 0) = false)) := by
      by_cases h : b = 0
      · exact .inl h
      · exact .inr ⟨h, by rw [beq_eq_false_iff_ne]; exact h⟩
    rcases hc with rfl | rfl | rfl
    all_goals rcases hz with rfl | ⟨hz1, hz2⟩
    all_goals rcases hy with rfl | ⟨hy1, hy2⟩
    all_goals
      go_enter Tryd.func12, Tryd.ntmps12
      go_wp2_with fail
      refine (HN.out _).mono ?_
      rintro e w1 ⟨rfl, rfl⟩
      go_wp2_with fail
      go_ret
      exact ⟨ret_bool (by first | rfl | simp_all), B0.out⟩
  · have HM := Lib.hid (show mayZ ⟨op, a, b⟩ = false by unfold mayZ; rw [decide_eq_false_iff_not]; exact fun h => hin ⟨h.1, h.2.1, h.2.2.1, h.2.2.2.1, h.2.2.2.2.1, h.2.2.2.2.2.1⟩)
    rw [HM.out]
    have hbad : op < 0 ∨ (¬ op < 0 ∧ 14 ≤ op) ∨ (¬ op < 0 ∧ ¬ 14 ≤ op ∧ a < 0) ∨ (¬ op < 0 ∧ ¬ 14 ≤ op ∧ ¬ a < 0 ∧ 1000 ≤ a) ∨ (¬ op < 0 ∧ ¬ 14 ≤ op ∧ ¬ a < 0 ∧ ¬ 1000 ≤ a ∧ b < 0) ∨ (¬ op < 0 ∧ ¬ 14 ≤ op ∧ ¬ a < 0 ∧ ¬ 1000 ≤ a ∧ ¬ b < 0 ∧ 1000 ≤ b) := by omega
    clear hin HM
    rcases hbad with h1 | ⟨h1, h2⟩ | ⟨h1, h2, h3⟩ | ⟨h1, h2, h3, h4⟩ | ⟨h1, h2, h3, h4, h5⟩ | ⟨h1, h2, h3, h4, h5, h6⟩
    all_goals
      (try have g2 : 13 < op := by omega)
      (try have g2n : ¬ 13 < op := by omega)
      (try have g4 : 999 < a := by omega)
      (try have g4n : ¬ 999 < a := by omega)
      (try have g6 : 999 < b := by omega)
      go_enter Tryd.func12, Tryd.ntmps12
      go_wp2_with fail
      go_ret
      exact ⟨rfl, B0.out⟩
end Go.Proofs.YtpdlfijcicboiaaDoor
