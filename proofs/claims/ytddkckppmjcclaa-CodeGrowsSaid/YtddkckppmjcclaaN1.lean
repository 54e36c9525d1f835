/- The numbers of an instruction, and of a number with a yes or no: program and reference. -/
import Derived.Test.YtddkckppmjcclaaFew
namespace Go.Proofs.Ytddkckppmjcclaa
open Go.RowKit
set_option linter.unusedSimpArgs false
set_option linter.unusedVariables false
def insN (x : Ins) : List Int := if x.op = 0 then [0] else if x.op = 7 then [7, x.a, x.b] else [x.op, x.a]
def pairN (n : Int) (b : Bool) : Int := 2 * n + (if b = true then 1 else 0)
theorem i64_list {L : List Int} (h : ∀ x ∈ L, I64 x) (i : Nat) : I64 (en L i) := by
  by_cases hi : i < L.length
  · exact h _ (en_mem L i hi)
  · rw [en_of_le L i (by omega)]; exact ⟨by decide, by decide⟩
theorem insN_i64 {x : Ins} (h : InsOk x) (i : Nat) : I64 (en (insN x) i) := by
  refine i64_list (fun y hy => ?_) i
  unfold insN at hy
  split at hy
  · simp at hy; subst hy; exact ⟨by decide, by decide⟩
  · split at hy
    · simp at hy; rcases hy with rfl | rfl | rfl
      · exact ⟨by decide, by decide⟩
      · exact h.2.1
      · exact h.2.2
    · simp at hy; rcases hy with rfl | rfl
      · exact h.1
      · exact h.2.1
set_option maxRecDepth 100000 in
set_option maxHeartbeats 4000000 in
theorem paired_any (n : Int) (b : Bool) (w : World) (h0 : 0 ≤ n) (h1 : n ≤ 1000000) : Calls Try.prog 32 #[.int .i64 n, .bool b] w fun e w' => e = .returned (.int .i64 (pairN n b)) ∧ w = w' := by
  cases b
  all_goals
    go_enter Try.func32, Try.ntmps32
    go_wp2_with fail
    go_ret
    exact ⟨ret_int (by simp [pairN]), rfl⟩
set_option maxRecDepth 100000 in
set_option maxHeartbeats 4000000 in
theorem bit_any (b : Bool) (w : World) : Calls Try.prog 37 #[.bool b] w fun e w' => e = .returned (.int .i64 (if b = true then 1 else 0)) ∧ w = w' := by
  cases b
  all_goals
    go_enter Try.func37, Try.ntmps37
    go_wp2_with fail
    go_ret
    exact ⟨rfl, rfl⟩
set_option maxRecDepth 100000 in
set_option maxHeartbeats 4000000 in
theorem written_any (x : Ins) (w : World) (hx : InsOk x) : Calls Try.prog 33 #[.agg #[.int .i64 x.op, .int .i64 x.a, .int .i64 x.b]] w (NewInts w (insN x)) := by
  have HB := Lib.hid (fun i => insN_i64 hx i)
  by_cases h0 : x.op = 0
  · have HN := Lib.hid (show insN x = [0] from if_pos h0)
    rw [h0]
    clear h0
    go_enter Try.func33, Try.ntmps33
    go_wp2_with fail
    go_ret
    refine ⟨_, _, rfl, ?_, (below_alloc w _).alloc (by simp) _⟩
    rw [HN.out]
    exact Ints.of_row (alloc_two w _ _) rfl (by decide) (fun i => by have := HB.out i; rwa [HN.out] at this)
  · have h0b : (x.op == 0) = false := by rw [beq_eq_false_iff_ne]; exact h0
    by_cases h7 : x.op = 7
    · have HN := Lib.hid (show insN x = [7, x.a, x.b] by unfold insN; rw [if_neg h0, if_pos h7])
      rw [h7]
      clear h7 h0 h0b
      go_enter Try.func33, Try.ntmps33
      go_wp2_with fail
      go_ret
      refine ⟨_, _, rfl, ?_, (below_alloc w _).alloc (by simp) _⟩
      rw [HN.out]
      exact Ints.of_row (alloc_two w _ _) rfl (by decide) (fun i => by have := HB.out i; rwa [HN.out] at this)
    · have h7b : (x.op == 7) = false := by rw [beq_eq_false_iff_ne]; exact h7
      have HN := Lib.hid (show insN x = [x.op, x.a] by unfold insN; rw [if_neg h0, if_neg h7])
      clear h7 h0
      go_enter Try.func33, Try.ntmps33
      go_wp2_with fail
      go_ret
      refine ⟨_, _, rfl, ?_, (below_alloc w _).alloc (by simp) _⟩
      rw [HN.out]
      exact Ints.of_row (alloc_two w _ _) rfl (by decide) (fun i => by have := HB.out i; rwa [HN.out] at this)
set_option maxRecDepth 100000 in
set_option maxHeartbeats 4000000 in
theorem refInstrN_any (x : Ins) (w : World) (hx : InsOk x) : Calls Try.prog 38 #[.agg #[.int .i64 x.op, .int .i64 x.a, .int .i64 x.b]] w (NewInts w (insN x)) := by
  have HB := Lib.hid (fun i => insN_i64 hx i)
  by_cases h0 : x.op = 0
  · have HN := Lib.hid (show insN x = [0] from if_pos h0)
    rw [h0]
    clear h0
    go_enter Try.func38, Try.ntmps38
    go_wp2_with fail
    go_ret
    refine ⟨_, _, rfl, ?_, (below_alloc w _).alloc (by simp) _⟩
    rw [HN.out]
    exact Ints.of_row (alloc_two w _ _) rfl (by decide) (fun i => by have := HB.out i; rwa [HN.out] at this)
  · have h0b : (x.op == 0) = false := by rw [beq_eq_false_iff_ne]; exact h0
    by_cases h7 : x.op = 7
    · have HN := Lib.hid (show insN x = [7, x.a, x.b] by unfold insN; rw [if_neg h0, if_pos h7])
      rw [h7]
      clear h7 h0 h0b
      go_enter Try.func38, Try.ntmps38
      go_wp2_with fail
      go_ret
      refine ⟨_, _, rfl, ?_, (below_alloc w _).alloc (by simp) _⟩
      rw [HN.out]
      exact Ints.of_row (alloc_two w _ _) rfl (by decide) (fun i => by have := HB.out i; rwa [HN.out] at this)
    · have h7b : (x.op == 7) = false := by rw [beq_eq_false_iff_ne]; exact h7
      have HN := Lib.hid (show insN x = [x.op, x.a] by unfold insN; rw [if_neg h0, if_neg h7])
      clear h7 h0
      go_enter Try.func38, Try.ntmps38
      go_wp2_with fail
      go_ret
      refine ⟨_, _, rfl, ?_, (below_alloc w _).alloc (by simp) _⟩
      rw [HN.out]
      exact Ints.of_row (alloc_two w _ _) rfl (by decide) (fun i => by have := HB.out i; rwa [HN.out] at this)
end Go.Proofs.Ytddkckppmjcclaa
