/- The deferred closure: what it does where the reader gave up, and where not. -/
import Derived.Test.YtddkckppmjcclaaD6
import Derived.Laws.Pointers
namespace Go.Proofs.Ytddkckppmjcclaa
open Go.RowKit
set_option linter.unusedSimpArgs false
set_option linter.unusedVariables false
theorem tm12 (a b u v1 v2 v3 v4 v5 v6 v7 : Value) : (#[a, b] ++ (((((((Array.replicate 10 u).setIfInBounds 3 v1).setIfInBounds 4 v2).setIfInBounds 2 v3).setIfInBounds 5 v4).setIfInBounds 6 v5).setIfInBounds 0 v6).setIfInBounds 1 v7) = #[a, b, v6, v7, v3, v1, v2, v4, v5, u, u, u] := by kernel_rfl
theorem ta_yes (c : Int) (w : World) : Sem.run Try.prog (Instr.typeAssert (Value.iface 76 (Value.int IntKind.i64 c)) 20 76 true) w = .ok (.tuple #[.int .i64 c, .bool true]) w := by kernel_rfl
theorem ta_no (w : World) : Sem.run Try.prog (Instr.typeAssert Value.nilIface 20 76 true) w = .ok (.tuple #[.int .i64 0, .bool false]) w := by kernel_rfl
set_option maxRecDepth 100000 in
set_option maxHeartbeats 4000000 in
theorem catch_panicking (b0 b1 : Nat) (c : Int) (w : World) (h0 : Bx w b0 #[.slice none 0 0, .int .i64 0, .int .i64 0, .int .i64 0, .slice none 0 0, .slice none 0 0] 26) (h1 : Bx w b1 #[.int .i64 0] 28) (hne : b0 ≠ b1) :
    CallsD Try.prog 39 #[.pointer (some ⟨b0, 0, none⟩), .pointer (some ⟨b1, 0, none⟩)] (.panicking [{ v := .iface 76 (.int .i64 c), recovered := false }]) w fun e u' w' =>
      e = .returned (.tuple #[]) ∧ u' = .panicking [{ v := .iface 76 (.int .i64 c), recovered := true }] ∧ w' = (st6 w b0 (.slice none 0 0) (.int .i64 0) (.int .i64 0) (.int .i64 0) (.slice none 0 0) (.slice none 0 0)).setCell ⟨b1, 0, none⟩ (.int .i64 c) := by
  refine callsD_of_wpS Try.func39 rfl fun c₀ cs hu => ?_
  apply wpS_seq
  apply wpS_region
  simp [wpOpsS, go_sem, recoverD, hu, Try.ntmps39, Exit.thenS, ta_yes, ta_no, Result.andThen]
  rw [tm12]
  refine wpS_of_wp ?_
  obtain ⟨x0, x1, x2, x3, x4, x5⟩ := h0.cells6
  have l0 := Bx.lt h0; have l1 := Bx.lt h1
  have f0 := Bx.froz h0 0; have f1 := Bx.froz h0 1; have f2 := Bx.froz h0 2; have f3 := Bx.froz h0 3; have f4 := Bx.froz h0 4; have f5 := Bx.froz h0 5
  have y0 := Bx.cell h1 0 rfl; have g0 := Bx.froz h1 0
  have hne2 : b1 ≠ b0 := fun e => hne e.symm
  go_wp2_with fail
  simp [bodyPostS, results, Try.results39]
set_option maxRecDepth 100000 in
set_option maxHeartbeats 4000000 in
theorem catch_idle (b0 b1 : Nat) (w : World) :
    CallsD Try.prog 39 #[.pointer (some ⟨b0, 0, none⟩), .pointer (some ⟨b1, 0, none⟩)] .returning w fun e u' w' => e = .returned (.tuple #[]) ∧ u' = .returning ∧ w' = w := by
  refine callsD_of_wpS Try.func39 rfl fun c₀ cs hu => ?_
  apply wpS_seq
  apply wpS_region
  simp [wpOpsS, go_sem, recoverD, hu, Try.ntmps39, Exit.thenS, ta_yes, ta_no, Result.andThen]
  rw [tm12]
  refine wpS_of_wp ?_
  go_wp2_with fail
  cases c₀
  simp_all [bodyPostS, results, Try.results39]
end Go.Proofs.Ytddkckppmjcclaa
