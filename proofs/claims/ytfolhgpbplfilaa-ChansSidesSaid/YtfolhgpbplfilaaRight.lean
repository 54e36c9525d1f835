/- may, of, Right. -/
import Derived.Test.YtfolhgpbplfilaaWt
import Derived.Laws.ResultCell
namespace Go.Proofs.Ytfolhgpbplfilaa
open Go.RowKit

set_option maxRecDepth 100000 in
theorem may_any (x : Wt) (w : World) (hx : WtOk x) : Calls Try.prog 59 #[wV x] w fun e w' => e = .returned (.bool (mayW x)) ∧ Below w.heap.size w w' := by
  obtain ⟨g, c, s⟩ := x
  obtain ⟨h1, h2, h3⟩ := hx
  unfold I64 at h1 h2 h3
  simp only at h1 h2 h3
  have DONE := Lib.hid (fun (b : Bool) (hb : b = mayW ⟨g, c, s⟩) (o : Obj) => (⟨by rw [hb], below_alloc w o⟩ : Ending.returned (.bool b) = .returned (.bool (mayW ⟨g, c, s⟩)) ∧ Below w.heap.size w (w.alloc o)))
  by_cases c1 : 0 ≤ g
  · by_cases c2 : 0 ≤ c
    · by_cases c3 : 0 ≤ s
      all_goals
        have R := Lib.hid (show decide (0 ≤ s) = mayW ⟨g, c, s⟩ by simp [mayW, c1, c2])
        go_enter Try.func59, Try.ntmps59
        go_wp2
        go_ret
        exact DONE.out _ (by rw [← R.out]; simp [c3]) _
    · have R := Lib.hid (show false = mayW ⟨g, c, s⟩ by simp [mayW, c2])
      go_enter Try.func59, Try.ntmps59
      go_wp2
      go_ret
      exact DONE.out _ R.out _
  · have R := Lib.hid (show false = mayW ⟨g, c, s⟩ by simp [mayW, c1])
    go_enter Try.func59, Try.ntmps59
    go_wp2
    go_ret
    exact DONE.out _ R.out _

set_option maxRecDepth 100000 in
theorem of_any (x : Wt) (w : World) : Calls Try.prog 60 #[wV x] w fun e w' => e = .returned (whoV x.g x.c) ∧ Below w.heap.size w w' := by
  go_enter Try.func60, Try.ntmps60
  go_wp2
  refine bodyPost_ret (v := whoV x.g x.c) (by simp [results, Try.results60, go_sem]) rfl ⟨rfl, ?_⟩
  exact (below_alloc w _).alloc (by simp) _
end Go.Proofs.Ytfolhgpbplfilaa
