/- shape, begun: the reference. -/
import Derived.Test.YtjkbmenmpnidhaaR2
namespace Go.Proofs.Ytjkbmenmpnidhaa
open Go.RowKit
set_option linter.unusedSimpArgs false
set_option linter.unusedVariables false
set_option maxRecDepth 100000 in
set_option maxHeartbeats 8000000 in
theorem shape_any (a : Option Addr) (n c : Nat) (L : List Ev) (i : Nat) (w : World) (h : Evs w a n c L) (hi : i < n) : Calls Try.prog 48 #[.slice a n c, .int .i64 (i : Int)] w (BoolTo w (shapeZ L i)) := by
  have H := Lib.hid h
  have hle := h.recs.len_le
  have hlc := h.recs.le_cap
  obtain ⟨b, off, _, rfl, c0, c1, c2, c3, c4⟩ := h.at i hi
  have hi2 : (i : Int) < (n : Int) := by omega
  have hi0 : ¬ (i : Int) < 0 := by omega
  have B0 := Lib.hid (below_alloc w (.cells (evC (evAt L i)) 48))
  have HZ := Lib.hid (show shapeZ L i = decide ((evAt L i).g < 0 ∨ 7 < (evAt L i).g ∨ (evAt L i).kind < 0 ∨ 17 < (evAt L i).kind ∨ (evAt L i).no < 0 ∨ (evAt L i).start < -1 ∨ (i : Int) ≤ (evAt L i).start) from rfl)
  obtain ⟨x, hx⟩ : ∃ x, x = evAt L i := ⟨_, rfl⟩
  rw [← hx] at c0 c1 c2 c3 c4 B0 HZ
  clear h hx
  unfold evC at B0
  obtain ⟨x0, x1, x2, x3, x4⟩ := x
  dsimp only at c0 c1 c2 c3 c4 B0 HZ
  by_cases h1 : x0 < 0
  · have HZ2 := Lib.hid (HZ.out.trans (decide_eq_true (by omega)))
    go_enter Try.func48, Try.ntmps48
    go_wp2_with fail
    go_ret
    exact ⟨ret_bool HZ2.out.symm, B0.out⟩
  · skip
    by_cases h2 : 7 < x0
    · have HZ2 := Lib.hid (HZ.out.trans (decide_eq_true (by omega)))
      go_enter Try.func48, Try.ntmps48
      go_wp2_with fail
      go_ret
      exact ⟨ret_bool HZ2.out.symm, B0.out⟩
    · skip
      by_cases h3 : x1 < 0
      · have HZ2 := Lib.hid (HZ.out.trans (decide_eq_true (by omega)))
        go_enter Try.func48, Try.ntmps48
        go_wp2_with fail
        go_ret
        exact ⟨ret_bool HZ2.out.symm, B0.out⟩
      · skip
        by_cases h4 : 17 < x1
        · have HZ2 := Lib.hid (HZ.out.trans (decide_eq_true (by omega)))
          go_enter Try.func48, Try.ntmps48
          go_wp2_with fail
          go_ret
          exact ⟨ret_bool HZ2.out.symm, B0.out⟩
        · skip
          by_cases h5 : x3 < 0
          · have HZ2 := Lib.hid (HZ.out.trans (decide_eq_true (by omega)))
            go_enter Try.func48, Try.ntmps48
            go_wp2_with fail
            go_ret
            exact ⟨ret_bool HZ2.out.symm, B0.out⟩
          · skip
            by_cases h6 : x4 < -1
            · have HZ2 := Lib.hid (HZ.out.trans (decide_eq_true (by omega)))
              go_enter Try.func48, Try.ntmps48
              go_wp2_with fail
              go_ret
              exact ⟨ret_bool HZ2.out.symm, B0.out⟩
            · skip
              by_cases h7 : (i : Int) ≤ x4
              · have HZ2 := Lib.hid (HZ.out.trans (decide_eq_true (by omega)))
                go_enter Try.func48, Try.ntmps48
                go_wp2_with fail
                go_ret
                exact ⟨ret_bool HZ2.out.symm, B0.out⟩
              · skip
                have HZ2 := Lib.hid (HZ.out.trans (decide_eq_false (by omega)))
                go_enter Try.func48, Try.ntmps48
                go_wp2_with fail
                go_ret
                exact ⟨ret_bool HZ2.out.symm, B0.out⟩
end Go.Proofs.Ytjkbmenmpnidhaa
