/- few, alive. -/
import Derived.Test.YtpdlfijcicboiaaDoorT16
namespace Go.Proofs.YtpdlfijcicboiaaDoor
open Go.RowKit
set_option linter.unusedSimpArgs false
set_option linter.unusedVariables false
set_option maxRecDepth 100000 in
set_option maxHeartbeats 8000000 in
theorem few_any (a : Option Addr) (n c : Nat) (L : List Ins) (w : World) (h : Blk w a n c L) : Calls Tryd.prog 7 #[.slice a n c] w fun e w' => e = .returned (.slice a (min n 30) c) ∧ w = w' := by
  have hle := h.recs.len_le
  have hlc := h.recs.le_cap
  have hcm := h.recs.cap_le
  unfold maxLen at hcm
  have hnone := h.recs.none_
  clear h
  by_cases hn : n ≤ 30
  · have hm : min n 30 = n := Nat.min_eq_left hn
    have hm' : min (n : Int) 30 = (n : Int) := Int.min_eq_left (by omega)
    rw [hm]
    cases a with
    | none =>
      have := hnone rfl
      have hn0 : n = 0 := by omega
      subst this; subst hn0
      go_enter Tryd.func7, Tryd.ntmps7
      go_wp2_with fail
      go_ret
      exact ⟨rfl, rfl⟩
    | some x =>
      clear hnone
      go_enter Tryd.func7, Tryd.ntmps7
      go_wp2_with fail
      go_ret
      exact ⟨rfl, rfl⟩
  · have hm : min n 30 = 30 := Nat.min_eq_right (by omega)
    have hm' : min (n : Int) 30 = 30 := Int.min_eq_right (by omega)
    rw [hm]
    cases a with
    | none =>
      have := hnone rfl
      omega
    | some x =>
      clear hnone
      go_enter Tryd.func7, Tryd.ntmps7
      go_wp2_with fail
      go_ret
      exact ⟨rfl, rfl⟩
abbrev aliveT : ByteArray := ⟨#[103, 111, 32, 49, 59, 32, 111, 110, 99, 101, 32, 48, 32, 52]⟩
theorem alive_pe : peZ aliveT = ([⟨9, 1, 0⟩, ⟨7, 0, 4⟩], 0, 0) := by decide +kernel
set_option maxRecDepth 100000 in
set_option maxHeartbeats 8000000 in
theorem alive_any (w : World) (hE : EnvS w) : Calls Tryd.prog 11 #[] w fun e w' => e = .returned (.bool true) ∧ Below w.heap.size w w' := by
  have HP := Lib.hid (Parse_any aliveT w (by decide) hE)
  unfold ParTo at HP
  rw [alive_pe] at HP
  unfold aliveT at HP
  clear hE
  go_enter Tryd.func11, Tryd.ntmps11
  go_wp2_with fail
  refine HP.out.mono ?_
  rintro e w1 ⟨a, n, c, rfl, hB, hb⟩
  have hn : 2 = n := hB.recs.len_eq
  subst hn
  obtain ⟨x, b, off, hx, _, rfl, c0, c1, c2⟩ := hB.at 1 (by decide)
  cases hx
  simp only [Nat.one_mul] at c0 c1 c2
  have HB := Lib.hid hb
  clear hb hB
  go_wp2_with fail
  go_ret
  exact ⟨rfl, HB.out⟩
end Go.Proofs.YtpdlfijcicboiaaDoor
