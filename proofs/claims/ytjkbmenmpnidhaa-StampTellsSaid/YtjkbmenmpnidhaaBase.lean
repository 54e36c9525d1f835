/- Base of the contracts of this seat: what a slice of ints that is only read is told as (Ints). -/
import Derived.Test.YtjkbmenmpnidhaaRows
import Derived.Test.YtjkbmenmpnidhaaPlain
import Derived.WalkKit
import Derived.ProofKit
import Derived.WalkLawsBesides
import Derived.WalkSpells
import Derived.Below
import Derived.Lib.Hide
import Derived.Handy
import Derived.Laws.CopyOwn
import Derived.Outline
import Derived.Deep.QuietTactic
import Derived.BigQuiet
namespace Go.Proofs.Ytjkbmenmpnidhaa
open Go.RowKit
set_option linter.unusedSimpArgs false
set_option linter.unusedVariables false

/-- an int of 64 bits -/
def I64 (n : Int) : Prop := -9223372036854775808 ≤ n ∧ n ≤ 9223372036854775807

/-- THE SLICE (a, len, cap) READS AS THE LIST l IN THE WORLD w. -/
structure Ints (w : World) (a : Option Addr) (len cap : Nat) (l : List Int) : Prop where
  len_eq : l.length = len
  le_cap : len ≤ cap
  cap_le : cap ≤ maxLen
  none_ : a = none → cap = 0
  bound : ∀ i, I64 (en l i)
  cell : ∀ i, i < len → ∃ b off, a = some ⟨b, off, none⟩ ∧ w.cell? ⟨b, off + i, none⟩ = some (.int .i64 (en l i))

theorem Ints.nil (w : World) : Ints w none 0 0 [] :=
  ⟨rfl, Nat.le_refl _, by decide, fun _ => rfl, fun i => by rw [en_nil]; exact ⟨by omega, by omega⟩, fun i h => absurd h (by omega)⟩

theorem Ints.below {w w' : World} {a : Option Addr} {len cap : Nat} {l : List Int} (h : Ints w a len cap l) (hb : Below w.heap.size w w') : Ints w' a len cap l := by
  refine ⟨h.len_eq, h.le_cap, h.cap_le, h.none_, h.bound, fun i hi => ?_⟩
  obtain ⟨b, off, ha, hc⟩ := h.cell i hi
  exact ⟨b, off, ha, (hb.cell (World.block_lt_of_cell? w _ hc)).trans hc⟩

theorem Ints.len_le {w : World} {a : Option Addr} {len cap : Nat} {l : List Int} (h : Ints w a len cap l) : len ≤ 9223372036854775807 := by
  have h1 := h.le_cap; have h2 := h.cap_le; unfold maxLen at h2; omega

theorem Ints.take {w : World} {a : Option Addr} {len cap : Nat} {l : List Int} (h : Ints w a len cap l) (n : Nat) : Ints w a (min len n) cap (l.take n) := by
  refine ⟨by rw [List.length_take, h.len_eq]; omega, Nat.le_trans (Nat.min_le_left _ _) h.le_cap, h.cap_le, h.none_, fun i => ?_, fun i hi => ?_⟩
  · rw [en_take]; split
    · exact h.bound i
    · exact ⟨by omega, by omega⟩
  · rw [en_take, if_pos (by omega)]; exact h.cell i (by omega)

theorem wf_i64_bounds {n : Int} (h : (Lit.int .i64 n).wf = true) : I64 n := by
  simp only [Lit.wf, Bool.and_eq_true, decide_eq_true_eq] at h
  exact h

/-- what the opened argument gives -/
theorem Ints.of_open {w : World} {a : Option Addr} {len cap : Nat} {zs : List Int}
    (h : (a = none ∧ len = 0 ∧ cap = 0 ∧ zs = []) ∨
      ∃ x, a = some x ∧ len ≤ cap ∧ cap ≤ maxLen ∧ zs.length = cap ∧ (∀ i, i < zs.length → w.cell? (x.add i) = some (.int .i64 (zs.getD i 0))) ∧ ∀ n ∈ zs, (Lit.int .i64 n).wf = true) :
    Ints w a len cap (zs.take len) := by
  rcases h with ⟨rfl, rfl, rfl, rfl⟩ | ⟨x, rfl, hl, hm, hz, hcell, hw⟩
  · exact Ints.nil w
  · refine ⟨by rw [List.length_take, hz]; omega, hl, hm, fun h => by simp at h, fun i => ?_, fun i hi => ?_⟩
    · rw [en_take]; split
      · by_cases hi : i < zs.length
        · exact wf_i64_bounds (hw _ (en_mem zs i hi))
        · rw [en_of_le zs i (by omega)]; exact ⟨by omega, by omega⟩
      · exact ⟨by omega, by omega⟩
    · obtain ⟨b, off, spot⟩ := x
      have hc := hcell i (by omega)
      have hspot : spot = none := by simpa [Addr.add] using World.cell?_spot (hcell 0 (by omega))
      subst hspot
      refine ⟨b, off, rfl, ?_⟩
      rw [en_take, if_pos hi]
      rw [Addr.add_lit] at hc
      exact hc

theorem ret_bool {a b : Bool} (h : a = b) : Ending.returned (.bool a) = .returned (.bool b) := by rw [h]
theorem ret_int {k : IntKind} {a b : Int} (h : a = b) : Ending.returned (.int k a) = .returned (.int k b) := by rw [h]
theorem ret_int_err {a a' b b' : Int} (h : a = a') (k : b = b') : Ending.returned (.tuple #[.int .i64 a, .int .i64 b]) = .returned (.tuple #[.int .i64 a', .int .i64 b']) := by rw [h, k]
theorem ret_bool_err {a a' : Bool} {b b' : Int} (h : a = a') (k : b = b') : Ending.returned (.tuple #[.bool a, .int .i64 b]) = .returned (.tuple #[.bool a', .int .i64 b']) := by rw [h, k]
theorem ret_slice {a : Option Addr} {n m c : Nat} (h : n = m) : Ending.returned (.slice a n c) = .returned (.slice a m c) := by rw [h]

theorem below_drewN {B : Nat} {a w : World} (h : Below B a w) (n : Nat) : Below B a (w.drewN n) := h.trans ⟨rfl, rfl, rfl, Nat.le_refl _, fun _ _ => rfl⟩

end Go.Proofs.Ytjkbmenmpnidhaa
