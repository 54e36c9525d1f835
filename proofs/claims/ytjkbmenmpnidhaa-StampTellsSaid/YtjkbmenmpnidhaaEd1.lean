/- A sorted list, each once: slices.Sort, slices.Compact, as plain data. -/
import Derived.Test.YtjkbmenmpnidhaaEd0
namespace Go.Proofs.Ytjkbmenmpnidhaa
set_option linter.unusedSimpArgs false
set_option linter.unusedVariables false
theorem get_bang (zs : List Int) (i : Nat) (h : i < zs.length) : zs.toArray[i]! = zs[i] := by
  rw [getElem!_pos zs.toArray i (by simpa using h)]; simp
theorem compact_strict {zs : List Int} (h : zs.Pairwise (· ≤ ·)) : (Lib.compact zs).Pairwise (· < ·) ∧ ∀ x, x ∈ Lib.compact zs ↔ x ∈ zs := by
  have hle : ∀ i j (hij : i ≤ j) (hj : j < zs.length), zs[i]'(by omega) ≤ zs[j] := by
    intro i j hij hj
    by_cases e : i = j
    · subst e; exact Int.le_refl _
    · exact (List.pairwise_iff_getElem.1 h) i j (by omega) hj (by omega)
  have hkeep : ∀ j (hj : j < zs.length), Lib.keeps zs.toArray j = true → ∀ i (hi : i < j), zs[i]'(by omega) < zs[j] := by
    intro j hj hk i hi
    unfold Lib.keeps at hk
    have h1 := of_decide_eq_true hk
    rw [get_bang zs j hj, get_bang zs (j - 1) (by omega)] at h1
    have h2 := hle i (j - 1) (by omega) (by omega)
    have h3 := hle (j - 1) j (by omega) hj
    rcases h1 with h1 | h1
    · omega
    · have : zs[j] ≠ zs[j - 1]'(by omega) := h1
      omega
  have hex : ∀ j (hj : j < zs.length), ∃ i, ∃ hi : i ≤ j, Lib.keeps zs.toArray i = true ∧ zs[i]'(by omega) = zs[j] := by
    intro j
    induction j with
    | zero => intro hj; exact ⟨0, Nat.le_refl _, by simp [Lib.keeps], rfl⟩
    | succ j ih =>
      intro hj
      by_cases e : zs[j + 1] = zs[j]'(by omega)
      · obtain ⟨i, hi, hk, he⟩ := ih (by omega)
        exact ⟨i, by omega, hk, by rw [he, e]⟩
      · refine ⟨j + 1, Nat.le_refl _, ?_, rfl⟩
        unfold Lib.keeps
        rw [get_bang zs (j + 1) hj, get_bang zs (j + 1 - 1) (by omega)]
        simp only [decide_eq_true_eq]
        exact .inr e
  constructor
  · unfold Lib.compact Lib.compactUpTo
    rw [List.pairwise_map]
    have hp : ((List.range zs.length).filter (Lib.keeps zs.toArray)).Pairwise (· < ·) := (List.pairwise_lt_range).sublist List.filter_sublist
    refine List.Pairwise.imp_of_mem ?_ hp
    intro a b ha hb hab
    rw [List.mem_filter, List.mem_range] at ha hb
    rw [get_bang zs a ha.1, get_bang zs b hb.1]
    exact hkeep b hb.1 hb.2 a hab
  · intro x
    unfold Lib.compact Lib.compactUpTo
    rw [List.mem_map]
    constructor
    · rintro ⟨j, hj, rfl⟩
      rw [List.mem_filter, List.mem_range] at hj
      rw [get_bang zs j hj.1]
      exact List.getElem_mem _
    · intro hx
      obtain ⟨j, hj, rfl⟩ := List.getElem_of_mem hx
      obtain ⟨i, hi, hk, he⟩ := hex j hj
      exact ⟨i, by rw [List.mem_filter, List.mem_range]; exact ⟨by omega, hk⟩, by rw [get_bang zs i (by omega)]; exact he⟩
def sortZ (zs : List Int) : List Int := zs.mergeSort fun x y => decide (x ≤ y)
theorem sortZ_sorted (zs : List Int) : (sortZ zs).Pairwise (· ≤ ·) := by
  have h := List.pairwise_mergeSort (le := fun x y : Int => decide (x ≤ y)) (fun a b c hab hbc => by simp only [decide_eq_true_eq] at *; omega) (fun a b => by simp only [Bool.or_eq_true, decide_eq_true_eq]; omega) zs
  exact h.imp (by intro a b hab; simpa using hab)
theorem sortZ_mem (zs : List Int) (x : Int) : x ∈ sortZ zs ↔ x ∈ zs := (List.mergeSort_perm zs _).mem_iff
/-- what is collected, sorted, and taken once each, are the edges -/
theorem rising_edges {caps : List Int} {L : List Ev} (h : wrongZ caps L = -1) {i : Nat} (hi : i < L.length) : Lib.compact (sortZ (rawZ caps L i)) = edgesZ caps L i := by
  obtain ⟨h1, h2⟩ := compact_strict (sortZ_sorted (rawZ caps L i))
  exact edges_of_raw h hi h1 fun x => by rw [h2, sortZ_mem]
end Go.Proofs.Ytjkbmenmpnidhaa
