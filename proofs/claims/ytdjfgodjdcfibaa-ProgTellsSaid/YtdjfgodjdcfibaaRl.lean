/- A list of work that is done: it holds what is reached; and it sorted. -/
import Derived.Test.YtdjfgodjdcfibaaRc
namespace Go.Proofs.Ytdjfgodjdcfibaa
/-- A list of work, done up to 'at'. -/
structure Work (n : Nat) (S : Nat → Nat → Bool) (l : List Nat) (a : Nat) : Prop where
  once : l.Nodup
  zero : 0 ∈ l
  in_ : ∀ x, x ∈ l → Rch n S x
  done : ∀ j x, j < a → l[j]? = some x → ∀ t, t < n → S x t = true → t ∈ l
theorem Work.start {n S} (hn : 0 < n) : Work n S [0] 0 :=
  ⟨by simp, by simp, fun x hx => by obtain rfl : x = 0 := by simpa using hx
                                    exact .zero hn, fun j x hj => by omega⟩
theorem Work.lt {n S l a} (h : Work n S l a) {x} (hx : x ∈ l) : x < n := (h.in_ x hx).lt
theorem Work.len {n S l a} (h : Work n S l a) : l.length ≤ n := by
  have h2 := (List.perm_ext_iff_of_nodup h.once (List.Pairwise.filter (fun x => l.contains x) (List.nodup_range (n := n)))).2 (fun x => by
    rw [List.mem_filter, List.mem_range]
    exact ⟨fun hx => ⟨h.lt hx, by simpa using hx⟩, fun hx => by simpa using hx.2⟩)
  rw [h2.length_eq]
  have h3 := List.length_filter_le (fun x => l.contains x) (List.range n)
  rwa [List.length_range] at h3
theorem Work.push {n S l a t x} (h : Work n S l a) (hx : x ∈ l) (ht : t < n) (hs : S x t = true) (hnot : ¬ t ∈ l) (ha : a ≤ l.length) : Work n S (l ++ [t]) a := by
  refine ⟨?_, by simp [h.zero], ?_, ?_⟩
  · rw [List.nodup_append]
    refine ⟨h.once, by simp, ?_⟩
    intro a ha b hb
    obtain rfl : b = t := by simpa using hb
    rintro rfl; exact hnot ha
  · intro y hy
    rcases List.mem_append.1 hy with h1 | h1
    · exact h.in_ y h1
    · obtain rfl : y = t := by simpa using h1
      exact .next (h.in_ x hx) ht hs
  · intro j y hj hy u hu hsu
    rw [List.getElem?_append_left (by omega)] at hy
    exact List.mem_append_left _ (h.done j y hj hy u hu hsu)
theorem Work.step {n S l a x} (h : Work n S l a) (hx : l[a]? = some x) (hd : ∀ t, t < n → S x t = true → t ∈ l) : Work n S l (a + 1) :=
  ⟨h.once, h.zero, h.in_, fun j y hj hy t ht hs => by
    rcases Nat.lt_or_ge j a with h1 | h1
    · exact h.done j y h1 hy t ht hs
    · obtain rfl : j = a := by omega
      rw [hx] at hy; cases hy; exact hd t ht hs⟩
theorem Work.all {n S l a} (h : Work n S l a) (ha : l.length ≤ a) (i : Nat) : i ∈ l ↔ Rch n S i := by
  constructor
  · exact h.in_ i
  · intro hr
    induction hr with
    | zero _ => exact h.zero
    | next _ ht hs ih =>
      obtain ⟨j, hj, hjx⟩ := List.mem_iff_getElem.1 ih
      exact h.done j _ (by omega) (by rw [List.getElem?_eq_getElem hj, hjx]) _ ht hs
theorem sort_filter {n : Nat} {l : List Nat} {m : Nat → Bool} (h1 : l.Nodup) (h2 : ∀ i, i ∈ l ↔ i < n ∧ m i = true) :
    (l.map Int.ofNat).mergeSort (fun x y => decide (x ≤ y)) = ((List.range n).filter m).map Int.ofNat := by
  have hp : (l.map Int.ofNat).Perm (((List.range n).filter m).map Int.ofNat) := by
    apply List.Perm.map
    rw [List.perm_ext_iff_of_nodup h1 (List.Pairwise.filter _ List.nodup_range)]
    intro a; rw [h2, List.mem_filter, List.mem_range]
  refine List.Perm.eq_of_pairwise (le := fun a b : Int => a ≤ b) (fun a b _ _ => Int.le_antisymm) ?_ ?_ ((List.mergeSort_perm _ _).trans hp)
  · have := List.pairwise_mergeSort (le := fun x y : Int => decide (x ≤ y)) (fun a b c h1 h2 => by simp at *; omega) (fun a b => by simp; omega) (l.map Int.ofNat)
    exact this.imp (fun h => by simpa using h)
  · refine List.Pairwise.map _ (R := fun a b : Nat => a < b) (fun a b h => by show Int.ofNat a ≤ Int.ofNat b; exact Int.ofNat_le.2 (Nat.le_of_lt h)) ?_
    exact List.Pairwise.filter _ List.pairwise_lt_range
end Go.Proofs.Ytdjfgodjdcfibaa
