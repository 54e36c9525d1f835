/- Plain facts for WaitsOrder. -/
import Derived.Test.YtejlnkneememoaaFresh
namespace Go.Proofs.Ytejlnkneememoaa
open Go.RowKit

theorem nodup_le : ∀ (n : Nat) (l : List Int), l.Nodup → (∀ x ∈ l, 0 ≤ x ∧ x < (n : Int)) → l.length ≤ n := by
  intro n
  induction n with
  | zero =>
    intro l _ h
    cases l with
    | nil => exact Nat.le_refl _
    | cons x xs => have := h x (by simp); omega
  | succ n ih =>
    intro l hn h
    have h1 := ih (l.erase (n : Int)) (hn.erase _) (fun x hx => by
      have hm := (List.Nodup.mem_erase_iff hn).1 hx
      have := h x hm.2
      have h2 := hm.1
      omega)
    have h2 : l.length ≤ (l.erase (n : Int)).length + 1 := by
      rw [List.length_erase]; split <;> omega
    omega
def SmallW (M : List Wt) : Prop := ∀ x ∈ M, x.g < 5 ∧ x.c < 4
theorem small_len {M : List Wt} (hr : rightW M = true) (hs : SmallW M) : M.length ≤ 20 := by
  obtain ⟨_, h2, h3⟩ := right_pair.1 hr
  have hm : ∀ x ∈ M, 0 ≤ x.g ∧ 0 ≤ x.c := fun x hx => by have := h2 x hx; simp [mayW] at this; omega
  have h := nodup_le 20 (M.map fun x => x.g * 4 + x.c) (by
    rw [List.nodup_iff_pairwise_ne, List.pairwise_map]
    refine List.Pairwise.imp_of_mem (fun {a b} ha hb hab => ?_) h3
    have a1 := hm a ha; have b1 := hm b hb; have a2 := hs a ha; have b2 := hs b hb
    unfold apartW at hab
    omega) (fun x hx => by
    obtain ⟨y, hy, rfl⟩ := List.mem_map.1 hx
    have := hm y hy; have := hs y hy; omega)
  simpa using h
theorem small_drop {M : List Wt} (h : SmallW M) (g : Int) : SmallW (dropW M g) := fun x hx => h x (List.mem_filter.1 hx).1
theorem small_snoc {M : List Wt} {x : Wt} (h : SmallW M) (hg : x.g < 5) (hc : x.c < 4) : SmallW (M ++ [x]) := by
  intro y hy
  rcases List.mem_append.1 hy with hy | hy
  · exact h y hy
  · simp at hy; subst hy; exact ⟨hg, hc⟩
theorem small_nil : SmallW [] := fun x hx => by simp at hx
theorem small_ok {M : List Wt} {x : Wt} (hg : 0 ≤ x.g ∧ x.g < 5) (hc : -4 < x.c ∧ x.c < 4) (hs : 0 ≤ x.s ∧ x.s < 9) : WtOk x := by
  unfold WtOk I64; omega
theorem drop_head {M : List Wt} {g : Int} : firstW M g = (dropW M g).head? := by
  unfold firstW dropW; rw [List.head?_filter]
theorem Wts.grown {w w' : World} {a : Option Addr} {len cap : Nat} {L : List Wt} {row : Option Nat} (h : Wts w a len cap L) (hg : w.grownBy w' row) (hne : ∀ x, a = some x → some x.block ≠ row) : Wts w' a len cap L := by
  refine ⟨⟨h.recs.len_eq, h.recs.le_cap, h.recs.cap_le, h.recs.none_, fun i x hx => ?_⟩, h.ok⟩
  obtain ⟨b, off, e, hc⟩ := h.recs.cell i x hx
  refine ⟨b, off, e, fun j v hv => ?_⟩
  have h1 := hc j v hv
  have hlt := World.block_lt_of_cell? w _ h1
  have hb := hg.block b hlt (hne _ e)
  rw [← h1]
  simp [World.cell?, hb]
end Go.Proofs.Ytejlnkneememoaa
