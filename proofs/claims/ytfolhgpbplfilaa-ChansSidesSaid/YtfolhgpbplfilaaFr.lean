/- Chosen parts. -/
import Derived.Test.YtfolhgpbplfilaaFresh
namespace Go.Proofs.Ytfolhgpbplfilaa
open Go.RowKit
def Says (w : World) (e : Ending) (w' : World) : Prop := e = .returned (.bool true) ∧ Below w.heap.size w w'
theorem box3_grown {W W' : World} {B : Nat} {x : Wt} {row : Option Nat} (h : Box3 W B x) (hg : W.drew.grownBy W' row) (hlt : B < W.heap.size) (hne : some B ≠ row) : Box3 W' B x := (hg.block B hlt hne).trans h
/-- of another goroutine or case -/
def apartW (x y : Wt) : Prop := ¬ (x.g = y.g ∧ x.c = y.c)
theorem hasW_false {L : List Wt} {g c : Int} : hasW L g c = false ↔ ∀ y ∈ L, ¬ (y.g = g ∧ y.c = c) := by
  unfold hasW
  rw [List.any_eq_false]
  constructor
  · intro h y hy he; have := h y hy; simp [he.1, he.2] at this
  · intro h y hy hh
    have := h y hy
    simp at hh; exact this hh
theorem pair_of_good {L : List Wt} (h : ∀ i x, i < L.length → L[i]? = some x → hasW (L.take i) x.g x.c = false) : L.Pairwise apartW := by
  rw [List.pairwise_iff_getElem]
  intro i j hi hj hij he
  have h1 := hasW_false.1 (h j L[j] hj (List.getElem?_eq_getElem hj)) L[i] (by
    have : (L.take j)[i]? = some L[i] := by rw [List.getElem?_take, if_pos hij, List.getElem?_eq_getElem hi]
    exact List.mem_of_getElem? this)
  exact h1 he
theorem good_of_pair {L : List Wt} (h : L.Pairwise apartW) : ∀ i x, i < L.length → L[i]? = some x → hasW (L.take i) x.g x.c = false := by
  intro i x hi hx
  rw [hasW_false]
  intro y hy he
  obtain ⟨j, hj, hjy⟩ := List.getElem_of_mem hy
  have hji : j < i := by simp at hj; omega
  rw [List.getElem_take] at hjy
  rw [List.pairwise_iff_getElem] at h
  have := h j i (by omega) hi hji
  rw [hjy] at this
  have e : L[i] = x := by rw [List.getElem?_eq_getElem hi] at hx; exact Option.some.inj hx
  rw [e] at this
  exact this he
theorem right_pair {L : List Wt} : rightW L = true ↔ L.length ≤ 64 ∧ (∀ x ∈ L, mayW x = true) ∧ L.Pairwise apartW := by
  rw [rightW_iff]
  constructor
  · rintro ⟨hl, hg⟩
    refine ⟨hl, fun x hx => ?_, pair_of_good fun i x hi hx => (hg i x hi hx).2⟩
    obtain ⟨i, hi, he⟩ := List.getElem_of_mem hx
    exact (hg i x hi (by rw [List.getElem?_eq_getElem hi, he])).1
  · rintro ⟨hl, hm, hp⟩
    exact ⟨hl, fun i x hi hx => ⟨hm x (List.mem_of_getElem? hx), good_of_pair hp i x hi hx⟩⟩
theorem right_filter {L : List Wt} (h : rightW L = true) (p : Wt → Bool) : rightW (L.filter p) = true := by
  obtain ⟨h1, h2, h3⟩ := right_pair.1 h
  refine right_pair.2 ⟨Nat.le_trans (List.length_filter_le _ _) h1, fun x hx => h2 x (List.mem_filter.1 hx).1, List.Pairwise.sublist List.filter_sublist h3⟩
theorem right_drop {L : List Wt} (h : rightW L = true) (g : Int) : rightW (dropW L g) = true := right_filter h _
theorem right_snoc {L : List Wt} {x : Wt} (h : rightW L = true) (hl : L.length < 64) (hm : mayW x = true) (hh : hasW L x.g x.c = false) : rightW (L ++ [x]) = true := by
  obtain ⟨h1, h2, h3⟩ := right_pair.1 h
  refine right_pair.2 ⟨by simp; omega, fun y hy => ?_, ?_⟩
  · rcases List.mem_append.1 hy with hy | hy
    · exact h2 y hy
    · simp at hy; rw [hy]; exact hm
  · rw [List.pairwise_append]
    refine ⟨h3, by simp, fun a ha b hb => ?_⟩
    simp at hb; subst hb
    exact hasW_false.1 hh a ha
theorem right_nil : rightW [] = true := right_pair.2 ⟨by simp, fun x hx => by simp at hx, List.Pairwise.nil⟩
theorem nodup_le : ∀ (n : Nat) (l : List Int), l.Nodup → (∀ x ∈ l, 0 ≤ x ∧ x < (n : Int)) → l.length ≤ n := by
  intro n
  induction n with
  | zero =>
    intro l _ h
    cases l with
    | nil => exact Nat.le_refl _
    | cons x xs => have := h x (by simp); omega
  | succ n ih =>
    intro l hn h
    have h1 := ih (l.erase (n : Int)) (hn.erase _) (fun x hx => by
      have hm := (List.Nodup.mem_erase_iff hn).1 hx
      have := h x hm.2
      have h2 := hm.1
      omega)
    have h2 : l.length ≤ (l.erase (n : Int)).length + 1 := by
      rw [List.length_erase]; split <;> omega
    omega
theorem Wts.grown {w w' : World} {a : Option Addr} {len cap : Nat} {L : List Wt} {row : Option Nat} (h : Wts w a len cap L) (hg : w.grownBy w' row) (hne : ∀ x, a = some x → some x.block ≠ row) : Wts w' a len cap L := by
  refine ⟨⟨h.recs.len_eq, h.recs.le_cap, h.recs.cap_le, h.recs.none_, fun i x hx => ?_⟩, h.ok⟩
  obtain ⟨b, off, e, hc⟩ := h.recs.cell i x hx
  refine ⟨b, off, e, fun j v hv => ?_⟩
  have h1 := hc j v hv
  have hlt := World.block_lt_of_cell? w _ h1
  have hb := hg.block b hlt (hne _ e)
  rw [← h1]
  simp [World.cell?, hb]
end Go.Proofs.Ytfolhgpbplfilaa
