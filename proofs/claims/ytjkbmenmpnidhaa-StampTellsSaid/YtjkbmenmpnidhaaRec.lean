/- Slices of structs of k one-cell fields, as they are read, and of the call's own. -/
import Derived.Test.YtjkbmenmpnidhaaBase
import Derived.Laws.AppendOwnNone
import Derived.ArgAppend
namespace Go.Proofs.Ytjkbmenmpnidhaa
open Go.RowKit
set_option linter.unusedSimpArgs false
set_option linter.unusedVariables false

/-- THE SLICE (a, len, cap) OF STRUCTS OF k CELLS READS AS THE LIST L IN THE WORLD w. -/
structure Recs {α : Type} (k : Nat) (enc : α → List Value) (w : World) (a : Option Addr) (len cap : Nat) (L : List α) : Prop where
  len_eq : L.length = len
  le_cap : len ≤ cap
  cap_le : cap ≤ maxLen
  none_ : a = none → cap = 0
  cell : ∀ i x, L[i]? = some x → ∃ b off, a = some ⟨b, off, none⟩ ∧ ∀ j v, (enc x)[j]? = some v → w.cell? ⟨b, off + i * k + j, none⟩ = some v
section
variable {α : Type} {k : Nat} {enc : α → List Value}
theorem Recs.nil (w : World) : Recs k enc w none 0 0 [] := ⟨rfl, Nat.le_refl _, by decide, fun _ => rfl, fun i x h => by simp at h⟩
theorem Recs.below {w w' : World} {a : Option Addr} {len cap : Nat} {L : List α} (h : Recs k enc w a len cap L) (hb : Below w.heap.size w w') : Recs k enc w' a len cap L :=
  ⟨h.len_eq, h.le_cap, h.cap_le, h.none_, fun i x hx => by
    obtain ⟨b, off, e, hc⟩ := h.cell i x hx
    exact ⟨b, off, e, fun j v hv => (hb.cell (World.block_lt_of_cell? w _ (hc j v hv))).trans (hc j v hv)⟩⟩
theorem Recs.len_le {w : World} {a : Option Addr} {len cap : Nat} {L : List α} (h : Recs k enc w a len cap L) : len ≤ 9223372036854775807 := by
  have h1 := h.le_cap; have h2 := h.cap_le; unfold maxLen at h2; omega
theorem Recs.take {w : World} {a : Option Addr} {len cap : Nat} {L : List α} (h : Recs k enc w a len cap L) (n : Nat) : Recs k enc w a (min len n) cap (L.take n) := by
  refine ⟨by rw [List.length_take, h.len_eq]; omega, Nat.le_trans (Nat.min_le_left _ _) h.le_cap, h.cap_le, h.none_, fun i x hx => ?_⟩
  rw [List.getElem?_take] at hx
  split at hx
  · exact h.cell i x hx
  · simp at hx
/-- the cells of one element -/
theorem Recs.at {w : World} {a : Option Addr} {len cap : Nat} {L : List α} (h : Recs k enc w a len cap L) (i : Nat) (hi : i < len) : ∃ x b off, L[i]? = some x ∧ a = some ⟨b, off, none⟩ ∧ ∀ j v, (enc x)[j]? = some v → w.cell? ⟨b, off + i * k + j, none⟩ = some v := by
  have hx : L[i]? = some (L[i]'(by rw [h.len_eq]; exact hi)) := List.getElem?_eq_getElem _
  obtain ⟨b, off, e, hc⟩ := h.cell i _ hx
  exact ⟨_, b, off, hx, e, hc⟩

theorem flat_at (hk : ∀ x, (enc x).length = k) (L : List α) (i j : Nat) (x : α) (hx : L[i]? = some x) (hj : j < k) : (L.flatMap enc)[i * k + j]? = (enc x)[j]? := by
  induction L generalizing i with
  | nil => simp at hx
  | cons y ys ih =>
    rw [List.flatMap_cons]
    cases i with
    | zero =>
      simp at hx; subst hx
      rw [Nat.zero_mul, Nat.zero_add, List.getElem?_append_left (by rw [hk]; exact hj)]
    | succ i =>
      rw [List.getElem?_append_right (by rw [hk, Nat.add_mul]; omega), hk]
      rw [show (i + 1) * k + j - k = i * k + j by rw [Nat.add_mul]; omega]
      exact ih i (by simpa using hx)
theorem flat_len (hk : ∀ x, (enc x).length = k) (L : List α) : (L.flatMap enc).length = L.length * k := by
  induction L with
  | nil => simp
  | cons y ys ih => rw [List.flatMap_cons, List.length_append, ih, hk, List.length_cons, Nat.add_mul]; omega

/-- what a slice of such structs of the call's own is -/
def OwnR (e k : Nat) (enc : α → List Value) (w : World) (base : Nat) (v : Value) (L : List α) : Prop := w.ownsRow base e k v L.length (L.flatMap enc)
theorem OwnR.recs {e : Nat} (hk : ∀ x, (enc x).length = k) {w : World} {base : Nat} {v : Value} {L : List α} (h : OwnR e k enc w base v L) :
    ∃ a cap, v = .slice a L.length cap ∧ Recs k enc w a L.length cap L := by
  rcases h.2 with ⟨hv, hn⟩ | ⟨g, cap, cur, hv, hg, hh, hnc, hcm, hcs, htake⟩
  · have : L = [] := List.eq_nil_of_length_eq_zero hn
    subst this
    exact ⟨none, 0, hv, Recs.nil w⟩
  · refine ⟨_, cap, hv, rfl, hnc, hcm, fun h => by simp at h, fun i x hx => ⟨g, 0, rfl, fun j u hj => ?_⟩⟩
    have hjk : j < k := by have := (List.getElem?_eq_some_iff.1 hj).1; rwa [hk] at this
    have hil : i < L.length := (List.getElem?_eq_some_iff.1 hx).1
    rw [Nat.zero_add, cell_of_row w g _ _ e (0, 0) hh]
    have hlt : i * k + j < L.length * k := by
      have : (i + 1) * k ≤ L.length * k := Nat.mul_le_mul_right _ hil
      rw [Nat.add_mul] at this; omega
    have e1 : cur[i * k + j]? = (cur.toList.take (L.length * k))[i * k + j]? := by
      rw [List.getElem?_take, if_pos hlt]; simp
    rw [e1, htake, flat_at hk L i j x hx hjk, hj]
theorem OwnR.lt {e : Nat} {w : World} {base : Nat} {v : Value} {L : List α} (h : OwnR e k enc w base v L) : ∀ r, v.ownBlock = some r → base ≤ r := fun r hr => (World.ownsRow.lt h r hr).1
theorem OwnR.below {e : Nat} {w w' : World} {base : Nat} {v : Value} {L : List α} (h : OwnR e k enc w base v L) (hb : Below w.heap.size w w') : OwnR e k enc w' base v L := by
  refine ⟨h.1, ?_⟩
  rcases h.2 with h0 | ⟨g, cap, cur, hv, hg, hh, r⟩
  · exact .inl h0
  · exact .inr ⟨g, cap, cur, hv, hg, (hb.block _ (Array.getElem?_eq_some_iff.1 hh).1).trans hh, r⟩
end
theorem below_alloc (w : World) (o : Obj) : Below w.heap.size w (w.alloc o) := (Below.refl _ _).alloc (Nat.le_refl _) o
theorem belowX_alloc {X w : World} (h : Below X.heap.size X w) (o : Obj) : Below X.heap.size X (w.alloc o) := h.alloc h.size o
theorem _root_.Go.World.ownsRow.mono' {w : World} {base base' e k : Nat} {v : Value} {n : Nat} {xs : List Value} (h : w.ownsRow base e k v n xs) (hb : base' ≤ base) : w.ownsRow base' e k v n xs := by
  refine ⟨h.1, ?_⟩
  rcases h.2 with h0 | ⟨g, cap, cur, hv, hg, r⟩
  · exact .inl h0
  · exact .inr ⟨g, cap, cur, hv, Nat.le_trans hb hg, r⟩
end Go.Proofs.Ytjkbmenmpnidhaa
