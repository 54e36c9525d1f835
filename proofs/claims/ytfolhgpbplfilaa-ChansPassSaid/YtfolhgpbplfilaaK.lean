/- Blocks of structs; channels at work. -/
import Derived.Test.YtfolhgpbplfilaaCh
import Derived.Laws.ResultCell
namespace Go.Proofs.Ytfolhgpbplfilaa
open Go.RowKit

/-- a block that holds just these cells -/
def Bx (W : World) (B : Nat) (cs : Array Value) (t : TypeId) : Prop := W.heap[B]? = some (.cells cs t (0, 0))
theorem Bx.below {W W' : World} {B : Nat} {cs : Array Value} {t : TypeId} (h : Bx W B cs t) (hb : Below W.heap.size W W') : Bx W' B cs t := (hb.block _ (Array.getElem?_eq_some_iff.1 h).1).trans h
theorem Bx.lt {W : World} {B : Nat} {cs : Array Value} {t : TypeId} (h : Bx W B cs t) : B < W.heap.size := (Array.getElem?_eq_some_iff.1 h).1
theorem Bx.new (W : World) (cs : Array Value) (t : TypeId) : Bx (W.alloc (.cells cs t)) W.heap.size cs t := heap_alloc_new W _
theorem Bx.new2 (w : World) (A : Obj) (cs : Array Value) (t : TypeId) : Bx ((w.alloc A).alloc (.cells cs t)) (w.heap.size + 1) cs t := heap_two w A _
theorem Bx.new3 (w : World) (A A2 : Obj) (cs : Array Value) (t : TypeId) : Bx (((w.alloc A).alloc A2).alloc (.cells cs t)) (w.heap.size + 2) cs t := by
  have := heap_two (w.alloc A) A2 (.cells cs t)
  rwa [World.size_alloc] at this
theorem Bx.new4 (w : World) (A A2 A3 : Obj) (cs : Array Value) (t : TypeId) : Bx ((((w.alloc A).alloc A2).alloc A3).alloc (.cells cs t)) (w.heap.size + 3) cs t := by
  have := Bx.new3 (w.alloc A) A2 A3 cs t
  rwa [World.size_alloc] at this
theorem Bx.cell {W : World} {B : Nat} {cs : Array Value} {t : TypeId} (h : Bx W B cs t) (j : Nat) {v : Value} (hv : cs[j]? = some v) : W.cell? ⟨B, j, none⟩ = some v := (cell_of_row W B j cs t (0, 0) h).trans hv
theorem Bx.froz {W : World} {B : Nat} {cs : Array Value} {t : TypeId} (h : Bx W B cs t) (j : Nat) : W.frozen? ⟨B, j, none⟩ = false := by unfold Bx at h; simp [World.frozen?, h]
theorem Bx.load {W : World} {B : Nat} {cs : Array Value} {t ty : TypeId} {fs : _} (h : Bx W B cs t) (hu : Try.prog.underlying ty = some (.struct fs)) (hi : (Try.prog.info? ty).map (·.size) = some cs.size) : (loadVar ty ⟨B, 0, none⟩).run Try.prog W = .ok (.agg cs) W :=
  run_loadVar_row W B t ty cs (0, 0) _ h hu rfl hi
theorem Bx.set {W : World} {B : Nat} {cs : Array Value} {t : TypeId} (h : Bx W B cs t) (j : Nat) (v : Value) : Bx (W.setCell ⟨B, j, none⟩ v) B (cs.setIfInBounds j v) t := set_at h v
theorem Bx.other {W W' : World} {B : Nat} {cs : Array Value} {t : TypeId} (h : Bx W B cs t) {row : Option Nat} (hg : W.grownBy W' row) (hne : some B ≠ row) : Bx W' B cs t := (hg.block B h.lt hne).trans h

theorem Bx.cells3 {W : World} {B : Nat} {x0 x1 x2 : Value} {t : TypeId} (h : Bx W B #[x0, x1, x2] t) : W.cell? ⟨B, 0, none⟩ = some x0 ∧ W.cell? ⟨B, 1, none⟩ = some x1 ∧ W.cell? ⟨B, 2, none⟩ = some x2 := ⟨h.cell 0 rfl, h.cell 1 rfl, h.cell 2 rfl⟩
theorem Bx.cells4 {W : World} {B : Nat} {x0 x1 x2 x3 : Value} {t : TypeId} (h : Bx W B #[x0, x1, x2, x3] t) : W.cell? ⟨B, 0, none⟩ = some x0 ∧ W.cell? ⟨B, 1, none⟩ = some x1 ∧ W.cell? ⟨B, 2, none⟩ = some x2 ∧ W.cell? ⟨B, 3, none⟩ = some x3 := ⟨h.cell 0 rfl, h.cell 1 rfl, h.cell 2 rfl, h.cell 3 rfl⟩
theorem Bx.cells6 {W : World} {B : Nat} {x0 x1 x2 x3 x4 x5 : Value} {t : TypeId} (h : Bx W B #[x0, x1, x2, x3, x4, x5] t) : W.cell? ⟨B, 0, none⟩ = some x0 ∧ W.cell? ⟨B, 1, none⟩ = some x1 ∧ W.cell? ⟨B, 2, none⟩ = some x2 ∧ W.cell? ⟨B, 3, none⟩ = some x3 ∧ W.cell? ⟨B, 4, none⟩ = some x4 ∧ W.cell? ⟨B, 5, none⟩ = some x5 := ⟨h.cell 0 rfl, h.cell 1 rfl, h.cell 2 rfl, h.cell 3 rfl, h.cell 4 rfl, h.cell 5 rfl⟩
theorem Bx.cells10 {W : World} {B : Nat} {x0 x1 x2 x3 x4 x5 x6 x7 x8 x9 : Value} {t : TypeId} (h : Bx W B #[x0, x1, x2, x3, x4, x5, x6, x7, x8, x9] t) : W.cell? ⟨B, 0, none⟩ = some x0 ∧ W.cell? ⟨B, 1, none⟩ = some x1 ∧ W.cell? ⟨B, 2, none⟩ = some x2 ∧ W.cell? ⟨B, 3, none⟩ = some x3 ∧ W.cell? ⟨B, 4, none⟩ = some x4 ∧ W.cell? ⟨B, 5, none⟩ = some x5 ∧ W.cell? ⟨B, 6, none⟩ = some x6 ∧ W.cell? ⟨B, 7, none⟩ = some x7 ∧ W.cell? ⟨B, 8, none⟩ = some x8 ∧ W.cell? ⟨B, 9, none⟩ = some x9 := ⟨h.cell 0 rfl, h.cell 1 rfl, h.cell 2 rfl, h.cell 3 rfl, h.cell 4 rfl, h.cell 5 rfl, h.cell 6 rfl, h.cell 7 rfl, h.cell 8 rfl, h.cell 9 rfl⟩
theorem Bx.cells13 {W : World} {B : Nat} {x0 x1 x2 x3 x4 x5 x6 x7 x8 x9 x10 x11 x12 : Value} {t : TypeId} (h : Bx W B #[x0, x1, x2, x3, x4, x5, x6, x7, x8, x9, x10, x11, x12] t) : W.cell? ⟨B, 0, none⟩ = some x0 ∧ W.cell? ⟨B, 1, none⟩ = some x1 ∧ W.cell? ⟨B, 2, none⟩ = some x2 ∧ W.cell? ⟨B, 3, none⟩ = some x3 ∧ W.cell? ⟨B, 4, none⟩ = some x4 ∧ W.cell? ⟨B, 5, none⟩ = some x5 ∧ W.cell? ⟨B, 6, none⟩ = some x6 ∧ W.cell? ⟨B, 7, none⟩ = some x7 ∧ W.cell? ⟨B, 8, none⟩ = some x8 ∧ W.cell? ⟨B, 9, none⟩ = some x9 ∧ W.cell? ⟨B, 10, none⟩ = some x10 ∧ W.cell? ⟨B, 11, none⟩ = some x11 ∧ W.cell? ⟨B, 12, none⟩ = some x12 := ⟨h.cell 0 rfl, h.cell 1 rfl, h.cell 2 rfl, h.cell 3 rfl, h.cell 4 rfl, h.cell 5 rfl, h.cell 6 rfl, h.cell 7 rfl, h.cell 8 rfl, h.cell 9 rfl, h.cell 10 rfl, h.cell 11 rfl, h.cell 12 rfl⟩
theorem grow_setCell (w : World) (b i : Nat) (v : Value) : w.grownBy (w.setCell ⟨b, i, none⟩ v) (some b) :=
  ⟨((Below.refl 0 w).setCell (p := ⟨b, i, none⟩) (Nat.zero_le _) v).os, ((Below.refl 0 w).setCell (p := ⟨b, i, none⟩) (Nat.zero_le _) v).tape, ((Below.refl 0 w).setCell (p := ⟨b, i, none⟩) (Nat.zero_le _) v).output, ((Below.refl 0 w).setCell (p := ⟨b, i, none⟩) (Nat.zero_le _) v).size, fun k _ hne => Below.heap_setCell _ _ _ _ (fun e => hne (by rw [e]))⟩
theorem grow_set {a w : World} {b : Nat} (h : a.grownBy w (some b)) (i : Nat) (v : Value) : a.grownBy (w.setCell ⟨b, i, none⟩ v) (some b) := h.trans (grow_setCell w b i v)
theorem grow_below {a w w' : World} {row : Option Nat} (h : a.grownBy w row) (hb : Below w.heap.size w w') : a.grownBy w' row :=
  h.trans ⟨hb.os, hb.tape, hb.output, hb.size, fun k hk _ => hb.block k hk⟩
theorem grow_alloc {a w : World} {row : Option Nat} (h : a.grownBy w row) (o : Obj) : a.grownBy (w.alloc o) row := h.trans (World.grownBy_alloc w o row)

abbrev st6 (W : World) (B : Nat) (v0 v1 v2 v3 v4 v5 : Value) : World := (((((W.setCell ⟨B, 0, none⟩ v0).setCell ⟨B, 1, none⟩ v1).setCell ⟨B, 2, none⟩ v2).setCell ⟨B, 3, none⟩ v3).setCell ⟨B, 4, none⟩ v4).setCell ⟨B, 5, none⟩ v5
theorem Bx.st6 {W : World} {B : Nat} {x0 x1 x2 x3 x4 x5 : Value} {t : TypeId} (h : Bx W B #[x0, x1, x2, x3, x4, x5] t) (v0 v1 v2 v3 v4 v5 : Value) : Bx (st6 W B v0 v1 v2 v3 v4 v5) B #[v0, v1, v2, v3, v4, v5] t := by
  show Bx ((((((W.setCell ⟨B, 0, none⟩ v0).setCell ⟨B, 1, none⟩ v1).setCell ⟨B, 2, none⟩ v2).setCell ⟨B, 3, none⟩ v3).setCell ⟨B, 4, none⟩ v4).setCell ⟨B, 5, none⟩ v5) B _ t
  have h0 : Bx (W.setCell ⟨B, 0, none⟩ v0) B #[v0, x1, x2, x3, x4, x5] t := h.set 0 v0
  generalize W.setCell ⟨B, 0, none⟩ v0 = W0 at h0 ⊢
  have h1 : Bx (W0.setCell ⟨B, 1, none⟩ v1) B #[v0, v1, x2, x3, x4, x5] t := h0.set 1 v1
  generalize W0.setCell ⟨B, 1, none⟩ v1 = W1 at h1 ⊢
  have h2 : Bx (W1.setCell ⟨B, 2, none⟩ v2) B #[v0, v1, v2, x3, x4, x5] t := h1.set 2 v2
  generalize W1.setCell ⟨B, 2, none⟩ v2 = W2 at h2 ⊢
  have h3 : Bx (W2.setCell ⟨B, 3, none⟩ v3) B #[v0, v1, v2, v3, x4, x5] t := h2.set 3 v3
  generalize W2.setCell ⟨B, 3, none⟩ v3 = W3 at h3 ⊢
  have h4 : Bx (W3.setCell ⟨B, 4, none⟩ v4) B #[v0, v1, v2, v3, v4, x5] t := h3.set 4 v4
  generalize W3.setCell ⟨B, 4, none⟩ v4 = W4 at h4 ⊢
  have h5 : Bx (W4.setCell ⟨B, 5, none⟩ v5) B #[v0, v1, v2, v3, v4, v5] t := h4.set 5 v5
  exact h5
theorem below_st6 {w W : World} {n₀ B : Nat} (h : Below n₀ w W) (hB : n₀ ≤ B) (v0 v1 v2 v3 v4 v5 : Value) : Below n₀ w (st6 W B v0 v1 v2 v3 v4 v5) :=
  ((((((h.setCell (p := ⟨B, 0, none⟩) hB _).setCell (p := ⟨B, 1, none⟩) hB _).setCell (p := ⟨B, 2, none⟩) hB _).setCell (p := ⟨B, 3, none⟩) hB _).setCell (p := ⟨B, 4, none⟩) hB _).setCell (p := ⟨B, 5, none⟩) hB _)
theorem st6_other (W : World) (B : Nat) (v0 v1 v2 v3 v4 v5 : Value) (g : Nat) (hg : g ≠ B) : (st6 W B v0 v1 v2 v3 v4 v5).heap[g]? = W.heap[g]? := by
  show ((((((W.setCell ⟨B, 0, none⟩ v0).setCell ⟨B, 1, none⟩ v1).setCell ⟨B, 2, none⟩ v2).setCell ⟨B, 3, none⟩ v3).setCell ⟨B, 4, none⟩ v4).setCell ⟨B, 5, none⟩ v5).heap[g]? = _
  iterate 6 rw [Below.heap_setCell _ _ _ _ (by exact hg)]
theorem grown_st6 {w W : World} {B : Nat} (h : w.grownBy W (some B)) (v0 v1 v2 v3 v4 v5 : Value) : w.grownBy (st6 W B v0 v1 v2 v3 v4 v5) (some B) :=
  (grow_set (grow_set (grow_set (grow_set (grow_set (grow_set h 0 _) 1 _) 2 _) 3 _) 4 _) 5 _)
abbrev st10 (W : World) (B : Nat) (v0 v1 v2 v3 v4 v5 v6 v7 v8 v9 : Value) : World := (((((((((W.setCell ⟨B, 0, none⟩ v0).setCell ⟨B, 1, none⟩ v1).setCell ⟨B, 2, none⟩ v2).setCell ⟨B, 3, none⟩ v3).setCell ⟨B, 4, none⟩ v4).setCell ⟨B, 5, none⟩ v5).setCell ⟨B, 6, none⟩ v6).setCell ⟨B, 7, none⟩ v7).setCell ⟨B, 8, none⟩ v8).setCell ⟨B, 9, none⟩ v9
theorem Bx.st10 {W : World} {B : Nat} {x0 x1 x2 x3 x4 x5 x6 x7 x8 x9 : Value} {t : TypeId} (h : Bx W B #[x0, x1, x2, x3, x4, x5, x6, x7, x8, x9] t) (v0 v1 v2 v3 v4 v5 v6 v7 v8 v9 : Value) : Bx (st10 W B v0 v1 v2 v3 v4 v5 v6 v7 v8 v9) B #[v0, v1, v2, v3, v4, v5, v6, v7, v8, v9] t := by
  show Bx ((((((((((W.setCell ⟨B, 0, none⟩ v0).setCell ⟨B, 1, none⟩ v1).setCell ⟨B, 2, none⟩ v2).setCell ⟨B, 3, none⟩ v3).setCell ⟨B, 4, none⟩ v4).setCell ⟨B, 5, none⟩ v5).setCell ⟨B, 6, none⟩ v6).setCell ⟨B, 7, none⟩ v7).setCell ⟨B, 8, none⟩ v8).setCell ⟨B, 9, none⟩ v9) B _ t
  have h0 : Bx (W.setCell ⟨B, 0, none⟩ v0) B #[v0, x1, x2, x3, x4, x5, x6, x7, x8, x9] t := h.set 0 v0
  generalize W.setCell ⟨B, 0, none⟩ v0 = W0 at h0 ⊢
  have h1 : Bx (W0.setCell ⟨B, 1, none⟩ v1) B #[v0, v1, x2, x3, x4, x5, x6, x7, x8, x9] t := h0.set 1 v1
  generalize W0.setCell ⟨B, 1, none⟩ v1 = W1 at h1 ⊢
  have h2 : Bx (W1.setCell ⟨B, 2, none⟩ v2) B #[v0, v1, v2, x3, x4, x5, x6, x7, x8, x9] t := h1.set 2 v2
  generalize W1.setCell ⟨B, 2, none⟩ v2 = W2 at h2 ⊢
  have h3 : Bx (W2.setCell ⟨B, 3, none⟩ v3) B #[v0, v1, v2, v3, x4, x5, x6, x7, x8, x9] t := h2.set 3 v3
  generalize W2.setCell ⟨B, 3, none⟩ v3 = W3 at h3 ⊢
  have h4 : Bx (W3.setCell ⟨B, 4, none⟩ v4) B #[v0, v1, v2, v3, v4, x5, x6, x7, x8, x9] t := h3.set 4 v4
  generalize W3.setCell ⟨B, 4, none⟩ v4 = W4 at h4 ⊢
  have h5 : Bx (W4.setCell ⟨B, 5, none⟩ v5) B #[v0, v1, v2, v3, v4, v5, x6, x7, x8, x9] t := h4.set 5 v5
  generalize W4.setCell ⟨B, 5, none⟩ v5 = W5 at h5 ⊢
  have h6 : Bx (W5.setCell ⟨B, 6, none⟩ v6) B #[v0, v1, v2, v3, v4, v5, v6, x7, x8, x9] t := h5.set 6 v6
  generalize W5.setCell ⟨B, 6, none⟩ v6 = W6 at h6 ⊢
  have h7 : Bx (W6.setCell ⟨B, 7, none⟩ v7) B #[v0, v1, v2, v3, v4, v5, v6, v7, x8, x9] t := h6.set 7 v7
  generalize W6.setCell ⟨B, 7, none⟩ v7 = W7 at h7 ⊢
  have h8 : Bx (W7.setCell ⟨B, 8, none⟩ v8) B #[v0, v1, v2, v3, v4, v5, v6, v7, v8, x9] t := h7.set 8 v8
  generalize W7.setCell ⟨B, 8, none⟩ v8 = W8 at h8 ⊢
  have h9 : Bx (W8.setCell ⟨B, 9, none⟩ v9) B #[v0, v1, v2, v3, v4, v5, v6, v7, v8, v9] t := h8.set 9 v9
  exact h9
theorem below_st10 {w W : World} {n₀ B : Nat} (h : Below n₀ w W) (hB : n₀ ≤ B) (v0 v1 v2 v3 v4 v5 v6 v7 v8 v9 : Value) : Below n₀ w (st10 W B v0 v1 v2 v3 v4 v5 v6 v7 v8 v9) :=
  ((((((((((h.setCell (p := ⟨B, 0, none⟩) hB _).setCell (p := ⟨B, 1, none⟩) hB _).setCell (p := ⟨B, 2, none⟩) hB _).setCell (p := ⟨B, 3, none⟩) hB _).setCell (p := ⟨B, 4, none⟩) hB _).setCell (p := ⟨B, 5, none⟩) hB _).setCell (p := ⟨B, 6, none⟩) hB _).setCell (p := ⟨B, 7, none⟩) hB _).setCell (p := ⟨B, 8, none⟩) hB _).setCell (p := ⟨B, 9, none⟩) hB _)
theorem st10_other (W : World) (B : Nat) (v0 v1 v2 v3 v4 v5 v6 v7 v8 v9 : Value) (g : Nat) (hg : g ≠ B) : (st10 W B v0 v1 v2 v3 v4 v5 v6 v7 v8 v9).heap[g]? = W.heap[g]? := by
  show ((((((((((W.setCell ⟨B, 0, none⟩ v0).setCell ⟨B, 1, none⟩ v1).setCell ⟨B, 2, none⟩ v2).setCell ⟨B, 3, none⟩ v3).setCell ⟨B, 4, none⟩ v4).setCell ⟨B, 5, none⟩ v5).setCell ⟨B, 6, none⟩ v6).setCell ⟨B, 7, none⟩ v7).setCell ⟨B, 8, none⟩ v8).setCell ⟨B, 9, none⟩ v9).heap[g]? = _
  iterate 10 rw [Below.heap_setCell _ _ _ _ (by exact hg)]
theorem grown_st10 {w W : World} {B : Nat} (h : w.grownBy W (some B)) (v0 v1 v2 v3 v4 v5 v6 v7 v8 v9 : Value) : w.grownBy (st10 W B v0 v1 v2 v3 v4 v5 v6 v7 v8 v9) (some B) :=
  (grow_set (grow_set (grow_set (grow_set (grow_set (grow_set (grow_set (grow_set (grow_set (grow_set h 0 _) 1 _) 2 _) 3 _) 4 _) 5 _) 6 _) 7 _) 8 _) 9 _)
abbrev rg4 (W : World) (B : Nat) (v0 v1 v2 v3 : Value) : World := (((W.setCell ⟨B, 2, none⟩ v0).setCell ⟨B, 3, none⟩ v1).setCell ⟨B, 4, none⟩ v2).setCell ⟨B, 5, none⟩ v3
theorem Bx.rg4 {W : World} {B : Nat} {x0 x1 x2 x3 x4 x5 x6 x7 x8 x9 x10 x11 x12 : Value} {t : TypeId} (h : Bx W B #[x0, x1, x2, x3, x4, x5, x6, x7, x8, x9, x10, x11, x12] t) (v0 v1 v2 v3 : Value) : Bx (rg4 W B v0 v1 v2 v3) B #[x0, x1, v0, v1, v2, v3, x6, x7, x8, x9, x10, x11, x12] t := by
  show Bx ((((W.setCell ⟨B, 2, none⟩ v0).setCell ⟨B, 3, none⟩ v1).setCell ⟨B, 4, none⟩ v2).setCell ⟨B, 5, none⟩ v3) B _ t
  have h0 : Bx (W.setCell ⟨B, 2, none⟩ v0) B #[x0, x1, v0, x3, x4, x5, x6, x7, x8, x9, x10, x11, x12] t := h.set 2 v0
  generalize W.setCell ⟨B, 2, none⟩ v0 = W0 at h0 ⊢
  have h1 : Bx (W0.setCell ⟨B, 3, none⟩ v1) B #[x0, x1, v0, v1, x4, x5, x6, x7, x8, x9, x10, x11, x12] t := h0.set 3 v1
  generalize W0.setCell ⟨B, 3, none⟩ v1 = W1 at h1 ⊢
  have h2 : Bx (W1.setCell ⟨B, 4, none⟩ v2) B #[x0, x1, v0, v1, v2, x5, x6, x7, x8, x9, x10, x11, x12] t := h1.set 4 v2
  generalize W1.setCell ⟨B, 4, none⟩ v2 = W2 at h2 ⊢
  have h3 : Bx (W2.setCell ⟨B, 5, none⟩ v3) B #[x0, x1, v0, v1, v2, v3, x6, x7, x8, x9, x10, x11, x12] t := h2.set 5 v3
  exact h3
theorem below_rg4 {w W : World} {n₀ B : Nat} (h : Below n₀ w W) (hB : n₀ ≤ B) (v0 v1 v2 v3 : Value) : Below n₀ w (rg4 W B v0 v1 v2 v3) :=
  ((((h.setCell (p := ⟨B, 2, none⟩) hB _).setCell (p := ⟨B, 3, none⟩) hB _).setCell (p := ⟨B, 4, none⟩) hB _).setCell (p := ⟨B, 5, none⟩) hB _)
theorem rg4_other (W : World) (B : Nat) (v0 v1 v2 v3 : Value) (g : Nat) (hg : g ≠ B) : (rg4 W B v0 v1 v2 v3).heap[g]? = W.heap[g]? := by
  show ((((W.setCell ⟨B, 2, none⟩ v0).setCell ⟨B, 3, none⟩ v1).setCell ⟨B, 4, none⟩ v2).setCell ⟨B, 5, none⟩ v3).heap[g]? = _
  iterate 4 rw [Below.heap_setCell _ _ _ _ (by exact hg)]
theorem grown_rg4 {w W : World} {B : Nat} (h : w.grownBy W (some B)) (v0 v1 v2 v3 : Value) : w.grownBy (rg4 W B v0 v1 v2 v3) (some B) :=
  (grow_set (grow_set (grow_set (grow_set h 2 _) 3 _) 4 _) 5 _)
abbrev ch10 (W : World) (B : Nat) (v0 v1 v2 v3 v4 v5 v6 v7 v8 v9 : Value) : World := (((((((((W.setCell ⟨B, 0, none⟩ v0).setCell ⟨B, 1, none⟩ v1).setCell ⟨B, 2, none⟩ v2).setCell ⟨B, 3, none⟩ v3).setCell ⟨B, 4, none⟩ v4).setCell ⟨B, 5, none⟩ v5).setCell ⟨B, 6, none⟩ v6).setCell ⟨B, 7, none⟩ v7).setCell ⟨B, 8, none⟩ v8).setCell ⟨B, 9, none⟩ v9
theorem Bx.ch10 {W : World} {B : Nat} {x0 x1 x2 x3 x4 x5 x6 x7 x8 x9 x10 x11 x12 : Value} {t : TypeId} (h : Bx W B #[x0, x1, x2, x3, x4, x5, x6, x7, x8, x9, x10, x11, x12] t) (v0 v1 v2 v3 v4 v5 v6 v7 v8 v9 : Value) : Bx (ch10 W B v0 v1 v2 v3 v4 v5 v6 v7 v8 v9) B #[v0, v1, v2, v3, v4, v5, v6, v7, v8, v9, x10, x11, x12] t := by
  show Bx ((((((((((W.setCell ⟨B, 0, none⟩ v0).setCell ⟨B, 1, none⟩ v1).setCell ⟨B, 2, none⟩ v2).setCell ⟨B, 3, none⟩ v3).setCell ⟨B, 4, none⟩ v4).setCell ⟨B, 5, none⟩ v5).setCell ⟨B, 6, none⟩ v6).setCell ⟨B, 7, none⟩ v7).setCell ⟨B, 8, none⟩ v8).setCell ⟨B, 9, none⟩ v9) B _ t
  have h0 : Bx (W.setCell ⟨B, 0, none⟩ v0) B #[v0, x1, x2, x3, x4, x5, x6, x7, x8, x9, x10, x11, x12] t := h.set 0 v0
  generalize W.setCell ⟨B, 0, none⟩ v0 = W0 at h0 ⊢
  have h1 : Bx (W0.setCell ⟨B, 1, none⟩ v1) B #[v0, v1, x2, x3, x4, x5, x6, x7, x8, x9, x10, x11, x12] t := h0.set 1 v1
  generalize W0.setCell ⟨B, 1, none⟩ v1 = W1 at h1 ⊢
  have h2 : Bx (W1.setCell ⟨B, 2, none⟩ v2) B #[v0, v1, v2, x3, x4, x5, x6, x7, x8, x9, x10, x11, x12] t := h1.set 2 v2
  generalize W1.setCell ⟨B, 2, none⟩ v2 = W2 at h2 ⊢
  have h3 : Bx (W2.setCell ⟨B, 3, none⟩ v3) B #[v0, v1, v2, v3, x4, x5, x6, x7, x8, x9, x10, x11, x12] t := h2.set 3 v3
  generalize W2.setCell ⟨B, 3, none⟩ v3 = W3 at h3 ⊢
  have h4 : Bx (W3.setCell ⟨B, 4, none⟩ v4) B #[v0, v1, v2, v3, v4, x5, x6, x7, x8, x9, x10, x11, x12] t := h3.set 4 v4
  generalize W3.setCell ⟨B, 4, none⟩ v4 = W4 at h4 ⊢
  have h5 : Bx (W4.setCell ⟨B, 5, none⟩ v5) B #[v0, v1, v2, v3, v4, v5, x6, x7, x8, x9, x10, x11, x12] t := h4.set 5 v5
  generalize W4.setCell ⟨B, 5, none⟩ v5 = W5 at h5 ⊢
  have h6 : Bx (W5.setCell ⟨B, 6, none⟩ v6) B #[v0, v1, v2, v3, v4, v5, v6, x7, x8, x9, x10, x11, x12] t := h5.set 6 v6
  generalize W5.setCell ⟨B, 6, none⟩ v6 = W6 at h6 ⊢
  have h7 : Bx (W6.setCell ⟨B, 7, none⟩ v7) B #[v0, v1, v2, v3, v4, v5, v6, v7, x8, x9, x10, x11, x12] t := h6.set 7 v7
  generalize W6.setCell ⟨B, 7, none⟩ v7 = W7 at h7 ⊢
  have h8 : Bx (W7.setCell ⟨B, 8, none⟩ v8) B #[v0, v1, v2, v3, v4, v5, v6, v7, v8, x9, x10, x11, x12] t := h7.set 8 v8
  generalize W7.setCell ⟨B, 8, none⟩ v8 = W8 at h8 ⊢
  have h9 : Bx (W8.setCell ⟨B, 9, none⟩ v9) B #[v0, v1, v2, v3, v4, v5, v6, v7, v8, v9, x10, x11, x12] t := h8.set 9 v9
  exact h9
theorem below_ch10 {w W : World} {n₀ B : Nat} (h : Below n₀ w W) (hB : n₀ ≤ B) (v0 v1 v2 v3 v4 v5 v6 v7 v8 v9 : Value) : Below n₀ w (ch10 W B v0 v1 v2 v3 v4 v5 v6 v7 v8 v9) :=
  ((((((((((h.setCell (p := ⟨B, 0, none⟩) hB _).setCell (p := ⟨B, 1, none⟩) hB _).setCell (p := ⟨B, 2, none⟩) hB _).setCell (p := ⟨B, 3, none⟩) hB _).setCell (p := ⟨B, 4, none⟩) hB _).setCell (p := ⟨B, 5, none⟩) hB _).setCell (p := ⟨B, 6, none⟩) hB _).setCell (p := ⟨B, 7, none⟩) hB _).setCell (p := ⟨B, 8, none⟩) hB _).setCell (p := ⟨B, 9, none⟩) hB _)
theorem ch10_other (W : World) (B : Nat) (v0 v1 v2 v3 v4 v5 v6 v7 v8 v9 : Value) (g : Nat) (hg : g ≠ B) : (ch10 W B v0 v1 v2 v3 v4 v5 v6 v7 v8 v9).heap[g]? = W.heap[g]? := by
  show ((((((((((W.setCell ⟨B, 0, none⟩ v0).setCell ⟨B, 1, none⟩ v1).setCell ⟨B, 2, none⟩ v2).setCell ⟨B, 3, none⟩ v3).setCell ⟨B, 4, none⟩ v4).setCell ⟨B, 5, none⟩ v5).setCell ⟨B, 6, none⟩ v6).setCell ⟨B, 7, none⟩ v7).setCell ⟨B, 8, none⟩ v8).setCell ⟨B, 9, none⟩ v9).heap[g]? = _
  iterate 10 rw [Below.heap_setCell _ _ _ _ (by exact hg)]
theorem grown_ch10 {w W : World} {B : Nat} (h : w.grownBy W (some B)) (v0 v1 v2 v3 v4 v5 v6 v7 v8 v9 : Value) : w.grownBy (ch10 W B v0 v1 v2 v3 v4 v5 v6 v7 v8 v9) (some B) :=
  (grow_set (grow_set (grow_set (grow_set (grow_set (grow_set (grow_set (grow_set (grow_set (grow_set h 0 _) 1 _) 2 _) 3 _) 4 _) 5 _) 6 _) 7 _) 8 _) 9 _)
abbrev wh3 (W : World) (B : Nat) (v0 v1 v2 : Value) : World := ((W.setCell ⟨B, 2, none⟩ v0).setCell ⟨B, 3, none⟩ v1).setCell ⟨B, 4, none⟩ v2
theorem Bx.wh3 {W : World} {B : Nat} {x0 x1 x2 x3 x4 x5 : Value} {t : TypeId} (h : Bx W B #[x0, x1, x2, x3, x4, x5] t) (v0 v1 v2 : Value) : Bx (wh3 W B v0 v1 v2) B #[x0, x1, v0, v1, v2, x5] t := by
  show Bx (((W.setCell ⟨B, 2, none⟩ v0).setCell ⟨B, 3, none⟩ v1).setCell ⟨B, 4, none⟩ v2) B _ t
  have h0 : Bx (W.setCell ⟨B, 2, none⟩ v0) B #[x0, x1, v0, x3, x4, x5] t := h.set 2 v0
  generalize W.setCell ⟨B, 2, none⟩ v0 = W0 at h0 ⊢
  have h1 : Bx (W0.setCell ⟨B, 3, none⟩ v1) B #[x0, x1, v0, v1, x4, x5] t := h0.set 3 v1
  generalize W0.setCell ⟨B, 3, none⟩ v1 = W1 at h1 ⊢
  have h2 : Bx (W1.setCell ⟨B, 4, none⟩ v2) B #[x0, x1, v0, v1, v2, x5] t := h1.set 4 v2
  exact h2
theorem below_wh3 {w W : World} {n₀ B : Nat} (h : Below n₀ w W) (hB : n₀ ≤ B) (v0 v1 v2 : Value) : Below n₀ w (wh3 W B v0 v1 v2) :=
  (((h.setCell (p := ⟨B, 2, none⟩) hB _).setCell (p := ⟨B, 3, none⟩) hB _).setCell (p := ⟨B, 4, none⟩) hB _)
theorem wh3_other (W : World) (B : Nat) (v0 v1 v2 : Value) (g : Nat) (hg : g ≠ B) : (wh3 W B v0 v1 v2).heap[g]? = W.heap[g]? := by
  show (((W.setCell ⟨B, 2, none⟩ v0).setCell ⟨B, 3, none⟩ v1).setCell ⟨B, 4, none⟩ v2).heap[g]? = _
  iterate 3 rw [Below.heap_setCell _ _ _ _ (by exact hg)]
theorem grown_wh3 {w W : World} {B : Nat} (h : w.grownBy W (some B)) (v0 v1 v2 : Value) : w.grownBy (wh3 W B v0 v1 v2) (some B) :=
  (grow_set (grow_set (grow_set h 2 _) 3 _) 4 _)

structure Out where
  kind : Int
  no : Int
  who : Wt
  other : Int
abbrev outC (o : Out) : Array Value := #[.int .i64 o.kind, .int .i64 o.no, .int .i64 o.who.g, .int .i64 o.who.c, .int .i64 o.who.s, .int .i64 o.other]
abbrev outV (o : Out) : Value := .agg (outC o)
def OutOk (o : Out) : Prop := I64 o.kind ∧ I64 o.no ∧ WtOk o.who ∧ I64 o.other
/-- nobody else is told of -/
def aloneO (k : Int) : Out := ⟨k, 0, ⟨-1, 0, 0⟩, 0⟩
def zeroO : Out := ⟨0, 0, ⟨0, 0, 0⟩, 0⟩
def zeroC : Chn := ⟨0, false, 0, 0, [], 0, 0, 0, [], []⟩
def zeroA : CAt := ⟨none, 0, 0, none, 0, 0, none, 0, 0⟩
theorem Cha.zero (w : World) : Cha w zeroC zeroA := by
  unfold zeroC zeroA
  refine ⟨?_, ?_, ?_, ?_, ?_, ?_, Ints.nil w, Wts.nil w, Wts.nil w⟩ <;> exact ⟨by simp, by simp⟩
theorem infC : (Try.prog.info? 27).map (·.size) = some 10 := by kernel_rfl
theorem infO : (Try.prog.info? 50).map (·.size) = some 6 := by kernel_rfl
theorem infW : (Try.prog.info? 61).map (·.size) = some 13 := by kernel_rfl
theorem infR : (Try.prog.info? 24).map (·.size) = some 4 := by kernel_rfl
abbrev wkC (c : Chn) (q : CAt) (x : Wt) : Array Value := #[.int .i64 c.cap, .bool c.cl, .int .i64 c.rc, .int .i64 c.rf, .slice q.za q.zn q.zc, .int .i64 c.rk, .int .i64 c.sent, .int .i64 c.got, .slice q.sa q.sn q.sc, .slice q.ra q.rn q.rq, .int .i64 x.g, .int .i64 x.c, .int .i64 x.s]
/-- the lists lie elsewhere than in one block -/
structure Ap (q : CAt) (B : Nat) : Prop where
  az : ∀ y, q.za = some y → 0 < q.zn → y.block ≠ B
  asn : ∀ y, q.sa = some y → 0 < q.sn → y.block ≠ B
  ar : ∀ y, q.ra = some y → 0 < q.rn → y.block ≠ B
/-- A CHANNEL AT WORK: a block that holds it and who is at it; its lists lie elsewhere -/
structure Wk (W : World) (B : Nat) (c : Chn) (q : CAt) (x : Wt) : Prop where
  box : Bx W B (wkC c q x) 61
  ch : Cha W c q
  ap : Ap q B
theorem Wk.below {W W' : World} {B : Nat} {c : Chn} {q : CAt} {x : Wt} (h : Wk W B c q x) (hb : Below W.heap.size W W') : Wk W' B c q x := ⟨h.box.below hb, h.ch.below hb, h.ap⟩
theorem Wts.other {w w' : World} {a : Option Addr} {len cap : Nat} {L : List Wt} (h : Wts w a len cap L) {B : Nat} (hne : ∀ y, a = some y → 0 < len → y.block ≠ B) (hg : w.grownBy w' (some B)) : Wts w' a len cap L := by
  refine ⟨⟨h.recs.len_eq, h.recs.le_cap, h.recs.cap_le, h.recs.none_, fun i x hx => ?_⟩, h.ok⟩
  obtain ⟨b, off, e, hc⟩ := h.recs.cell i x hx
  have hl : 0 < len := by have := (List.getElem?_eq_some_iff.1 hx).1; rw [h.recs.len_eq] at this; omega
  refine ⟨b, off, e, fun j v hv => ?_⟩
  exact hg.cell (hc j v hv) (fun e2 => hne _ e hl (by simpa using e2))
theorem Ints.other {w w' : World} {a : Option Addr} {len cap : Nat} {L : List Int} (h : Ints w a len cap L) {B : Nat} (hne : ∀ y, a = some y → 0 < len → y.block ≠ B) (hg : w.grownBy w' (some B)) : Ints w' a len cap L := by
  refine ⟨h.len_eq, h.le_cap, h.cap_le, h.none_, h.bound, fun i hi => ?_⟩
  obtain ⟨b, off, e, hc⟩ := h.cell i hi
  exact ⟨b, off, e, hg.cell hc (fun e2 => hne _ e (by omega) (by simpa using e2))⟩
theorem Cha.other {w w' : World} {c : Chn} {q : CAt} (h : Cha w c q) {B : Nat} (ap : Ap q B) (hg : w.grownBy w' (some B)) : Cha w' c q :=
  ⟨h.cap, h.rc, h.rf, h.rk, h.sent, h.got, h.zs.other ap.az hg, h.sends.other ap.asn hg, h.recvs.other ap.ar hg⟩
/-- lists that lay ahead of the block lie elsewhere -/
theorem wts_apart {w : World} {a : Option Addr} {len cap : Nat} {L : List Wt} (h : Wts w a len cap L) {B : Nat} (hB : w.heap.size ≤ B) : ∀ y, a = some y → 0 < len → y.block ≠ B := by
  intro y e hl he
  obtain ⟨x, b, off, hx, _, ha, c0, _⟩ := h.at 0 hl
  rw [ha] at e; cases e
  have := World.block_lt_of_cell? _ _ c0
  simp at this he; omega
theorem ints_apart {w : World} {a : Option Addr} {len cap : Nat} {L : List Int} (h : Ints w a len cap L) {B : Nat} (hB : w.heap.size ≤ B) : ∀ y, a = some y → 0 < len → y.block ≠ B := by
  intro y e hl he
  obtain ⟨b, off, ha, c0⟩ := h.cell 0 hl
  rw [ha] at e; cases e
  have := World.block_lt_of_cell? _ _ c0
  simp at this he; omega
theorem Cha.ap {w : World} {c : Chn} {q : CAt} (h : Cha w c q) {B : Nat} (hB : w.heap.size ≤ B) : Ap q B := ⟨ints_apart h.zs hB, wts_apart h.sends hB, wts_apart h.recvs hB⟩
/-- lists that are apart from a block that was there stay so -/
def Keeps (w : World) (q q' : CAt) : Prop := ∀ Bo, Bo < w.heap.size → Ap q Bo → Ap q' Bo
theorem Keeps.refl (w : World) (q : CAt) : Keeps w q q := fun _ _ h => h
theorem Keeps.trans {w w' : World} {q q' q'' : CAt} (h : Keeps w q q') (k : Keeps w' q' q'') (hs : w.heap.size ≤ w'.heap.size) : Keeps w q q'' := fun Bo hB hA => k Bo (Nat.lt_of_lt_of_le hB hs) (h Bo hB hA)
/-- what a call answers that works at the channel in block B -/
def Did (w : World) (B : Nat) (q : CAt) (x : Wt) (c : Chn) (r : Value) (e : Ending) (w' : World) : Prop := ∃ q', e = .returned r ∧ Wk w' B c q' x ∧ w.grownBy w' (some B) ∧ Keeps w q q'
theorem grow_local {a b c : World} {B Bo : Nat} (h : a.grownBy b (some B)) (k : b.grownBy c (some Bo)) (ho : a.heap.size ≤ Bo) : a.grownBy c (some B) := h.andThen k (fun j hj => .inl (by cases hj; exact ho))
end Go.Proofs.Ytfolhgpbplfilaa
