/- Slices of events; boxes. -/
import Derived.Test.YtjkbmenmpnidhaaA0
import Derived.Test.YtjkbmenmpnidhaaRec
import Derived.Deep.DeepCutAuto
import Derived.Deep.RegionHeld
import Derived.Laws.ResultCell
namespace Go.Proofs.Ytjkbmenmpnidhaa
open Go.RowKit
set_option linter.unusedSimpArgs false
set_option linter.unusedVariables false
def Bx (W : World) (B : Nat) (cs : Array Value) (t : TypeId) : Prop := W.heap[B]? = some (.cells cs t (0, 0))
theorem Bx.below {W W' : World} {B : Nat} {cs : Array Value} {t : TypeId} (h : Bx W B cs t) (hb : Below W.heap.size W W') : Bx W' B cs t := (hb.block _ (Array.getElem?_eq_some_iff.1 h).1).trans h
theorem Bx.lt {W : World} {B : Nat} {cs : Array Value} {t : TypeId} (h : Bx W B cs t) : B < W.heap.size := (Array.getElem?_eq_some_iff.1 h).1
theorem Bx.new (W : World) (cs : Array Value) (t : TypeId) : Bx (W.alloc (.cells cs t)) W.heap.size cs t := heap_alloc_new W _
theorem Bx.new2 (w : World) (A : Obj) (cs : Array Value) (t : TypeId) : Bx ((w.alloc A).alloc (.cells cs t)) (w.heap.size + 1) cs t := by
  have := heap_alloc_new (w.alloc A) (.cells cs t)
  rwa [World.size_alloc] at this
theorem Bx.cell {W : World} {B : Nat} {cs : Array Value} {t : TypeId} (h : Bx W B cs t) (j : Nat) {v : Value} (hv : cs[j]? = some v) : W.cell? ⟨B, j, none⟩ = some v := (cell_of_row W B j cs t (0, 0) h).trans hv
theorem Bx.froz {W : World} {B : Nat} {cs : Array Value} {t : TypeId} (h : Bx W B cs t) (j : Nat) : W.frozen? ⟨B, j, none⟩ = false := by unfold Bx at h; simp [World.frozen?, h]
theorem set_at {W : World} {B j : Nat} {cs : Array Value} {t : TypeId} (h : W.heap[B]? = some (.cells cs t (0, 0))) (v : Value) : (W.setCell ⟨B, j, none⟩ v).heap[B]? = some (.cells (cs.setIfInBounds j v) t (0, 0)) := by
  obtain ⟨hlt, hk⟩ := Array.getElem?_eq_some_iff.1 h
  show (W.heap.modify B _)[B]? = _
  rw [Array.getElem?_eq_getElem (by rw [Array.size_modify]; exact hlt), Array.getElem_modify_self, hk]
  rfl
theorem Bx.set {W : World} {B : Nat} {cs : Array Value} {t : TypeId} (h : Bx W B cs t) (j : Nat) (v : Value) : Bx (W.setCell ⟨B, j, none⟩ v) B (cs.setIfInBounds j v) t := set_at h v
theorem Bx.other {W W' : World} {B : Nat} {cs : Array Value} {t : TypeId} (h : Bx W B cs t) {row : Option Nat} (hg : W.grownBy W' row) (hne : some B ≠ row) : Bx W' B cs t := (hg.block B h.lt hne).trans h
theorem grow_setCell (w : World) (b i : Nat) (v : Value) : w.grownBy (w.setCell ⟨b, i, none⟩ v) (some b) :=
  ⟨((Below.refl 0 w).setCell (p := ⟨b, i, none⟩) (Nat.zero_le _) v).os, ((Below.refl 0 w).setCell (p := ⟨b, i, none⟩) (Nat.zero_le _) v).tape, ((Below.refl 0 w).setCell (p := ⟨b, i, none⟩) (Nat.zero_le _) v).output, ((Below.refl 0 w).setCell (p := ⟨b, i, none⟩) (Nat.zero_le _) v).size, fun k hk hne => Below.heap_setCell _ _ _ _ (fun e => hne (by rw [e]))⟩
theorem Bx.cells5 {W : World} {B : Nat} {x0 x1 x2 x3 x4 : Value} {t : TypeId} (h : Bx W B #[x0, x1, x2, x3, x4] t) : W.cell? ⟨B, 0, none⟩ = some x0 ∧ W.cell? ⟨B, 1, none⟩ = some x1 ∧ W.cell? ⟨B, 2, none⟩ = some x2 ∧ W.cell? ⟨B, 3, none⟩ = some x3 ∧ W.cell? ⟨B, 4, none⟩ = some x4 := ⟨Bx.cell h 0 rfl, Bx.cell h 1 rfl, Bx.cell h 2 rfl, Bx.cell h 3 rfl, Bx.cell h 4 rfl⟩
theorem Bx.cells2 {W : World} {B : Nat} {x0 x1 : Value} {t : TypeId} (h : Bx W B #[x0, x1] t) : W.cell? ⟨B, 0, none⟩ = some x0 ∧ W.cell? ⟨B, 1, none⟩ = some x1 := ⟨Bx.cell h 0 rfl, Bx.cell h 1 rfl⟩
theorem some_ne {a b : Nat} (h : a ≠ b) : some a ≠ some b := fun e => h (by cases e; rfl)
theorem cell_lt {w : World} {a : Addr} {v : Value} (h : w.cell? a = some v) : a.block < w.heap.size := by
  rcases Nat.lt_or_ge a.block w.heap.size with h' | h'
  · exact h'
  · simp [World.cell?, Array.getElem?_eq_none h'] at h
def encE (x : Ev) : List Value := [.int .i64 x.g, .int .i64 x.kind, .int .i64 x.obj, .int .i64 x.no, .int .i64 x.start]
abbrev evC (x : Ev) : Array Value := #[.int .i64 x.g, .int .i64 x.kind, .int .i64 x.obj, .int .i64 x.no, .int .i64 x.start]
abbrev evV (x : Ev) : Value := .agg (evC x)
theorem encE_len (x : Ev) : (encE x).length = 5 := rfl
def EvOk (x : Ev) : Prop := I64 x.g ∧ I64 x.kind ∧ I64 x.obj ∧ I64 x.no ∧ I64 x.start
structure Evs (w : World) (a : Option Addr) (len cap : Nat) (L : List Ev) : Prop where
  recs : Recs 5 encE w a len cap L
  ok : ∀ x ∈ L, EvOk x
theorem Evs.below {w w' : World} {a : Option Addr} {len cap : Nat} {L : List Ev} (h : Evs w a len cap L) (hb : Below w.heap.size w w') : Evs w' a len cap L := ⟨h.recs.below hb, h.ok⟩
theorem Evs.take {w : World} {a : Option Addr} {len cap : Nat} {L : List Ev} (h : Evs w a len cap L) (n : Nat) : Evs w a (min len n) cap (L.take n) := ⟨h.recs.take n, fun x hx => h.ok x (List.mem_of_mem_take hx)⟩
theorem Evs.nil (w : World) : Evs w none 0 0 [] := ⟨Recs.nil w, fun x h => by simp at h⟩
theorem Evs.at {w : World} {a : Option Addr} {len cap : Nat} {L : List Ev} (h : Evs w a len cap L) (i : Nat) (hi : i < len) :
    ∃ b off, EvOk (evAt L i) ∧ a = some ⟨b, off, none⟩ ∧ w.cell? ⟨b, off + i * 5, none⟩ = some (.int .i64 (evAt L i).g) ∧ w.cell? ⟨b, off + i * 5 + 1, none⟩ = some (.int .i64 (evAt L i).kind) ∧ w.cell? ⟨b, off + i * 5 + 2, none⟩ = some (.int .i64 (evAt L i).obj) ∧ w.cell? ⟨b, off + i * 5 + 3, none⟩ = some (.int .i64 (evAt L i).no) ∧ w.cell? ⟨b, off + i * 5 + 4, none⟩ = some (.int .i64 (evAt L i).start) := by
  obtain ⟨x, b, off, hx, ha, hc⟩ := h.recs.at i hi
  have e : evAt L i = x := by unfold evAt; rw [List.getD_eq_getElem?_getD, hx]; rfl
  rw [e]
  exact ⟨b, off, h.ok x (List.mem_of_getElem? hx), ha, hc 0 _ rfl, hc 1 _ rfl, hc 2 _ rfl, hc 3 _ rfl, hc 4 _ rfl⟩
def BoolTo (w : World) (b : Bool) (e : Ending) (w' : World) : Prop := e = .returned (.bool b) ∧ Below w.heap.size w w'
def IntTo (w : World) (n : Int) (e : Ending) (w' : World) : Prop := e = .returned (.int .i64 n) ∧ Below w.heap.size w w'
theorem ne_facts {a b : Int} (h : ¬ a = b) : (a == b) = false ∧ (a != b) = true := by
  have e : (a == b) = false := by rw [beq_eq_false_iff_ne]; exact h
  exact ⟨e, by simp [e, bne]⟩
theorem eq_facts {a b : Int} (h : a = b) : (a == b) = true ∧ (a != b) = false := by
  have e : (a == b) = true := by rw [beq_iff_eq]; exact h
  exact ⟨e, by simp [e, bne]⟩
end Go.Proofs.Ytjkbmenmpnidhaa
