/- Waits as plain data. -/
import Derived.Test.YtfolhgpbplfilaaSeen
namespace Go.Proofs.Ytfolhgpbplfilaa
open Go.RowKit

structure Wt where
  g : Int
  c : Int
  s : Int
  deriving DecidableEq
def wcells (x : Wt) : List Value := [.int .i64 x.g, .int .i64 x.c, .int .i64 x.s]
theorem wcells_len (x : Wt) : (wcells x).length = 3 := rfl
abbrev wV (x : Wt) : Value := .agg #[.int .i64 x.g, .int .i64 x.c, .int .i64 x.s]
def WtOk (x : Wt) : Prop := I64 x.g ∧ I64 x.c ∧ I64 x.s
/-- A SLICE OF WAITS -/
structure Wts (w : World) (a : Option Addr) (len cap : Nat) (L : List Wt) : Prop where
  recs : Recs 3 wcells w a len cap L
  ok : ∀ x ∈ L, WtOk x
theorem Wts.below {w w' : World} {a : Option Addr} {len cap : Nat} {L : List Wt} (h : Wts w a len cap L) (hb : Below w.heap.size w w') : Wts w' a len cap L := ⟨h.recs.below hb, h.ok⟩
theorem Wts.take {w : World} {a : Option Addr} {len cap : Nat} {L : List Wt} (h : Wts w a len cap L) (n : Nat) : Wts w a (min len n) cap (L.take n) := ⟨h.recs.take n, fun x hx => h.ok x (List.mem_of_mem_take hx)⟩
theorem Wts.nil (w : World) : Wts w none 0 0 [] := ⟨Recs.nil w, fun x h => by simp at h⟩
/-- the cells of one -/
theorem Wts.at {w : World} {a : Option Addr} {len cap : Nat} {L : List Wt} (h : Wts w a len cap L) (i : Nat) (hi : i < len) :
    ∃ x b off, L[i]? = some x ∧ WtOk x ∧ a = some ⟨b, off, none⟩ ∧ w.cell? ⟨b, off + i * 3, none⟩ = some (.int .i64 x.g) ∧ w.cell? ⟨b, off + i * 3 + 1, none⟩ = some (.int .i64 x.c) ∧ w.cell? ⟨b, off + i * 3 + 2, none⟩ = some (.int .i64 x.s) := by
  obtain ⟨x, b, off, hx, ha, hc⟩ := h.recs.at i hi
  exact ⟨x, b, off, hx, h.ok x (List.mem_of_getElem? hx), ha, hc 0 _ rfl, hc 1 _ rfl, hc 2 _ rfl⟩

def mayW (x : Wt) : Bool := decide (0 ≤ x.g ∧ 0 ≤ x.c ∧ 0 ≤ x.s)
def hasW (L : List Wt) (g c : Int) : Bool := L.any fun x => x.g == g && x.c == c
theorem hasW_snoc (L : List Wt) (x : Wt) (g c : Int) : hasW (L ++ [x]) g c = (hasW L g c || (x.g == g && x.c == c)) := by simp [hasW]
/-- up to the k-th one all may be, and no two are of one goroutine and case -/
def GoodUpto (L : List Wt) (k : Nat) : Prop := ∀ i x, i < k → L[i]? = some x → mayW x = true ∧ hasW (L.take i) x.g x.c = false
open Classical in
noncomputable def rightW (L : List Wt) : Bool := decide (L.length ≤ 64 ∧ GoodUpto L L.length)
open Classical in
theorem rightW_long {L : List Wt} (h : 64 < L.length) : rightW L = false := by simp [rightW]; omega
open Classical in
theorem rightW_bad {L : List Wt} {i : Nat} {x : Wt} (hx : L[i]? = some x) (h : ¬ (mayW x = true ∧ hasW (L.take i) x.g x.c = false)) : rightW L = false := by
  rw [rightW, decide_eq_false_iff_not]
  exact fun hg => h (hg.2 i x (List.getElem?_eq_some_iff.1 hx).1 hx)
open Classical in
theorem rightW_good {L : List Wt} (hl : L.length ≤ 64) (h : GoodUpto L L.length) : rightW L = true := by
  rw [rightW, decide_eq_true_eq]; exact ⟨hl, h⟩
open Classical in
theorem rightW_iff {L : List Wt} : rightW L = true ↔ L.length ≤ 64 ∧ GoodUpto L L.length := by rw [rightW, decide_eq_true_eq]
theorem good_succ {L : List Wt} {k : Nat} {x : Wt} (h : GoodUpto L k) (hx : L[k]? = some x) (h1 : mayW x = true) (h2 : hasW (L.take k) x.g x.c = false) : GoodUpto L (k + 1) := by
  intro i y hi hy
  by_cases e : i = k
  · subst e; rw [hx] at hy; cases hy; exact ⟨h1, h2⟩
  · exact h i y (by omega) hy
theorem take_snoc' {α : Type} {L : List α} {k : Nat} {x : α} (hx : L[k]? = some x) : L.take (k + 1) = L.take k ++ [x] := by
  rw [List.take_add_one, hx]; rfl
/-- a wait in a block of its own -/
def Box3 (W : World) (B : Nat) (x : Wt) : Prop := W.heap[B]? = some (.cells #[.int .i64 x.g, .int .i64 x.c, .int .i64 x.s] 48 (0, 0))
theorem Box3.below {W W' : World} {B : Nat} {x : Wt} (h : Box3 W B x) (hb : Below W.heap.size W W') : Box3 W' B x := (hb.block _ (Array.getElem?_eq_some_iff.1 h).1).trans h
theorem Box3.lt {W : World} {B : Nat} {x : Wt} (h : Box3 W B x) : B < W.heap.size := (Array.getElem?_eq_some_iff.1 h).1
theorem Box3.cells {W : World} {B : Nat} {x : Wt} (h : Box3 W B x) : W.cell? ⟨B, 0, none⟩ = some (.int .i64 x.g) ∧ W.cell? ⟨B, 1, none⟩ = some (.int .i64 x.c) ∧ W.cell? ⟨B, 2, none⟩ = some (.int .i64 x.s) :=
  ⟨(cell_of_row W B 0 _ 48 (0, 0) h).trans rfl, (cell_of_row W B 1 _ 48 (0, 0) h).trans rfl, (cell_of_row W B 2 _ 48 (0, 0) h).trans rfl⟩
theorem Box3.froz {W : World} {B : Nat} {x : Wt} (h : Box3 W B x) : W.frozen? ⟨B, 0, none⟩ = false ∧ W.frozen? ⟨B, 1, none⟩ = false ∧ W.frozen? ⟨B, 2, none⟩ = false := by
  unfold Box3 at h
  refine ⟨?_, ?_, ?_⟩ <;> simp [World.frozen?, h]
theorem Box3.new (W : World) (x : Wt) : Box3 (W.alloc (.cells #[.int .i64 x.g, .int .i64 x.c, .int .i64 x.s] 48)) W.heap.size x := heap_alloc_new W _
end Go.Proofs.Ytfolhgpbplfilaa
