/- First. -/
import Derived.Test.YtnmopfimmindnaaPush
namespace Go.Proofs.Ytnmopfimmindnaa
open Go.RowKit

def zeroW : Wt := ⟨0, 0, 0⟩
theorem Try.inf24 : (Try.prog.info? 26).map (·.size) = some 3 := by kernel_rfl
theorem wait_load {W : World} {B : Nat} {x : Wt} (h : Box3 W B x) : (loadVar 26 ⟨B, 0, none⟩).run Try.prog W = .ok (wV x) W :=
  run_loadVar_row W B 26 26 #[.int .i64 x.g, .int .i64 x.c, .int .i64 x.s] (0, 0) _ h Try.underlying26 (by kernel_rfl) Try.inf24
theorem wait_res {fn : Func} {p u : Tmp} (h : fn.results = #[.cell p 26, .tmp u]) (tmps : Array Value) {W : World} {B : Nat} {x : Wt} (hp : tmps.getD p undef = .pointer (some ⟨B, 0, none⟩)) (hg : Box3 W B x) :
    (results fn tmps).run Try.prog W = .ok (.tuple #[wV x, tmps.getD u undef]) W := by
  rw [results_cell_tmp h, hp]
  simp [asAddr, Result.andThen, wait_load hg]
def GotWait (w : World) (x : Wt) (why : Int) (e : Ending) (w' : World) : Prop := e = .returned (.tuple #[wV x, .int .i64 why]) ∧ Below w.heap.size w w'
abbrev set3 (W : World) (B : Nat) (x : Wt) : World := ((W.setCell ⟨B, 0, none⟩ (.int .i64 x.g)).setCell ⟨B, 1, none⟩ (.int .i64 x.c)).setCell ⟨B, 2, none⟩ (.int .i64 x.s)
theorem set_at {W : World} {B j : Nat} {cs : Array Value} {t : TypeId} (h : W.heap[B]? = some (.cells cs t (0, 0))) (v : Value) : (W.setCell ⟨B, j, none⟩ v).heap[B]? = some (.cells (cs.setIfInBounds j v) t (0, 0)) := by
  obtain ⟨hlt, hk⟩ := Array.getElem?_eq_some_iff.1 h
  show (W.heap.modify B _)[B]? = _
  rw [Array.getElem?_eq_getElem (by rw [Array.size_modify]; exact hlt), Array.getElem_modify_self, hk]
  rfl
theorem set3_at {W : World} {B : Nat} {y : Wt} (h : Box3 W B y) (x : Wt) : Box3 (set3 W B x) B x := by
  unfold set3 Box3
  rw [set_at (set_at (set_at h _) _) _]; rfl
theorem set3_below {w W : World} {n₀ B : Nat} (h : Below n₀ w W) (hB : n₀ ≤ B) (x : Wt) : Below n₀ w (set3 W B x) :=
  ((h.setCell (p := ⟨B, 0, none⟩) hB _).setCell (p := ⟨B, 1, none⟩) hB _).setCell (p := ⟨B, 2, none⟩) hB _

theorem zero3_at {W : World} {B : Nat} {y : Wt} (h : Box3 W B y) : Box3 (((W.setCell ⟨B, 0, none⟩ (.int .i64 0)).setCell ⟨B, 1, none⟩ (.int .i64 0)).setCell ⟨B, 2, none⟩ (.int .i64 0)) B zeroW := set3_at h zeroW
theorem zero3_below {w W : World} {n₀ B : Nat} (h : Below n₀ w W) (hB : n₀ ≤ B) : Below n₀ w (((W.setCell ⟨B, 0, none⟩ (.int .i64 0)).setCell ⟨B, 1, none⟩ (.int .i64 0)).setCell ⟨B, 2, none⟩ (.int .i64 0)) := set3_below h hB zeroW
theorem find_no {L : List Wt} {k : Nat} {p : Wt → Bool} (h : ∀ y ∈ L.take k, p y = false) (hk : L.length ≤ k) : L.find? p = none := by
  rw [List.find?_eq_none]
  intro y hy
  have := h y (by rw [List.take_of_length_le hk]; exact hy)
  simp [this]
theorem find_at {L : List Wt} {k : Nat} {x : Wt} {p : Wt → Bool} (h : ∀ y ∈ L.take k, p y = false) (hx : L[k]? = some x) (hp : p x = true) : L.find? p = some x := by
  have hs : L = L.take k ++ (x :: L.drop (k + 1)) := by
    obtain ⟨hlt, he⟩ := List.getElem?_eq_some_iff.1 hx
    rw [← he, ← List.drop_eq_getElem_cons hlt, List.take_append_drop]
  rw [hs, List.find?_append, List.find?_eq_none.2 (fun y hy => by simp [h y hy])]
  simp [hp]
def GotFirst (w : World) (o : Option Wt) (e : Ending) (w' : World) : Prop :=
  match o with
  | some x => GotWait w x 0 e w'
  | none => GotWait w zeroW 4 e w'
def firstW (L : List Wt) (b : Int) : Option Wt := L.find? (fun x => x.g != b)

end Go.Proofs.Ytnmopfimmindnaa
