/- For the walks of the laws. -/
import Derived.Test.YtejlnkneememoaaRef3
import Derived.Deep.DeepCutAuto
namespace Go.Proofs.Ytejlnkneememoaa
open Go.RowKit
def Says (w : World) (e : Ending) (w' : World) : Prop := e = .returned (.bool true) ∧ Below w.heap.size w w'
theorem refFirst_none (a : Option Addr) (len cap : Nat) (L : List Wt) (b : Int) (w : World) (hL : Wts w a len cap L) (h : firstW L b = none) :
    Calls Try.prog 20 #[.slice a len cap, .int .i64 b] w fun e w' => e = .returned (.int .i64 (-1)) ∧ Below w.heap.size w w' :=
  (refFirst_any a len cap L b w hL).mono fun e w' ⟨⟨i, he, hi⟩, hb⟩ => by
    rcases hi with ⟨rfl, _⟩ | ⟨k, x, _, _, _, hx⟩
    · exact ⟨he, hb⟩
    · rw [h] at hx; cases hx
theorem refFirst_some (a : Option Addr) (len cap : Nat) (L : List Wt) (b : Int) (y : Wt) (w : World) (hL : Wts w a len cap L) (h : firstW L b = some y) :
    Calls Try.prog 20 #[.slice a len cap, .int .i64 b] w fun e w' => ∃ k : Nat, e = .returned (.int .i64 k) ∧ k < len ∧ L[k]? = some y ∧ Below w.heap.size w w' :=
  (refFirst_any a len cap L b w hL).mono fun e w' ⟨⟨i, he, hi⟩, hb⟩ => by
    rcases hi with ⟨_, hx⟩ | ⟨k, x, rfl, hk, hkx, hx⟩
    · rw [h] at hx; cases hx
    · rw [h] at hx; cases hx; exact ⟨k, he, hk, hkx, hb⟩
theorem heap_two (w : World) (A B : Obj) : ((w.alloc A).alloc B).heap[w.heap.size + 1]? = some B := by
  have := heap_alloc_new (w.alloc A) B
  rwa [World.size_alloc] at this
theorem box3_grown {W W' : World} {B : Nat} {x : Wt} {row : Option Nat} (h : Box3 W B x) (hg : W.drew.grownBy W' row) (hlt : B < W.heap.size) (hne : some B ≠ row) : Box3 W' B x := (hg.block B hlt hne).trans h
end Go.Proofs.Ytejlnkneememoaa
