/- Drop. -/
import Derived.Test.YtnmopfimmindnaaFirst
namespace Go.Proofs.Ytnmopfimmindnaa
open Go.RowKit

theorem box3_two (w : World) (A : Obj) (x : Wt) : Box3 ((w.alloc A).alloc (.cells #[.int .i64 x.g, .int .i64 x.c, .int .i64 x.s] 26)) (w.heap.size + 1) x := by
  have := Box3.new (w.alloc A) x
  rwa [World.size_alloc] at this
def dropW (L : List Wt) (g : Int) : List Wt := L.filter (fun x => x.g != g)
theorem dropW_snoc (L : List Wt) (x : Wt) (g : Int) : dropW (L ++ [x]) g = if (x.g != g) = true then dropW L g ++ [x] else dropW L g := by
  unfold dropW
  rw [List.filter_append]
  by_cases h : (x.g != g) = true
  · rw [if_pos h]; simp [List.filter_cons, h]
  · rw [if_neg h]; simp at h; simp [List.filter_cons, h]
theorem dropW_len (L : List Wt) (g : Int) : (dropW L g).length ≤ L.length := List.length_filter_le _ _

end Go.Proofs.Ytnmopfimmindnaa
