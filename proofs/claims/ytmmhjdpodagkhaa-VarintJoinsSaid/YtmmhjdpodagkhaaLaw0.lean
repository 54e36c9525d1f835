/- What the laws' walks share. -/
import Derived.Test.YtmmhjdpodagkhaaEvery
namespace Go.Proofs.Ytmmhjdpodagkhaa
open Go.RowKit

def Says (w : World) (e : Ending) (w' : World) : Prop := e = .returned (.bool true) ∧ Below w.heap.size w w'
theorem refput4 (n : Int) (w : World) (h0 : 0 ≤ n) (h1 : n ≤ 2147483647) : Calls Try.prog 15 #[.int .i64 n] w (StrTo w (strOf (putL n))) :=
  refput_any 4 n w h0 (by show n < (34359738368 : Int); omega) (by omega)
theorem foldZ_bd {n : Int} (h0 : -1073741824 ≤ n) (h1 : n < 1073741824) : 0 ≤ foldZ n ∧ foldZ n ≤ 2147483647 := by
  unfold foldZ; split <;> omega
end Go.Proofs.Ytmmhjdpodagkhaa
