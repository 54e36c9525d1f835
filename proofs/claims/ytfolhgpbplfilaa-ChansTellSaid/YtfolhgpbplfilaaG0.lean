/- ChansTell: the walk. -/
import Derived.Test.YtfolhgpbplfilaaF2
import Derived.Test.YtfolhgpbplfilaaF3
import Derived.Test.YtfolhgpbplfilaaF4
import Derived.Test.YtfolhgpbplfilaaLawCloses
namespace Go.Proofs.Ytfolhgpbplfilaa
open Go.RowKit
theorem right_closed {c : Chn} (h : rightC c = true) : rightC (closedC c) = true := by
  unfold closedC
  split
  · exact h
  · rename_i hp; exact (right_close h (by simpa using hp)).1
theorem same_new {n : Int} (h : -1 ≤ n) (h3 : n ≤ 3) : SameC (newC n) (newC n) := same_refl (right_newC n h h3)
end Go.Proofs.Ytfolhgpbplfilaa
