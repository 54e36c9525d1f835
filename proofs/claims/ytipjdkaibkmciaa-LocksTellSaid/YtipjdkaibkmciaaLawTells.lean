/- LocksTell: all cases. -/
import Derived.Test.YtipjdkaibkmciaaLawTellsbad
import Derived.Test.YtipjdkaibkmciaaLawTellsfb
import Derived.Test.YtipjdkaibkmciaaLawTellsfm
import Derived.Test.YtipjdkaibkmciaaLawTellshnb
import Derived.Test.YtipjdkaibkmciaaLawTellshnm
import Derived.Test.YtipjdkaibkmciaaLawTellshcb
import Derived.Test.YtipjdkaibkmciaaLawTellshcm
namespace Go.Proofs.Ytipjdkaibkmciaa
open Go.RowKit
theorem tells_any (h : Bool) (a : Option Addr) (len cap : Nat) (L0 : List Wt) (x : Wt) (w : World) (hL : Wts w a len cap L0) (hx : WtOk x) :
    Calls Try.prog 3 #[lkV h a len cap, wV x] w (Says w) := by
  have h70 := hL.take 70
  have hlc := hL.recs.le_cap
  have hcc := hL.recs.cap_le
  obtain ⟨L, hLe⟩ : ∃ L, L = L0.take 70 := ⟨_, rfl⟩
  obtain ⟨l2, hl2⟩ : ∃ n, n = min len 70 := ⟨_, rfl⟩
  rw [← hLe, ← hl2] at h70
  clear hLe
  cases hr : rightK h L with
  | false => exact tells_bad h a len l2 cap L x w hl2 h70 hlc hcc hx hr
  | true =>
    cases hm : mayW x
    all_goals cases h
    · exact tells_fb a len l2 cap L x w hl2 h70 hlc hcc hx hr hm
    · cases L with
      | nil => exact tells_hnb a len l2 cap x w hl2 h70 hlc hcc hx hr hm
      | cons y ys => exact tells_hcb a len l2 cap y ys x w hl2 h70 hlc hcc hx hr hm
    · exact tells_fm a len l2 cap L x w hl2 h70 hlc hcc hx hr hm
    · cases L with
      | nil => exact tells_hnm a len l2 cap x w hl2 h70 hlc hcc hx hr hm
      | cons y ys => exact tells_hcm a len l2 cap y ys x w hl2 h70 hlc hcc hx hr hm
end Go.Proofs.Ytipjdkaibkmciaa
