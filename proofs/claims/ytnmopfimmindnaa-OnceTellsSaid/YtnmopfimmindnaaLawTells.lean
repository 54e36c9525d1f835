/- OnceTells: all cases. -/
import Derived.Test.YtnmopfimmindnaaLawTellsbad
import Derived.Test.YtnmopfimmindnaaLawTellsnegb
import Derived.Test.YtnmopfimmindnaaLawTellsnegm
import Derived.Test.YtnmopfimmindnaaLawTellsnob
import Derived.Test.YtnmopfimmindnaaLawTellsnom
import Derived.Test.YtnmopfimmindnaaLawTellsokb
import Derived.Test.YtnmopfimmindnaaLawTellsokm
namespace Go.Proofs.Ytnmopfimmindnaa
open Go.RowKit
theorem tells_any (st by_ : Int) (a : Option Addr) (len cap : Nat) (L0 : List Wt) (x : Wt) (g : Int) (w : World) (hL : Wts w a len cap L0) (hsI : I64 st) (hbI : I64 by_) (hx : WtOk x) (hgI : I64 g) :
    Calls Try.prog 3 #[onV st by_ a len cap, wV x, .int .i64 g] w (Says w) := by
  have h70 := hL.take 70
  have hlc := hL.recs.le_cap
  have hcc := hL.recs.cap_le
  obtain ⟨L, hLe⟩ : ∃ L, L = L0.take 70 := ⟨_, rfl⟩
  obtain ⟨l2, hl2⟩ : ∃ n, n = min len 70 := ⟨_, rfl⟩
  rw [← hLe, ← hl2] at h70
  clear hLe
  cases hr : rightO st by_ L with
  | false => exact tells_bad st by_ g a len l2 cap L x w hl2 h70 hlc hcc hx hsI hbI hgI hr
  | true =>
    by_cases hg : g < 0
    · cases hm : mayW x
      · exact tells_negb st by_ g a len l2 cap L x w hl2 h70 hlc hcc hx hsI hbI hgI hr hm hg
      · exact tells_negm st by_ g a len l2 cap L x w hl2 h70 hlc hcc hx hsI hbI hgI hr hm hg
    · by_cases hno : st = 1 ∧ by_ = g
      · obtain ⟨rfl, rfl⟩ := hno
        cases hm : mayW x
        · exact tells_okb by_ a len l2 cap L x w hl2 h70 hlc hcc hx hgI hr hm (by omega)
        · exact tells_okm by_ a len l2 cap L x w hl2 h70 hlc hcc hx hgI hr hm (by omega)
      · cases hm : mayW x
        · exact tells_nob st by_ g a len l2 cap L x w hl2 h70 hlc hcc hx hsI hbI hgI hr hm (by omega) hno
        · exact tells_nom st by_ g a len l2 cap L x w hl2 h70 hlc hcc hx hsI hbI hgI hr hm (by omega) hno
end Go.Proofs.Ytnmopfimmindnaa
