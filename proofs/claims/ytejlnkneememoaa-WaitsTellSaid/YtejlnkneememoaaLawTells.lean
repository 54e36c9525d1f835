/- WaitsTell: all ways together. -/
import Derived.Test.YtejlnkneememoaaLawTells0
import Derived.Test.YtejlnkneememoaaLawTells1
import Derived.Test.YtejlnkneememoaaLawTells2
import Derived.Test.YtejlnkneememoaaLawTells3
namespace Go.Proofs.Ytejlnkneememoaa
open Go.RowKit
theorem tells_any (a : Option Addr) (len cap : Nat) (L : List Wt) (x : Wt) (g : Int) (w : World) (hL : Wts w a len cap L) (hx : WtOk x) (hgI : I64 g) :
    Calls Try.prog 3 #[.slice a len cap, wV x, .int .i64 g] w (Says w) := by
  have hlc := hL.recs.le_cap
  have hL2 := hL.take 70
  obtain ⟨l2, hl2⟩ : ∃ l2, l2 = min len 70 := ⟨_, rfl⟩
  rw [← hl2] at hL2
  obtain ⟨M, hM⟩ : ∃ M, M = L.take 70 := ⟨_, rfl⟩
  rw [← hM] at hL2
  cases hr : rightW M with
  | false => exact tells_bad_x_x a len l2 cap M x g w hl2 hL2 hlc hx hgI hr
  | true =>
    by_cases hg : g < 0
    · cases hm : mayW x with
      | false => exact tells_right_arg_neg a len l2 cap M x g w hl2 hL2 hlc hx hgI hr hm hg
      | true =>
        cases hh : hasW M x.g x.c with
        | true => exact tells_right_twice_neg a len l2 cap M x g w hl2 hL2 hlc hx hgI hr hm hh hg
        | false =>
          by_cases hf : l2 = 64
          · exact tells_right_full_neg a len l2 cap M x g w hl2 hL2 hlc hx hgI hr hm hh hf hg
          · exact tells_right_ok_neg a len l2 cap M x g w hl2 hL2 hlc hx hgI hr hm hh hf hg
    · have hg' : 0 ≤ g := by omega
      cases hfi : firstW M g with
      | none =>
        cases hm : mayW x with
        | false => exact tells_right_arg_none a len l2 cap M x g w hl2 hL2 hlc hx hgI hr hm hg' hfi
        | true =>
          cases hh : hasW M x.g x.c with
          | true => exact tells_right_twice_none a len l2 cap M x g w hl2 hL2 hlc hx hgI hr hm hh hg' hfi
          | false =>
            by_cases hf : l2 = 64
            · exact tells_right_full_none a len l2 cap M x g w hl2 hL2 hlc hx hgI hr hm hh hf hg' hfi
            · exact tells_right_ok_none a len l2 cap M x g w hl2 hL2 hlc hx hgI hr hm hh hf hg' hfi
      | some y =>
        cases hm : mayW x with
        | false => exact tells_right_arg_some a len l2 cap M x g w hl2 hL2 hlc hx hgI hr hm y hg' hfi
        | true =>
          cases hh : hasW M x.g x.c with
          | true => exact tells_right_twice_some a len l2 cap M x g w hl2 hL2 hlc hx hgI hr hm hh y hg' hfi
          | false =>
            by_cases hf : l2 = 64
            · exact tells_right_full_some a len l2 cap M x g w hl2 hL2 hlc hx hgI hr hm hh hf y hg' hfi
            · exact tells_right_ok_some a len l2 cap M x g w hl2 hL2 hlc hx hgI hr hm hh hf y hg' hfi
end Go.Proofs.Ytejlnkneememoaa
