/- WaitsWho: all ways together. -/
import Derived.Test.YtejlnkneememoaaLawWho
namespace Go.Proofs.Ytejlnkneememoaa
open Go.RowKit
theorem who_any (a : Option Addr) (len cap : Nat) (L : List Wt) (g : Int) (w : World) (hL : Wts w a len cap L) (hgI : I64 g) :
    Calls Try.prog 5 #[.slice a len cap, .int .i64 g] w (Says w) := by
  have hlc := hL.recs.le_cap
  have hL2 := hL.take 70
  obtain ⟨l2, hl2⟩ : ∃ l2, l2 = min len 70 := ⟨_, rfl⟩
  rw [← hl2] at hL2
  obtain ⟨M, hM⟩ : ∃ M, M = L.take 70 := ⟨_, rfl⟩
  rw [← hM] at hL2
  cases hr : rightW M with
  | false => exact who_bad a len l2 cap M g w hl2 hL2 hlc hr
  | true =>
    cases hm : M with
    | nil => exact who_none a len l2 cap M g w hl2 hL2 hlc hr hgI hm
    | cons y ys => exact who_some a len l2 cap M g w hl2 hL2 hlc hr hgI y ys hm
end Go.Proofs.Ytejlnkneememoaa
