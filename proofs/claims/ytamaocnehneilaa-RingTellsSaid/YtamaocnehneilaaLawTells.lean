/- RingTells: all ways together. -/
import Derived.Test.YtamaocnehneilaaLawTellsBad
import Derived.Test.YtamaocnehneilaaLawTellsLo
import Derived.Test.YtamaocnehneilaaLawTellsHi
import Derived.Test.YtamaocnehneilaaLawTellsSmall
import Derived.Test.YtamaocnehneilaaLawTellsOk0
import Derived.Test.YtamaocnehneilaaLawTellsOk1
import Derived.Test.YtamaocnehneilaaLawTellsOk2
import Derived.Test.YtamaocnehneilaaLawTellsOk3
namespace Go.Proofs.Ytamaocnehneilaa
open Go.RowKit
theorem tells_any (c first count : Int) (a : Option Addr) (len cap : Nat) (zs : List Int) (n v : Int) (w : World) (hc : I64 c) (hf : I64 first) (hk : I64 count) (hI : Ints w a len cap zs) (hnI : I64 n) (hvI : I64 v) :
    Calls Try.prog 3 #[ringV c first (.slice a len cap) count, .int .i64 n, .int .i64 v] w (Says w) := by
  have hlc := hI.le_cap
  have hI2 := hI.take 12
  obtain ⟨l2, hl2⟩ : ∃ l2, l2 = min len 12 := ⟨_, rfl⟩
  rw [← hl2] at hI2
  cases hr : rightZ c first l2 count with
  | false =>
    by_cases h1 : n < 0
    · exact tells_bad_lo c first count a len l2 cap _ n v w hc hf hk hl2 hI2 hlc h1 hnI hvI hr
    by_cases h2 : 8 < n
    · exact tells_bad_hi c first count a len l2 cap _ n v w hc hf hk hl2 hI2 hlc h2 hnI hvI hr
    obtain ⟨m, rfl⟩ : ∃ m : Nat, n = m := ⟨n.toNat, by omega⟩
    exact tells_bad_ok c first count a len l2 cap _ m v w hc hf hk hl2 hI2 hlc (by omega) hvI hr
  | true =>
    rw [rightZ, decide_eq_true_eq] at hr
    obtain ⟨r1, r2, r3, r4, r5, r6, r7⟩ := hr
    obtain ⟨f', rfl⟩ : ∃ m : Nat, first = m := ⟨first.toNat, by omega⟩
    obtain ⟨k', rfl⟩ : ∃ m : Nat, count = m := ⟨count.toNat, by omega⟩
    subst r3
    have hf' : f' < max l2 1 := by omega
    have hl8 : l2 ≤ 8 := by omega
    have hkl : k' ≤ l2 := by omega
    by_cases hfull : k' = l2 <;> by_cases hnone : k' = 0
    all_goals
      by_cases h1 : n < 0
      · first
          | exact tells_lo_full_none l2 f' k' a len cap _ n v w hl2 hI2 hlc hl8 hf' hfull hnone h1 hnI hvI
          | exact tells_lo_full_some l2 f' k' a len cap _ n v w hl2 hI2 hlc hl8 hf' hfull (k' - 1) (by omega) h1 hnI hvI
          | exact tells_lo_room_none l2 f' k' a len cap _ n v w hl2 hI2 hlc hl8 hf' (by omega) hnone h1 hnI hvI
          | exact tells_lo_room_some l2 f' k' a len cap _ n v w hl2 hI2 hlc hl8 hf' (by omega) (k' - 1) (by omega) h1 hnI hvI
      by_cases h2 : 8 < n
      · first
          | exact tells_hi_full_none l2 f' k' a len cap _ n v w hl2 hI2 hlc hl8 hf' hfull hnone h2 hnI hvI
          | exact tells_hi_full_some l2 f' k' a len cap _ n v w hl2 hI2 hlc hl8 hf' hfull (k' - 1) (by omega) h2 hnI hvI
          | exact tells_hi_room_none l2 f' k' a len cap _ n v w hl2 hI2 hlc hl8 hf' (by omega) hnone h2 hnI hvI
          | exact tells_hi_room_some l2 f' k' a len cap _ n v w hl2 hI2 hlc hl8 hf' (by omega) (k' - 1) (by omega) h2 hnI hvI
      obtain ⟨m, rfl⟩ : ∃ m : Nat, n = m := ⟨n.toNat, by omega⟩
      by_cases h3 : m < k'
      · first
          | exact tells_small_full_some l2 f' k' a len cap _ m v w hl2 hI2 hlc hl8 hf' hfull (k' - 1) (by omega) (by omega) h3 hvI
          | exact tells_small_room_some l2 f' k' a len cap _ m v w hl2 hI2 hlc hl8 hf' (by omega) (k' - 1) (by omega) (by omega) h3 hvI
      · first
          | exact tells_ok_full_none l2 f' k' a len cap _ m v w hl2 hI2 hlc hl8 hf' hfull hnone (by omega) (by omega) hvI
          | exact tells_ok_full_some l2 f' k' a len cap _ m v w hl2 hI2 hlc hl8 hf' hfull (k' - 1) (by omega) (by omega) (by omega) hvI
          | exact tells_ok_room_none l2 f' k' a len cap _ m v w hl2 hI2 hlc hl8 hf' (by omega) hnone (by omega) (by omega) hvI
          | exact tells_ok_room_some l2 f' k' a len cap _ m v w hl2 hI2 hlc hl8 hf' (by omega) (k' - 1) (by omega) (by omega) (by omega) hvI
end Go.Proofs.Ytamaocnehneilaa
