/- RingGrows: all ways together. -/
import Derived.Test.YtamaocnehneilaaLawGrows2
namespace Go.Proofs.Ytamaocnehneilaa
open Go.RowKit
theorem grows_any (c first count : Int) (a : Option Addr) (len cap : Nat) (zs : List Int) (n v : Int) (w : World) (hc : I64 c) (hf : I64 first) (hk : I64 count) (hI : Ints w a len cap zs) (hnI : I64 n) (hvI : I64 v) :
    Calls Try.prog 5 #[ringV c first (.slice a len cap) count, .int .i64 n, .int .i64 v] w (Says w) := by
  have hlc := hI.le_cap
  have hI2 := hI.take 12
  obtain ⟨l2, hl2⟩ : ∃ l2, l2 = min len 12 := ⟨_, rfl⟩
  rw [← hl2] at hI2
  cases hr : rightZ c first l2 count with
  | false => exact grows_bad c first count a len l2 cap _ n v w hc hf hk hl2 hI2 hlc hr
  | true =>
    rw [rightZ, decide_eq_true_eq] at hr
    obtain ⟨r1, r2, r3, r4, r5, r6, r7⟩ := hr
    obtain ⟨f', rfl⟩ : ∃ m : Nat, first = m := ⟨first.toNat, by omega⟩
    obtain ⟨k', rfl⟩ : ∃ m : Nat, count = m := ⟨count.toNat, by omega⟩
    subst r3
    by_cases h1 : n < (k' : Int) ∨ 8 < n
    · exact grows_small l2 f' k' a len cap _ n v w hl2 hI2 hlc (by omega) (by omega) (by omega) h1 hnI
    · obtain ⟨m, rfl⟩ : ∃ m : Nat, n = m := ⟨n.toNat, by omega⟩
      by_cases h0 : m = 0
      · exact grows_zero_none l2 f' k' m a len cap _ v w hl2 hI2 hlc (by omega) (by omega) (by omega) (by omega) (by omega) h0 (by omega) hvI
      · by_cases hk0 : k' = 0
        · exact grows_pos_none l2 f' k' m a len cap _ v w hl2 hI2 hlc (by omega) (by omega) (by omega) (by omega) (by omega) (by omega) hk0 hvI
        · exact grows_pos_some l2 f' k' m a len cap _ v w hl2 hI2 hlc (by omega) (by omega) (by omega) (by omega) (by omega) (by omega) (by omega) hvI
end Go.Proofs.Ytamaocnehneilaa
