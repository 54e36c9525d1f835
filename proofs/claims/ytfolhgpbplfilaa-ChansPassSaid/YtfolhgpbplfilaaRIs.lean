/- The reference's Is: yes. -/
import Derived.Test.YtfolhgpbplfilaaRRefs
import Derived.Test.YtfolhgpbplfilaaRTaken
namespace Go.Proofs.Ytfolhgpbplfilaa
open Go.RowKit

set_option maxRecDepth 100000 in
set_option maxHeartbeats 2000000 in
theorem Is_yes (c first count : Nat) (a : Option Addr) (cap : Nat) (zs : List Int) (la : Option Addr) (lcap : Nat) (w : World) (hI : Ints w a c cap zs) (hc8 : c ≤ 8) (hf : first < max c 1) (hk : count ≤ c) (hL : Ints w la count lcap (takenL c first count zs)) :
    Calls Try.prog 38 #[ringV c first (.slice a c cap) count, .int .i64 c, .slice la count lcap] w fun e w' => e = .returned (.bool true) ∧ Below w.heap.size w w' := by
  have hRa := Lib.hid (fun W : World => r_refRight_any c first count a c cap W ⟨by omega, by omega⟩ ⟨by omega, by omega⟩ ⟨by omega, by omega⟩ (by omega))
  rw [show rightZ c first c count = true by rw [rightZ, decide_eq_true_eq]; omega] at hRa
  have hIt := Lib.hid (fun W (h : Ints W a c cap zs) => refItems_ok c first count a cap zs W h hc8 hf hk)
  have HI := Lib.hid hI; have HL := Lib.hid hL; clear hI hL
  have HTL := Lib.hid (taken_len c first count zs)
  obtain ⟨L, hLL⟩ : ∃ L, L = takenL c first count zs := ⟨_, rfl⟩
  rw [← hLL] at HTL HL
  rw [← hLL] at hIt
  have HLL := Lib.hid hLL; clear hLL
  have hcc : ((c : Int) != (c : Int)) = false := by simp
  have hkk : ((count : Int) != (count : Int)) = false := by simp
  unfold ringV at *
  go_enter Try.func38, Try.ntmps38
  go_wp2_with fail
  refine (hRa.out _).mono ?_
  rintro e w1 ⟨rfl, hb1⟩
  obtain ⟨h1, hB, hsz⟩ := box1 _ _ hb1
  obtain ⟨p0, p1, p2, p3⟩ := cells4 h1
  have HB := Lib.hid hB
  clear h1 hb1 hB
  go_wp2_with fail
  refine (hIt.out _ (HI.out.below HB.out)).mono ?_
  rintro e w2 ⟨a2, n2, cap2, rfl, hi2, hb2⟩
  have hn2 : n2 = count := by rw [← hi2.len_eq, HTL.out]
  subst hn2
  have HI2 := Lib.hid hi2
  have HB2 := Lib.hid (HB.out.trans (hb2.mono HB.out.size))
  have HL2 := Lib.hid (HL.out.below HB2.out)
  clear hi2 hb2 p0 p1 p2 p3
  have hnm : (n2 : Int) ≤ 8 := by omega
  go_wp2_with fail
  go_loop [28] (fun i => ∃ k : Nat, k ≤ n2 ∧ i = .int .i64 k) (fun i => n2 - (intOf i).toNat)
  case atStart => exact ⟨0, Nat.zero_le _, rfl⟩
  case round =>
    obtain ⟨k, hk2, rfl⟩ := hrel
    by_cases hlt : k < n2
    · obtain ⟨b, off, rfl, hc⟩ := HI2.out.cell k hlt
      obtain ⟨b2, off2, rfl, hc2⟩ := HL2.out.cell k hlt
      obtain ⟨x, hx⟩ : ∃ x, x = en L k := ⟨_, rfl⟩
      rw [← hx] at hc hc2
      clear hx
      have hxx : (x != x) = false := by simp
      have hlt' : (k : Int) < (n2 : Int) := by omega
      go_wp2_with fail
      go_round
      case rel => exact ⟨k + 1, by omega, by go_num⟩
      case measure => simp [intOf]; omega
    · have hkn : k = n2 := by omega
      subst hkn
      go_wp2_with fail
      go_ret
      exact ⟨rfl, HB2.out⟩
end Go.Proofs.Ytfolhgpbplfilaa
