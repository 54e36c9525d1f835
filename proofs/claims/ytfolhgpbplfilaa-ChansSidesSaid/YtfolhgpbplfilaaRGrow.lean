/- Grow; refusals. -/
import Derived.Test.YtfolhgpbplfilaaRPush
import Derived.Test.YtfolhgpbplfilaaRItems
import Derived.Test.YtfolhgpbplfilaaRPop
import Derived.Test.YtfolhgpbplfilaaRPopNone
import Derived.Test.YtfolhgpbplfilaaRTaken
import Derived.Deep.OwnRows
namespace Go.Proofs.Ytfolhgpbplfilaa
open Go.RowKit

set_option maxRecDepth 100000 in
set_option maxHeartbeats 2000000 in
theorem New_no (n : Int) (w : World) (h : n < 0 ∨ 8 < n) (hn : I64 n) : Calls Try.prog 28 #[.int .i64 n] w (NoRing w 2) := by
  unfold I64 at hn
  unfold NoRing ringV
  by_cases h1 : n < 0
  · go_enter Try.func28, Try.ntmps28
    go_wp2
    exact bodyPost_ret (ring_res rfl _ rfl (heap_alloc_new w _)) rfl ⟨rfl, below_alloc _ _⟩
  · have h2 : 8 < n := by omega
    clear h
    go_enter Try.func28, Try.ntmps28
    go_wp2
    exact bodyPost_ret (ring_res rfl _ rfl (heap_alloc_new w _)) rfl ⟨rfl, below_alloc _ _⟩

set_option maxRecDepth 100000 in
set_option maxHeartbeats 2000000 in
theorem Push_bad (c first count : Int) (a : Option Addr) (len cap : Nat) (v : Int) (w : World) (hc : I64 c) (hf : I64 first) (hk : I64 count) (hl : (len : Int) ≤ 9223372036854775807) (hbad : rightZ c first len count = false) :
    Calls Try.prog 69 #[ringV c first (.slice a len cap) count, .int .i64 v] w (NoRing w 1) := by
  have hRa := Lib.hid (fun W : World => r_Right_any c first count a len cap W hc hf hk hl)
  rw [hbad] at hRa
  have HX := Lib.hid hbad; clear hbad
  unfold ringV at *
  go_enter Try.func69, Try.ntmps69
  go_wp2_with fail
  refine (hRa.out _).mono ?_
  rintro e w1 ⟨rfl, hb1⟩
  obtain ⟨h1, h2, hB, hsz⟩ := boxes _ _ hb1
  obtain ⟨q0, q1, q2, q3⟩ := cells4 h2
  obtain ⟨f0, f1, f2, f3⟩ := froz4 h2
  have H2 := Lib.hid h2; have HB := Lib.hid hB
  clear h1 h2 hb1 hB
  go_wp2_with fail
  try simp only [Exit.inBlock, Exit.then]
  refine bodyPost_ret (ring_res rfl _ rfl (set4_at H2.out _ _ _ _)) rfl ?_
  exact ⟨rfl, set4_below HB.out (by omega) _ _ _ _⟩

set_option maxRecDepth 100000 in
set_option maxHeartbeats 2000000 in
theorem Pop_bad (c first count : Int) (a : Option Addr) (len cap : Nat) (w : World) (hc : I64 c) (hf : I64 first) (hk : I64 count) (hl : (len : Int) ≤ 9223372036854775807) (hbad : rightZ c first len count = false) :
    Calls Try.prog 71 #[ringV c first (.slice a len cap) count] w (NoPop w 1) := by
  have hRa := Lib.hid (fun W : World => r_Right_any c first count a len cap W hc hf hk hl)
  rw [hbad] at hRa
  have HX := Lib.hid hbad; clear hbad
  unfold ringV at *
  go_enter Try.func71, Try.ntmps71
  go_wp2_with fail
  refine (hRa.out _).mono ?_
  rintro e w1 ⟨rfl, hb1⟩
  obtain ⟨h1, h2, hB, hsz⟩ := boxes _ _ hb1
  obtain ⟨q0, q1, q2, q3⟩ := cells4 h2
  obtain ⟨f0, f1, f2, f3⟩ := froz4 h2
  have H2 := Lib.hid h2; have HB := Lib.hid hB
  clear h1 h2 hb1 hB
  go_wp2_with fail
  try simp only [Exit.inBlock, Exit.then]
  refine bodyPost_ret (ring_res3n rfl _ rfl (set4_at H2.out _ _ _ _)) rfl ?_
  exact ⟨rfl, set4_below HB.out (by omega) _ _ _ _⟩

def NoItems (w : World) (why : Int) (e : Ending) (w' : World) : Prop := e = .returned (.tuple #[.slice none 0 0, .int .i64 why]) ∧ Below w.heap.size w w'
set_option maxRecDepth 100000 in
set_option maxHeartbeats 2000000 in
theorem Items_bad (c first count : Int) (a : Option Addr) (len cap : Nat) (w : World) (hc : I64 c) (hf : I64 first) (hk : I64 count) (hl : (len : Int) ≤ 9223372036854775807) (hbad : rightZ c first len count = false) :
    Calls Try.prog 35 #[ringV c first (.slice a len cap) count] w (NoItems w 1) := by
  have hRa := Lib.hid (fun W : World => r_Right_any c first count a len cap W hc hf hk hl)
  rw [hbad] at hRa
  have HX := Lib.hid hbad; clear hbad
  unfold ringV at *
  go_enter Try.func35, Try.ntmps35
  go_wp2_with fail
  refine (hRa.out _).mono ?_
  rintro e w1 ⟨rfl, hb1⟩
  obtain ⟨h1, hB, hsz⟩ := box1 _ _ hb1
  have HB := Lib.hid hB
  clear h1 hb1 hB
  go_wp2_with fail
  go_ret2
  exact ⟨rfl, HB.out⟩

end Go.Proofs.Ytfolhgpbplfilaa
