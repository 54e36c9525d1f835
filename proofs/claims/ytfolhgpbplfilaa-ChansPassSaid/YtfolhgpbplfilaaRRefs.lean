/- The law's own helpers, and the reference. -/
import Derived.Test.YtfolhgpbplfilaaRTaken
import Derived.Test.YtfolhgpbplfilaaRTaken
namespace Go.Proofs.Ytfolhgpbplfilaa
open Go.RowKit

theorem heap_two (w : World) (A B : Obj) : ((w.alloc A).alloc B).heap[w.heap.size + 1]? = some B := by
  have := heap_alloc_new (w.alloc A) B
  rwa [World.size_alloc] at this
theorem ring_res1 {fn : Func} {p : Tmp} (h : fn.results = #[.cell p 24]) (tmps : Array Value) {W : World} {B : Nat} {v0 v1 v2 v3 : Value} (hp : tmps.getD p undef = .pointer (some ⟨B, 0, none⟩)) (hg : W.heap[B]? = some (.cells #[v0, v1, v2, v3] 24 (0, 0))) :
    (results fn tmps).run Try.prog W = .ok (.agg #[v0, v1, v2, v3]) W := by
  have hl := ring_load (W := W) hg
  have hp' : tmps[p]?.getD undef = .pointer (some ⟨B, 0, none⟩) := by simpa using hp
  simp only [results, h]
  simp [hp', asAddr, hl]

set_option maxRecDepth 100000 in
set_option maxHeartbeats 2000000 in
theorem r_refRight_any (cap first count : Int) (a : Option Addr) (len cp : Nat) (w : World) (hc : I64 cap) (hf : I64 first) (hk : I64 count) (_hl : (len : Int) ≤ 9223372036854775807) :
    Calls Try.prog 27 #[ringV cap first (.slice a len cp) count] w fun e w' => e = .returned (.bool (rightZ cap first len count)) ∧ Below w.heap.size w w' := by
  unfold I64 at hc hf hk
  unfold ringV
  have done : ∀ b : Bool, b = rightZ cap first len count → ∀ o : Obj, Ending.returned (.bool b) = .returned (.bool (rightZ cap first len count)) ∧ Below w.heap.size w (w.alloc o) := fun b hb o => ⟨by rw [hb], below_alloc _ _⟩
  have DONE := Lib.hid done; clear done
  by_cases h1 : cap < 0
  · have R := Lib.hid (show false = rightZ cap first len count by symm; rw [rightZ, decide_eq_false_iff_not]; omega)
    go_enter Try.func27, Try.ntmps27
    go_wp2
    go_ret
    exact DONE.out _ R.out _
  by_cases h2 : 8 < cap
  · have R := Lib.hid (show false = rightZ cap first len count by symm; rw [rightZ, decide_eq_false_iff_not]; omega)
    go_enter Try.func27, Try.ntmps27
    go_wp2
    go_ret
    exact DONE.out _ R.out _
  by_cases h3 : (len : Int) = cap
  · have h3b : ((len : Int) != cap) = false := by rw [bne_eq_false_iff_eq]; exact h3
    have H3 := Lib.hid h3; clear h3
    by_cases h6 : count < 0
    · have R := Lib.hid (show false = rightZ cap first len count by symm; rw [rightZ, decide_eq_false_iff_not]; omega)
      go_enter Try.func27, Try.ntmps27
      go_wp2
      go_ret
      exact DONE.out _ R.out _
    by_cases h7 : cap < count
    · have R := Lib.hid (show false = rightZ cap first len count by symm; rw [rightZ, decide_eq_false_iff_not]; omega)
      go_enter Try.func27, Try.ntmps27
      go_wp2
      go_ret
      exact DONE.out _ R.out _
    by_cases h0 : first = 0
    · have R := Lib.hid (show true = rightZ cap first len count by symm; rw [rightZ, decide_eq_true_eq]; exact ⟨by omega, by omega, H3.out, by omega, by omega, by omega, by omega⟩)
      have hb0 : (first == 0) = true := by rw [h0]; rfl
      have H0 := Lib.hid h0; clear h0
      go_enter Try.func27, Try.ntmps27
      go_wp2
      go_ret
      exact DONE.out _ R.out _
    have hb0 : (first == 0) = false := by rw [beq_eq_false_iff_ne]; exact h0
    have H0 := Lib.hid h0; clear h0
    by_cases h4 : 0 < first
    · by_cases h5 : first < cap
      · have R := Lib.hid (show true = rightZ cap first len count by symm; rw [rightZ, decide_eq_true_eq]; exact ⟨by omega, by omega, H3.out, by omega, by omega, by omega, by omega⟩)
        go_enter Try.func27, Try.ntmps27
        go_wp2
        go_ret
        exact DONE.out _ R.out _
      · have R := Lib.hid (show false = rightZ cap first len count by symm; rw [rightZ, decide_eq_false_iff_not]; omega)
        go_enter Try.func27, Try.ntmps27
        go_wp2
        go_ret
        exact DONE.out _ R.out _
    · have R := Lib.hid (show false = rightZ cap first len count by symm; rw [rightZ, decide_eq_false_iff_not]; have := H0.out; omega)
      go_enter Try.func27, Try.ntmps27
      go_wp2
      go_ret
      exact DONE.out _ R.out _
  · have h3b : ((len : Int) != cap) = true := by rw [bne_iff_ne]; exact h3
    have R := Lib.hid (show false = rightZ cap first len count by symm; rw [rightZ, decide_eq_false_iff_not]; omega)
    clear h3
    go_enter Try.func27, Try.ntmps27
    go_wp2
    go_ret
    exact DONE.out _ R.out _

set_option maxRecDepth 100000 in
set_option maxHeartbeats 2000000 in
theorem refItems_ok (c first count : Nat) (a : Option Addr) (cap : Nat) (zs : List Int) (w : World) (hI : Ints w a c cap zs) (hc8 : c ≤ 8) (hf : first < max c 1) (hk : count ≤ c) :
    Calls Try.prog 39 #[ringV c first (.slice a c cap) count] w (GotInts w (takenL c first count zs)) := by
  have HT := Lib.hid (taken_i64 (c := c) (first := first) (count := count) hI.bound)
  have HTL := Lib.hid (fun k => taken_len c first k zs)
  have hcc := hI.cap_le
  have hcl := hI.le_cap
  unfold maxLen at hcc
  have HI := Lib.hid hI; clear hI
  unfold ringV
  obtain ⟨W0, hW0⟩ : ∃ W0, W0 = w.alloc (.cells #[.int .i64 c, .int .i64 first, .slice a c cap, .int .i64 count] 24) := ⟨_, rfl⟩
  have hbox0 : W0.heap[w.heap.size]? = some (.cells #[.int .i64 c, .int .i64 first, .slice a c cap, .int .i64 count] 24 (0, 0)) := by rw [hW0]; exact heap_alloc_new w _
  have hs0 : W0.heap.size = w.heap.size + 1 := by rw [hW0]; simp
  have hb0 : Below w.heap.size w W0 := by rw [hW0]; exact below_alloc w _
  have HBX0 := Lib.hid hbox0; have HS0 := Lib.hid hs0; have HB0 := Lib.hid hb0; have HW0 := Lib.hid hW0
  clear hbox0 hs0 hb0 hW0
  have HI0 := Lib.hid (HI.out.below HB0.out)
  go_enter Try.func39, Try.ntmps39
  go_wp2_with fail
  go_loopw [3, 4] (fun v i wr => ∃ k : Nat, k ≤ count ∧ i = .int .i64 k ∧ Own wr W0.heap.size v (takenL c first k zs) ∧ Below W0.heap.size W0 wr) (fun _ i _ => count - (intOf i).toNat)
  case atStart =>
    have ho := own_nil W0
    have hb := below_alloc W0 (.cells #[] 3)
    have hg : W0.heap.size = w.heap.size + 1 := HS0.out
    rw [hg] at ho
    rw [HW0.out] at ho hb
    rw [HW0.out]
    simp only [World.size_alloc] at ho hb ⊢
    exact ⟨0, Nat.zero_le _, rfl, ho, hb⟩
  case round =>
    obtain ⟨k, hkc, rfl, hown, hb⟩ := hrel
    have HO := Lib.hid hown; have HB := Lib.hid hb
    obtain ⟨p0, p1, p2, p3⟩ := cells4 ((hb.block _ (Array.getElem?_eq_some_iff.1 HBX0.out).1).trans HBX0.out)
    clear hown hb
    by_cases hlt : k < count
    · have hlt' : (k : Int) < (count : Int) := by omega
      have hfc : first < c := by omega
      obtain ⟨q, hq⟩ : ∃ q, q = (first + k) % c := ⟨_, rfl⟩
      have hqc : q < c := by rw [hq]; exact Nat.mod_lt _ (by omega)
      obtain ⟨b, off, rfl, hc⟩ := (HI0.out.below HB.out).cell q hqc
      have HZ := Lib.hid (show takenL c first (k + 1) zs = takenL c first k zs ++ [en zs q] by unfold takenL; rw [upto_succ, hq])
      have hL := HTL.out k
      obtain ⟨L, hLL⟩ : ∃ L, L = takenL c first k zs := ⟨_, rfl⟩
      obtain ⟨x, hx⟩ : ∃ x, x = en zs q := ⟨_, rfl⟩
      rw [← hLL] at HO hL
      rw [← hLL, ← hx] at HZ
      rw [← hx] at hc
      have hLn : L.length ≤ 1000000 := by omega
      clear hLL hx hL
      have hqI : (q : Int) < (c : Int) := by omega
      by_cases hw : first + k < c
      · have hqe : first + k = q := by rw [hq, Nat.mod_eq_of_lt hw]
        have hsum : (first : Int) + (k : Int) = (q : Int) := by omega
        clear hq
        go_wp2_with (at_builtin; refine app1 rfl _ _ rfl W0.heap.size _ L rfl HO.out x rfl hLn W0 HB.out HB.out.size ?_; intro v' w' hown' hb')
        go_roundw
        case rel => exact ⟨k + 1, by omega, by go_num, by rw [HZ.out]; exact hown'.out, hb'.out⟩
        case measure => simp [intOf]; omega
      · have hqe : first + k = q + c := by
          have : (first + k) % c = (first + k - c) % c := by rw [Nat.mod_eq_sub_mod (by omega)]
          rw [this, Nat.mod_eq_of_lt (by omega)] at hq; omega
        have hsum : (first : Int) + (k : Int) - (c : Int) = (q : Int) := by omega
        have hge : (c : Int) ≤ (first : Int) + (k : Int) := by omega
        clear hq
        go_wp2_with (at_builtin; refine app1 rfl _ _ rfl W0.heap.size _ L rfl HO.out x rfl hLn W0 HB.out HB.out.size ?_; intro v' w' hown' hb')
        go_roundw
        case rel => exact ⟨k + 1, by omega, by go_num, by rw [HZ.out]; exact hown'.out, hb'.out⟩
        case measure => simp [intOf]; omega
    · have hkn : k = count := by omega
      subst hkn
      obtain ⟨a2, cap2, rfl, hi2⟩ := HO.out.ints HT.out
      have HI2 := Lib.hid hi2
      clear hi2
      go_wp2_with fail
      go_ret
      exact ⟨_, _, _, rfl, by have := HI2.out; exact this, HB0.out.trans (HB.out.mono HB0.out.size)⟩
end Go.Proofs.Ytfolhgpbplfilaa
