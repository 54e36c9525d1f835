/- Items, alive. -/
import Derived.Test.YtfolhgpbplfilaaRPush
namespace Go.Proofs.Ytfolhgpbplfilaa
open Go.RowKit

theorem Ints.own {w : World} {base : Nat} {v : Value} {L : List Int} (h : Own w base v L) (hb : ∀ i, I64 (en L i)) : ∃ a cap, v = .slice a L.length cap ∧ Ints w a L.length cap L := h.ints hb
theorem taken_i64 {c first count : Nat} {zs : List Int} (h : ∀ i, I64 (en zs i)) (i : Nat) : I64 (en (takenL c first count zs) i) := by
  by_cases hi : i < (takenL c first count zs).length
  · have : en (takenL c first count zs) i ∈ takenL c first count zs := en_mem _ _ hi
    obtain ⟨j, _, e⟩ := List.mem_map.1 this
    rw [← e]; exact h _
  · rw [en_of_le _ _ (by omega)]; exact ⟨by omega, by omega⟩
def GotItems (w : World) (L : List Int) (e : Ending) (w' : World) : Prop := ∃ a n cap, e = .returned (.tuple #[.slice a n cap, .int .i64 0]) ∧ Ints w' a n cap L ∧ Below w.heap.size w w'
theorem box1 (w w1 : World) {x0 x1 x2 x3 : Value} (hb : Below (w.alloc (.cells #[x0, x1, x2, x3] 24)).heap.size (w.alloc (.cells #[x0, x1, x2, x3] 24)) w1) :
    w1.heap[w.heap.size]? = some (.cells #[x0, x1, x2, x3] 24 (0, 0)) ∧ Below w.heap.size w w1 ∧ w.heap.size < w1.heap.size := by
  have h2 : w1.heap[w.heap.size]? = some (.cells #[x0, x1, x2, x3] 24 (0, 0)) := by
    rw [hb.block _ (by simp)]; exact heap_alloc_new w _
  exact ⟨h2, (below_alloc w _).trans (hb.mono (by simp)), (Array.getElem?_eq_some_iff.1 h2).1⟩

set_option maxRecDepth 100000 in
set_option maxHeartbeats 2000000 in
theorem Items_ok (c first count : Nat) (a : Option Addr) (cap : Nat) (zs : List Int) (w : World) (hI : Ints w a c cap zs) (hc8 : c ≤ 8) (hf : first < max c 1) (hk : count ≤ c) :
    Calls Try.prog 35 #[ringV c first (.slice a c cap) count] w (GotItems w (takenL c first count zs)) := by
  have hR := Lib.hid (show rightZ c first c count = true by rw [rightZ, decide_eq_true_eq]; omega)
  have hRa := Lib.hid (fun W : World => r_Right_any c first count a c cap W ⟨by omega, by omega⟩ ⟨by omega, by omega⟩ ⟨by omega, by omega⟩ (by omega))
  have hGa := Lib.hid (fun (W : World) (h : Ints W a c cap zs) => gathered_taken c first count a cap zs W h hc8 hk (by omega))
  have HI := Lib.hid hI; clear hI
  have HT := Lib.hid (taken_i64 (c := c) (first := first) (count := count) HI.out.bound)
  unfold ringV at *
  go_enter Try.func35, Try.ntmps35
  go_wp2_with fail
  refine (hRa.out _).mono ?_
  rintro e w1 ⟨rfl, hb1⟩
  obtain ⟨h1, hB, hsz⟩ := box1 _ _ hb1
  rw [hR.out]
  have HI1 := Lib.hid (HI.out.below hB)
  obtain ⟨p0, p1, p2, p3⟩ := cells4 h1
  have HB := Lib.hid hB
  clear h1 hb1 hB
  go_wp2_with fail
  refine (hGa.out _ HI1.out).mono ?_
  rintro e w2 ⟨v, rfl, ho, hb2⟩
  obtain ⟨a2, cap2, rfl, hi2⟩ := ho.ints HT.out
  have HI2 := Lib.hid hi2
  have HB2 := Lib.hid (HB.out.trans (hb2.mono HB.out.size))
  clear ho hb2 hi2
  go_wp2_with fail
  go_ret2
  exact ⟨_, _, _, rfl, HI2.out, HB2.out⟩

end Go.Proofs.Ytfolhgpbplfilaa
