/- Pop. -/
import Derived.Test.YtfolhgpbplfilaaRItems
import Derived.BigRegion
namespace Go.Proofs.Ytfolhgpbplfilaa
open Go.RowKit
def PopRing (w : World) (c first count : Nat) (x : Int) (zs : List Int) (e : Ending) (w' : World) : Prop :=
  ∃ a cap, e = .returned (.tuple #[ringV c first (.slice a c cap) count, .int .i64 x, .int .i64 0]) ∧ Ints w' a c cap zs ∧ Below w.heap.size w w' ∧ ∀ x, a = some x → w.heap.size ≤ x.block
theorem ring_res3 {fn : Func} {p u x : Tmp} (h : fn.results = #[.cell p 24, .tmp u, .tmp x]) (tmps : Array Value) {W : World} {B : Nat} {v0 v1 v2 v3 : Value} (hp : tmps.getD p undef = .pointer (some ⟨B, 0, none⟩)) (hg : W.heap[B]? = some (.cells #[v0, v1, v2, v3] 24 (0, 0))) :
    (results fn tmps).run Try.prog W.drew = .ok (.tuple #[.agg #[v0, v1, v2, v3], tmps.getD u undef, tmps.getD x undef]) W.drew := by
  have hl := ring_load (W := W.drew) hg
  have hp' : tmps[p]?.getD undef = .pointer (some ⟨B, 0, none⟩) := by simpa using hp
  simp only [results, h]
  simp [Result.andThen, hp', asAddr, hl]
set_option maxRecDepth 100000 in
set_option maxHeartbeats 4000000 in
theorem Pop_ok (c first count k1 : Nat) (hk1 : k1 = count + 1) (a : Option Addr) (cap : Nat) (zs : List Int) (w : World) (hI : Ints w a c cap zs) (hc8 : c ≤ 8) (hf : first < c) (hk : k1 ≤ c) (_hk0 : 0 < k1) :
    Calls Try.prog 71 #[ringV c first (.slice a c cap) k1] w (PopRing w c ((first + 1) % c) count (en zs first) (zs.set first 0)) := by
  have hR := Lib.hid (show rightZ c first c k1 = true by rw [rightZ, decide_eq_true_eq]; omega)
  have hRa := Lib.hid (fun W : World => r_Right_any c first k1 a c cap W ⟨by omega, by omega⟩ ⟨by omega, by omega⟩ ⟨by omega, by omega⟩ (by omega))
  have hcc : ((k1 : Int) == 0) = false := by rw [beq_eq_false_iff_ne]; omega
  have hw1 : IntKind.i64.wrap ((k1 : Int) - 1) = (count : Int) := by rw [IntWalk.i64_in _ ⟨by omega, by omega⟩]; omega
  have hGa := Lib.hid (fun (W : World) (h : Ints W a c cap zs) => gathered_slots2 c first k1 a cap zs W h hc8 (by omega))
  have HI := Lib.hid hI; clear hI
  obtain ⟨q, hq⟩ : ∃ q, q = (first + 1) % c := ⟨_, rfl⟩
  have hqc : q < c := by rw [hq]; exact Nat.mod_lt _ (by omega)
  have hqi : ((first : Int) + 1) % (c : Int) = (q : Int) := by rw [hq]; simp
  have hP := Lib.hid (fun W : World => show Calls Try.prog 68 #[.agg #[.int .i64 c, .int .i64 first, .slice a c cap, .int .i64 k1], .int .i64 1] W fun e w' => e = .returned (.int .i64 q) ∧ Below W.heap.size W w' from by
    have := place_any c first k1 1 (.slice a c cap) W (by omega) (by omega) (by omega) (by omega) (by omega) (by omega)
    rw [hqi] at this; exact this)
  rw [← hq]
  have HQ := Lib.hid hq
  have HK := Lib.hid hk1
  clear hq hqi hk1
  have HZ := Lib.hid HI.out.bound
  unfold ringV at *
  go_enter Try.func71, Try.ntmps71
  go_wp2_with fail
  refine (hRa.out _).mono ?_
  rintro e w1 ⟨rfl, hb1⟩
  obtain ⟨h1, h2, hB, hsz⟩ := boxes _ _ hb1
  rw [hR.out]
  have HI1 := Lib.hid (HI.out.below hB)
  have H1 := Lib.hid h1; have H2 := Lib.hid h2; have HB := Lib.hid hB
  obtain ⟨p0, p1, p2, p3⟩ := cells4 h1
  clear h1 h2 hb1 hB
  go_wp2_with fail
  clear p0 p1 p2 p3
  go_region_held3 (fun W => W.cell? ⟨w.heap.size, 0, none⟩ = some (.int .i64 c) ∧ W.cell? ⟨w.heap.size, 1, none⟩ = some (.int .i64 first) ∧ W.cell? ⟨w.heap.size, 2, none⟩ = some (.slice a c cap) ∧ W.cell? ⟨w.heap.size, 3, none⟩ = some (.int .i64 k1))
    (first | (refine cells4 (t := 24) ?_; (repeat (first | rw [Below.heap_setCell _ _ _ _ (by first | omega | (simp; omega))] | rw [Below.heap_alloc _ _ _ (by first | omega | (simp; omega))])); (first | exact H1.out | exact HR.out | exact HRp.out | exact (Below.heap_alloc _ _ _ (by omega)).trans H1.out)))
    (first
      | (go_at_call 68; refine (hP.out _).mono ?_; rintro e wp ⟨rfl, hbp⟩; have HRp : Hid (wp.heap[w.heap.size]? = some (.cells #[.int .i64 c, .int .i64 first, .slice a c cap, .int .i64 k1] 24 (0, 0))) := (hbp.block _ (by simp; omega)).trans (by first | exact H1.out | exact (Below.heap_alloc _ _ _ (by omega)).trans H1.out); have HZp : Hid (wp.heap[w.heap.size + 1]? = some (.cells #[.int .i64 0, .int .i64 0, .slice none 0 0, .int .i64 0] 24 (0, 0))) := (hbp.block _ (by simp; omega)).trans (by first | exact H2.out | exact (Below.heap_alloc _ _ _ (by omega)).trans H2.out); have hsp : w1.heap.size ≤ wp.heap.size := (by have := hbp.size; simp at this; omega); have HBp : Hid (Below w1.heap.size w1 wp) := (by first | exact ((Below.refl _ _).drew).trans (hbp.mono (by simp)) | exact ((below_alloc w1 _).drew).trans (hbp.mono (by simp))); have HIp := Lib.hid (HI1.out.below HBp.out); (try (have hnp : wp.heap[w1.heap.size]? = some (.cells #[.int .i64 0, .int .i64 0, .slice none 0 0, .int .i64 0] 24 (0, 0)) := (hbp.block _ (by simp)).trans (heap_alloc_new w1 _); have HNP := Lib.hid hnp; clear hnp; have hbig : w1.heap.size + 1 ≤ wp.heap.size := (by have := hbp.size; simp at this; omega))); clear hbp)
      | (go_at_call 57; refine (hGa.out _ ?_).mono ?_; (first | exact HIp.out | exact HIp.out.below (below_alloc _ _)); rintro e w2 ⟨g, n2, rfl, ho2, hb2⟩; have HR : Hid (w2.heap[w.heap.size]? = some (.cells #[.int .i64 c, .int .i64 first, .slice a c cap, .int .i64 k1] 24 (0, 0))) := (hb2.block _ (by first | omega | (simp; omega))).trans (by first | exact HRp.out | exact (Below.heap_alloc _ _ _ (by omega)).trans HRp.out); have HZ2 : Hid (w2.heap[w.heap.size + 1]? = some (.cells #[.int .i64 0, .int .i64 0, .slice none 0 0, .int .i64 0] 24 (0, 0))) := (hb2.block _ (by first | omega | (simp; omega))).trans (by first | exact HZp.out | exact (Below.heap_alloc _ _ _ (by omega)).trans HZp.out); have hs2 : wp.heap.size ≤ w2.heap.size := (by have := hb2.size; first | omega | (simp at this; omega)); have HBW2 : Hid (Below wp.heap.size wp w2) := (by first | exact hb2 | exact (below_alloc wp _).trans (hb2.mono (by simp))); have HO2 := Lib.hid (ho2.base (base' := wp.heap.size) (by first | omega | (simp))); (first | (have hnx := (HBW2.out.block _ hbig).trans HNP.out; have HNX := Lib.hid hnx; obtain ⟨n0, n1, n2x, n3⟩ := cells4 hnx; obtain ⟨k0, k1x, k2, k3⟩ := froz4 hnx; clear hnx) | (have hnx : w2.heap[wp.heap.size]? = some (.cells #[.int .i64 0, .int .i64 0, .slice none 0 0, .int .i64 0] 24 (0, 0)) := (hb2.block _ (by simp)).trans (heap_alloc_new wp _); have HNX := Lib.hid hnx; have HOX := Lib.hid ho2; obtain ⟨n0, n1, n2x, n3⟩ := cells4 hnx; obtain ⟨k0, k1x, k2, k3⟩ := froz4 hnx; clear hnx) | skip); clear hb2 ho2))
  · have hm : Mid w (w2.alloc (.cells #[.int .i64 c, .int .i64 q, .slice (some ⟨g, 0, none⟩) c n2, .int .i64 count] 24)) c first k1 a cap w2.heap.size g n2 q count zs := by
      refine ⟨(Below.heap_alloc _ _ _ (by omega)).trans HR.out, (Below.heap_alloc _ _ _ (by omega)).trans HZ2.out, heap_alloc_new w2 _, ((HO2.out.base (by omega)).later (Below.heap_alloc _ _ _ HO2.out.lt)), ((HB.out.trans (HBp.out.mono (by omega))).trans (HBW2.out.mono (by omega))).alloc (by omega) _, by omega⟩
    obtain ⟨W3, hW3⟩ : ∃ x, x = w2.alloc (.cells #[.int .i64 c, .int .i64 q, .slice (some ⟨g, 0, none⟩) c n2, .int .i64 count] 24) := ⟨_, rfl⟩
    obtain ⟨NB, hNB⟩ : ∃ x, x = w2.heap.size := ⟨_, rfl⟩
    rw [← hW3, ← hNB] at hm ⊢
    have HM := Lib.hid hm
    clear hm hW3 hNB
    obtain ⟨p0, p1, p2, p3⟩ := cells4 HM.out.ring
    obtain ⟨m0, m1, m2, m3⟩ := cells4 HM.out.next
    have hcq := HM.out.own.cell HZ.out first hf
    have hfq := HM.out.own.froz first
    go_wp2_with fail
    have HM5 := Lib.hid (HM.out.set first 0)
    obtain ⟨W5, hW5⟩ : ∃ x, x = W3.setCell ⟨g, first, none⟩ (.int .i64 0) := ⟨_, rfl⟩
    rw [← hW5] at HM5 ⊢
    clear hW5 p0 p1 p2 p3 m0 m1 m2 m3 hcq hfq
    obtain ⟨b, off, rfl, hc⟩ := HI.out.cell first hf
    have hslot : W5.cell? ⟨b, off + first, none⟩ = some (.int .i64 (en zs first)) := (HM5.out.below.cell (p := ⟨b, off + first, none⟩) (World.block_lt_of_cell? _ _ hc)).trans hc
    obtain ⟨p0, p1, p2, p3⟩ := cells4 HM5.out.ring
    obtain ⟨m0, m1, m2, m3⟩ := cells4 HM5.out.next
    obtain ⟨z0, z1, z2, z3⟩ := cells4 HM5.out.zero
    obtain ⟨f0, f1, f2, f3⟩ := froz4 HM5.out.zero
    have hfi : (first : Int) < (c : Int) := by omega
    have hf0 : (0 : Int) ≤ (first : Int) := by omega
    have hbl : b < w.heap.size := World.block_lt_of_cell? _ _ hc
    have hslot2 : (set4 W5 (w.heap.size + 1) (.int .i64 c) (.int .i64 q) (.slice (some ⟨g, 0, none⟩) c n2) (.int .i64 count)).cell? ⟨b, off + first, none⟩ = some (.int .i64 (en zs first)) := ((set4_below (Below.refl w.heap.size W5) (by omega) _ _ _ _).cell (p := ⟨b, off + first, none⟩) hbl).trans hslot
    unfold set4 at hslot2
    have hbn : ¬ (b = w.heap.size + 1) := by omega
    have hbn2 : ¬ (w.heap.size + 1 = b) := by omega
    clear hc
    go_region
    all_goals go_wp2_with fail
    all_goals (try simp only [Exit.inBlock, Exit.then])
    all_goals refine bodyPost_ret (ring_res3 rfl _ rfl (set4_at HM5.out.zero _ _ _ _)) rfl ?_
    all_goals exact ⟨_, _, rfl, (HM5.out.own.later (set4_other _ _ _ (.int .i64 c) (.int .i64 q) (.slice (some ⟨g, 0, none⟩) c n2) (.int .i64 count) (not_g HM5.out.own HM5.out.zero))).ints (en_set_i64 HZ.out first ⟨by omega, by omega⟩) |>.below ((Below.refl _ _).drew), (set4_below HM5.out.below (by omega) _ _ _ _).drew, fun x hx => by cases hx; have := HM5.out.own.1; show _ ≤ g; omega⟩
  · have hm : Mid w (set4 w2 wp.heap.size (.int .i64 c) (.int .i64 q) (.slice (some ⟨g, 0, none⟩) c n2) (.int .i64 count)) c first k1 a cap wp.heap.size g n2 q count zs := by
      have hg : wp.heap.size + 1 ≤ g := by have := HOX.out.1; (try simp at this); omega
      refine ⟨(set4_other _ _ _ _ _ _ _ (by omega)).trans HR.out, (set4_other _ _ _ _ _ _ _ (by omega)).trans HZ2.out, set4_at HNX.out _ _ _ _, ((HOX.out.base (by first | omega | (simp; omega))).later (set4_other _ _ _ _ _ _ _ (by omega))), set4_below ((HB.out.trans (HBp.out.mono (by omega))).trans (HBW2.out.mono (by omega))) (by omega) _ _ _ _, by omega⟩
    obtain ⟨W3, hW3⟩ : ∃ x, x = set4 w2 wp.heap.size (.int .i64 c) (.int .i64 q) (.slice (some ⟨g, 0, none⟩) c n2) (.int .i64 count) := ⟨_, rfl⟩
    rw [← hW3] at hm
    unfold set4 at hW3
    rw [← hW3]
    have HM := Lib.hid hm
    clear hm hW3
    obtain ⟨NB, hNB⟩ : ∃ x, x = wp.heap.size := ⟨_, rfl⟩
    rw [← hNB] at HM ⊢
    clear hNB
    obtain ⟨p0, p1, p2, p3⟩ := cells4 HM.out.ring
    obtain ⟨m0, m1, m2, m3⟩ := cells4 HM.out.next
    have hcq := HM.out.own.cell HZ.out first hf
    have hfq := HM.out.own.froz first
    go_wp2_with fail
    have HM5 := Lib.hid (HM.out.set first 0)
    obtain ⟨W5, hW5⟩ : ∃ x, x = W3.setCell ⟨g, first, none⟩ (.int .i64 0) := ⟨_, rfl⟩
    rw [← hW5] at HM5 ⊢
    clear hW5 p0 p1 p2 p3 m0 m1 m2 m3 hcq hfq
    obtain ⟨b, off, rfl, hc⟩ := HI.out.cell first hf
    have hslot : W5.cell? ⟨b, off + first, none⟩ = some (.int .i64 (en zs first)) := (HM5.out.below.cell (p := ⟨b, off + first, none⟩) (World.block_lt_of_cell? _ _ hc)).trans hc
    obtain ⟨p0, p1, p2, p3⟩ := cells4 HM5.out.ring
    obtain ⟨m0, m1, m2, m3⟩ := cells4 HM5.out.next
    obtain ⟨z0, z1, z2, z3⟩ := cells4 HM5.out.zero
    obtain ⟨f0, f1, f2, f3⟩ := froz4 HM5.out.zero
    have hfi : (first : Int) < (c : Int) := by omega
    have hf0 : (0 : Int) ≤ (first : Int) := by omega
    have hbl : b < w.heap.size := World.block_lt_of_cell? _ _ hc
    have hslot2 : (set4 W5 (w.heap.size + 1) (.int .i64 c) (.int .i64 q) (.slice (some ⟨g, 0, none⟩) c n2) (.int .i64 count)).cell? ⟨b, off + first, none⟩ = some (.int .i64 (en zs first)) := ((set4_below (Below.refl w.heap.size W5) (by omega) _ _ _ _).cell (p := ⟨b, off + first, none⟩) hbl).trans hslot
    unfold set4 at hslot2
    have hbn : ¬ (b = w.heap.size + 1) := by omega
    have hbn2 : ¬ (w.heap.size + 1 = b) := by omega
    clear hc
    go_region
    all_goals go_wp2_with fail
    all_goals (try simp only [Exit.inBlock, Exit.then])
    all_goals refine bodyPost_ret (ring_res3 rfl _ rfl (set4_at HM5.out.zero _ _ _ _)) rfl ?_
    all_goals exact ⟨_, _, rfl, (HM5.out.own.later (set4_other _ _ _ (.int .i64 c) (.int .i64 q) (.slice (some ⟨g, 0, none⟩) c n2) (.int .i64 count) (not_g HM5.out.own HM5.out.zero))).ints (en_set_i64 HZ.out first ⟨by omega, by omega⟩) |>.below ((Below.refl _ _).drew), (set4_below HM5.out.below (by omega) _ _ _ _).drew, fun x hx => by cases hx; have := HM5.out.own.1; show _ ≤ g; omega⟩
  · have hm : Mid w (set4 w2 w1.heap.size (.int .i64 c) (.int .i64 q) (.slice (some ⟨g, 0, none⟩) c n2) (.int .i64 count)) c first k1 a cap w1.heap.size g n2 q count zs := by
      have hg : w1.heap.size + 1 ≤ g := by have := HO2.out.1; (try simp at this); omega
      refine ⟨(set4_other _ _ _ _ _ _ _ (by omega)).trans HR.out, (set4_other _ _ _ _ _ _ _ (by omega)).trans HZ2.out, set4_at HNX.out _ _ _ _, ((HO2.out.base (by first | omega | (simp; omega))).later (set4_other _ _ _ _ _ _ _ (by omega))), set4_below ((HB.out.trans (HBp.out.mono (by omega))).trans (HBW2.out.mono (by omega))) (by omega) _ _ _ _, by omega⟩
    obtain ⟨W3, hW3⟩ : ∃ x, x = set4 w2 w1.heap.size (.int .i64 c) (.int .i64 q) (.slice (some ⟨g, 0, none⟩) c n2) (.int .i64 count) := ⟨_, rfl⟩
    rw [← hW3] at hm
    unfold set4 at hW3
    rw [← hW3]
    have HM := Lib.hid hm
    clear hm hW3
    obtain ⟨NB, hNB⟩ : ∃ x, x = w1.heap.size := ⟨_, rfl⟩
    rw [← hNB] at HM ⊢
    clear hNB
    obtain ⟨p0, p1, p2, p3⟩ := cells4 HM.out.ring
    obtain ⟨m0, m1, m2, m3⟩ := cells4 HM.out.next
    have hcq := HM.out.own.cell HZ.out first hf
    have hfq := HM.out.own.froz first
    go_wp2_with fail
    have HM5 := Lib.hid (HM.out.set first 0)
    obtain ⟨W5, hW5⟩ : ∃ x, x = W3.setCell ⟨g, first, none⟩ (.int .i64 0) := ⟨_, rfl⟩
    rw [← hW5] at HM5 ⊢
    clear hW5 p0 p1 p2 p3 m0 m1 m2 m3 hcq hfq
    obtain ⟨b, off, rfl, hc⟩ := HI.out.cell first hf
    have hslot : W5.cell? ⟨b, off + first, none⟩ = some (.int .i64 (en zs first)) := (HM5.out.below.cell (p := ⟨b, off + first, none⟩) (World.block_lt_of_cell? _ _ hc)).trans hc
    obtain ⟨p0, p1, p2, p3⟩ := cells4 HM5.out.ring
    obtain ⟨m0, m1, m2, m3⟩ := cells4 HM5.out.next
    obtain ⟨z0, z1, z2, z3⟩ := cells4 HM5.out.zero
    obtain ⟨f0, f1, f2, f3⟩ := froz4 HM5.out.zero
    have hfi : (first : Int) < (c : Int) := by omega
    have hf0 : (0 : Int) ≤ (first : Int) := by omega
    have hbl : b < w.heap.size := World.block_lt_of_cell? _ _ hc
    have hslot2 : (set4 W5 (w.heap.size + 1) (.int .i64 c) (.int .i64 q) (.slice (some ⟨g, 0, none⟩) c n2) (.int .i64 count)).cell? ⟨b, off + first, none⟩ = some (.int .i64 (en zs first)) := ((set4_below (Below.refl w.heap.size W5) (by omega) _ _ _ _).cell (p := ⟨b, off + first, none⟩) hbl).trans hslot
    unfold set4 at hslot2
    have hbn : ¬ (b = w.heap.size + 1) := by omega
    have hbn2 : ¬ (w.heap.size + 1 = b) := by omega
    clear hc
    go_region
    all_goals go_wp2_with fail
    all_goals (try simp only [Exit.inBlock, Exit.then])
    all_goals refine bodyPost_ret (ring_res3 rfl _ rfl (set4_at HM5.out.zero _ _ _ _)) rfl ?_
    all_goals exact ⟨_, _, rfl, (HM5.out.own.later (set4_other _ _ _ (.int .i64 c) (.int .i64 q) (.slice (some ⟨g, 0, none⟩) c n2) (.int .i64 count) (not_g HM5.out.own HM5.out.zero))).ints (en_set_i64 HZ.out first ⟨by omega, by omega⟩) |>.below ((Below.refl _ _).drew), (set4_below HM5.out.below (by omega) _ _ _ _).drew, fun x hx => by cases hx; have := HM5.out.own.1; show _ ≤ g; omega⟩
end Go.Proofs.Ytfolhgpbplfilaa
