/- Push. -/
import Derived.Test.YtfolhgpbplfilaaRRing2
import Derived.Deep.RegionHeld3
namespace Go.Proofs.Ytfolhgpbplfilaa
open Go.RowKit
theorem OwnAt.base {W : World} {base base' g c n : Nat} {zs : List Int} (h : OwnAt W base g c n zs) (hb : base' ≤ base) : OwnAt W base' g c n zs := ⟨Nat.le_trans hb h.1, h.2⟩
structure Mid (w W : World) (c first count : Nat) (a : Option Addr) (cap NB g n : Nat) (f2 k2 : Nat) (zs : List Int) : Prop where
  ring : W.heap[w.heap.size]? = some (.cells #[.int .i64 c, .int .i64 first, .slice a c cap, .int .i64 count] 24 (0, 0))
  zero : W.heap[w.heap.size + 1]? = some (.cells #[.int .i64 0, .int .i64 0, .slice none 0 0, .int .i64 0] 24 (0, 0))
  next : W.heap[NB]? = some (.cells #[.int .i64 c, .int .i64 f2, .slice (some ⟨g, 0, none⟩) c n, .int .i64 k2] 24 (0, 0))
  own : OwnAt W (w.heap.size + 2) g c n zs
  below : Below w.heap.size w W
  far : w.heap.size + 1 < NB
theorem not_g {W : World} {base g c n B : Nat} {zs : List Int} {cs : Array Value} (h : OwnAt W base g c n zs) (hB : W.heap[B]? = some (.cells cs 24 (0, 0))) : g ≠ B := by
  rintro rfl
  obtain ⟨_, _, _, _, cur, hh, _⟩ := h
  rw [hh] at hB; simp at hB
theorem en_set_i64 {zs : List Int} (h : ∀ i, I64 (en zs i)) (q : Nat) {v : Int} (hv : I64 v) (i : Nat) : I64 (en (zs.set q v) i) := by
  by_cases hi : i < zs.length
  · rw [en_get _ _ (by simpa using hi), List.getElem_set]
    split
    · exact hv
    · rw [← en_get _ _ hi]; exact h i
  · rw [en_of_le _ _ (by simp; omega)]; exact ⟨by omega, by omega⟩
theorem Mid.keep {w W W' : World} {c first count : Nat} {a : Option Addr} {cap NB g n f2 k2 : Nat} {zs : List Int} (h : Mid w W c first count a cap NB g n f2 k2 zs) (hb : Below W.heap.size W W') : Mid w W' c first count a cap NB g n f2 k2 zs := by
  have l1 := (Array.getElem?_eq_some_iff.1 h.ring).1
  have l2 := (Array.getElem?_eq_some_iff.1 h.zero).1
  have l3 := (Array.getElem?_eq_some_iff.1 h.next).1
  exact ⟨(hb.block _ l1).trans h.ring, (hb.block _ l2).trans h.zero, (hb.block _ l3).trans h.next, h.own.later (hb.block _ h.own.lt), h.below.trans (hb.mono (by omega)), h.far⟩
theorem Mid.set {w W : World} {c first count : Nat} {a : Option Addr} {cap NB g n f2 k2 : Nat} {zs : List Int} (h : Mid w W c first count a cap NB g n f2 k2 zs) (q : Nat) (v : Int) : Mid w (W.setCell ⟨g, q, none⟩ (.int .i64 v)) c first count a cap NB g n f2 k2 (zs.set q v) := by
  have hg := h.own.1
  refine ⟨?_, ?_, ?_, h.own.set q v, h.below.setCell (p := ⟨g, q, none⟩) (by show _ ≤ g; omega) _, h.far⟩
  · rw [Below.heap_setCell _ _ _ _ (not_g h.own h.ring).symm]; exact h.ring
  · rw [Below.heap_setCell _ _ _ _ (not_g h.own h.zero).symm]; exact h.zero
  · rw [Below.heap_setCell _ _ _ _ (not_g h.own h.next).symm]; exact h.next
set_option maxRecDepth 100000 in
set_option maxHeartbeats 2000000 in
theorem r_Push_full (c first : Nat) (a : Option Addr) (cap : Nat) (v : Int) (w : World) (hc8 : c ≤ 8) (hf : first < max c 1) :
    Calls Try.prog 69 #[ringV c first (.slice a c cap) c, .int .i64 v] w (NoRing w 5) := by
  have hR := Lib.hid (show rightZ c first c c = true by rw [rightZ, decide_eq_true_eq]; omega)
  have hRa := Lib.hid (fun W : World => r_Right_any c first c a c cap W ⟨by omega, by omega⟩ ⟨by omega, by omega⟩ ⟨by omega, by omega⟩ (by omega))
  have hcc : ((c : Int) == (c : Int)) = true := by simp
  unfold ringV at *
  go_enter Try.func69, Try.ntmps69
  go_wp2_with fail
  refine (hRa.out _).mono ?_
  rintro e w1 ⟨rfl, hb1⟩
  obtain ⟨h1, h2, hB, hsz⟩ := boxes _ _ hb1
  rw [hR.out]
  obtain ⟨p0, p1, p2, p3⟩ := cells4 h1
  obtain ⟨q0, q1, q2, q3⟩ := cells4 h2
  obtain ⟨f0, f1, f2, f3⟩ := froz4 h2
  have H2 := Lib.hid h2; have HB := Lib.hid hB
  clear h1 h2 hb1 hB
  go_wp2_with fail
  try simp only [Exit.inBlock, Exit.then]
  refine bodyPost_ret (ring_res rfl _ rfl (set4_at H2.out _ _ _ _)) rfl ?_
  exact ⟨rfl, set4_below HB.out (by omega) _ _ _ _⟩

theorem mid_cells {w W : World} {c first count : Nat} {a : Option Addr} {cap NB g n f2 k2 : Nat} {zs : List Int} (h : Mid w W c first count a cap NB g n f2 k2 zs) :
    W.cell? ⟨w.heap.size, 0, none⟩ = some (.int .i64 c) ∧ W.cell? ⟨w.heap.size, 1, none⟩ = some (.int .i64 first) ∧ W.cell? ⟨w.heap.size, 2, none⟩ = some (.slice a c cap) ∧ W.cell? ⟨w.heap.size, 3, none⟩ = some (.int .i64 count) ∧ W.cell? ⟨NB, 2, none⟩ = some (.slice (some ⟨g, 0, none⟩) c n) :=
  ⟨(cells4 h.ring).1, (cells4 h.ring).2.1, (cells4 h.ring).2.2.1, (cells4 h.ring).2.2.2, (cells4 h.next).2.2.1⟩

set_option maxRecDepth 100000 in
set_option maxHeartbeats 4000000 in
theorem r_Push_ok (c first count : Nat) (a : Option Addr) (cap : Nat) (zs : List Int) (v : Int) (w : World) (hI : Ints w a c cap zs) (hc8 : c ≤ 8) (hf : first < max c 1) (hk : count < c) (hv : I64 v) :
    Calls Try.prog 69 #[ringV c first (.slice a c cap) count, .int .i64 v] w (GotRing w c first (count + 1) (zs.set ((first + count) % c) v) 0) := by
  have hR := Lib.hid (show rightZ c first c count = true by rw [rightZ, decide_eq_true_eq]; omega)
  have hRa := Lib.hid (fun W : World => r_Right_any c first count a c cap W ⟨by omega, by omega⟩ ⟨by omega, by omega⟩ ⟨by omega, by omega⟩ (by omega))
  have hcc : ((count : Int) == (c : Int)) = false := by rw [beq_eq_false_iff_ne]; omega
  have hw1 : IntKind.i64.wrap ((count : Int) + 1) = (count : Int) + 1 := IntWalk.i64_in _ ⟨by omega, by omega⟩
  have hGa := Lib.hid (fun (W : World) (h : Ints W a c cap zs) => gathered_slots2 c first count a cap zs W h hc8 (by omega))
  have HI := Lib.hid hI; clear hI
  obtain ⟨q, hq⟩ : ∃ q, q = (first + count) % c := ⟨_, rfl⟩
  have hqc : q < c := by rw [hq]; exact Nat.mod_lt _ (by omega)
  have hqi : ((first : Int) + (count : Int)) % (c : Int) = (q : Int) := by rw [hq]; simp
  have hP := Lib.hid (fun W : World => show Calls Try.prog 68 #[.agg #[.int .i64 c, .int .i64 first, .slice a c cap, .int .i64 count], .int .i64 count] W fun e w' => e = .returned (.int .i64 q) ∧ Below W.heap.size W w' from by
    have := place_any c first count count (.slice a c cap) W (by omega) (by omega) (by omega) (by omega) (by omega) (by omega)
    rw [hqi] at this; exact this)
  rw [← hq]
  have HQ := Lib.hid hq
  clear hq hqi
  have hq0 : (0 : Int) ≤ (q : Int) := by omega
  have hq1 : (q : Int) < (c : Int) := by omega
  have HZ := Lib.hid HI.out.bound
  unfold ringV at *
  go_enter Try.func69, Try.ntmps69
  go_wp2_with fail
  refine (hRa.out _).mono ?_
  rintro e w1 ⟨rfl, hb1⟩
  obtain ⟨h1, h2, hB, hsz⟩ := boxes _ _ hb1
  rw [hR.out]
  have HI1 := Lib.hid (HI.out.below hB)
  have H1 := Lib.hid h1; have H2 := Lib.hid h2; have HB := Lib.hid hB
  obtain ⟨p0, p1, p2, p3⟩ := cells4 h1
  clear h1 h2 hb1 hB
  go_wp2_with fail
  clear p0 p1 p2 p3
  go_region_held3 (fun W => W.cell? ⟨w.heap.size, 0, none⟩ = some (.int .i64 c) ∧ W.cell? ⟨w.heap.size, 1, none⟩ = some (.int .i64 first) ∧ W.cell? ⟨w.heap.size, 2, none⟩ = some (.slice a c cap) ∧ W.cell? ⟨w.heap.size, 3, none⟩ = some (.int .i64 count))
    (first | (refine cells4 (t := 24) ?_; (repeat (first | rw [Below.heap_setCell _ _ _ _ (by first | omega | (simp; omega))] | rw [Below.heap_alloc _ _ _ (by first | omega | (simp; omega))])); (first | exact H1.out | exact HR.out | exact (Below.heap_alloc _ _ _ (by omega)).trans H1.out)))
    (first | (go_at_call 57; refine (hGa.out _ ?_).mono ?_; (first | exact HI1.out.below ((Below.refl _ _).drew) | exact HI1.out.below (((below_alloc _ _)).drew)); rintro e w2 ⟨g, n2, rfl, ho2, hb2⟩; have HR : Hid (w2.heap[w.heap.size]? = some (.cells #[.int .i64 c, .int .i64 first, .slice a c cap, .int .i64 count] 24 (0, 0))) := (hb2.block _ (by simp; omega)).trans (by first | exact H1.out | exact (Below.heap_alloc _ _ _ (by omega)).trans H1.out); have hs2 : w.heap.size + 1 < w2.heap.size := (by have := hb2.size; simp at this; omega); (try (have hnx : w2.heap[w1.heap.size]? = some (.cells #[.int .i64 0, .int .i64 0, .slice none 0 0, .int .i64 0] 24 (0, 0)) := (hb2.block _ (by simp)).trans (heap_alloc_new w1 _); have HNX := Lib.hid hnx; obtain ⟨n0, n1, n2x, n3⟩ := cells4 hnx; obtain ⟨k0, k1, k2, k3⟩ := froz4 hnx; clear hnx)); have HO2 := Lib.hid ho2; have HB2 := Lib.hid hb2; clear ho2 hb2))
  · have hm : Mid w (w2.alloc (.cells #[.int .i64 c, .int .i64 first, .slice (some ⟨g, 0, none⟩) c n2, .int .i64 ((count : Int) + 1)] 24)) c first count a cap w2.heap.size g n2 first (count + 1) zs := by
      have l2 : w.heap.size + 1 < w1.heap.size := hsz
      refine ⟨(Below.heap_alloc _ _ _ (by omega)).trans HR.out, (Below.heap_alloc _ _ _ (by omega)).trans ((HB2.out.block _ (by simp; omega)).trans H2.out), heap_alloc_new w2 _, ((HO2.out.base (by simp; omega)).later (Below.heap_alloc _ _ _ HO2.out.lt)), (HB.out.trans (((Below.refl _ _).drew).trans (HB2.out.mono (by simp; omega)))).alloc (by omega) _, by omega⟩
    obtain ⟨W3, hW3⟩ : ∃ x, x = w2.alloc (.cells #[.int .i64 c, .int .i64 first, .slice (some ⟨g, 0, none⟩) c n2, .int .i64 ((count : Int) + 1)] 24) := ⟨_, rfl⟩
    obtain ⟨NB, hNB⟩ : ∃ x, x = w2.heap.size := ⟨_, rfl⟩
    rw [← hW3, ← hNB] at hm ⊢
    have HM := Lib.hid hm
    clear hm hW3 hNB
    go_wp2_with fail
    obtain ⟨p0, p1, p2, p3⟩ := cells4 HM.out.ring
    obtain ⟨n0, n1, n2x, n3⟩ := cells4 HM.out.next
    clear p0 p1 p2 p3 n0 n1 n2x n3
    have HMD := Lib.hid (HM.out.keep (W' := W3.drew) ((Below.refl _ _).drew))
    go_region_held3 (fun W => W.cell? ⟨w.heap.size, 0, none⟩ = some (.int .i64 c) ∧ W.cell? ⟨w.heap.size, 1, none⟩ = some (.int .i64 first) ∧ W.cell? ⟨w.heap.size, 2, none⟩ = some (.slice a c cap) ∧ W.cell? ⟨w.heap.size, 3, none⟩ = some (.int .i64 count) ∧ W.cell? ⟨NB, 2, none⟩ = some (.slice (some ⟨g, 0, none⟩) c n2))
      (first | exact mid_cells HMD.out | exact mid_cells HM4.out | exact mid_cells (HM4.out.set _ _))
      (first | (go_at_call 68; refine (hP.out _).mono ?_; rintro e w4 ⟨rfl, hb4⟩; have hm4 := HMD.out.keep hb4; have hcq := hm4.own.cell HZ.out q hqc; have hfq := hm4.own.froz q; have HM4 := Lib.hid hm4; clear hm4 hb4))
    have HM5 := Lib.hid (HM4.out.set q v)
    obtain ⟨W5, hW5⟩ : ∃ x, x = w4.setCell ⟨g, q, none⟩ (.int .i64 v) := ⟨_, rfl⟩
    rw [← hW5] at HM5 ⊢
    clear hW5
    obtain ⟨n0, n1, n2x, n3⟩ := cells4 HM5.out.next
    obtain ⟨z0, z1, z2, z3⟩ := cells4 HM5.out.zero
    obtain ⟨f0, f1, f2, f3⟩ := froz4 HM5.out.zero
    go_wp2_with fail
    try simp only [Exit.inBlock, Exit.then]
    refine bodyPost_ret (ring_res rfl _ rfl (set4_at HM5.out.zero _ _ _ _)) rfl ?_
    exact ⟨_, _, rfl, (HM5.out.own.later (set4_other _ _ _ _ _ _ _ (not_g HM5.out.own HM5.out.zero))).ints (en_set_i64 HZ.out q hv), set4_below HM5.out.below (by omega) _ _ _ _, fun x hx => by cases hx; have := HM5.out.own.1; show _ ≤ g; omega⟩
  · have hm : Mid w (set4 w2 w1.heap.size (.int .i64 c) (.int .i64 first) (.slice (some ⟨g, 0, none⟩) c n2) (.int .i64 ((count : Int) + 1))) c first count a cap w1.heap.size g n2 first (count + 1) zs := by
      have l2 : w.heap.size + 1 < w1.heap.size := hsz
      have hg : w1.heap.size + 1 ≤ g := by have := HO2.out.1; simp at this; omega
      refine ⟨(set4_other _ _ _ _ _ _ _ (by omega)).trans HR.out, (set4_other _ _ _ _ _ _ _ (by omega)).trans ((HB2.out.block _ (by simp; omega)).trans ((Below.heap_alloc _ _ _ (by omega)).trans H2.out)), set4_at HNX.out _ _ _ _, ((HO2.out.base (by simp; omega)).later (set4_other _ _ _ _ _ _ _ (by omega))), set4_below (HB.out.trans ((((below_alloc w1 _).drew).mono (by omega)).trans (HB2.out.mono (by simp; omega)))) (by omega) _ _ _ _, by omega⟩
    obtain ⟨W3, hW3⟩ : ∃ x, x = set4 w2 w1.heap.size (.int .i64 c) (.int .i64 first) (.slice (some ⟨g, 0, none⟩) c n2) (.int .i64 ((count : Int) + 1)) := ⟨_, rfl⟩
    rw [← hW3] at hm
    unfold set4 at hW3
    rw [← hW3]
    have HM := Lib.hid hm
    clear hm hW3
    obtain ⟨NB, hNB⟩ : ∃ x, x = w1.heap.size := ⟨_, rfl⟩
    rw [← hNB] at HM ⊢
    clear hNB
    go_wp2_with fail
    obtain ⟨p0, p1, p2, p3⟩ := cells4 HM.out.ring
    obtain ⟨n0, n1, n2x, n3⟩ := cells4 HM.out.next
    clear p0 p1 p2 p3 n0 n1 n2x n3
    have HMD := Lib.hid (HM.out.keep (W' := W3.drew) ((Below.refl _ _).drew))
    go_region_held3 (fun W => W.cell? ⟨w.heap.size, 0, none⟩ = some (.int .i64 c) ∧ W.cell? ⟨w.heap.size, 1, none⟩ = some (.int .i64 first) ∧ W.cell? ⟨w.heap.size, 2, none⟩ = some (.slice a c cap) ∧ W.cell? ⟨w.heap.size, 3, none⟩ = some (.int .i64 count) ∧ W.cell? ⟨NB, 2, none⟩ = some (.slice (some ⟨g, 0, none⟩) c n2))
      (first | exact mid_cells HMD.out | exact mid_cells HM4.out | exact mid_cells (HM4.out.set _ _))
      (first | (go_at_call 68; refine (hP.out _).mono ?_; rintro e w4 ⟨rfl, hb4⟩; have hm4 := HMD.out.keep hb4; have hcq := hm4.own.cell HZ.out q hqc; have hfq := hm4.own.froz q; have HM4 := Lib.hid hm4; clear hm4 hb4))
    have HM5 := Lib.hid (HM4.out.set q v)
    obtain ⟨W5, hW5⟩ : ∃ x, x = w4.setCell ⟨g, q, none⟩ (.int .i64 v) := ⟨_, rfl⟩
    rw [← hW5] at HM5 ⊢
    clear hW5
    obtain ⟨n0, n1, n2x, n3⟩ := cells4 HM5.out.next
    obtain ⟨z0, z1, z2, z3⟩ := cells4 HM5.out.zero
    obtain ⟨f0, f1, f2, f3⟩ := froz4 HM5.out.zero
    go_wp2_with fail
    try simp only [Exit.inBlock, Exit.then]
    refine bodyPost_ret (ring_res rfl _ rfl (set4_at HM5.out.zero _ _ _ _)) rfl ?_
    exact ⟨_, _, rfl, (HM5.out.own.later (set4_other _ _ _ _ _ _ _ (not_g HM5.out.own HM5.out.zero))).ints (en_set_i64 HZ.out q hv), set4_below HM5.out.below (by omega) _ _ _ _, fun x hx => by cases hx; have := HM5.out.own.1; show _ ≤ g; omega⟩
end Go.Proofs.Ytfolhgpbplfilaa
