/- Grow, where it grows. -/
import Derived.Test.YtamaocnehneilaaGrow
namespace Go.Proofs.Ytamaocnehneilaa
open Go.RowKit

/-- w' is w but for block g -/
def Only (g : Nat) (w w' : World) : Prop := ∀ k, k ≠ g → w'.heap[k]? = w.heap[k]?
theorem step_copy_row {ops : Array Oper} {o : Oper} {a : Act} {w : World} {K : Act → World → Prop} {Q : Exit → Act → World → Prop} {E : Prop} (hgd : o.guard = none) (d s : Operand)
    (ho : o.op = .call { callee := .builtin .copy, args := #[d, s], argTypes := #[22, 22] }) (g n dCap : Nat) (sa : Option Addr) (sLen sCap : Nat) (hd : a.eval d = .slice (some ⟨g, 0, none⟩) n dCap) (hs : a.eval s = .slice sa sLen sCap)
    (L M : List Int) (hg : w.heap[g]? = some (.cells (ints L).toArray 3 (0, 0))) (hL : L.length = n) (hM : Ints w sa sLen sCap M) (hfit : sLen ≤ n)
    (hK : ∀ w', Hid (w'.heap[g]? = some (.cells (ints (M ++ L.drop sLen)).toArray 3 (0, 0))) → Hid (Only g w w' ∧ w.heap.size = w'.heap.size ∧ Below g w w') → K (a.put o.dst (goInt sLen)) w') :
    if Region.wanted o (yielded ops a.tmps) = true then Oper.wp Try.prog o a w K Q else E := by
  have hw : Region.wanted o (yielded ops a.tmps) = true := by simp [Region.wanted, hgd]
  rw [if_pos hw]
  have hsz := Try.info3s
  by_cases h0 : sLen = 0
  · subst h0
    have hrun := run_copy_none (P := Try.prog) w 22 22 o.type 3 (some ⟨g, 0, none⟩) sa n dCap 0 sCap Try.underlying22 hsz (by simp)
    unfold Oper.wp
    simp [execOp, ho, resolve, invoke, builtin, hd, hs, hrun, Result.andThen]
    have hM0 : M = [] := List.eq_nil_of_length_eq_zero hM.len_eq
    subst hM0
    exact hK w (show _ = _ by simpa using hg) ⟨fun _ _ => rfl, rfl, Below.refl _ _⟩
  · obtain ⟨ad, rfl, hsrc⟩ := hM.src (by omega)
    have hml := hM.len_eq
    have hrun := run_copy_row (P := Try.prog) w 22 22 o.type 3 g 0 n dCap ad sLen sCap (ints L).toArray 3 (ints M) Try.underlying22 hsz hg (by simp [hml]; exact (Nat.min_eq_left hfit).symm) hsrc (by simp [hml, hL]; omega) (by intro v hv; obtain ⟨z, _, rfl⟩ := List.mem_map.1 hv; rfl)
    have hlen : (ints M).length = sLen := by simp [hml]
    rw [hlen] at hrun
    obtain ⟨W2, hW2⟩ : ∃ W2, W2 = w.setRow g ((ints L).toArray.toList.take 0 ++ ints M ++ (ints L).toArray.toList.drop (0 + sLen)).toArray := ⟨_, rfl⟩
    rw [← hW2] at hrun
    unfold Oper.wp
    simp [execOp, ho, resolve, invoke, builtin, hd, hs, hrun, Result.andThen]
    refine hK W2 ?_ ⟨fun k hk => ?_, ?_, ?_⟩
    · show _ = _
      rw [hW2, setRow_heap w g _ _ 3 (0, 0) hg]
      simp [ints]
    · rw [hW2]; exact setRow_other w g k _ hk
    · rw [hW2]; simp [World.setRow]
    · rw [hW2]; exact below_setRow (Below.refl _ _) (Nat.le_refl _) _

theorem heap_two (w : World) (A B : Obj) : ((w.alloc A).alloc B).heap[w.heap.size + 1]? = some B := by
  have := heap_alloc_new (w.alloc A) B
  rwa [World.size_alloc] at this
structure GMid (w W : World) (c first count : Nat) (a : Option Addr) (cap NB g n : Nat) (zs M : List Int) : Prop where
  ring : W.heap[w.heap.size]? = some (.cells #[.int .i64 c, .int .i64 first, .slice a c cap, .int .i64 count] 24 (0, 0))
  zero : W.heap[w.heap.size + 1]? = some (.cells #[.int .i64 0, .int .i64 0, .slice none 0 0, .int .i64 0] 24 (0, 0))
  next : W.heap[NB]? = some (.cells #[.int .i64 n, .int .i64 0, .slice (some ⟨g, 0, none⟩) n n, .int .i64 count] 24 (0, 0))
  own : W.heap[g]? = some (.cells (ints M).toArray 3 (0, 0))
  len : M.length = n
  src : Ints W a c cap zs
  below : Below w.heap.size w W
  far : w.heap.size + 1 < NB
  big : w.heap.size + 1 < g
  src0 : Ints w a c cap zs
theorem GMid.keep {w W W' : World} {c first count : Nat} {a : Option Addr} {cap NB g n : Nat} {zs M : List Int} (h : GMid w W c first count a cap NB g n zs M) (hb : Below W.heap.size W W') : GMid w W' c first count a cap NB g n zs M :=
  ⟨(hb.block _ (Array.getElem?_eq_some_iff.1 h.ring).1).trans h.ring, (hb.block _ (Array.getElem?_eq_some_iff.1 h.zero).1).trans h.zero, (hb.block _ (Array.getElem?_eq_some_iff.1 h.next).1).trans h.next, (hb.block _ (Array.getElem?_eq_some_iff.1 h.own).1).trans h.own, h.len, h.src.below hb, h.below.trans (hb.mono h.below.size), h.far, h.big, h.src0⟩
theorem gmid_cells {w W : World} {c first count : Nat} {a : Option Addr} {cap NB g n : Nat} {zs M : List Int} (h : GMid w W c first count a cap NB g n zs M) :
    W.cell? ⟨w.heap.size, 0, none⟩ = some (.int .i64 c) ∧ W.cell? ⟨w.heap.size, 1, none⟩ = some (.int .i64 first) ∧ W.cell? ⟨w.heap.size, 2, none⟩ = some (.slice a c cap) ∧ W.cell? ⟨w.heap.size, 3, none⟩ = some (.int .i64 count) ∧ W.cell? ⟨NB, 2, none⟩ = some (.slice (some ⟨g, 0, none⟩) n n) :=
  ⟨(cells4 h.ring).1, (cells4 h.ring).2.1, (cells4 h.ring).2.2.1, (cells4 h.ring).2.2.2, (cells4 h.next).2.2.1⟩

theorem made_ints (n : Nat) : madeCells #[Value.int .i64 0] n = (ints (List.replicate n 0)).toArray := by
  apply Array.toList_inj.1
  rw [toList_madeCells_one]; simp [ints]

theorem GMid.copied {w W W' : World} {c first count : Nat} {a : Option Addr} {cap NB g n : Nat} {zs M M' : List Int} (h : GMid w W c first count a cap NB g n zs M) (hl : M'.length = n) (hg : W'.heap[g]? = some (.cells (ints M').toArray 3 (0, 0))) (ho : Only g W W' ∧ W.heap.size = W'.heap.size ∧ Below g W W') : GMid w W' c first count a cap NB g n zs M' := by
  have hne : ∀ {B : Nat} {cs : Array Value}, W.heap[B]? = some (.cells cs 24 (0, 0)) → B ≠ g := by
    rintro B cs hB rfl
    rw [h.own] at hB; simp at hB
  refine ⟨(ho.1 _ (hne h.ring)).trans h.ring, (ho.1 _ (hne h.zero)).trans h.zero, (ho.1 _ (hne h.next)).trans h.next, hg, hl, ?_, h.below.trans (ho.2.2.mono (by have := h.big; omega)), h.far, h.big, h.src0⟩
  refine ⟨h.src.len_eq, h.src.le_cap, h.src.cap_le, h.src.none_, h.src.bound, fun i hi => ?_⟩
  obtain ⟨b, off, e, hc⟩ := h.src0.cell i hi
  refine ⟨b, off, e, ?_⟩
  have hlt : b < w.heap.size := World.block_lt_of_cell? _ _ hc
  have := (ho.2.2.cell (p := ⟨b, off + i, none⟩) (by show b < g; have := h.big; omega))
  rw [this]
  exact (h.below.cell (p := ⟨b, off + i, none⟩) hlt).trans hc
theorem grow_i64 {T : List Int} {m : Nat} (h : ∀ i, I64 (en T i)) (i : Nat) : I64 (en (T ++ List.replicate m 0) i) := by
  by_cases hi : i < T.length
  · have := h i
    rw [en_get T i hi] at this
    rw [en_get _ i (by simp; omega), List.getElem_append_left hi]; exact this
  · by_cases h2 : i < T.length + m
    · rw [en_get _ i (by simp; omega), List.getElem_append_right (by omega)]; simp; exact ⟨by omega, by omega⟩
    · rw [en_of_le _ _ (by simp; omega)]; exact ⟨by omega, by omega⟩
theorem gmid_a {w w1 : World} {c first count n : Nat} {a : Option Addr} {cap : Nat} {zs : List Int} (hI : Ints w a c cap zs)
    (h1 : w1.heap[w.heap.size]? = some (.cells #[.int .i64 c, .int .i64 first, .slice a c cap, .int .i64 count] 24 (0, 0))) (h2 : w1.heap[w.heap.size + 1]? = some (.cells #[.int .i64 0, .int .i64 0, .slice none 0 0, .int .i64 0] 24 (0, 0))) (hb : Below w.heap.size w w1) :
    GMid w ((w1.alloc (.cells (madeCells #[.int .i64 0] n) 3)).alloc (.cells #[.int .i64 n, .int .i64 0, .slice (some ⟨w1.heap.size, 0, none⟩) n n, .int .i64 count] 24)).drew c first count a cap (w1.heap.size + 1) w1.heap.size n zs (List.replicate n 0) := by
  have l1 := (Array.getElem?_eq_some_iff.1 h1).1
  have l2 := (Array.getElem?_eq_some_iff.1 h2).1
  have hbb : Below w1.heap.size w1 ((w1.alloc (.cells (madeCells #[.int .i64 0] n) 3)).alloc (.cells #[.int .i64 n, .int .i64 0, .slice (some ⟨w1.heap.size, 0, none⟩) n n, .int .i64 count] 24)).drew := ((below_alloc w1 _).alloc (by simp) _).drew
  refine ⟨(hbb.block _ l1).trans h1, (hbb.block _ l2).trans h2, heap_two w1 _ _, ?_, by simp, (hI.below hb).below hbb, hb.trans (hbb.mono hb.size), by omega, by omega, hI⟩
  rw [← made_ints]
  show ((w1.alloc _).alloc _).heap[w1.heap.size]? = _
  rw [Below.heap_alloc _ _ _ (by simp)]; exact heap_alloc_new w1 _
theorem gmid_b {w w1 : World} {c first count n : Nat} {a : Option Addr} {cap : Nat} {zs : List Int} (hI : Ints w a c cap zs)
    (h1 : w1.heap[w.heap.size]? = some (.cells #[.int .i64 c, .int .i64 first, .slice a c cap, .int .i64 count] 24 (0, 0))) (h2 : w1.heap[w.heap.size + 1]? = some (.cells #[.int .i64 0, .int .i64 0, .slice none 0 0, .int .i64 0] 24 (0, 0))) (hb : Below w.heap.size w w1) :
    GMid w ((w1.alloc (.cells #[.int .i64 n, .int .i64 0, .slice (some ⟨w1.heap.size + 1, 0, none⟩) n n, .int .i64 count] 24)).alloc (.cells (madeCells #[.int .i64 0] n) 3)).drew c first count a cap w1.heap.size (w1.heap.size + 1) n zs (List.replicate n 0) := by
  have l1 := (Array.getElem?_eq_some_iff.1 h1).1
  have l2 := (Array.getElem?_eq_some_iff.1 h2).1
  have hbb : Below w1.heap.size w1 ((w1.alloc (.cells #[.int .i64 n, .int .i64 0, .slice (some ⟨w1.heap.size + 1, 0, none⟩) n n, .int .i64 count] 24)).alloc (.cells (madeCells #[.int .i64 0] n) 3)).drew := ((below_alloc w1 _).alloc (by simp) _).drew
  refine ⟨(hbb.block _ l1).trans h1, (hbb.block _ l2).trans h2, ?_, ?_, by simp, (hI.below hb).below hbb, hb.trans (hbb.mono hb.size), by omega, by omega, hI⟩
  · show ((w1.alloc _).alloc _).heap[w1.heap.size]? = _
    rw [Below.heap_alloc _ _ _ (by simp)]; exact heap_alloc_new w1 _
  · rw [← made_ints]; exact heap_two w1 _ _
set_option maxRecDepth 100000 in
set_option maxHeartbeats 4000000 in
theorem Grow_ok (c first count n : Nat) (a : Option Addr) (cap : Nat) (zs : List Int) (w : World) (hI : Ints w a c cap zs) (hc8 : c ≤ 8) (hf : first < max c 1) (hk : count ≤ c) (hkn : count ≤ n) (hn8 : n ≤ 8) :
    Calls Try.prog 11 #[ringV c first (.slice a c cap) count, .int .i64 n] w (GotRing w n 0 count (takenL c first count zs ++ List.replicate (n - count) 0) 0) := by
  have hRa := Lib.hid (fun W : World => Right_any c first count a c cap W ⟨by omega, by omega⟩ ⟨by omega, by omega⟩ ⟨by omega, by omega⟩ (by omega))
  rw [show rightZ c first c count = true by rw [rightZ, decide_eq_true_eq]; omega] at hRa
  have hGa := Lib.hid (fun (W : World) (h : Ints W a c cap zs) => gathered_taken c first count a cap zs W h hc8 hk (by omega))
  have hmk : ∀ W : World, (Instr.makeSlice 22 (.int .i64 n) (.int .i64 n)).run Try.prog W = .ok (.slice (some ⟨W.heap.size, 0, none⟩) n n) (W.alloc (.cells (madeCells #[.int .i64 0] n) 3)) := fun W => run_make_row' 22 3 (.int .i64 0) 8 Try.underlying22 Try.info3 rfl .i64 .i64 n (by omega) (by omega) W
  have HI := Lib.hid hI; clear hI
  have HT := Lib.hid (taken_i64 (c := c) (first := first) (count := count) HI.out.bound)
  have HTL := Lib.hid (taken_len c first count zs)
  unfold ringV at *
  go_enter Try.func11, Try.ntmps11
  go_wp2_with fail
  refine (hRa.out _).mono ?_
  rintro e w1 ⟨rfl, hb1⟩
  obtain ⟨h1, h2, hB, hsz⟩ := boxes _ _ hb1
  have HI1 := Lib.hid (HI.out.below hB)
  have H1 := Lib.hid h1; have H2 := Lib.hid h2; have HB := Lib.hid hB
  obtain ⟨p0, p1, p2, p3⟩ := cells4 h1
  clear h1 h2 hb1 hB
  go_wp2_with fail
  clear p0 p1 p2
  go_region_held3 (fun W => W.cell? ⟨w.heap.size, 3, none⟩ = some (.int .i64 count)) (go_keep) (fail)
  · have hm := gmid_a (n := n) HI.out H1.out H2.out HB.out
    obtain ⟨W3, hW3⟩ : ∃ x, x = ((w1.alloc (.cells (madeCells #[.int .i64 0] n) 3)).alloc (.cells #[.int .i64 n, .int .i64 0, .slice (some ⟨w1.heap.size, 0, none⟩) n n, .int .i64 count] 24)).drew := ⟨_, rfl⟩
    obtain ⟨NB, hNB⟩ : ∃ x, x = w1.heap.size + 1 := ⟨_, rfl⟩
    obtain ⟨g, hg⟩ : ∃ x, x = w1.heap.size := ⟨_, rfl⟩
    rw [← hW3] at hm ⊢
    rw [← hNB, ← hg] at hm
    rw [← hNB, ← hg]
    have HM := Lib.hid hm
    clear hm hW3 hNB hg
    go_wp2_with fail
    have HMD := Lib.hid (HM.out.keep (W' := W3.drew) ((Below.refl _ _).drew))
    go_region_held3 (fun W => W.cell? ⟨w.heap.size, 0, none⟩ = some (.int .i64 c) ∧ W.cell? ⟨w.heap.size, 1, none⟩ = some (.int .i64 first) ∧ W.cell? ⟨w.heap.size, 2, none⟩ = some (.slice a c cap) ∧ W.cell? ⟨w.heap.size, 3, none⟩ = some (.int .i64 count) ∧ W.cell? ⟨NB, 2, none⟩ = some (.slice (some ⟨g, 0, none⟩) n n))
      (first | exact gmid_cells HMD.out | exact gmid_cells HM5.out | exact gmid_cells HM4.out)
      (first | (go_at_call 19; refine (hGa.out _ HMD.out.src).mono ?_; rintro e w4 ⟨v, rfl, ho, hb4⟩; obtain ⟨a2, cap2, hv, hi2⟩ := ho.ints HT.out; rw [HTL.out] at hv hi2; subst hv; have HI2 := Lib.hid hi2; have HM4 := Lib.hid (HMD.out.keep hb4); clear ho hb4 hi2) | (refine step_copy_row (by rfl) (.tmp 27) (.tmp 29) (by rfl) g n n a2 count cap2 (by rfl) (by rfl) (List.replicate n 0) (takenL c first count zs) HM4.out.own (by simp) HI2.out hkn ?_; intro w5 hg5 ho5; have HM5 := Lib.hid (HM4.out.copied (M' := takenL c first count zs ++ List.replicate (n - count) 0) (by rw [List.length_append, HTL.out, List.length_replicate]; omega) (by have := hg5.out; rw [List.drop_replicate] at this; exact this) ho5.out); clear hg5 ho5))
    obtain ⟨n0, n1, n2, n3⟩ := cells4 HM5.out.next
    obtain ⟨z0, z1, z2, z3⟩ := cells4 HM5.out.zero
    obtain ⟨f0, f1, f2, f3⟩ := froz4 HM5.out.zero
    go_wp2_with fail
    try simp only [Exit.inBlock, Exit.then]
    refine bodyPost_ret (ring_res rfl _ rfl (set4_at HM5.out.zero _ _ _ _)) rfl ?_
    have hgz : g ≠ w.heap.size + 1 := by have := HM5.out.big; omega
    exact ⟨_, _, rfl, Ints.of_row (e := 3) ((set4_other _ _ _ _ _ _ _ hgz).trans HM5.out.own) HM5.out.len (by unfold maxLen; omega) (grow_i64 HT.out), set4_below HM5.out.below (by omega) _ _ _ _, fun x hx => by cases hx; have := HM5.out.big; show _ ≤ g; omega⟩
  · have hm := gmid_b (n := n) HI.out H1.out H2.out HB.out
    obtain ⟨W3, hW3⟩ : ∃ x, x = ((w1.alloc (.cells #[.int .i64 n, .int .i64 0, .slice (some ⟨w1.heap.size + 1, 0, none⟩) n n, .int .i64 count] 24)).alloc (.cells (madeCells #[.int .i64 0] n) 3)).drew := ⟨_, rfl⟩
    obtain ⟨NB, hNB⟩ : ∃ x, x = w1.heap.size := ⟨_, rfl⟩
    obtain ⟨g, hg⟩ : ∃ x, x = w1.heap.size + 1 := ⟨_, rfl⟩
    rw [← hW3] at hm ⊢
    rw [← hg, ← hNB] at hm
    rw [← hg, ← hNB]
    have HM := Lib.hid hm
    clear hm hW3 hNB hg
    go_wp2_with fail
    have HMD := Lib.hid (HM.out.keep (W' := W3.drew) ((Below.refl _ _).drew))
    go_region_held3 (fun W => W.cell? ⟨w.heap.size, 0, none⟩ = some (.int .i64 c) ∧ W.cell? ⟨w.heap.size, 1, none⟩ = some (.int .i64 first) ∧ W.cell? ⟨w.heap.size, 2, none⟩ = some (.slice a c cap) ∧ W.cell? ⟨w.heap.size, 3, none⟩ = some (.int .i64 count) ∧ W.cell? ⟨NB, 2, none⟩ = some (.slice (some ⟨g, 0, none⟩) n n))
      (first | exact gmid_cells HMD.out | exact gmid_cells HM5.out | exact gmid_cells HM4.out)
      (first | (go_at_call 19; refine (hGa.out _ HMD.out.src).mono ?_; rintro e w4 ⟨v, rfl, ho, hb4⟩; obtain ⟨a2, cap2, hv, hi2⟩ := ho.ints HT.out; rw [HTL.out] at hv hi2; subst hv; have HI2 := Lib.hid hi2; have HM4 := Lib.hid (HMD.out.keep hb4); clear ho hb4 hi2) | (refine step_copy_row (by rfl) (.tmp 27) (.tmp 29) (by rfl) g n n a2 count cap2 (by rfl) (by rfl) (List.replicate n 0) (takenL c first count zs) HM4.out.own (by simp) HI2.out hkn ?_; intro w5 hg5 ho5; have HM5 := Lib.hid (HM4.out.copied (M' := takenL c first count zs ++ List.replicate (n - count) 0) (by rw [List.length_append, HTL.out, List.length_replicate]; omega) (by have := hg5.out; rw [List.drop_replicate] at this; exact this) ho5.out); clear hg5 ho5))
    obtain ⟨n0, n1, n2, n3⟩ := cells4 HM5.out.next
    obtain ⟨z0, z1, z2, z3⟩ := cells4 HM5.out.zero
    obtain ⟨f0, f1, f2, f3⟩ := froz4 HM5.out.zero
    go_wp2_with fail
    try simp only [Exit.inBlock, Exit.then]
    refine bodyPost_ret (ring_res rfl _ rfl (set4_at HM5.out.zero _ _ _ _)) rfl ?_
    have hgz : g ≠ w.heap.size + 1 := by have := HM5.out.big; omega
    exact ⟨_, _, rfl, Ints.of_row (e := 3) ((set4_other _ _ _ _ _ _ _ hgz).trans HM5.out.own) HM5.out.len (by unfold maxLen; omega) (grow_i64 HT.out), set4_below HM5.out.below (by omega) _ _ _ _, fun x hx => by cases hx; have := HM5.out.big; show _ ≤ g; omega⟩
end Go.Proofs.Ytamaocnehneilaa
