/- What an event waits for: others, as an iterator; edges. -/
import Derived.Test.YtjkbmenmpnidhaaO2
import Derived.Test.YtjkbmenmpnidhaaO3
namespace Go.Proofs.Ytjkbmenmpnidhaa
open Go.RowKit Go.Shelf
attribute [local go_sem] Oper.semAt_some
set_option linter.unusedSimpArgs false
set_option linter.unusedVariables false
set_option maxRecDepth 100000 in
set_option maxHeartbeats 8000000 in
theorem others_in (n : Nat) (p : BP) (x : Ev) (w : World) : CallsIn Fence.wide n Try.prog 45 #[bkV p, evV x] w fun e w' => e = .returned (.func (.func 77) #[] #[.pointer (some ⟨w.heap.size + 1, 0, none⟩), .pointer (some ⟨w.heap.size, 0, none⟩)]) ∧ w' = (w.alloc (.cells (bkC p) 41)).alloc (.cells (evC x) 48) := by
  refine callsIn_of_wp Try.func45 rfl trivial ?_ rfl
  simp only [Try.ntmps45, List.size_toArray, List.length_cons, List.length_nil, Nat.reduceAdd, Nat.reduceSub, Array.replicate_succ, Array.replicate_zero, List.push_toArray, List.append_toArray, List.nil_append, List.cons_append]
  gi_wp2
  go_ret
  exact ⟨rfl, rfl⟩
set_option maxRecDepth 100000 in
set_option maxHeartbeats 8000000 in
theorem edges_in (n : Nat) (p : BP) (i : Int) (w : World) : CallsIn Fence.wide n Try.prog 29 #[bkV p, .int .i64 i] w fun e w' => e = .returned (.func (.func 43) #[] #[.pointer (some ⟨w.heap.size, 0, none⟩), .pointer (some ⟨w.heap.size + 1, 0, none⟩)]) ∧ w' = (w.alloc (.cells (bkC p) 41)).alloc (.cells #[.int .i64 i] 3) := by
  refine callsIn_of_wp Try.func29 rfl trivial ?_ rfl
  simp only [Try.ntmps29, List.size_toArray, List.length_cons, List.length_nil, Nat.reduceAdd, Nat.reduceSub, Array.replicate_succ, Array.replicate_zero, List.push_toArray, List.append_toArray, List.nil_append, List.cons_append]
  gi_wp2
  go_ret
  exact ⟨rfl, rfl⟩
theorem others_len (caps : List Int) (L : List Ev) (x : Ev) (h : L.length ≤ 1000) : (othersZ caps L x).length ≤ 1000 := by
  unfold othersZ
  have hc := cntZ_le L 12 x.obj L.length
  repeat' split
  all_goals first | (simp; done) | (rw [unl_len]; omega)
set_option maxRecDepth 100000 in
set_option maxHeartbeats 8000000 in
theorem others_by (n : Nat) (hn : 2 ≤ n) (p : BP) (caps : List Int) (L : List Ev) (x : Ev) (w0 w : World) (eb bb : Nat) (fix : Nat → Prop) (hb0 : Book w0 p caps L) (hw : Below w0.heap.size w0 w) (hE : Bx w eb (evC x) 48) (hK : Bx w bb (bkC p) 41)
    (hf0 : ∀ k, k < w0.heap.size → fix k) (hfe : fix eb) (hfb : fix bb) (hx : EvOk x) (hfew : L.length ≤ 1000)
    (hcap : x.kind = 3 → 0 ≤ x.obj ∧ x.obj < (p.cn : Int) ∧ -9223372036854775808 ≤ x.no - capAt caps x.obj ∧ x.no - capAt caps x.obj ≤ 9223372036854775807) :
    SeqBy n Try.prog 77 #[.pointer (some ⟨eb, 0, none⟩), .pointer (some ⟨bb, 0, none⟩)] fix (w.heap.size + 2) (fun ys => ys = othersZ caps L x) (othersZ caps L x).length w := by
  intro l J Jx W hbel hsz hJ hJx hY h0
  have hE' := hE.below hbel
  have hK' := hK.below hbel
  have hwW := hw.trans (Below.mono hbel hw.size)
  have hb := hb0.below hwW
  have hle := hE.lt
  have hlk := hK.lt
  have hw0s := hw.size
  obtain ⟨x0, x1, x2, x3, x4⟩ := x
  obtain ⟨i0, i1, i2, i3, i4⟩ := hx
  dsimp only at i0 i1 i2 i3 i4 hcap
  show CallsIn Fence.wide n Try.prog 77 #[.func (.yield l) #[] #[], .pointer (some ⟨eb, 0, none⟩), .pointer (some ⟨bb, 0, none⟩)] W _
  have fin : ∀ z : List Int, z = othersZ caps L ⟨x0, x1, x2, x3, x4⟩ → CallsIn Fence.wide n Try.prog 77 #[.func (.yield l) #[] #[], .pointer (some ⟨eb, 0, none⟩), .pointer (some ⟨bb, 0, none⟩)] W (fun e W' => (∃ v, e = .returned v) ∧ (J z W' ∨ ∃ pre, Jx pre W')) →
      CallsIn Fence.wide n Try.prog 77 #[.func (.yield l) #[] #[], .pointer (some ⟨eb, 0, none⟩), .pointer (some ⟨bb, 0, none⟩)] W (fun e W' => (∃ v, e = .returned v) ∧ ((∃ xs, xs = othersZ caps L ⟨x0, x1, x2, x3, x4⟩ ∧ J xs W') ∨ ∃ pre, Jx pre W')) :=
    fun z hz h => CallsIn.mono h fun e W' hh => ⟨hh.1, hh.2.imp (fun hj => ⟨z, hz, hj⟩) id⟩
  by_cases k0 : x1 = 0
  · subst k0
    have ez : othersZ caps L ⟨x0, 0, x2, x3, x4⟩ = [x4] := rfl
    rw [ez] at hY
    exact fin _ ez.symm (others_0 n _ hn l (w.heap.size + 2) eb bb fix p caps L x0 x2 x3 x4 J Jx W hE' hK' hb hJ hY h0 (by simp))
  by_cases k5 : x1 = 5
  · subst k5
    have ez : othersZ caps L ⟨x0, 5, x2, x3, x4⟩ = [startZ L 3 x2 x3] := rfl
    rw [ez] at hY
    exact fin _ ez.symm (others_5 n _ hn l (w.heap.size + 2) eb bb fix p caps L x0 x2 x3 x4 J Jx W hE' hK' hb i2 i3 hJ hY h0 (by simp))
  by_cases k3 : x1 = 3
  · subst k3
    obtain ⟨c1, c2, c3, c4⟩ := hcap rfl
    obtain ⟨q, rfl⟩ : ∃ q : Nat, x2 = (q : Int) := ⟨x2.toNat, by omega⟩
    have hqa : capAt caps (q : Int) = en caps q := by unfold capAt; rw [Int.toNat_natCast]
    have ez : othersZ caps L ⟨x0, 3, (q : Int), x3, x4⟩ = [startZ L 5 (q : Int) (x3 - en caps q)] := by rw [← hqa]; rfl
    rw [ez] at hY
    rw [hqa] at c3 c4
    exact fin _ ez.symm (others_3 n _ hn l (w.heap.size + 2) eb bb fix p caps L x0 x3 x4 q J Jx W hE' hK' hb w0 hb0 hwW hf0 hfe hfb (by omega) i2 i3 c3 c4 hJ hY h0 (by simp))
  by_cases k6 : x1 = 6
  · subst k6
    have ez : othersZ caps L ⟨x0, 6, x2, x3, x4⟩ = [placeZ L 7 x2 0] := rfl
    rw [ez] at hY
    exact fin _ ez.symm (others_6 n _ hn l (w.heap.size + 2) eb bb fix p caps L x0 x2 x3 x4 J Jx W hE' hK' hb i2 i3 hJ hY h0 (by simp))
  by_cases k15 : x1 = 15
  · subst k15
    have ez : othersZ caps L ⟨x0, 15, x2, x3, x4⟩ = [placeZ L 14 x2 0] := rfl
    rw [ez] at hY
    exact fin _ ez.symm (others_15 n _ hn l (w.heap.size + 2) eb bb fix p caps L x0 x2 x3 x4 J Jx W hE' hK' hb i2 i3 hJ hY h0 (by simp))
  by_cases k11 : x1 = 11
  · subst k11
    have ez : othersZ caps L ⟨x0, 11, x2, x3, x4⟩ = unlZ L x2 := rfl
    rw [ez] at hY
    exact fin _ ez.symm (others_11 n _ hn l (w.heap.size + 2) eb bb fix p caps L x0 x2 x3 x4 J Jx W hE' hK' hb w0 hb0 hwW hf0 (by omega) i2 hfew (by omega) hfe hfb (by omega) (by omega) hJ hY h0 (Nat.le_refl _))
  · have ez : othersZ caps L ⟨x0, x1, x2, x3, x4⟩ = [] := by unfold othersZ; dsimp only; rw [if_neg k0, if_neg k5, if_neg k3, if_neg k6, if_neg k15, if_neg k11]
    exact fin _ ez.symm (others_no n _ hn l (w.heap.size + 2) eb bb fix p caps L x0 x1 x2 x3 x4 J Jx W hE' hK' hb k0 k5 k3 k6 k15 k11 hJ hY h0)
end Go.Proofs.Ytjkbmenmpnidhaa
