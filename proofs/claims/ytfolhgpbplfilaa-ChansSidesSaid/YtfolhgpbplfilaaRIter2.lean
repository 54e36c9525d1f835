/- The closure of taken, in whatever loop. -/
import Derived.Test.YtfolhgpbplfilaaRIter
import Derived.BigRegionIn
import Derived.Stop.RegionWithIn
namespace Go.Proofs.Ytfolhgpbplfilaa
open Go.RowKit Go.Shelf
attribute [local go_sem] Oper.semAt_some
def KpB (n₀ Bs : Nat) (W W' : World) : Prop := Below n₀ W W' ∧ W'.heap[Bs]? = W.heap[Bs]?
theorem KpB.trans {n₀ Bs : Nat} {A B C : World} (h : KpB n₀ Bs A B) (k : KpB n₀ Bs B C) : KpB n₀ Bs A C := ⟨h.1.trans k.1, k.2.trans h.2⟩
theorem kpb_new (n₀ Bs : Nat) (w : World) (o : Obj) (h : n₀ ≤ w.heap.size) (hb : Bs < w.heap.size) : KpB n₀ Bs w ((w.alloc o).drew) := by
  refine ⟨((Below.refl _ _).alloc h o).drew, ?_⟩
  show (w.alloc o).heap[Bs]? = _
  exact Below.heap_alloc _ _ _ hb
theorem cell_of_block {W : World} {B j : Nat} {xs : Array Value} {t : TypeId} (h : W.heap[B]? = some (.cells xs t (0, 0))) : W.cell? ⟨B, j, none⟩ = xs[j]? := by
  simp [World.cell?, h]
set_option maxRecDepth 100000 in
set_option maxHeartbeats 2000000 in
theorem taken1_in (n : Nat) (hn : 2 ≤ n) (l Bs n₀ : Nat) (c first count : Nat) (a : Option Addr) (cap : Nat) (zs : List Int) (hc0 : count ≤ c) (hc8 : c ≤ 8) (hf : first < 9) (J Jx : List Int → World → Prop)
    (hJa : ∀ pre W o, J pre W → J pre (W.alloc o)) (hJd : ∀ pre W, J pre W → J pre W.drew)
    (hY : ∀ pre x W, J pre W → pre.length < count → YieldAt Fence.wide (n - 1) Try.prog l #[.int .i64 x] W fun e W' =>
      (e = .returned (.bool true) ∧ J (pre ++ [x]) W' ∧ KpB n₀ Bs W W') ∨ (e = .returned (.bool false) ∧ Jx (pre ++ [x]) W'))
    (W : World) (hn0 : n₀ ≤ W.heap.size) (hBs : W.heap[Bs]? = some (.cells #[.int .i64 c, .int .i64 first, .slice a c cap, .int .i64 count] 89 (0, 0))) (hI : ∀ j, j < c → ∃ b off, a = some ⟨b, off, none⟩ ∧ b < n₀ ∧ W.cell? ⟨b, off + j, none⟩ = some (.int .i64 (en zs j))) (h0 : J [] W) :
    CallsIn Fence.wide n Try.prog 67 #[.func (.yield l) #[] #[], .pointer (some ⟨Bs, 0, none⟩)] W fun e W' => (∃ v, e = .returned v) ∧
      ((∃ ys, ys = upto (fun i => en zs ((first + i) % c)) count ∧ J ys W') ∨ (∃ pre, (∃ k, k ≤ count ∧ pre = upto (fun i => en zs ((first + i) % c)) k) ∧ Jx pre W')) := by
  have q0 : W.cell? ⟨Bs, 0, none⟩ = some (.int .i64 c) := cell_of_block hBs
  have q1 : W.cell? ⟨Bs, 1, none⟩ = some (.int .i64 first) := cell_of_block hBs
  have q2 : W.cell? ⟨Bs, 2, none⟩ = some (.slice a c cap) := cell_of_block hBs
  have q3 : W.cell? ⟨Bs, 3, none⟩ = some (.int .i64 count) := cell_of_block hBs
  refine callsIn_of_wp Try.func67 rfl trivial ?_ rfl
  simp only [Try.ntmps67, List.size_toArray, List.length_cons, List.length_nil, Nat.reduceAdd, Nat.reduceSub, Array.replicate_succ, Array.replicate_zero, List.push_toArray, List.append_toArray, List.nil_append, List.cons_append]
  gi_wp2
  gi_loopw [6] (fun i wr => ∃ k : Nat, k ≤ count ∧ i = .int .i64 k ∧ J (upto (fun i => en zs ((first + i) % c)) k) wr ∧ KpB n₀ Bs W wr)
    (fun i _ => count - (intOf i).toNat)
  case atStart => exact ⟨0, Nat.zero_le _, rfl, h0, Below.refl _ _, rfl⟩
  case round =>
    obtain ⟨k, hk, rfl, hJs, hnx⟩ := hrel
    have hBr : wr.heap[Bs]? = _ := hnx.2.trans hBs
    have q0 : wr.cell? ⟨Bs, 0, none⟩ = some (.int .i64 c) := cell_of_block hBr
    have q1 : wr.cell? ⟨Bs, 1, none⟩ = some (.int .i64 first) := cell_of_block hBr
    have q2 : wr.cell? ⟨Bs, 2, none⟩ = some (.slice a c cap) := cell_of_block hBr
    have q3 : wr.cell? ⟨Bs, 3, none⟩ = some (.int .i64 count) := cell_of_block hBr
    have h1n : 1 ≤ n := by omega
    have h2n : 1 ≤ n - 1 := by omega
    by_cases hlt : k < count
    · have hlt' : (k : Int) < (count : Int) := by omega
      obtain ⟨q, hq⟩ : ∃ q, q = (first + k) % c := ⟨_, rfl⟩
      have hqc : q < c := by rw [hq]; exact Nat.mod_lt _ (by omega)
      obtain ⟨b, off, rfl, hb, hc⟩ := hI q hqc
      have hcx : wr.cell? ⟨b, off + q, none⟩ = some (.int .i64 (en zs q)) := (hnx.1.cell (p := ⟨b, off + q, none⟩) hb).trans hc
      have hqi : ((first : Int) + (k : Int)) % (c : Int) = (q : Int) := by rw [hq]; simp
      obtain ⟨fn, tmps, assign, body, hy, hR⟩ := hY _ (en zs q) ((wr.alloc (.cells #[.int .i64 c, .int .i64 first, .slice (some ⟨b, off, none⟩) c cap, .int .i64 count] 89)).drew) (hJd _ _ (hJa _ _ _ hJs)) (by rw [upto_len]; exact hlt)
      have hR2 := RoundIn.mono hR (R' := fun e W' => ∃ bb : Bool, e = .returned (.bool bb) ∧ Hid ((bb = true ∧ J (upto (fun i => en zs ((first + i) % c)) (k + 1)) W' ∧ KpB n₀ Bs ((wr.alloc (.cells #[.int .i64 c, .int .i64 first, .slice (some ⟨b, off, none⟩) c cap, .int .i64 count] 89)).drew) W') ∨ (bb = false ∧ Jx (upto (fun i => en zs ((first + i) % c)) (k + 1)) W'))) (by
        intro e W' h
        rw [upto_succ, ← hq]
        rcases h with ⟨rfl, hj, hkk⟩ | ⟨rfl, hj⟩
        · exact ⟨true, rfl, .inl ⟨rfl, hj, hkk⟩⟩
        · exact ⟨false, rfl, .inr ⟨rfl, hj⟩⟩)
      have hP : ∀ V : World, CallsIn Fence.wide (n - 1) Try.prog 68 #[.agg #[.int .i64 c, .int .i64 first, .slice (some ⟨b, off, none⟩) c cap, .int .i64 count], .int .i64 k] V fun e w' => e = .returned (.int .i64 q) ∧ w' = V.alloc (.cells #[.int .i64 c, .int .i64 first, .slice (some ⟨b, off, none⟩) c cap, .int .i64 count] 89) := fun V => by
        have := place_in Fence.wide (n - 1) trivial rfl c first count k (.slice (some ⟨b, off, none⟩) c cap) V (by omega) (by omega) (by omega) (by omega) (by omega) (by omega)
        rw [hqi] at this
        exact this
      have hqlt : (q : Int) < (c : Int) := by omega
      have hq0 : (0 : Int) ≤ (q : Int) := by omega
      have hbs : b < wr.heap.size := World.block_lt_of_cell? _ _ hcx
      have hcx2 : ((wr.alloc (.cells #[.int .i64 c, .int .i64 first, .slice (some ⟨b, off, none⟩) c cap, .int .i64 count] 89)).drew).cell? ⟨b, off + q, none⟩ = some (.int .i64 (en zs q)) := by
        rw [((Below.refl _ (wr.alloc (.cells #[.int .i64 c, .int .i64 first, .slice (some ⟨b, off, none⟩) c cap, .int .i64 count] 89))).drew).cell (p := ⟨b, off + q, none⟩) (by simp; omega), (below_alloc wr _).cell (p := ⟨b, off + q, none⟩) hbs, hcx]
      have hBs2 : ((wr.alloc (.cells #[.int .i64 c, .int .i64 first, .slice (some ⟨b, off, none⟩) c cap, .int .i64 count] 89)).drew).heap[Bs]? = some (.cells #[.int .i64 c, .int .i64 first, .slice (some ⟨b, off, none⟩) c cap, .int .i64 count] 89 (0, 0)) := by
        show (wr.alloc _).heap[Bs]? = _
        rw [Below.heap_alloc _ _ _ (Array.getElem?_eq_some_iff.1 hBr).1]; exact hBr
      have r2 := cell_of_block (j := 2) hBs2
      have r2 : ((wr.alloc (.cells #[.int .i64 c, .int .i64 first, .slice (some ⟨b, off, none⟩) c cap, .int .i64 count] 89)).drew).cell? ⟨Bs, 2, none⟩ = some (.slice (some ⟨b, off, none⟩) c cap) := r2
      clear hBs2
      have HR2 := Lib.hid hR2
      have HP := Lib.hid hP
      have HNX := Lib.hid hnx
      have HBL : Hid (Bs < wr.heap.size) := (Array.getElem?_eq_some_iff.1 hBr).1
      have HI := Lib.hid hI
      have HQ := Lib.hid hq
      clear hq hqi hY hI hJa hJd hnx hBs hBr h0 hR hR2 hP hJs hc
      gi_wp2
      gi_region_with (first | (refine ⟨trivial, ?_⟩; gi_at_call 68; refine (HP.out _).mono ?_; rintro e w2 ⟨rfl, rfl⟩; dsimp only) | (refine HR2.out.mono ?_; rintro e W3 ⟨bb, rfl, HB⟩))
      all_goals rcases HB.out with ⟨rfl, hJ3, hk3⟩ | ⟨rfl, hJx3⟩
      all_goals have HJ3 := by first | exact Lib.hid hJ3 | exact Lib.hid hJx3
      all_goals clear HB
      all_goals gi_wp2
      all_goals first
        | (go_roundw
           case rel => exact ⟨k + 1, by omega, by simp, HJ3.out, HNX.out.trans ((kpb_new _ _ _ _ (Nat.le_trans hn0 HNX.out.1.size) HBL.out).trans hk3)⟩
           case measure => simp [intOf]; omega)
        | (refine bodyPost_ret (results_none rfl _ _ _) rfl ?_
           exact ⟨⟨_, rfl⟩, .inr ⟨_, ⟨k + 1, by omega, rfl⟩, HJ3.out⟩⟩)
    · obtain rfl : k = count := by omega
      gi_wp2
      go_end0
      exact ⟨⟨_, rfl⟩, .inl ⟨_, rfl, hJs⟩⟩
end Go.Proofs.Ytfolhgpbplfilaa
