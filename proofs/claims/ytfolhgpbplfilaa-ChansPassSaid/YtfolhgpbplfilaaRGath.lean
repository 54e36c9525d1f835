/- What a ring's way hands on, and gathered. -/
import Derived.Test.YtfolhgpbplfilaaRIter
import Derived.BigRegionIn
import Derived.Stop.RegionWithIn
import Derived.RangeFuncWrites
import Derived.RangeFuncFrom
import Derived.RangeFuncBound
import Derived.RangeFuncNested
import Derived.RangeFuncCalls
namespace Go.Proofs.Ytfolhgpbplfilaa
open Go.RowKit Go.Shelf
attribute [local go_sem] Oper.semAt_some
def KpB (n₀ Bs : Nat) (W W' : World) : Prop := Below n₀ W W' ∧ W'.heap[Bs]? = W.heap[Bs]?
theorem KpB.trans {n₀ Bs : Nat} {A B C : World} (h : KpB n₀ Bs A B) (k : KpB n₀ Bs B C) : KpB n₀ Bs A C := ⟨h.1.trans k.1, k.2.trans h.2⟩
theorem kpb_new (n₀ Bs : Nat) (w : World) (o : Obj) (h : n₀ ≤ w.heap.size) (hb : Bs < w.heap.size) : KpB n₀ Bs w ((w.alloc o).drew) := by
  refine ⟨((Below.refl _ _).alloc h o).drew, ?_⟩
  show (w.alloc o).heap[Bs]? = _
  exact Below.heap_alloc _ _ _ hb
theorem cell_of_block {W : World} {B j : Nat} {xs : Array Value} {t : TypeId} (h : W.heap[B]? = some (.cells xs t (0, 0))) : W.cell? ⟨B, j, none⟩ = xs[j]? := by
  simp [World.cell?, h]
set_option maxRecDepth 100000 in
set_option maxHeartbeats 2000000 in
theorem taken1_in (n : Nat) (hn : 2 ≤ n) (l Bs n₀ : Nat) (c first count : Nat) (a : Option Addr) (cap : Nat) (zs : List Int) (hc0 : count ≤ c) (hc8 : c ≤ 8) (hf : first < 9) (J Jx : List Int → World → Prop)
    (hJa : ∀ pre W o, J pre W → J pre (W.alloc o)) (hJd : ∀ pre W, J pre W → J pre W.drew)
    (hY : ∀ pre x W, J pre W → pre.length < count → YieldAt Fence.wide (n - 1) Try.prog l #[.int .i64 x] W fun e W' =>
      (e = .returned (.bool true) ∧ J (pre ++ [x]) W' ∧ KpB n₀ Bs W W') ∨ (e = .returned (.bool false) ∧ Jx (pre ++ [x]) W'))
    (W : World) (hn0 : n₀ ≤ W.heap.size) (hBs : W.heap[Bs]? = some (.cells #[.int .i64 c, .int .i64 first, .slice a c cap, .int .i64 count] 89 (0, 0))) (hI : ∀ j, j < c → ∃ b off, a = some ⟨b, off, none⟩ ∧ b < n₀ ∧ W.cell? ⟨b, off + j, none⟩ = some (.int .i64 (en zs j))) (h0 : J [] W) :
    CallsIn Fence.wide n Try.prog 67 #[.func (.yield l) #[] #[], .pointer (some ⟨Bs, 0, none⟩)] W fun e W' => (∃ v, e = .returned v) ∧
      ((∃ ys, ys = upto (fun i => en zs ((first + i) % c)) count ∧ J ys W') ∨ (∃ pre, (∃ k, k ≤ count ∧ pre = upto (fun i => en zs ((first + i) % c)) k) ∧ Jx pre W')) := by
  have q0 : W.cell? ⟨Bs, 0, none⟩ = some (.int .i64 c) := cell_of_block hBs
  have q1 : W.cell? ⟨Bs, 1, none⟩ = some (.int .i64 first) := cell_of_block hBs
  have q2 : W.cell? ⟨Bs, 2, none⟩ = some (.slice a c cap) := cell_of_block hBs
  have q3 : W.cell? ⟨Bs, 3, none⟩ = some (.int .i64 count) := cell_of_block hBs
  refine callsIn_of_wp Try.func67 rfl trivial ?_ rfl
  simp only [Try.ntmps67, List.size_toArray, List.length_cons, List.length_nil, Nat.reduceAdd, Nat.reduceSub, Array.replicate_succ, Array.replicate_zero, List.push_toArray, List.append_toArray, List.nil_append, List.cons_append]
  gi_wp2
  gi_loopw [6] (fun i wr => ∃ k : Nat, k ≤ count ∧ i = .int .i64 k ∧ J (upto (fun i => en zs ((first + i) % c)) k) wr ∧ KpB n₀ Bs W wr)
    (fun i _ => count - (intOf i).toNat)
  case atStart => exact ⟨0, Nat.zero_le _, rfl, h0, Below.refl _ _, rfl⟩
  case round =>
    obtain ⟨k, hk, rfl, hJs, hnx⟩ := hrel
    have hBr : wr.heap[Bs]? = _ := hnx.2.trans hBs
    have q0 : wr.cell? ⟨Bs, 0, none⟩ = some (.int .i64 c) := cell_of_block hBr
    have q1 : wr.cell? ⟨Bs, 1, none⟩ = some (.int .i64 first) := cell_of_block hBr
    have q2 : wr.cell? ⟨Bs, 2, none⟩ = some (.slice a c cap) := cell_of_block hBr
    have q3 : wr.cell? ⟨Bs, 3, none⟩ = some (.int .i64 count) := cell_of_block hBr
    have h1n : 1 ≤ n := by omega
    have h2n : 1 ≤ n - 1 := by omega
    by_cases hlt : k < count
    · have hlt' : (k : Int) < (count : Int) := by omega
      obtain ⟨q, hq⟩ : ∃ q, q = (first + k) % c := ⟨_, rfl⟩
      have hqc : q < c := by rw [hq]; exact Nat.mod_lt _ (by omega)
      obtain ⟨b, off, rfl, hb, hc⟩ := hI q hqc
      have hcx : wr.cell? ⟨b, off + q, none⟩ = some (.int .i64 (en zs q)) := (hnx.1.cell (p := ⟨b, off + q, none⟩) hb).trans hc
      have hqi : ((first : Int) + (k : Int)) % (c : Int) = (q : Int) := by rw [hq]; simp
      obtain ⟨fn, tmps, assign, body, hy, hR⟩ := hY _ (en zs q) ((wr.alloc (.cells #[.int .i64 c, .int .i64 first, .slice (some ⟨b, off, none⟩) c cap, .int .i64 count] 89)).drew) (hJd _ _ (hJa _ _ _ hJs)) (by rw [upto_len]; exact hlt)
      have hR2 := RoundIn.mono hR (R' := fun e W' => ∃ bb : Bool, e = .returned (.bool bb) ∧ Hid ((bb = true ∧ J (upto (fun i => en zs ((first + i) % c)) (k + 1)) W' ∧ KpB n₀ Bs ((wr.alloc (.cells #[.int .i64 c, .int .i64 first, .slice (some ⟨b, off, none⟩) c cap, .int .i64 count] 89)).drew) W') ∨ (bb = false ∧ Jx (upto (fun i => en zs ((first + i) % c)) (k + 1)) W'))) (by
        intro e W' h
        rw [upto_succ, ← hq]
        rcases h with ⟨rfl, hj, hkk⟩ | ⟨rfl, hj⟩
        · exact ⟨true, rfl, .inl ⟨rfl, hj, hkk⟩⟩
        · exact ⟨false, rfl, .inr ⟨rfl, hj⟩⟩)
      have hP : ∀ V : World, CallsIn Fence.wide (n - 1) Try.prog 68 #[.agg #[.int .i64 c, .int .i64 first, .slice (some ⟨b, off, none⟩) c cap, .int .i64 count], .int .i64 k] V fun e w' => e = .returned (.int .i64 q) ∧ w' = V.alloc (.cells #[.int .i64 c, .int .i64 first, .slice (some ⟨b, off, none⟩) c cap, .int .i64 count] 89) := fun V => by
        have := place_in Fence.wide (n - 1) trivial rfl c first count k (.slice (some ⟨b, off, none⟩) c cap) V (by omega) (by omega) (by omega) (by omega) (by omega) (by omega)
        rw [hqi] at this
        exact this
      have hqlt : (q : Int) < (c : Int) := by omega
      have hq0 : (0 : Int) ≤ (q : Int) := by omega
      have hbs : b < wr.heap.size := World.block_lt_of_cell? _ _ hcx
      have hcx2 : ((wr.alloc (.cells #[.int .i64 c, .int .i64 first, .slice (some ⟨b, off, none⟩) c cap, .int .i64 count] 89)).drew).cell? ⟨b, off + q, none⟩ = some (.int .i64 (en zs q)) := by
        rw [((Below.refl _ (wr.alloc (.cells #[.int .i64 c, .int .i64 first, .slice (some ⟨b, off, none⟩) c cap, .int .i64 count] 89))).drew).cell (p := ⟨b, off + q, none⟩) (by simp; omega), (below_alloc wr _).cell (p := ⟨b, off + q, none⟩) hbs, hcx]
      have hBs2 : ((wr.alloc (.cells #[.int .i64 c, .int .i64 first, .slice (some ⟨b, off, none⟩) c cap, .int .i64 count] 89)).drew).heap[Bs]? = some (.cells #[.int .i64 c, .int .i64 first, .slice (some ⟨b, off, none⟩) c cap, .int .i64 count] 89 (0, 0)) := by
        show (wr.alloc _).heap[Bs]? = _
        rw [Below.heap_alloc _ _ _ (Array.getElem?_eq_some_iff.1 hBr).1]; exact hBr
      have r2 := cell_of_block (j := 2) hBs2
      have r2 : ((wr.alloc (.cells #[.int .i64 c, .int .i64 first, .slice (some ⟨b, off, none⟩) c cap, .int .i64 count] 89)).drew).cell? ⟨Bs, 2, none⟩ = some (.slice (some ⟨b, off, none⟩) c cap) := r2
      clear hBs2
      have HR2 := Lib.hid hR2
      have HP := Lib.hid hP
      have HNX := Lib.hid hnx
      have HBL : Hid (Bs < wr.heap.size) := (Array.getElem?_eq_some_iff.1 hBr).1
      have HI := Lib.hid hI
      have HQ := Lib.hid hq
      clear hq hqi hY hI hJa hJd hnx hBs hBr h0 hR hR2 hP hJs hc
      gi_wp2
      gi_region_with (first | (refine ⟨trivial, ?_⟩; gi_at_call 68; refine (HP.out _).mono ?_; rintro e w2 ⟨rfl, rfl⟩; dsimp only) | (refine HR2.out.mono ?_; rintro e W3 ⟨bb, rfl, HB⟩))
      all_goals rcases HB.out with ⟨rfl, hJ3, hk3⟩ | ⟨rfl, hJx3⟩
      all_goals have HJ3 := by first | exact Lib.hid hJ3 | exact Lib.hid hJx3
      all_goals clear HB
      all_goals gi_wp2
      all_goals first
        | (go_roundw
           case rel => exact ⟨k + 1, by omega, by simp, HJ3.out, HNX.out.trans ((kpb_new _ _ _ _ (Nat.le_trans hn0 HNX.out.1.size) HBL.out).trans hk3)⟩
           case measure => simp [intOf]; omega)
        | (refine bodyPost_ret (results_none rfl _ _ _) rfl ?_
           exact ⟨⟨_, rfl⟩, .inr ⟨_, ⟨k + 1, by omega, rfl⟩, HJ3.out⟩⟩)
    · obtain rfl : k = count := by omega
      gi_wp2
      go_end0
      exact ⟨⟨_, rfl⟩, .inl ⟨_, rfl, hJs⟩⟩
end Go.Proofs.Ytfolhgpbplfilaa
namespace Go.Proofs.Ytfolhgpbplfilaa
open Go.RowKit Go.Shelf
attribute [local go_sem] Oper.semAt_some

def encI (x : Int) : Array Value := #[.int .i64 x]
theorem grown_drew (W : World) : W.grownBy W.drew none := ⟨rfl, rfl, rfl, Nat.le_refl _, fun _ _ _ => rfl⟩
/-- the cells of a slice lie below n₀ -/
def Cells (n₀ : Nat) (W : World) (a : Option Addr) (len : Nat) (zs : List Int) : Prop := ∀ j, j < len → ∃ b off, a = some ⟨b, off, none⟩ ∧ b < n₀ ∧ W.cell? ⟨b, off + j, none⟩ = some (.int .i64 (en zs j))
theorem Cells.below {n₀ : Nat} {W W' : World} {a : Option Addr} {len : Nat} {zs : List Int} (h : Cells n₀ W a len zs) (hb : Below n₀ W W') : Cells n₀ W' a len zs := by
  intro j hj
  obtain ⟨b, off, e, hl, hc⟩ := h j hj
  exact ⟨b, off, e, hl, (hb.cell (p := ⟨b, off + j, none⟩) hl).trans hc⟩
theorem Cells.of_ints {w : World} {a : Option Addr} {len cap : Nat} {zs : List Int} (h : Ints w a len cap zs) : Cells w.heap.size w a len zs := by
  intro j hj
  obtain ⟨b, off, e, hc⟩ := h.cell j hj
  exact ⟨b, off, e, World.block_lt_of_cell? _ _ hc, hc⟩

def rowObj (c first : Nat) (s : Value) (count : Nat) : Obj := .cells #[.int .i64 c, .int .i64 first, s, .int .i64 count] 89 (0, 0)

theorem taken_stops (n : Nat) (hn : 2 ≤ n) (Bs n₀ : Nat) (c first count : Nat) (a : Option Addr) (cap : Nat) (zs : List Int) (hc0 : count ≤ c) (hc8 : c ≤ 8) (hf : first < 9) (w : World) (hn0 : n₀ ≤ w.heap.size)
    (hBs : w.heap[Bs]? = some (rowObj c first (.slice a c cap) count)) (hI : Cells n₀ w a c zs) :
    SeqStopsK Fence.wide n Try.prog 67 #[.pointer (some ⟨Bs, 0, none⟩)] encI (KpB n₀ Bs) (fun ys => ys = upto (fun i => en zs ((first + i) % c)) count) (fun pre => ∃ k, k ≤ count ∧ pre = upto (fun i => en zs ((first + i) % c)) k) count w :=
  fun l J Jx W hW hJ _ hY h0 => taken1_in n hn l Bs n₀ c first count a cap zs hc0 hc8 hf J Jx
    (fun pre V o h => hJ pre V _ none h (World.grownBy_alloc V o none) (fun r e => by cases e))
    (fun pre V h => hJ pre V _ none h (grown_drew V) (fun r e => by cases e)) hY W (Nat.le_trans hn0 hW.size)
    ((hW.block Bs (Array.getElem?_eq_some_iff.1 hBs).1).trans hBs) (hI.below (hW.mono hn0)) h0

theorem slots_stops (n : Nat) (hn : 1 ≤ n) (Bs n₀ : Nat) (c first count : Nat) (a : Option Addr) (cap : Nat) (zs : List Int) (hc8 : c ≤ 8) (w : World) (hn0 : n₀ ≤ w.heap.size)
    (hBs : w.heap[Bs]? = some (rowObj c first (.slice a c cap) count)) (hI : Cells n₀ w a c zs) :
    SeqStopsK Fence.wide n Try.prog 73 #[.pointer (some ⟨Bs, 0, none⟩)] encI (KpB n₀ Bs) (fun ys => ys = upto (en zs) c) (fun pre => ∃ k, k ≤ c ∧ pre = upto (en zs) k) c w :=
  fun l J Jx W hW _ _ hY h0 => slots1_in Fence.wide n trivial rfl hn l Bs n₀ a c cap zs (by omega) J Jx
    (fun pre x V hj hl => YieldAt.mono (hY pre x V hj hl) fun e V' h => by
      rcases h with ⟨h1, h2, h3⟩ | h
      · exact .inl ⟨h1, h2, h3.1⟩
      · exact .inr h) W (by have hb2 := ((hW.block Bs (Array.getElem?_eq_some_iff.1 hBs).1).trans hBs); exact cell_of_block hb2) (hI.below (hW.mono hn0)) h0
theorem gath_facts (w w1 : World) (c first count : Nat) (a : Option Addr) (cap : Nat) (hg : (w.alloc (.cells #[.int .i64 c, .int .i64 first, .slice a c cap, .int .i64 count] 24)).grownBy w1 none) :
    w.heap.size < w1.heap.size ∧
    (w1.alloc (.cells #[.slice (some ⟨w.heap.size + 1, 0, none⟩) 0 c] 22)).cell? ⟨w.heap.size, 0, none⟩ = some (.int .i64 c) ∧
    (w1.alloc (.cells #[.slice (some ⟨w.heap.size + 1, 0, none⟩) 0 c] 22)).cell? ⟨w.heap.size, 1, none⟩ = some (.int .i64 first) ∧
    (w1.alloc (.cells #[.slice (some ⟨w.heap.size + 1, 0, none⟩) 0 c] 22)).cell? ⟨w.heap.size, 2, none⟩ = some (.slice a c cap) ∧
    (w1.alloc (.cells #[.slice (some ⟨w.heap.size + 1, 0, none⟩) 0 c] 22)).cell? ⟨w.heap.size, 3, none⟩ = some (.int .i64 count) ∧
    Below w.heap.size w w1 := by
  have h1 : w1.heap[w.heap.size]? = some (.cells #[.int .i64 c, .int .i64 first, .slice a c cap, .int .i64 count] 24 (0, 0)) := by
    rw [hg.block w.heap.size (by simp) (by simp)]; exact heap_alloc_new w _
  have hlt := (Array.getElem?_eq_some_iff.1 h1).1
  have h2 : (w1.alloc (.cells #[.slice (some ⟨w.heap.size + 1, 0, none⟩) 0 c] 22)).heap[w.heap.size]? = some (.cells #[.int .i64 c, .int .i64 first, .slice a c cap, .int .i64 count] 24 (0, 0)) := by
    rw [Below.heap_alloc _ _ _ hlt]; exact h1
  exact ⟨hlt, cell_of_block h2, cell_of_block h2, cell_of_block h2, cell_of_block h2, (below_alloc w _).grown hg (by simp) (fun k hk => by cases hk)⟩
theorem row_not {W : World} {Bs base k c first count : Nat} {s v : Value} {xs : List Value} (h : W.heap[Bs]? = some (rowObj c first s count)) (hr : W.ownsRow base 3 1 v k xs) : some Bs ≠ v.ownBlock := by
  rcases hr.2 with ⟨rfl, _⟩ | ⟨g, cap, cur, rfl, _, hgb, _⟩
  · simp [Value.ownBlock]
  · intro e'
    obtain rfl : Bs = g := by simpa [Value.ownBlock] using e'
    rw [h] at hgb
    simp [rowObj] at hgb
theorem row_kept {W wx : World} {Bs B base k c first count : Nat} {s v u : Value} {xs : List Value} {tmp : Obj} {t : TypeId} (h : W.heap[Bs]? = some (rowObj c first s count)) (hr : W.ownsRow base 3 1 v k xs) (hg : (W.alloc tmp).grownBy wx v.ownBlock) (hne : Bs ≠ B) (_hv : Boxed W B t u) (v' : Value) :
    (wx.setCell ⟨B, 0, none⟩ v').heap[Bs]? = W.heap[Bs]? := by
  have hlt := (Array.getElem?_eq_some_iff.1 h).1
  rw [Below.heap_setCell _ _ _ _ (fun e => hne e), hg.block Bs (by simp; omega) (row_not h hr), Below.heap_alloc _ _ _ hlt]
theorem row_own (Bs : Nat) (B : Nat) (o : Obj) (ho : o.isCells = true) : OwnFrom (β := List Int) B (fun _ W => W.heap[Bs]? = some o) := by
  intro s X Y row hs hg hr
  refine (hg.block Bs (Array.getElem?_eq_some_iff.1 hs).1 (fun e => ?_)).trans hs
  obtain ⟨_, o', h1, h2⟩ := hr Bs e.symm
  rw [hs] at h1; cases h1; rw [ho] at h2; cases h2
set_option maxRecDepth 100000 in
set_option maxHeartbeats 2000000 in
theorem gath_slots (n : Nat) (hn : 5 ≤ n) (c first count : Nat) (a : Option Addr) (cap : Nat) (zs : List Int) (w : World) (hI : Ints w a c cap zs) (hc8 : c ≤ 8) :
    CallsIn Fence.wide n Try.prog 57 #[ringV c first (.slice a c cap) count, .func (.func 72) #[] #[]] w fun e W' => ∃ v, e = .returned v ∧ W'.ownsRow w.heap.size 3 1 v (upto (en zs) c).length ((upto (en zs) c).map (Value.int .i64)) ∧ Below w.heap.size w W' := by
  unfold ringV
  have hC := Lib.hid (Cells.of_ints hI)
  clear hI
  have h1 : 1 ≤ n := by omega
  obtain ⟨i0, hi, hz0, hz1, hz2⟩ := info_parts Try.info3
  have hC8 : (c : Int) ≤ 8 := by omega
  refine callsIn_of_wp_marks Try.func57 rfl trivial ?_ rfl
  simp only [Try.ntmps57, List.size_toArray, List.length_cons, List.length_nil, Nat.reduceAdd, Nat.reduceSub, Array.replicate_succ, Array.replicate_zero, List.push_toArray, List.append_toArray, List.nil_append, List.cons_append]
  gi_wp2_with (gi_at_make; refine wpListIn_make_own _ rfl _ _ 22 rfl w.heap.size 3 i0 (.int .i64 0) 1 Try.underlying22 hi hz0 hz1 .i64 .i64 c c rfl rfl rfl (by rw [hz2]; omega) (by unfold maxLen; omega) (by simp) ?_; intro w1 hown1 hg1; obtain ⟨hsz1, q0, q1, q2, q3, hB1⟩ := gath_facts w w1 c first count a cap hg1; have HOWN := Lib.hid hown1; have HB1 := Lib.hid hB1; clear hown1 hB1 hg1)
  refine ⟨trivial, ?_⟩
  refine (slots_in Fence.wide (n - 1) trivial rfl _ _ _ _ _).mono ?_
  rintro e w' ⟨rfl, rfl⟩
  obtain ⟨W0, hW0⟩ : ∃ W0, W0 = (w1.alloc (.cells #[.slice (some ⟨w.heap.size + 1, 0, none⟩) 0 c] 22)).alloc (.cells #[.int .i64 c, .int .i64 first, .slice a c cap, .int .i64 count] 89) := ⟨_, rfl⟩
  have hB0 : Below w.heap.size w W0 := by rw [hW0]; exact (HB1.out.alloc (by omega) _).alloc (by simp; omega) _
  have hsz0 : W0.heap.size = w1.heap.size + 2 := by rw [hW0]; simp
  have bL : Boxed W0 w1.heap.size 22 (.slice (some ⟨w.heap.size + 1, 0, none⟩) 0 c) := by rw [hW0]; exact (Boxed.new w1 22 _).alloc _
  have hbs : W0.heap[w1.heap.size + 1]? = some (rowObj c first (.slice a c cap) count) := by
    rw [hW0]
    have := heap_alloc_new (w1.alloc (.cells #[.slice (some ⟨w.heap.size + 1, 0, none⟩) 0 c] 22)) (.cells #[.int .i64 c, .int .i64 first, .slice a c cap, .int .i64 count] 89)
    rw [World.size_alloc] at this; exact this
  have hrow0 : W0.ownsRow w.heap.size 3 1 (.slice (some ⟨w.heap.size + 1, 0, none⟩) 0 c) 0 [] := by
    have := HOWN.out
    rw [World.size_alloc] at this
    rw [hW0]; exact (World.ownsRow.alloc (World.ownsRow.alloc this _) _)
  rw [World.size_alloc, ← hW0]
  clear hW0 q0 q1 q2 q3
  have HB0 := Lib.hid hB0; have BL := Lib.hid bL; have HBS := Lib.hid hbs; have HR0 := Lib.hid hrow0
  clear hB0 bL hbs hrow0
  gi_wp2
  refine wpIn_rangeFunc_ownG rfl h1 (gf := 73) (lb := #[.pointer (some ⟨w1.heap.size + 1, 0, none⟩)]) rfl trivial (enters_of Try.func73 (by kernel_rfl) rfl)
    (slots_stops (n - 1) (by omega) (w1.heap.size + 1) w.heap.size c first count a cap zs hc8 W0 (by omega) HBS.out (hC.out.below HB0.out))
    (fun h k => h.trans k) (fun V l o o' hl ho hc hw => ⟨belowK_b (w := W0) (by omega) V l o o' hl ho hc hw, World.putObj_heap_other (fun e => by omega)⟩) (Below.refl _ _) (fun _ => rfl)
    (fun pre W => ((∃ v, Boxed W w1.heap.size 22 v ∧ W.ownsRow w.heap.size 3 1 v pre.length (pre.map (Value.int .i64)) ∧ True) ∧ Below w.heap.size w W) ∧ W.heap[w1.heap.size + 1]? = some (rowObj c first (.slice a c cap) count))
    (fun _ _ _ => False)
    (OwnFrom.and (OwnFrom.and (Own.from (holdsRow_own w.heap.size w1.heap.size 22 3 1 (fun pre : List Int => pre.length) (fun pre => pre.map (Value.int .i64)) (fun _ _ => True)) _) (ownFrom_below (Nat.le_refl _) (by omega))) (row_own _ _ _ rfl))
    (fun _ _ _ _ _ hs _ _ => hs)
    ⟨⟨⟨_, BL.out, HR0.out, trivial⟩, HB0.out⟩, HBS.out⟩
    (fun x => { tmps := #[.agg #[.int .i64 c, .int .i64 first, .slice a c cap, .int .i64 count], .func (.func 72) #[] #[], .pointer (some ⟨w.heap.size, 0, none⟩), undef, .slice none 0 0, .pointer (some ⟨w1.heap.size, 0, none⟩), .int .i64 x, .pointer (some ⟨w.heap.size, 0, none⟩), .int .i64 c, .slice (some ⟨w.heap.size + 1, 0, none⟩) 0 c, .func (.func 72) #[] #[], .agg #[.int .i64 c, .int .i64 first, .slice a c cap, .int .i64 count], .func (.func 73) #[] #[.pointer (some ⟨w1.heap.size + 1, 0, none⟩)], .int .i64 x, undef, undef, undef, undef, undef], defers := [] }) ?assign ?body ?done ?stop
  case assign =>
    intro l x W K hK
    unfold encI
    gi_wp2
    exact hK
  case body =>
    rintro l pre x W ⟨⟨⟨v, hv, hrow, _⟩, hB⟩, hbs⟩ hlt
    have hc := hv.cell
    gi_wp2_with (gi_at_builtin; refine wpListIn_append_own _ rfl _ _ 22 rfl w.heap.size 3 i0 (.int .i64 0) 1 8 Try.underlying22 hi hz0 hz1 hz2 rfl (by decide) _ _ _ rfl (hrow.alloc _) ⟨W.heap.size, 0, none⟩ 1 1 [.int .i64 x] rfl rfl (cell_one_new _ _ _) (by simp [Value.oneCell']) (by unfold maxLen; omega) (by omega) (by have := hB.size; simp; omega) ?_; intro v' wx hown' hgrow _; obtain ⟨g', cap', rfl⟩ := ownsRow_succ hown'; obtain ⟨hv1, hv2, hr2, hk2, hb2⟩ := hv.appended (by decide) hrow hB.size (by omega) hown' hgrow; have hc1 := hv1.cell; have hf1 := hv1.frozen; have hbk := row_kept hbs hrow hgrow (by omega) hv)
    exact ⟨hk2.from _, ⟨hb2, hbk _⟩, ⟨⟨_, hv2, by simpa using hr2, trivial⟩, hB.trans hb2⟩, (hbk _).trans hbs⟩
  case done =>
    rintro D ys W hD rfl ⟨⟨⟨v, hv, hrow, _⟩, hB⟩, hbs⟩ hK
    have hc := hv.cell
    gi_wp2
    refine ⟨by simp, .inl ⟨_, _, rfl, run_takeDeferred hK, ?_⟩⟩
    exact ⟨_, results_tmp rfl _ _ _, v, rfl, ownsRow_putObj hrow _ hK rfl, hB.trans (belowK_b (w := w) (Nat.le_refl _) W D _ _ (by omega) hK rfl rfl)⟩
  case stop =>
    rintro D c pre W _ _ h _
    exact h.elim

set_option maxRecDepth 100000 in
set_option maxHeartbeats 2000000 in
theorem gath_taken (n : Nat) (hn : 5 ≤ n) (c first count : Nat) (a : Option Addr) (cap : Nat) (zs : List Int) (w : World) (hI : Ints w a c cap zs) (hc8 : c ≤ 8) (hc0 : count ≤ c) (hf : first < 9) :
    CallsIn Fence.wide n Try.prog 57 #[ringV c first (.slice a c cap) count, .func (.func 58) #[] #[]] w fun e W' => ∃ v, e = .returned v ∧ W'.ownsRow w.heap.size 3 1 v (upto (fun i => en zs ((first + i) % c)) count).length ((upto (fun i => en zs ((first + i) % c)) count).map (Value.int .i64)) ∧ Below w.heap.size w W' := by
  unfold ringV
  have hC := Lib.hid (Cells.of_ints hI)
  clear hI
  have h1 : 1 ≤ n := by omega
  obtain ⟨i0, hi, hz0, hz1, hz2⟩ := info_parts Try.info3
  have hC8 : (c : Int) ≤ 8 := by omega
  refine callsIn_of_wp_marks Try.func57 rfl trivial ?_ rfl
  simp only [Try.ntmps57, List.size_toArray, List.length_cons, List.length_nil, Nat.reduceAdd, Nat.reduceSub, Array.replicate_succ, Array.replicate_zero, List.push_toArray, List.append_toArray, List.nil_append, List.cons_append]
  gi_wp2_with (gi_at_make; refine wpListIn_make_own _ rfl _ _ 22 rfl w.heap.size 3 i0 (.int .i64 0) 1 Try.underlying22 hi hz0 hz1 .i64 .i64 c c rfl rfl rfl (by rw [hz2]; omega) (by unfold maxLen; omega) (by simp) ?_; intro w1 hown1 hg1; obtain ⟨hsz1, q0, q1, q2, q3, hB1⟩ := gath_facts w w1 c first count a cap hg1; have HOWN := Lib.hid hown1; have HB1 := Lib.hid hB1; clear hown1 hB1 hg1)
  refine ⟨trivial, ?_⟩
  refine (taken_in Fence.wide (n - 1) trivial rfl _ _ _ _ _).mono ?_
  rintro e w' ⟨rfl, rfl⟩
  obtain ⟨W0, hW0⟩ : ∃ W0, W0 = (w1.alloc (.cells #[.slice (some ⟨w.heap.size + 1, 0, none⟩) 0 c] 22)).alloc (.cells #[.int .i64 c, .int .i64 first, .slice a c cap, .int .i64 count] 89) := ⟨_, rfl⟩
  have hB0 : Below w.heap.size w W0 := by rw [hW0]; exact (HB1.out.alloc (by omega) _).alloc (by simp; omega) _
  have hsz0 : W0.heap.size = w1.heap.size + 2 := by rw [hW0]; simp
  have bL : Boxed W0 w1.heap.size 22 (.slice (some ⟨w.heap.size + 1, 0, none⟩) 0 c) := by rw [hW0]; exact (Boxed.new w1 22 _).alloc _
  have hbs : W0.heap[w1.heap.size + 1]? = some (rowObj c first (.slice a c cap) count) := by
    rw [hW0]
    have := heap_alloc_new (w1.alloc (.cells #[.slice (some ⟨w.heap.size + 1, 0, none⟩) 0 c] 22)) (.cells #[.int .i64 c, .int .i64 first, .slice a c cap, .int .i64 count] 89)
    rw [World.size_alloc] at this; exact this
  have hrow0 : W0.ownsRow w.heap.size 3 1 (.slice (some ⟨w.heap.size + 1, 0, none⟩) 0 c) 0 [] := by
    have := HOWN.out
    rw [World.size_alloc] at this
    rw [hW0]; exact (World.ownsRow.alloc (World.ownsRow.alloc this _) _)
  rw [World.size_alloc, ← hW0]
  clear hW0 q0 q1 q2 q3
  have HB0 := Lib.hid hB0; have BL := Lib.hid bL; have HBS := Lib.hid hbs; have HR0 := Lib.hid hrow0
  clear hB0 bL hbs hrow0
  gi_wp2
  refine wpIn_rangeFunc_ownG rfl h1 (gf := 67) (lb := #[.pointer (some ⟨w1.heap.size + 1, 0, none⟩)]) rfl trivial (enters_of Try.func67 (by kernel_rfl) rfl)
    (taken_stops (n - 1) (by omega) (w1.heap.size + 1) w.heap.size c first count a cap zs hc0 hc8 hf W0 (by omega) HBS.out (hC.out.below HB0.out))
    (fun h k => h.trans k) (fun V l o o' hl ho hc hw => ⟨belowK_b (w := W0) (by omega) V l o o' hl ho hc hw, World.putObj_heap_other (fun e => by omega)⟩) (Below.refl _ _) (fun _ => rfl)
    (fun pre W => ((∃ v, Boxed W w1.heap.size 22 v ∧ W.ownsRow w.heap.size 3 1 v pre.length (pre.map (Value.int .i64)) ∧ True) ∧ Below w.heap.size w W) ∧ W.heap[w1.heap.size + 1]? = some (rowObj c first (.slice a c cap) count))
    (fun _ _ _ => False)
    (OwnFrom.and (OwnFrom.and (Own.from (holdsRow_own w.heap.size w1.heap.size 22 3 1 (fun pre : List Int => pre.length) (fun pre => pre.map (Value.int .i64)) (fun _ _ => True)) _) (ownFrom_below (Nat.le_refl _) (by omega))) (row_own _ _ _ rfl))
    (fun _ _ _ _ _ hs _ _ => hs)
    ⟨⟨⟨_, BL.out, HR0.out, trivial⟩, HB0.out⟩, HBS.out⟩
    (fun x => { tmps := #[.agg #[.int .i64 c, .int .i64 first, .slice a c cap, .int .i64 count], .func (.func 58) #[] #[], .pointer (some ⟨w.heap.size, 0, none⟩), undef, .slice none 0 0, .pointer (some ⟨w1.heap.size, 0, none⟩), .int .i64 x, .pointer (some ⟨w.heap.size, 0, none⟩), .int .i64 c, .slice (some ⟨w.heap.size + 1, 0, none⟩) 0 c, .func (.func 58) #[] #[], .agg #[.int .i64 c, .int .i64 first, .slice a c cap, .int .i64 count], .func (.func 67) #[] #[.pointer (some ⟨w1.heap.size + 1, 0, none⟩)], .int .i64 x, undef, undef, undef, undef, undef], defers := [] }) ?assign ?body ?done ?stop
  case assign =>
    intro l x W K hK
    unfold encI
    gi_wp2
    exact hK
  case body =>
    rintro l pre x W ⟨⟨⟨v, hv, hrow, _⟩, hB⟩, hbs⟩ hlt
    have hc := hv.cell
    gi_wp2_with (gi_at_builtin; refine wpListIn_append_own _ rfl _ _ 22 rfl w.heap.size 3 i0 (.int .i64 0) 1 8 Try.underlying22 hi hz0 hz1 hz2 rfl (by decide) _ _ _ rfl (hrow.alloc _) ⟨W.heap.size, 0, none⟩ 1 1 [.int .i64 x] rfl rfl (cell_one_new _ _ _) (by simp [Value.oneCell']) (by unfold maxLen; omega) (by omega) (by have := hB.size; simp; omega) ?_; intro v' wx hown' hgrow _; obtain ⟨g', cap', rfl⟩ := ownsRow_succ hown'; obtain ⟨hv1, hv2, hr2, hk2, hb2⟩ := hv.appended (by decide) hrow hB.size (by omega) hown' hgrow; have hc1 := hv1.cell; have hf1 := hv1.frozen; have hbk := row_kept hbs hrow hgrow (by omega) hv)
    exact ⟨hk2.from _, ⟨hb2, hbk _⟩, ⟨⟨_, hv2, by simpa using hr2, trivial⟩, hB.trans hb2⟩, (hbk _).trans hbs⟩
  case done =>
    rintro D ys W hD rfl ⟨⟨⟨v, hv, hrow, _⟩, hB⟩, hbs⟩ hK
    have hc := hv.cell
    gi_wp2
    refine ⟨by simp, .inl ⟨_, _, rfl, run_takeDeferred hK, ?_⟩⟩
    exact ⟨_, results_tmp rfl _ _ _, v, rfl, ownsRow_putObj hrow _ hK rfl, hB.trans (belowK_b (w := w) (Nat.le_refl _) W D _ _ (by omega) hK rfl rfl)⟩
  case stop =>
    rintro D c pre W _ _ h _
    exact h.elim

theorem gathered_slots (c first count : Nat) (a : Option Addr) (cap : Nat) (zs : List Int) (w : World) (hI : Ints w a c cap zs) (hc8 : c ≤ 8) :
    Calls Try.prog 57 #[ringV c first (.slice a c cap) count, .func (.func 72) #[] #[]] w fun e W' => ∃ v, e = .returned v ∧ Own W' w.heap.size v zs ∧ Below w.heap.size w W' := by
  have h := callsIn_wide.1 (gath_slots 5 (by omega) c first count a cap zs w hI hc8)
  have e : upto (en zs) c = zs := by have := upto_en zs; rwa [hI.len_eq] at this
  rw [e] at h; exact h
/-- what is taken, in order -/
def takenL (c first count : Nat) (zs : List Int) : List Int := upto (fun i => en zs ((first + i) % c)) count
theorem gathered_taken (c first count : Nat) (a : Option Addr) (cap : Nat) (zs : List Int) (w : World) (hI : Ints w a c cap zs) (hc8 : c ≤ 8) (hc0 : count ≤ c) (hf : first < 9) :
    Calls Try.prog 57 #[ringV c first (.slice a c cap) count, .func (.func 58) #[] #[]] w fun e W' => ∃ v, e = .returned v ∧ Own W' w.heap.size v (takenL c first count zs) ∧ Below w.heap.size w W' :=
  callsIn_wide.1 (gath_taken 5 (by omega) c first count a cap zs w hI hc8 hc0 hf)
theorem place_any (cap first count i : Int) (s : Value) (w : World) (hc : 0 < cap) (hc8 : cap ≤ 8) (h0 : 0 ≤ first) (h1 : first < 9) (i0 : 0 ≤ i) (i1 : i < 100) :
    Calls Try.prog 68 #[ringV cap first s count, .int .i64 i] w fun e w' => e = .returned (.int .i64 ((first + i) % cap)) ∧ Below w.heap.size w w' :=
  (callsIn_wide.1 (place_in Fence.wide 5 trivial rfl cap first count i s w hc hc8 h0 h1 i0 i1)).mono fun _ _ h => ⟨h.1, by rw [h.2]; exact below_alloc _ _⟩
end Go.Proofs.Ytfolhgpbplfilaa
