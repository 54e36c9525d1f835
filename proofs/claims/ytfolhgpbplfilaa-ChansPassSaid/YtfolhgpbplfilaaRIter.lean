/- Contracts of the ring's ways: slots, taken and their closures; place. -/
import Derived.Test.YtfolhgpbplfilaaOwn
import Derived.Laws.AppendOwnNone
import Derived.RangeFuncBox
import Derived.RangeFuncLeaves
import Derived.Shelf.Abstract
import Derived.OwnWalkIn
import Derived.TacticsInMore
import Derived.LoopNIn
import Derived.LoopIn
import Derived.Maps.AppendAt
namespace Go.Proofs.Ytfolhgpbplfilaa
open Go.RowKit

theorem appN {ops : Array Oper} {rest : List Oper} {o : Oper} {a : Act} {Q : Exit → Act → World → Prop} {wr : World} (hgd : o.guard = none) (s x : Operand)
    (ho : o.op = .call { callee := .builtin .append, args := #[s, x], argTypes := #[22, 22] }) (base : Nat) (v : Value) (L : List Int) (hs : a.eval s = v) (hown : Own wr base v L)
    (ax : Option Addr) (m cx : Nat) (M : List Int) (hx : a.eval x = .slice ax m cx) (hsrc : Ints wr ax m cx M) (hlen : L.length ≤ 1000000) (hlen2 : m ≤ 1000000) (w0 : World) (hb : Below base w0 wr) (hbase : base ≤ wr.heap.size)
    (h : ∀ v' w', Hid (Own w' base v' (L ++ M)) → Hid (Below base w0 w') → wpList Try.prog ops Q rest (a.put o.dst v') w') :
    wpList Try.prog ops Q (o :: rest) a wr := by
  obtain ⟨i0, hi, hz0, hz1, hz2⟩ := info_parts Try.info3
  have hM := hsrc.len_eq
  cases ax with
  | none =>
    have hc := hsrc.none_ rfl
    have hl := hsrc.le_cap
    obtain rfl : cx = 0 := hc
    obtain rfl : m = 0 := by omega
    have : M = [] := List.eq_nil_of_length_eq_zero hM
    subst this
    refine wpList_append_own_none hgd s x 22 ho base 3 i0 1 Try.underlying22 hi v L.length (ints L) hs hown hx (h v wr ?_ hb)
    show Own wr base v (L ++ [])
    rw [List.append_nil]; exact hown
  | some ad =>
    refine wpList_append_own _ hgd s x 22 ho base 3 i0 (.int .i64 0) 1 8 Try.underlying22 hi hz0 hz1 hz2 rfl (by decide) v L.length (ints L) hs hown ad m cx (ints M) hx (by simp [ints, hM]) ?_ ?_ (by unfold maxLen; omega) (by omega) hbase ?_
    · intro j u hj
      have hjl : j < (ints M).length := (List.getElem?_eq_some_iff.1 hj).1
      have hjm : j < m := by simpa [ints, hM] using hjl
      obtain ⟨ad', he, hcell⟩ := hsrc.src (by omega)
      simp only [Option.some.injEq] at he
      subst he
      exact hcell j u hj
    · intro u hu
      obtain ⟨z, _, rfl⟩ := List.mem_map.1 hu; rfl
    · intro v' w' ho' hg _
      refine h v' w' ?_ (hb.grown hg hbase (fun k hk => (World.ownsRow.lt hown k hk).1))
      have e : ints (L ++ M) = ints L ++ ints M := by simp [ints]
      show w'.ownsRow base 3 1 v' (L ++ M).length (ints (L ++ M))
      rw [e, List.length_append, hM]; exact ho'
end Go.Proofs.Ytfolhgpbplfilaa
namespace Go.Proofs.Ytfolhgpbplfilaa
open Go.RowKit Go.Shelf
attribute [local go_sem] Oper.semAt_some

def ringV (cap first : Int) (s : Value) (count : Int) : Value := .agg #[.int .i64 cap, .int .i64 first, s, .int .i64 count]

set_option maxRecDepth 100000 in
set_option maxHeartbeats 1000000 in
theorem place_in (F : Fence) (n : Nat) (h21 : F.fn 68) (hro : F.round = none) (cap first count i : Int) (s : Value) (w : World) (hc : 0 < cap) (hc8 : cap ≤ 8) (h0 : 0 ≤ first) (h1 : first < 9) (i0 : 0 ≤ i) (i1 : i < 100) :
    CallsIn F n Try.prog 68 #[ringV cap first s count, .int .i64 i] w fun e w' => e = .returned (.int .i64 ((first + i) % cap)) ∧ w' = w.alloc (.cells #[.int .i64 cap, .int .i64 first, s, .int .i64 count] 89) := by
  unfold ringV
  refine callsIn_of_wp Try.func68 rfl h21 ?_ hro
  simp only [Try.ntmps68, List.size_toArray, List.length_cons, List.length_nil, Nat.reduceAdd, Nat.reduceSub, Array.replicate_succ, Array.replicate_zero, List.push_toArray, List.append_toArray, List.nil_append, List.cons_append]
  gi_wp2
  go_ret
  exact ⟨ret_int (by rfl), rfl⟩

set_option maxRecDepth 100000 in
set_option maxHeartbeats 1000000 in
theorem slots_in (F : Fence) (n : Nat) (h20 : F.fn 72) (hro : F.round = none) (cap first count : Int) (s : Value) (w : World) :
    CallsIn F n Try.prog 72 #[ringV cap first s count] w fun e w' => e = .returned (.func (.func 73) #[] #[.pointer (some ⟨w.heap.size, 0, none⟩)]) ∧ w' = w.alloc (.cells #[.int .i64 cap, .int .i64 first, s, .int .i64 count] 89) := by
  unfold ringV
  refine callsIn_of_wp Try.func72 rfl h20 ?_ hro
  simp only [Try.ntmps72, List.size_toArray, List.length_cons, List.length_nil, Nat.reduceAdd, Nat.reduceSub, Array.replicate_succ, Array.replicate_zero, List.push_toArray, List.append_toArray, List.nil_append, List.cons_append]
  gi_wp2
  go_ret
  exact ⟨rfl, rfl⟩
set_option maxRecDepth 100000 in
set_option maxHeartbeats 1000000 in
theorem taken_in (F : Fence) (n : Nat) (h22 : F.fn 58) (hro : F.round = none) (cap first count : Int) (s : Value) (w : World) :
    CallsIn F n Try.prog 58 #[ringV cap first s count] w fun e w' => e = .returned (.func (.func 67) #[] #[.pointer (some ⟨w.heap.size, 0, none⟩)]) ∧ w' = w.alloc (.cells #[.int .i64 cap, .int .i64 first, s, .int .i64 count] 89) := by
  unfold ringV
  refine callsIn_of_wp Try.func58 rfl h22 ?_ hro
  simp only [Try.ntmps58, List.size_toArray, List.length_cons, List.length_nil, Nat.reduceAdd, Nat.reduceSub, Array.replicate_succ, Array.replicate_zero, List.push_toArray, List.append_toArray, List.nil_append, List.cons_append]
  gi_wp2
  go_ret
  exact ⟨rfl, rfl⟩

/-! ### the closures: they hand on the slots, or what is taken, one after the other -/
def upto (f : Nat → Int) (k : Nat) : List Int := (List.range k).map f
theorem upto_succ (f : Nat → Int) (k : Nat) : upto f (k + 1) = upto f k ++ [f k] := by simp [upto, List.range_succ]
theorem upto_len (f : Nat → Int) (k : Nat) : (upto f k).length = k := by simp [upto]
theorem upto_en (l : List Int) : upto (en l) l.length = l := by
  refine List.ext_getElem (by simp [upto]) fun i h1 h2 => ?_
  simp only [upto, List.getElem_map, List.getElem_range]
  exact en_get l i h2

set_option maxRecDepth 100000 in
set_option maxHeartbeats 2000000 in
theorem slots1_in (F : Fence) (n : Nat) (h23 : F.fn 73) (hro : F.round = none) (_hn : 1 ≤ n) (l Bs n₀ : Nat) (a : Option Addr) (len cap : Nat) (zs : List Int) (hlen : len ≤ 100) (J Jx : List Int → World → Prop)
    (hY : ∀ pre x W, J pre W → pre.length < len → YieldAt F (n - 1) Try.prog l #[.int .i64 x] W fun e W' =>
      (e = .returned (.bool true) ∧ J (pre ++ [x]) W' ∧ Below n₀ W W') ∨ (e = .returned (.bool false) ∧ Jx (pre ++ [x]) W'))
    (W : World) (hBs : W.cell? ⟨Bs, 2, none⟩ = some (.slice a len cap)) (hI : ∀ j, j < len → ∃ b off, a = some ⟨b, off, none⟩ ∧ b < n₀ ∧ W.cell? ⟨b, off + j, none⟩ = some (.int .i64 (en zs j))) (h0 : J [] W) :
    CallsIn F n Try.prog 73 #[.func (.yield l) #[] #[], .pointer (some ⟨Bs, 0, none⟩)] W fun e W' => (∃ v, e = .returned v) ∧
      ((∃ ys, ys = upto (en zs) len ∧ J ys W') ∨ (∃ pre, (∃ k, k ≤ len ∧ pre = upto (en zs) k) ∧ Jx pre W')) := by
  refine callsIn_of_wp Try.func73 rfl h23 ?_ hro
  simp only [Try.ntmps73, List.size_toArray, List.length_cons, List.length_nil, Nat.reduceAdd, Nat.reduceSub, Array.replicate_succ, Array.replicate_zero, List.push_toArray, List.append_toArray, List.nil_append, List.cons_append]
  gi_wp2
  gi_loopw [8] (fun i wr => ∃ k : Nat, k ≤ len ∧ i = .int .i64 k ∧ J (upto (en zs) k) wr ∧ Below n₀ W wr)
    (fun i _ => len - (intOf i).toNat)
  case atStart => exact ⟨0, Nat.zero_le _, rfl, h0, Below.refl _ _⟩
  case round =>
    obtain ⟨k, hk, rfl, hJs, hnx⟩ := hrel
    by_cases hlt : k < len
    · obtain ⟨b, off, rfl, hb, hc⟩ := hI k hlt
      have hcx : wr.cell? ⟨b, off + k, none⟩ = some (.int .i64 (en zs k)) := (hnx.cell (p := ⟨b, off + k, none⟩) hb).trans hc
      obtain ⟨fn, tmps, assign, body, hy, hR⟩ := hY _ (en zs k) wr hJs (by rw [upto_len]; exact hlt)
      have hlt' : (k : Int) < (len : Int) := by omega
      gi_wp2
      refine hR.mono ?_
      rintro e W3 (⟨rfl, hJ3, hk3⟩ | ⟨rfl, hJx3⟩)
      · gi_wp2
        go_roundw
        case rel => exact ⟨k + 1, by omega, by simp, by rw [upto_succ]; exact hJ3, hnx.trans hk3⟩
        case measure => simp [intOf]; omega
      · gi_wp2
        refine bodyPost_ret (results_none rfl _ _ _) rfl ?_
        exact ⟨⟨_, rfl⟩, .inr ⟨_, ⟨k + 1, by omega, (upto_succ _ _).symm⟩, hJx3⟩⟩
    · obtain rfl : k = len := by omega
      gi_wp2
      go_end0
      exact ⟨⟨_, rfl⟩, .inl ⟨_, rfl, hJs⟩⟩
end Go.Proofs.Ytfolhgpbplfilaa
