/- Slices of the call's own that may begin within their row: cut at the front, and appended to. -/
import Derived.Test.YtnmopfimmindnaaOwn
import Derived.ArgAppend
import Derived.Deep.RegionLaw
import Derived.Deep.AppendLies
namespace Go.Proofs.Ytnmopfimmindnaa
open Go.RowKit

structure Cut (w : World) (base : Nat) (a : Option Addr) (n cap : Nat) (L : List Int) : Prop where
  len : L.length = n
  le : n ≤ cap
  max : cap ≤ maxLen
  none_ : a = none → cap = 0
  row : 0 < cap → ∃ b off cs, a = some ⟨b, off, none⟩ ∧ base ≤ b ∧ w.heap[b]? = some (.cells cs 3 (0, 0)) ∧ off + cap ≤ cs.size ∧ ∀ i, i < n → cs[off + i]? = some (.int .i64 (en L i))

theorem Cut.nil (w : World) (base : Nat) : Cut w base none 0 0 [] := ⟨rfl, Nat.le_refl _, by decide, fun _ => rfl, fun h => absurd h (by omega)⟩
theorem Cut.toInts {w : World} {base : Nat} {a : Option Addr} {n cap : Nat} {L : List Int} (h : Cut w base a n cap L) (hb : ∀ i, I64 (en L i)) : Ints w a n cap L := by
  refine ⟨h.len, h.le, h.max, h.none_, hb, fun i hi => ?_⟩
  have := h.le
  obtain ⟨b, off, cs, e, _, hh, _, hc⟩ := h.row (by omega)
  refine ⟨b, off, e, ?_⟩
  rw [cell_of_row w b (off + i) _ 3 (0, 0) hh]
  exact hc i hi
/-- another world in which its row is as it was -/
theorem Cut.kept {w w' : World} {base : Nat} {a : Option Addr} {n cap : Nat} {L : List Int} (h : Cut w base a n cap L) (hk : ∀ x, a = some x → 0 < cap → w'.heap[x.block]? = w.heap[x.block]?) : Cut w' base a n cap L :=
  ⟨h.len, h.le, h.max, h.none_, fun hp => by
    obtain ⟨b, off, cs, e, hb, hh, r⟩ := h.row hp
    exact ⟨b, off, cs, e, hb, (hk _ e hp).trans hh, r⟩⟩
theorem Cut.below {w w' : World} {base : Nat} {a : Option Addr} {n cap : Nat} {L : List Int} (h : Cut w base a n cap L) (hb : Below w.heap.size w w') : Cut w' base a n cap L :=
  h.kept fun x e hp => by
    obtain ⟨b, off, cs, e', _, hh, _⟩ := h.row hp
    rw [e] at e'; cases e'
    exact hb.block _ (Array.getElem?_eq_some_iff.1 hh).1
/-- without the first one: 's[1:]' -/
theorem Cut.tail {w : World} {base : Nat} {b off : Nat} {n cap : Nat} {x : Int} {L : List Int} (h : Cut w base (some ⟨b, off, none⟩) n cap (x :: L)) : Cut w base (some ⟨b, off + 1, none⟩) (n - 1) (cap - 1) L := by
  have h1 := h.len; have h2 := h.le; have h3 := h.max
  simp only [List.length_cons] at h1
  refine ⟨by omega, by omega, by omega, fun e => by simp at e, fun hp => ?_⟩
  obtain ⟨b', off', cs, e, hb, hh, hs, hc⟩ := h.row (by omega)
  simp only [Option.some.injEq, Addr.mk.injEq, and_true] at e
  obtain ⟨rfl, rfl⟩ := e
  refine ⟨b, off + 1, cs, rfl, hb, hh, by omega, fun i hi => ?_⟩
  have := hc (i + 1) (by omega)
  rw [en_cons_succ] at this
  rw [← this]; congr 1; omega
theorem Cut.tail0 {w : World} {base : Nat} {a : Option Addr} {n : Nat} {x : Int} {L : List Int} (h : Cut w base a n 1 (x :: L)) : Cut w base a 0 0 [] := by
  exact ⟨rfl, Nat.le_refl _, by decide, fun _ => rfl, fun h => absurd h (by omega)⟩
theorem Cut.of_own {w : World} {base : Nat} {v : Value} {L : List Int} (h : w.ownsRow base 3 1 v L.length (ints L)) (hL : L ≠ []) : ∃ g cap, v = .slice (some ⟨g, 0, none⟩) L.length cap ∧ Cut w base (some ⟨g, 0, none⟩) L.length cap L := by
  rcases h.2 with ⟨hv, hn⟩ | ⟨g, cap, cur, hv, hg, hh, hnc, hcm, hcs, htake⟩
  · exact absurd (List.eq_nil_of_length_eq_zero hn) hL
  · refine ⟨g, cap, hv, rfl, hnc, hcm, fun h => by simp at h, fun _ => ⟨g, 0, cur, rfl, hg, hh, by omega, fun i hi => ?_⟩⟩
    rw [Nat.zero_add]
    have e : cur[i]? = (cur.toList.take (L.length * 1))[i]? := by
      rw [List.getElem?_take, if_pos (by omega)]; simp
    rw [e, htake]
    simp [ints, en_get L i hi, hi]

/-- its block, where it has room -/
def rowB (a : Option Addr) (cap : Nat) : Option Nat := if 0 < cap then a.map (·.block) else none

theorem grown_setCell (w : World) (b o : Nat) (u : Value) : w.grownBy (w.setCell ⟨b, o, none⟩ u) (some b) :=
  ⟨rfl, rfl, rfl, by simp [World.setCell], fun k hk hne => Below.heap_setCell _ _ _ _ (fun e => hne (by rw [e]))⟩

theorem run_append_cut (w : World) (ty : TypeId) (base : Nat) (a : Option Addr) (n cap : Nat) (L : List Int) (h : Cut w base a n cap L) (hbase : base ≤ w.heap.size) (ad : Addr) (c : Nat) (x : Int) (hx : w.cell? ad = some (.int .i64 x)) (hlen : n ≤ 1000000) :
    ∃ a' cap' w', (Builtin.append_ #[41, 41] ty #[.slice a n cap, .slice (some ad) 1 c]).run Try.prog w = .ok (.slice a' (n + 1) cap') w' ∧ Cut w' base a' (n + 1) cap' (L ++ [x]) ∧ w.grownBy w' (rowB a cap) ∧ (rowB a' cap' = rowB a cap ∨ ∃ b, rowB a' cap' = some b ∧ w.heap.size ≤ b) := by
  obtain ⟨i0, hi, hz0, hz1, hz2⟩ := info_parts Try.info3
  have hl := h.len
  by_cases hroom : n + 1 ≤ cap
  · obtain ⟨b, off, cs, rfl, hb, hh, hs, hc⟩ := h.row (by omega)
    have hrun := run_append_room_cells (P := Try.prog) w 41 ty 3 i0 Try.underlying41 hi b off n cap ad 1 c [.int .i64 x] (by simp [hz1]) (by intro j u hj; match j, hj with | 0, hj => simp at hj; subst hj; exact hx) (by intro u hu; simp at hu; subst hu; rfl) hroom
      (by intro j hj; simp at hj; subst hj; rw [hz1, cell_of_row w b _ _ 3 (0, 0) hh]; simp; omega)
      (by intro j hj; simp [World.frozen?, hh])
    refine ⟨_, _, _, hrun, ⟨by simp [hl], hroom, h.max, fun e => by simp at e, fun _ => ?_⟩, ?_, .inl rfl⟩
    · refine ⟨b, off, cs.setIfInBounds (off + n) (.int .i64 x), rfl, hb, ?_, by simpa using hs, fun i hi2 => ?_⟩
      · show (w.setCell ⟨b, off + n * i0.size, none⟩ (.int .i64 x)).heap[b]? = _
        rw [hz1, Nat.mul_one]
        obtain ⟨hlt, hk⟩ := Array.getElem?_eq_some_iff.1 hh
        show (w.heap.modify b _)[b]? = _
        rw [Array.getElem?_eq_getElem (by rw [Array.size_modify]; exact hlt), Array.getElem_modify_self, hk]
        rfl
      · by_cases hin : i = n
        · subst hin
          rw [Array.getElem?_setIfInBounds_self_of_lt (by omega)]
          simp [en, ← hl]
        · rw [Array.getElem?_setIfInBounds_ne (by omega), hc i (by omega)]
          simp [en, List.getElem?_append, hl, show i < n by omega]
    · have hrb : rowB (some ⟨b, off, none⟩) cap = some b := by simp [rowB]; omega
      rw [hrb]
      exact grown_setCell w b _ _
  · have hn : n = cap := by have := h.le; omega
    have key : ∃ v' w', (Builtin.append_ #[41, 41] ty #[.slice a n cap, .slice (some ad) 1 c]).run Try.prog w = .ok v' w' ∧ w'.ownsRow w.heap.size 3 1 v' (n + 1) (ints L ++ [.int .i64 x]) ∧ w.grownBy w' none := by
      cases a with
      | none =>
        have hc0 := h.none_ rfl
        obtain rfl : cap = 0 := hc0
        subst hn
        obtain rfl : L = [] := List.eq_nil_of_length_eq_zero hl
        obtain ⟨v', w', hrun, r1, r2, _⟩ := run_append_own (P := Try.prog) w w.heap.size 41 ty 3 i0 (.int .i64 0) 1 8 Try.underlying41 hi hz0 hz1 hz2 rfl (by decide) (.slice none 0 0) 0 [] (World.ownsRow_nil w _ 3 1) ad 1 c [.int .i64 x] (by simp) (by intro j u hj; match j, hj with | 0, hj => simp at hj; subst hj; exact hx) (by intro u hu; simp at hu; subst hu; rfl) (by unfold maxLen; omega) (by omega) (Nat.le_refl _)
        exact ⟨v', w', hrun, r1, r2⟩
      | some b0 =>
        refine run_append_arg_grows (P := Try.prog) w 41 ty 3 i0 (.int .i64 0) 1 8 Try.underlying41 hi hz0 hz1 hz2 rfl (by decide) b0 n cap (ints L) (by simp [hl]) (fun j u hj => ?_) ad 1 c [.int .i64 x] (by simp) (by intro j u hj; match j, hj with | 0, hj => simp at hj; subst hj; exact hx) (by omega) (by unfold maxLen; omega) (by omega)
        have hjl : j < L.length := by have := (List.getElem?_eq_some_iff.1 hj).1; simpa [ints] using this
        obtain ⟨b, off, cs, e, _, hh, _, hc⟩ := h.row (by omega)
        cases e
        rw [Addr.add_lit, cell_of_row w b _ _ 3 (0, 0) hh, hc j (by omega), ← hj]
        simp [ints, en_get L j hjl, hjl]
    obtain ⟨v', w', hrun, r1, r2⟩ := key
    have hlen' : (L ++ [x]).length = n + 1 := by simp [hl]
    obtain ⟨g, cap', rfl, hcut⟩ := Cut.of_own (L := L ++ [x]) (v := v') (by rw [hlen']; simpa [ints] using r1) (by simp)
    rw [hlen'] at hrun hcut
    have hc2 := hcut
    refine ⟨_, _, _, hrun, ⟨hcut.len, hcut.le, hcut.max, hcut.none_, fun hp => ?_⟩, ⟨r2.os, r2.tape, r2.output, r2.size, fun k hk _ => r2.block k hk (by simp)⟩, .inr ⟨g, ?_, ?_⟩⟩
    · obtain ⟨b, off, cs, e, hb, r⟩ := hcut.row hp
      exact ⟨b, off, cs, e, by omega, r⟩
    · have := hcut.le; simp [rowB]; omega
    · obtain ⟨b, off, cs, e, hb, r⟩ := hcut.row (by have := hcut.le; omega)
      cases e; exact hb

/-- as one step of a region that draws its order -/
theorem step_append_cut {ops : Array Oper} {o : Oper} {a : Act} {w : World} {K : Act → World → Prop} {Q : Exit → Act → World → Prop} {E : Prop} (hgd : o.guard = none) (s x : Operand)
    (ho : o.op = .call { callee := .builtin .append, args := #[s, x], argTypes := #[41, 41] }) (base : Nat) (sa : Option Addr) (n cap : Nat) (L : List Int) (hs : a.eval s = .slice sa n cap) (h : Cut w base sa n cap L) (hbase : base ≤ w.heap.size)
    (ad : Addr) (c : Nat) (y : Int) (hx : a.eval x = .slice (some ad) 1 c) (hy : w.cell? ad = some (.int .i64 y)) (hlen : n ≤ 1000000)
    (hK : ∀ a' cap' w', Hid (Cut w' base a' (n + 1) cap' (L ++ [y])) → Hid (w.grownBy w' (rowB sa cap)) → Hid (rowB a' cap' = rowB sa cap ∨ ∃ b, rowB a' cap' = some b ∧ w.heap.size ≤ b) → K (a.put o.dst (.slice a' (n + 1) cap')) w') :
    if Region.wanted o (yielded ops a.tmps) = true then Oper.wp Try.prog o a w K Q else E := by
  have hw : Region.wanted o (yielded ops a.tmps) = true := by simp [Region.wanted, hgd]
  rw [if_pos hw]
  obtain ⟨a', cap', w', hrun, r1, r2, r3⟩ := run_append_cut w o.type base sa n cap L h hbase ad c y hy hlen
  unfold Oper.wp
  simp [execOp, ho, resolve, invoke, builtin, hs, hx, hrun, Result.andThen]
  exact hK a' cap' w' r1 r2 r3
theorem wpList_append_cut {ops : Array Oper} {rest : List Oper} {o : Oper} {a : Act} {w : World} {Q : Exit → Act → World → Prop} (hgd : o.guard = none) (s x : Operand)
    (ho : o.op = .call { callee := .builtin .append, args := #[s, x], argTypes := #[41, 41] }) (base : Nat) (sa : Option Addr) (n cap : Nat) (L : List Int) (hs : a.eval s = .slice sa n cap) (h : Cut w base sa n cap L) (hbase : base ≤ w.heap.size)
    (ad : Addr) (c : Nat) (y : Int) (hx : a.eval x = .slice (some ad) 1 c) (hy : w.cell? ad = some (.int .i64 y)) (hlen : n ≤ 1000000)
    (hK : ∀ a' cap' w', Hid (Cut w' base a' (n + 1) cap' (L ++ [y])) → Hid (w.grownBy w' (rowB sa cap)) → Hid (rowB a' cap' = rowB sa cap ∨ ∃ b, rowB a' cap' = some b ∧ w.heap.size ≤ b) → wpList Try.prog ops Q rest (a.put o.dst (.slice a' (n + 1) cap')) w') :
    wpList Try.prog ops Q (o :: rest) a w := by
  refine wpList_plain hgd fun K hK' => ?_
  obtain ⟨a', cap', w', hrun, r1, r2, r3⟩ := run_append_cut w o.type base sa n cap L h hbase ad c y hy hlen
  unfold Oper.wp
  simp [execOp, ho, resolve, invoke, builtin, hs, hx, hrun, Result.andThen]
  exact hK' _ _ (hK a' cap' w' r1 r2 r3)
end Go.Proofs.Ytnmopfimmindnaa
