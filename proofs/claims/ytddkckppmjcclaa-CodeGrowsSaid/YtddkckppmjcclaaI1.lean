/- Appending what may be nil; the last element of a slice of the call's own set anew. -/
import Derived.Test.YtddkckppmjcclaaH4
import Derived.Laws.AppendOwnNone
namespace Go.Proofs.Ytddkckppmjcclaa
open Go.RowKit
set_option linter.unusedSimpArgs false
set_option linter.unusedVariables false
theorem run_appO {α : Type} {k : Nat} {enc : α → List Value} (hk : ∀ x, (enc x).length = k) (hk0 : 0 < k) (h1 : ∀ x, ∀ u ∈ enc x, u.oneCell' = true) (st e bytes : Nat) (z : Value) (hst : Try.prog.underlying st = some (.slice e)) (hinf : (Try.prog.info? e).map (fun i => (i.zero, i.size, i.bytes)) = some (some z, k, bytes)) (hzc : z.cells.size = k) (hby : bytes ≤ 64)
    (w : World) (ty : TypeId) (base : Nat) (v : Value) (L : List α) (hown : OwnR e k enc w base v L) (ax : Option Addr) (m cx : Nat) (M : List α) (hsrc : Recs k enc w ax m cx M) (hlen : L.length ≤ 100000) (hlen2 : m ≤ 100000) (hbase : base ≤ w.heap.size) :
    ∃ v' w', (Builtin.append_ #[st, st] ty #[v, .slice ax m cx]).run Try.prog w = .ok v' w' ∧ OwnR e k enc w' base v' (L ++ M) ∧ w.grownBy w' v.ownBlock := by
  cases ax with
  | none =>
    obtain ⟨i0, hi, hz0, hz1, hz2⟩ := info_parts hinf
    have hM := hsrc.len_eq
    have hc := hsrc.none_ rfl
    have hl := hsrc.le_cap
    obtain rfl : cx = 0 := hc
    obtain rfl : m = 0 := by omega
    obtain rfl : M = [] := List.eq_nil_of_length_eq_zero hM
    have hrun := run_append_owned_none (P := Try.prog) (w := w) base st ty e i0 k hst hi v L.length (L.flatMap enc) hown
    exact ⟨v, w, hrun, by rw [List.append_nil]; exact hown, ⟨rfl, rfl, rfl, Nat.le_refl _, fun _ _ _ => rfl⟩⟩
  | some ad => exact run_appG hk hk0 h1 st e bytes z hst hinf hzc hby w ty base v L hown ad m cx M hsrc hlen hlen2 hbase
theorem step_appO {α : Type} {k : Nat} {enc : α → List Value} (hk : ∀ x, (enc x).length = k) (hk0 : 0 < k) (h1 : ∀ x, ∀ u ∈ enc x, u.oneCell' = true) (st e bytes : Nat) (z : Value) (hst : Try.prog.underlying st = some (.slice e)) (hinf : (Try.prog.info? e).map (fun i => (i.zero, i.size, i.bytes)) = some (some z, k, bytes)) (hzc : z.cells.size = k) (hby : bytes ≤ 64)
    {ops : Array Oper} {o : Oper} {a : Act} {w : World} {K : Act → World → Prop} {Q : Exit → Act → World → Prop} {E : Prop} (hgd : Region.wanted o (yielded ops a.tmps) = true) (s x : Operand)
    (ho : o.op = .call { callee := .builtin .append, args := #[s, x], argTypes := #[st, st] }) (base : Nat) (v : Value) (L : List α) (hs : a.eval s = v) (hown : OwnR e k enc w base v L)
    (ad : Option Addr) (m cx : Nat) (M : List α) (hx : a.eval x = .slice ad m cx) (hsrc : Recs k enc w ad m cx M) (hlen : L.length ≤ 100000) (hlen2 : m ≤ 100000) (hbase : base ≤ w.heap.size)
    (h : ∀ v' w', Hid (OwnR e k enc w' base v' (L ++ M)) → Hid (w.grownBy w' v.ownBlock) → K (a.put o.dst v') w') :
    if Region.wanted o (yielded ops a.tmps) = true then Oper.wp Try.prog o a w K Q else E := by
  rw [if_pos hgd]
  obtain ⟨v', w', hrun, r1, r2⟩ := run_appO hk hk0 h1 st e bytes z hst hinf hzc hby w o.type base v L hown ad m cx M hsrc hlen hlen2 hbase
  unfold Oper.wp
  simp [execOp, ho, resolve, invoke, builtin, hs, hx, hrun, Result.andThen]
  exact h v' w' r1 r2
theorem flat_encB (L : List RBlk) : L.flatMap encB = L.map fun r => .slice r.a r.n r.c := by
  induction L with
  | nil => rfl
  | cons x xs ih => rw [List.flatMap_cons, ih]; rfl
/-- the last element of a list of blocks set anew -/
theorem own_last {w : World} {base g n c : Nat} {A : List RBlk} {r r' : RBlk} (h : OwnR 42 1 encB w base (.slice (some ⟨g, 0, none⟩) n c) (A ++ [r])) : OwnR 42 1 encB (w.setCell ⟨g, A.length, none⟩ (.slice r'.a r'.n r'.c)) base (.slice (some ⟨g, 0, none⟩) n c) (A ++ [r']) := by
  have hl : (A ++ [r]).length = A.length + 1 := by simp
  have hl' : (A ++ [r']).length = A.length + 1 := by simp
  rcases h.2 with ⟨hv, _⟩ | ⟨g', cap, cur, hv, hb, hh, hn, hm, hs, ht⟩
  · cases hv
  · injection hv with e1 e2 e3
    injection e1 with e1
    injection e1 with e1
    subst e1 e2 e3
    refine ⟨by rw [flat_encB, List.length_map, hl', Nat.mul_one], .inr ⟨g, c, cur.setIfInBounds A.length (.slice r'.a r'.n r'.c), by rw [hl', hl], hb, set_at hh _, by rw [hl', ← hl]; exact hn, hm, by simp [hs], ?_⟩⟩
    rw [hl, Nat.mul_one, flat_encB, List.map_append] at ht
    rw [hl', Nat.mul_one, flat_encB, List.map_append, Array.toList_setIfInBounds]
    have hlen : A.length < cur.toList.length := by
      have := congrArg List.length ht
      rw [List.length_take, List.length_append, List.length_map] at this
      simp at this ⊢
      omega
    rw [List.take_set]
    rw [ht, List.set_append_right _ _ (by simp)]
    simp
theorem own_addr {w : World} {base n c : Nat} {a : Option Addr} {L : List RBlk} (h : OwnR 42 1 encB w base (.slice a n c) L) (hn : 0 < L.length) : ∃ g, a = some ⟨g, 0, none⟩ ∧ n = L.length ∧ base ≤ g := by
  rcases h.2 with ⟨hv, h0⟩ | ⟨g', cap, cur, hv, hb, hh, _⟩
  · omega
  · injection hv with e1 e2 e3
    exact ⟨g', e1, e2, hb⟩
end Go.Proofs.Ytddkckppmjcclaa
