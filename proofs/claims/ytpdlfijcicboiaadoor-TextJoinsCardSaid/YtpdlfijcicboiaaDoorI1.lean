/- Appending what may be nil. -/
import Derived.Test.YtpdlfijcicboiaaDoorH1
import Derived.Laws.AppendOwnNone
namespace Go.Proofs.YtpdlfijcicboiaaDoor
open Go.RowKit
set_option linter.unusedSimpArgs false
set_option linter.unusedVariables false
theorem run_appO {α : Type} {k : Nat} {enc : α → List Value} (hk : ∀ x, (enc x).length = k) (hk0 : 0 < k) (h1 : ∀ x, ∀ u ∈ enc x, u.oneCell' = true) (st e bytes : Nat) (z : Value) (hst : Tryd.prog.underlying st = some (.slice e)) (hinf : (Tryd.prog.info? e).map (fun i => (i.zero, i.size, i.bytes)) = some (some z, k, bytes)) (hzc : z.cells.size = k) (hby : bytes ≤ 64)
    (w : World) (ty : TypeId) (base : Nat) (v : Value) (L : List α) (hown : OwnR e k enc w base v L) (ax : Option Addr) (m cx : Nat) (M : List α) (hsrc : Recs k enc w ax m cx M) (hlen : L.length ≤ 100000) (hlen2 : m ≤ 100000) (hbase : base ≤ w.heap.size) :
    ∃ v' w', (Builtin.append_ #[st, st] ty #[v, .slice ax m cx]).run Tryd.prog w = .ok v' w' ∧ OwnR e k enc w' base v' (L ++ M) ∧ w.grownBy w' v.ownBlock := by
  cases ax with
  | none =>
    obtain ⟨i0, hi, hz0, hz1, hz2⟩ := info_parts hinf
    have hM := hsrc.len_eq
    have hc := hsrc.none_ rfl
    have hl := hsrc.le_cap
    obtain rfl : cx = 0 := hc
    obtain rfl : m = 0 := by omega
    obtain rfl : M = [] := List.eq_nil_of_length_eq_zero hM
    have hrun := run_append_owned_none (P := Tryd.prog) (w := w) base st ty e i0 k hst hi v L.length (L.flatMap enc) hown
    exact ⟨v, w, hrun, by rw [List.append_nil]; exact hown, ⟨rfl, rfl, rfl, Nat.le_refl _, fun _ _ _ => rfl⟩⟩
  | some ad => exact run_appG hk hk0 h1 st e bytes z hst hinf hzc hby w ty base v L hown ad m cx M hsrc hlen hlen2 hbase
theorem wpList_appO {α : Type} {k : Nat} {enc : α → List Value} (hk : ∀ x, (enc x).length = k) (hk0 : 0 < k) (h1 : ∀ x, ∀ u ∈ enc x, u.oneCell' = true) (st e bytes : Nat) (z : Value) (hst : Tryd.prog.underlying st = some (.slice e)) (hinf : (Tryd.prog.info? e).map (fun i => (i.zero, i.size, i.bytes)) = some (some z, k, bytes)) (hzc : z.cells.size = k) (hby : bytes ≤ 64)
    {ops : Array Oper} {rest : List Oper} {o : Oper} {a : Act} {w : World} {Q : Exit → Act → World → Prop} (hgd : o.guard = none) (s x : Operand)
    (ho : o.op = .call { callee := .builtin .append, args := #[s, x], argTypes := #[st, st] }) (base : Nat) (v : Value) (L : List α) (hs : a.eval s = v) (hown : OwnR e k enc w base v L)
    (ad : Option Addr) (m cx : Nat) (M : List α) (hx : a.eval x = .slice ad m cx) (hsrc : Recs k enc w ad m cx M) (hlen : L.length ≤ 100000) (hlen2 : m ≤ 100000) (hbase : base ≤ w.heap.size)
    (h : ∀ v' w', Hid (OwnR e k enc w' base v' (L ++ M)) → Hid (w.grownBy w' v.ownBlock) → wpList Tryd.prog ops Q rest (a.put o.dst v') w') :
    wpList Tryd.prog ops Q (o :: rest) a w := by
  refine wpList_plain hgd fun K hK' => ?_
  obtain ⟨v', w', hrun, r1, r2⟩ := run_appO hk hk0 h1 st e bytes z hst hinf hzc hby w o.type base v L hown ad m cx M hsrc hlen hlen2 hbase
  unfold Oper.wp
  simp [execOp, ho, resolve, invoke, builtin, hs, hx, hrun, Result.andThen]
  exact hK' _ _ (h v' w' r1 r2)
theorem pr_cases (L : List Ins) : (L.length ≤ 24 ∧ L.all mayZ = true ∧ prZ L = (prB L, 0)) ∨ ((prZ L).1 = ⟨#[]⟩ ∧ ((prZ L).2 = 1 ∨ (prZ L).2 = 2) ∧ ¬ (L.length ≤ 24 ∧ L.all mayZ = true)) := by
  unfold prZ
  by_cases h : 24 < L.length
  · rw [if_pos h]; exact .inr ⟨rfl, .inr rfl, fun e => by omega⟩
  · rw [if_neg h]
    by_cases hm : L.all mayZ = true
    · rw [if_pos hm]; exact .inl ⟨by omega, hm, rfl⟩
    · rw [if_neg hm]; exact .inr ⟨rfl, .inl rfl, fun e => hm e.2⟩
theorem pr_yes {L : List Ins} (h : L.length ≤ 24) (hm : L.all mayZ = true) : prZ L = (prB L, 0) := by unfold prZ; rw [if_neg (by omega), if_pos hm]
theorem nop_one : oneB zeroI = ⟨#[110, 111, 112]⟩ := by decide +kernel
theorem pr_nop (L : List Ins) (h0 : 0 < L.length) (h : L.length < 24) (hm : L.all mayZ = true) : prZ (L ++ [zeroI]) = (prB L ++ ⟨#[59, 32, 110, 111, 112]⟩, 0) := by
  rw [pr_yes (by rw [List.length_append]; simp; omega) (by rw [List.all_append, hm]; decide), prB_snoc, if_pos h0, nop_one, ByteArray.append_assoc]
  rfl
theorem prB_len (L : List Ins) (h : L.length ≤ 24) : (prB L).size ≤ 408 := by
  have := prB_size L 24
  rwa [List.take_of_length_le h] at this
end Go.Proofs.YtpdlfijcicboiaaDoor
