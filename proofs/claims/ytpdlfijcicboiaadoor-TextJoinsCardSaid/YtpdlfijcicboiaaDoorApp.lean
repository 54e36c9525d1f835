/- Appending to slices of the call's own, of whatever structs. -/
import Derived.Test.YtpdlfijcicboiaaDoorPrg
namespace Go.Proofs.YtpdlfijcicboiaaDoor
open Go.RowKit
set_option linter.unusedSimpArgs false
set_option linter.unusedVariables false
theorem Recs.flatG {α : Type} {k : Nat} {enc : α → List Value} (hk : ∀ x, (enc x).length = k) (hk0 : 0 < k) {w : World} {a : Addr} {len cap : Nat} {L : List α} (h : Recs k enc w (some a) len cap L) : ∀ j u, (L.flatMap enc)[j]? = some u → w.cell? (a.add j) = some u := by
  intro j u hj
  have hjl : j < (L.flatMap enc).length := (List.getElem?_eq_some_iff.1 hj).1
  rw [flat_len hk] at hjl
  have hi : j / k < L.length := by rw [Nat.div_lt_iff_lt_mul hk0]; exact hjl
  have hx : L[j / k]? = some L[j / k] := List.getElem?_eq_getElem hi
  obtain ⟨b, off, e, hc⟩ := h.cell (j / k) _ hx
  cases e
  have h2 := flat_at hk L (j / k) (j % k) _ hx (Nat.mod_lt _ hk0)
  have hdm : j / k * k + j % k = j := by rw [Nat.mul_comm]; exact Nat.div_add_mod j k
  rw [hdm, hj] at h2
  have h3 := hc (j % k) u h2.symm
  rw [Addr.add_lit, show off + j = off + j / k * k + j % k by omega]; exact h3
theorem run_appG {α : Type} {k : Nat} {enc : α → List Value} (hk : ∀ x, (enc x).length = k) (hk0 : 0 < k) (h1 : ∀ x, ∀ u ∈ enc x, u.oneCell' = true) (st e bytes : Nat) (z : Value) (hst : Tryd.prog.underlying st = some (.slice e)) (hinf : (Tryd.prog.info? e).map (fun i => (i.zero, i.size, i.bytes)) = some (some z, k, bytes)) (hzc : z.cells.size = k) (hby : bytes ≤ 64)
    (w : World) (ty : TypeId) (base : Nat) (v : Value) (L : List α) (hown : OwnR e k enc w base v L) (ad : Addr) (m cx : Nat) (M : List α) (hsrc : Recs k enc w (some ad) m cx M) (hlen : L.length ≤ 100000) (hlen2 : m ≤ 100000) (hbase : base ≤ w.heap.size) :
    ∃ v' w', (Builtin.append_ #[st, st] ty #[v, .slice (some ad) m cx]).run Tryd.prog w = .ok v' w' ∧ OwnR e k enc w' base v' (L ++ M) ∧ w.grownBy w' v.ownBlock := by
  obtain ⟨i0, hi, hz0, hz1, hz2⟩ := info_parts hinf
  have hM := hsrc.len_eq
  have hmul : (L.length + m) * bytes ≤ 140737488355328 := by
    have : (L.length + m) * bytes ≤ 200000 * 64 := Nat.mul_le_mul (by omega) hby
    omega
  obtain ⟨v', w', hrun, r1, r2, _⟩ := run_append_own (P := Tryd.prog) w base st ty e i0 z k bytes hst hi hz0 hz1 hz2 hzc hk0 v L.length (L.flatMap enc) hown ad m cx (M.flatMap enc) (by rw [flat_len hk, hM]) (hsrc.flatG hk hk0) (fun u hu => by obtain ⟨x, _, hx⟩ := List.mem_flatMap.1 hu; exact h1 x u hx) (by unfold maxLen; omega) hmul hbase
  refine ⟨v', w', hrun, ?_, r2⟩
  show w'.ownsRow base e k v' (L ++ M).length ((L ++ M).flatMap enc)
  rw [List.flatMap_append, List.length_append, hM]; exact r1
theorem wpList_appG {α : Type} {k : Nat} {enc : α → List Value} (hk : ∀ x, (enc x).length = k) (hk0 : 0 < k) (h1 : ∀ x, ∀ u ∈ enc x, u.oneCell' = true) (st e bytes : Nat) (z : Value) (hst : Tryd.prog.underlying st = some (.slice e)) (hinf : (Tryd.prog.info? e).map (fun i => (i.zero, i.size, i.bytes)) = some (some z, k, bytes)) (hzc : z.cells.size = k) (hby : bytes ≤ 64)
    {ops : Array Oper} {rest : List Oper} {o : Oper} {a : Act} {w : World} {Q : Exit → Act → World → Prop} (hgd : o.guard = none) (s x : Operand)
    (ho : o.op = .call { callee := .builtin .append, args := #[s, x], argTypes := #[st, st] }) (base : Nat) (v : Value) (L : List α) (hs : a.eval s = v) (hown : OwnR e k enc w base v L)
    (ad : Addr) (m cx : Nat) (M : List α) (hx : a.eval x = .slice (some ad) m cx) (hsrc : Recs k enc w (some ad) m cx M) (hlen : L.length ≤ 100000) (hlen2 : m ≤ 100000) (hbase : base ≤ w.heap.size)
    (h : ∀ v' w', Hid (OwnR e k enc w' base v' (L ++ M)) → Hid (w.grownBy w' v.ownBlock) → wpList Tryd.prog ops Q rest (a.put o.dst v') w') :
    wpList Tryd.prog ops Q (o :: rest) a w := by
  refine wpList_plain hgd fun K hK' => ?_
  obtain ⟨v', w', hrun, r1, r2⟩ := run_appG hk hk0 h1 st e bytes z hst hinf hzc hby w o.type base v L hown ad m cx M hsrc hlen hlen2 hbase
  unfold Oper.wp
  simp [execOp, ho, resolve, invoke, builtin, hs, hx, hrun, Result.andThen]
  exact hK' _ _ (h v' w' r1 r2)
theorem inf41 : (Tryd.prog.info? 22).map (fun i => (i.zero, i.size, i.bytes)) = some (some (.slice none 0 0), 1, 24) := by kernel_rfl
theorem inf43 : (Tryd.prog.info? 31).map (fun i => (i.zero, i.size, i.bytes)) = some (some (.agg #[.int .i64 0, .int .i64 0, .int .i64 0]), 3, 24) := by kernel_rfl
theorem encS_one (x : RSel) : ∀ u ∈ encS x, u.oneCell' = true := by intro u hu; simp [encS] at hu; rcases hu with rfl | rfl <;> rfl
theorem encB_one (x : RBlk) : ∀ u ∈ encB x, u.oneCell' = true := by intro u hu; simp [encB] at hu; subst hu; rfl
theorem ownG_nil {α : Type} {k : Nat} {enc : α → List Value} (e : Nat) (w : World) (base : Nat) : OwnR e k enc w base (.slice none 0 0) ([] : List α) := ⟨by simp, .inl ⟨rfl, rfl⟩⟩
/-- one element in a block of its own -/
theorem recs_oneG {α : Type} {k : Nat} {enc : α → List Value} {w : World} {B : Nat} {x : α} {t : TypeId} (h : w.heap[B]? = some (.cells (enc x).toArray t (0, 0))) : Recs k enc w (some ⟨B, 0, none⟩) 1 1 [x] := by
  refine ⟨rfl, Nat.le_refl _, by decide, fun e => by simp at e, fun i y hy => ⟨B, 0, rfl, fun j u hj => ?_⟩⟩
  match i, hy with
  | 0, hy =>
    simp at hy; subst hy
    have e0 : (0 + 0 * k + j) = j := by omega
    rw [e0, cell_of_row w B j _ t (0, 0) h]
    simpa using hj
end Go.Proofs.YtpdlfijcicboiaaDoor
