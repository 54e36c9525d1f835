/- One slice of ints behind another one of the call's own. -/
import Derived.Test.YtfolhgpbplfilaaOwn
import Derived.Laws.AppendOwnNone
namespace Go.Proofs.Ytfolhgpbplfilaa
open Go.RowKit

theorem appN {ops : Array Oper} {rest : List Oper} {o : Oper} {a : Act} {Q : Exit → Act → World → Prop} {wr : World} (hgd : o.guard = none) (s x : Operand)
    (ho : o.op = .call { callee := .builtin .append, args := #[s, x], argTypes := #[22, 22] }) (base : Nat) (v : Value) (L : List Int) (hs : a.eval s = v) (hown : Own wr base v L)
    (ax : Option Addr) (m cx : Nat) (M : List Int) (hx : a.eval x = .slice ax m cx) (hsrc : Ints wr ax m cx M) (hlen : L.length ≤ 1000000) (hlen2 : m ≤ 1000000) (w0 : World) (hb : Below base w0 wr) (hbase : base ≤ wr.heap.size)
    (h : ∀ v' w', Hid (Own w' base v' (L ++ M)) → Hid (Below base w0 w') → wpList Try.prog ops Q rest (a.put o.dst v') w') :
    wpList Try.prog ops Q (o :: rest) a wr := by
  obtain ⟨i0, hi, hz0, hz1, hz2⟩ := info_parts Try.info3
  have hM := hsrc.len_eq
  cases ax with
  | none =>
    have hc := hsrc.none_ rfl
    have hl := hsrc.le_cap
    obtain rfl : cx = 0 := hc
    obtain rfl : m = 0 := by omega
    have : M = [] := List.eq_nil_of_length_eq_zero hM
    subst this
    refine wpList_append_own_none hgd s x 22 ho base 3 i0 1 Try.underlying22 hi v L.length (ints L) hs hown hx (h v wr ?_ hb)
    show Own wr base v (L ++ [])
    rw [List.append_nil]; exact hown
  | some ad =>
    refine wpList_append_own _ hgd s x 22 ho base 3 i0 (.int .i64 0) 1 8 Try.underlying22 hi hz0 hz1 hz2 rfl (by decide) v L.length (ints L) hs hown ad m cx (ints M) hx (by simp [ints, hM]) ?_ ?_ (by unfold maxLen; omega) (by omega) hbase ?_
    · intro j u hj
      have hjl : j < (ints M).length := (List.getElem?_eq_some_iff.1 hj).1
      have hjm : j < m := by simpa [ints, hM] using hjl
      obtain ⟨ad', he, hcell⟩ := hsrc.src (by omega)
      simp only [Option.some.injEq] at he
      subst he
      exact hcell j u hj
    · intro u hu
      obtain ⟨z, _, rfl⟩ := List.mem_map.1 hu; rfl
    · intro v' w' ho' hg _
      refine h v' w' ?_ (hb.grown hg hbase (fun k hk => (World.ownsRow.lt hown k hk).1))
      have e : ints (L ++ M) = ints L ++ ints M := by simp [ints]
      show w'.ownsRow base 3 1 v' (L ++ M).length (ints (L ++ M))
      rw [e, List.length_append, hM]; exact ho'
end Go.Proofs.Ytfolhgpbplfilaa
