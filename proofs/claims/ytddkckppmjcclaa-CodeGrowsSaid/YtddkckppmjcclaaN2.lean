/- A program's numbers. -/
import Derived.Test.YtddkckppmjcclaaN1
import Derived.Test.YtddkckppmjcclaaCPlain
namespace Go.Proofs.Ytddkckppmjcclaa
open Go.RowKit
set_option linter.unusedSimpArgs false
set_option linter.unusedVariables false
def enc1 (n : Int) : List Value := [.int .i64 n]
theorem enc1_len (n : Int) : (enc1 n).length = 1 := rfl
theorem enc1_one (n : Int) : ∀ u ∈ enc1 n, u.oneCell' = true := by intro u hu; simp [enc1] at hu; subst hu; rfl
theorem inf3n : (Try.prog.info? 3).map (fun i => (i.zero, i.size, i.bytes)) = some (some (.int .i64 0), 1, 8) := by kernel_rfl
theorem flat_enc1 (L : List Int) : L.flatMap enc1 = ints L := by
  induction L with
  | nil => rfl
  | cons x xs ih => rw [List.flatMap_cons, ih]; rfl
abbrev OwnN (w : World) (base : Nat) (v : Value) (L : List Int) : Prop := OwnR 3 1 enc1 w base v L
theorem OwnN.ints {w : World} {base : Nat} {v : Value} {L : List Int} (h : OwnN w base v L) (hb : ∀ i, I64 (en L i)) : ∃ a cap, v = .slice a L.length cap ∧ Ints w a L.length cap L := by
  unfold OwnN OwnR at h
  rw [flat_enc1] at h
  exact Own.ints h hb
theorem Ints.recs {w : World} {a : Option Addr} {n c : Nat} {L : List Int} (h : Ints w a n c L) : Recs 1 enc1 w a n c L := by
  refine ⟨h.len_eq, h.le_cap, h.cap_le, h.none_, fun i x hx => ?_⟩
  have hi : i < L.length := (List.getElem?_eq_some_iff.1 hx).1
  obtain ⟨b, off, ha, hc⟩ := h.cell i (by rw [← h.len_eq]; exact hi)
  refine ⟨b, off, ha, fun j v hv => ?_⟩
  match j, hv with
  | 0, hv =>
    simp [enc1] at hv; subst hv
    rw [Nat.mul_one, Nat.add_zero, hc, en_get L i hi]
    rw [List.getElem?_eq_getElem hi] at hx; cases hx; rfl
/-- THE NUMBERS OF A PROGRAM -/
def selN (s : Sel) : List Int := pairN s.cs.length s.d :: s.cs.map (fun c => pairN c.chan c.send)
def blkN (b : List Ins) : List Int := (b.length : Int) :: b.flatMap insN
def headN (p : Pr) : List Int := (p.caps.length : Int) :: p.caps.map (· + 1) ++ [p.mu, p.on, p.va, (p.sels.length : Int)]
def numL (p : Pr) : List Int := headN p ++ p.sels.flatMap selN ++ [(p.blks.length : Int)] ++ p.blks.flatMap blkN
theorem own_lit1 (w : World) (n : Int) : OwnN (w.alloc (.cells #[.int .i64 n] 3)) w.heap.size (.slice (some ⟨w.heap.size, 0, none⟩) 1 1) [n] :=
  World.ownsRow_lit w #[.int .i64 n] 1 (Nat.le_refl _) (by decide) rfl
/-- one number more -/
theorem appN1 {ops : Array Oper} {rest : List Oper} {o : Oper} {a : Act} {Q : Exit → Act → World → Prop} {wr : World} (hgd : o.guard = none) (s x : Operand)
    (ho : o.op = .call { callee := .builtin .append, args := #[s, x], argTypes := #[22, 22] }) (base : Nat) (v : Value) (L : List Int) (hs : a.eval s = v) (hown : OwnN wr base v L) (n : Int)
    (hx : a.eval x = .slice (some ⟨wr.heap.size, 0, none⟩) 1 1) (hlen : L.length ≤ 100000) (w0 : World) (hb : Below base w0 wr) (hbase : base ≤ wr.heap.size)
    (h : ∀ v' w', Hid (OwnN w' base v' (L ++ [n])) → Hid (Below base w0 w') → Hid (wr.heap.size ≤ w'.heap.size) → wpList Try.prog ops Q rest (a.put o.dst v') w') :
    wpList Try.prog ops Q (o :: rest) a (wr.alloc (.cells #[.int .i64 n] 3)) := by
  refine wpList_appG enc1_len (by decide) enc1_one 22 3 8 _ Try.underlying22 inf3n rfl (by decide) hgd s x ho base v L hs (OwnR.below hown (below_alloc wr _)) ⟨wr.heap.size, 0, none⟩ 1 1 [n] hx (recs_oneG (t := 3) (heap_alloc_new wr _)) hlen (by omega) (by simp; omega) ?_
  intro v' w' ho' hg
  exact h v' w' ho'.out (Below.grown (hb.alloc hbase _) hg.out (by simp; omega) (fun r hr => OwnR.lt hown r hr)) (by have := hg.out.size; simp at this; exact Nat.le_of_lt (by omega))
/-- a block of another type is not the slice's -/
theorem own_apart {w : World} {base : Nat} {v : Value} {L : List Int} {b7 : Nat} {cs : Array Value} {t : TypeId} (h : OwnN w base v L) (hb : Bx w b7 cs t) (ht : t ≠ 3) : ∀ r, v.ownBlock = some r → r ≠ b7 := by
  intro r hr e
  rcases h.2 with ⟨hv, _⟩ | ⟨g, cap, cur, hv, _, hh, _⟩
  · rw [hv] at hr; cases hr
  · rw [hv] at hr; cases hr
    subst e
    unfold Bx at hb
    rw [hb] at hh
    cases hh
    exact ht rfl
/-- one number more; a block of another type is kept -/
theorem appN2 {ops : Array Oper} {rest : List Oper} {o : Oper} {a : Act} {Q : Exit → Act → World → Prop} {wr : World} (hgd : o.guard = none) (s x : Operand)
    (ho : o.op = .call { callee := .builtin .append, args := #[s, x], argTypes := #[22, 22] }) (base : Nat) (v : Value) (L : List Int) (hs : a.eval s = v) (hown : OwnN wr base v L) (n : Int)
    (hx : a.eval x = .slice (some ⟨wr.heap.size, 0, none⟩) 1 1) (hlen : L.length ≤ 100000) (w0 : World) (hb : Below base w0 wr) (hbase : base ≤ wr.heap.size) (b7 : Nat) (cs : Array Value) (t : TypeId) (h7 : Bx wr b7 cs t) (ht : t ≠ 3)
    (h : ∀ v' w', Hid (OwnN w' base v' (L ++ [n])) → Hid (Below base w0 w') → Hid (Bx w' b7 cs t) → wpList Try.prog ops Q rest (a.put o.dst v') w') :
    wpList Try.prog ops Q (o :: rest) a (wr.alloc (.cells #[.int .i64 n] 3)) := by
  refine wpList_appG enc1_len (by decide) enc1_one 22 3 8 _ Try.underlying22 inf3n rfl (by decide) hgd s x ho base v L hs (OwnR.below hown (below_alloc wr _)) ⟨wr.heap.size, 0, none⟩ 1 1 [n] hx (recs_oneG (t := 3) (heap_alloc_new wr _)) hlen (by omega) (by simp; omega) ?_
  intro v' w' ho' hg
  refine h v' w' ho'.out (Below.grown (hb.alloc hbase _) hg.out (by simp; omega) (fun r hr => OwnR.lt hown r hr)) ?_
  have h8 := h7.below (below_alloc wr (.cells #[.int .i64 n] 3))
  exact (hg.out.block b7 h8.lt (fun e => own_apart hown h7 ht b7 e.symm rfl)).trans h8
end Go.Proofs.Ytddkckppmjcclaa
