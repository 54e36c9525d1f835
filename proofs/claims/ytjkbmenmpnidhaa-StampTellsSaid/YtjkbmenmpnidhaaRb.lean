/- A loop over an iterator that writes into boxes of its own: what each promises the other, by kinds of blocks. -/
import Derived.Test.YtjkbmenmpnidhaaRec
import Derived.RangeFuncBound
import Derived.RangeFuncNested
import Derived.RangeFuncCalls
import Derived.RangeFuncLeaves
import Derived.RangeFuncBox
import Derived.Shelf.Abstract
import Derived.OwnWalkIn
import Derived.TacticsInMore
import Derived.LoopNIn
import Derived.LoopIn
import Derived.Maps.AppendAt
namespace Go.Proofs.Ytjkbmenmpnidhaa
open Go.RowKit Go.Shelf
attribute [local go_sem] Oper.semAt_some
set_option linter.unusedSimpArgs false
set_option linter.unusedVariables false
/-- a row of ints -/
def isRow : Obj → Bool
  | .cells _ 3 _ => true
  | _ => false
/-- all blocks that p names lie as they lay -/
structure Kept (p : Nat → Obj → Prop) (A C : World) : Prop where
  os : C.os = A.os
  tape : C.tape = A.tape
  output : C.output = A.output
  size : A.heap.size ≤ C.heap.size
  same : ∀ k o, A.heap[k]? = some o → p k o → C.heap[k]? = some o
theorem Kept.refl (p : Nat → Obj → Prop) (A : World) : Kept p A A := ⟨rfl, rfl, rfl, Nat.le_refl _, fun _ _ h _ => h⟩
theorem Kept.trans {p : Nat → Obj → Prop} {A B C : World} (h : Kept p A B) (k : Kept p B C) : Kept p A C := ⟨k.os.trans h.os, k.tape.trans h.tape, k.output.trans h.output, Nat.le_trans h.size k.size, fun i o hi hp => k.same i o (h.same i o hi hp) hp⟩
theorem Kept.mono {p q : Nat → Obj → Prop} {A C : World} (h : Kept p A C) (hq : ∀ k o, A.heap[k]? = some o → q k o → p k o) : Kept q A C := ⟨h.os, h.tape, h.output, h.size, fun k o hk hp => h.same k o hk (hq k o hk hp)⟩
theorem Kept.of_below {p : Nat → Obj → Prop} {B : Nat} {A C : World} (h : Below B A C) (hp : ∀ k o, A.heap[k]? = some o → p k o → k < B) : Kept p A C := ⟨h.os, h.tape, h.output, h.size, fun k o hk hq => (h.block k (hp k o hk hq)).trans hk⟩
theorem Kept.below {p : Nat → Obj → Prop} {B : Nat} {A C : World} (h : Kept p A C) (hp : ∀ k o, k < B → A.heap[k]? = some o → p k o) (hB : B ≤ A.heap.size) : Below B A C :=
  ⟨h.os, h.tape, h.output, h.size, fun k hk => by
    have hl : k < A.heap.size := Nat.lt_of_lt_of_le hk hB
    have e : A.heap[k]? = some A.heap[k] := Array.getElem?_eq_getElem hl
    rw [h.same k _ e (hp k _ hk e), e]⟩
theorem Kept.alloc (p : Nat → Obj → Prop) (A : World) (o : Obj) : Kept p A (A.alloc o) := Kept.of_below (below_alloc A o) (fun k o hk _ => (Array.getElem?_eq_some_iff.1 hk).1)
theorem Kept.drew (p : Nat → Obj → Prop) (A : World) : Kept p A A.drew := ⟨rfl, rfl, rfl, Nat.le_refl _, fun _ _ h _ => h⟩
theorem Kept.put {p : Nat → Obj → Prop} {A : World} {l : Nat} {o0 : Obj} (o : Obj) (h0 : A.heap[l]? = some o0) (h : ¬ p l o0) : Kept p A (A.putObj l o) :=
  ⟨rfl, rfl, rfl, by rw [World.putObj_size]; exact Nat.le_refl _, fun k o' hk hp => by
    by_cases e : k = l
    · subst e; rw [h0] at hk; cases hk; exact absurd hp h
    · rw [World.putObj_heap_other e]; exact hk⟩
theorem Kept.setCell {p : Nat → Obj → Prop} {A : World} {b i : Nat} {cs : Array Value} {t : TypeId} (v : Value) (h0 : A.heap[b]? = some (.cells cs t (0, 0))) (h : ¬ p b (.cells cs t (0, 0))) : Kept p A (A.setCell ⟨b, i, none⟩ v) :=
  ⟨((Below.refl 0 A).setCell (p := ⟨b, i, none⟩) (Nat.zero_le _) v).os, ((Below.refl 0 A).setCell (p := ⟨b, i, none⟩) (Nat.zero_le _) v).tape, ((Below.refl 0 A).setCell (p := ⟨b, i, none⟩) (Nat.zero_le _) v).output, ((Below.refl 0 A).setCell (p := ⟨b, i, none⟩) (Nat.zero_le _) v).size, fun k o hk hp => by
    have hne : k ≠ b := fun e => by subst e; rw [h0] at hk; cases hk; exact h hp
    rw [Below.heap_setCell _ _ _ _ hne]; exact hk⟩
theorem Kept.grown {p : Nat → Obj → Prop} {A C : World} {row : Option Nat} (h : A.grownBy C row) (hp : ∀ r o, row = some r → A.heap[r]? = some o → ¬ p r o) : Kept p A C :=
  ⟨h.os, h.tape, h.output, h.size, fun k o hk hq => (h.block k (Array.getElem?_eq_some_iff.1 hk).1 (fun e => hp k o e.symm hk hq)).trans hk⟩
/-- what an iterator leaves alone that began where the heap had size B: all that lay, and whatever rows of ints there are -/
abbrev itP (B : Nat) (k : Nat) (o : Obj) : Prop := k < B ∨ isRow o = true
/-- what a round leaves alone: some blocks that lay, and all new ones but rows of ints -/
abbrev rdP (fix : Nat → Prop) (B : Nat) (k : Nat) (o : Obj) : Prop := fix k ∨ (B ≤ k ∧ isRow o = false)
abbrev encI (x : Int) : Array Value := #[.int .i64 x]
/-- an iterator over ints, handed to a loop that begins where the heap has size B -/
def SeqBy (n : Nat) (P : Program) (g : Nat) (lb : Array Value) (fix : Nat → Prop) (B : Nat) (S : List Int → Prop) (N : Nat) (w : World) : Prop :=
  ∀ (l : Nat) (J Jx : List Int → World → Prop) (W : World), Below w.heap.size w W → W.heap.size = B → (∀ s A C, J s A → Kept (itP B) A C → J s C) → (∀ s A C, Jx s A → Kept (itP B) A C → Jx s C) →
    (∀ pre x W1, J pre W1 → pre.length < N → YieldAt Fence.wide (n - 1) P l (encI x) W1 fun e W' =>
      (e = .returned (.bool true) ∧ J (pre ++ [x]) W' ∧ Kept (rdP fix B) W1 W') ∨ (e = .returned (.bool false) ∧ Jx (pre ++ [x]) W' ∧ Kept (rdP fix B) W1 W')) →
    J [] W → CallsIn Fence.wide n P g (#[.func (.yield l) #[] #[]] ++ lb) W fun e W' => (∃ v, e = .returned v) ∧ ((∃ xs, S xs ∧ J xs W') ∨ ∃ pre, Jx pre W')
theorem RoundIn.inRound {F : Fence} {n : Nat} {P : Program} {l0 : Nat} {f : FuncId} {tmps : Array Value} {assign body : Code} {w : World} {R : Ending → World → Prop} (l : Nat) (h : RoundIn F n P l0 f tmps assign body w R) : RoundIn (F.inRound l) n P l0 f tmps assign body w R := h
/-- how a body may end -/
def byPost (fix : Nat → Prop) (B : Nat) (I : List Int → World → Prop) (Ix : Code → List Int → World → Prop) (xs : List Int) (W : World) : Exit → Act → World → Prop
  | .normal, _, W' => Kept (rdP fix B) W W' ∧ I xs W'
  | .ret, _, W' => Kept (rdP fix B) W W' ∧ Ix .ret xs W'
  | _, _, _ => False
set_option maxHeartbeats 8000000 in
theorem range_by {P : Program} {n : Nat} {g : Operand} {ps : Array Tmp} {assign body : Code} {Q : Exit → Act → World → Prop} {a : Act} {w : World} {gf : Nat} {lb : Array Value}
    (hg : a.eval g = .func (.func gf) #[] lb) (eg : ∀ args w, (callFunc gf args).run P w = .ok (.enter gf args) w) {fix : Nat → Prop} {S : List Int → Prop} {N : Nat}
    (hfix : ∀ k, fix k → k < w.heap.size) (hseq : SeqBy (n - 1) P gf lb fix (w.heap.size + 2) S N w) (hps : ps.size = 1)
    (I : List Int → World → Prop) (Ix : Code → List Int → World → Prop) (hI : ∀ s A C, I s A → Kept (itP w.heap.size) A C → I s C) (hIx : ∀ c s A C, Ix c s A → Kept (itP w.heap.size) A C → Ix c s C) (h0 : I [] w) (a1 : Int → Act)
    (hassign : ∀ (l : Nat) (x : Int) (W : World) (K : Act → World → Prop), K (a1 x) W → assign.wpIn (Fence.wide.inRound l) (n - 1 - 1) P (Exit.then K (fun _ _ _ => False)) { tmps := (ps.zip (encI x)).foldl (fun t (p, v) => t.setIfInBounds p v) a.tmps, defers := [] } W)
    (hbody : ∀ (l : Nat) (pre : List Int) (x : Int) (W : World), w.heap.size + 2 ≤ W.heap.size → I pre W → pre.length < N → body.wpIn (Fence.wide.inRound l) (n - 1 - 1) P (byPost fix w.heap.size I Ix (pre ++ [x]) W) (a1 x) W)
    (hdone : ∀ (xs : List Int) (W : World), w.heap.size + 2 ≤ W.heap.size → S xs → I xs W → W.heap[w.heap.size]? = some (.deferred (some [])) → Q .normal { a with defers := { target := .collected w.heap.size, args := #[] } :: a.defers } W)
    (hstop : ∀ (c : Code) (pre : List Int) (W : World), w.heap.size + 2 ≤ W.heap.size → Ix c pre W → W.heap[w.heap.size]? = some (.deferred (some [])) → c.wpIn Fence.wide n P Q { a with defers := { target := .collected w.heap.size, args := #[] } :: a.defers } W) :
    (Code.rangeFunc g ps assign body).wpIn Fence.wide n P Q a w := by
  refine wpIn_rangeFunc fun fn hfn => ?_
  -- the loop's record, in its four states
  obtain ⟨rec, hrec⟩ : ∃ rec : LoopState → Option Code → Loop, rec = fun st pe => { state := st, pending := pe, fn, tmps := a.tmps, params := ps, assign, body, defers := w.heap.size } := ⟨_, rfl⟩
  obtain ⟨B, hB⟩ : ∃ B, B = w.heap.size := ⟨_, rfl⟩
  obtain ⟨W1, hW1⟩ : ∃ W1, W1 = (w.alloc (.deferred (some []))).alloc (.loop (rec .ready none)) := ⟨_, rfl⟩
  have s1 : W1.heap.size = B + 2 := by rw [hW1, hB]; simp
  have l1 : W1.heap[B + 1]? = some (.loop (rec .ready none)) := by
    rw [hW1, hB]; have := World.alloc_heap_new (w.alloc (.deferred (some []))) (.loop (rec .ready none)); rwa [World.size_alloc] at this
  have d1 : W1.heap[B]? = some (.deferred (some [])) := by
    rw [hW1, hB]; exact (Below.heap_alloc _ _ _ (by simp)).trans (World.alloc_heap_new w _)
  have k1 : ∀ p, Kept p w W1 := fun p => by rw [hW1]; exact (Kept.alloc p _ _).trans (Kept.alloc p _ _)
  have b1 : Below w.heap.size w W1 := (k1 (fun k _ => k < w.heap.size)).below (fun k o hk _ => hk) (Nat.le_refl _)
  -- a step that turns the record alone is let by
  have put : ∀ {V : World} {st : LoopState} {pe : Option Code} (o : Obj) {q : Nat → Obj → Prop}, V.heap[B + 1]? = some (.loop (rec st pe)) → (∀ x, ¬ q (B + 1) (.loop x)) → Kept q V (V.putObj (B + 1) o) :=
    fun o q hv hq => Kept.put o hv (hq _)
  have nIt : ∀ x, ¬ itP B (B + 1) (.loop x) := fun x h => by rcases h with h | h; omega; simp [isRow] at h
  have nRd : ∀ x, ¬ rdP fix (B + 2) (B + 1) (.loop x) := fun x h => by
    rcases h with h | h
    · have := hfix _ h; omega
    · omega
  have toIt : ∀ {A C : World}, Kept (itP (B + 2)) A C → Kept (itP B) A C := fun h => h.mono fun k o _ hp => hp.imp (fun h => by omega) id
  have toRd : ∀ {A C : World}, Kept (rdP fix B) A C → Kept (rdP fix (B + 2)) A C := fun h => h.mono fun k o _ hp => hp.imp id (fun h => ⟨by omega, h.2⟩)
  have recs : ∀ {A C : World} {st : LoopState} {pe : Option Code}, Kept (itP (B + 2)) A C → A.heap[B + 1]? = some (.loop (rec st pe)) ∧ A.heap[B]? = some (.deferred (some [])) → C.heap[B + 1]? = some (.loop (rec st pe)) ∧ C.heap[B]? = some (.deferred (some [])) :=
    fun h hh => ⟨h.same _ _ hh.1 (.inl (by omega)), h.same _ _ hh.2 (.inl (by omega))⟩
  have afterPut : ∀ {V : World} (o : Obj), B + 1 < V.heap.size → V.heap[B]? = some (.deferred (some [])) → (V.putObj (B + 1) o).heap[B + 1]? = some o ∧ (V.putObj (B + 1) o).heap[B]? = some (.deferred (some [])) :=
    fun o hl hd => ⟨World.putObj_heap_same hl, (World.putObj_heap_other (by omega)).trans hd⟩
  rw [← hB] at hseq hfix hI hIx hbody hdone hstop
  have J0 := hseq (B + 1) (fun pre V => I pre V ∧ (V.heap[B + 1]? = some (.loop (rec .ready none)) ∧ V.heap[B]? = some (.deferred (some []))) ∧ B + 2 ≤ V.heap.size)
    (fun pre V => ∃ c, Ix c pre V ∧ (V.heap[B + 1]? = some (.loop (rec .done (some c))) ∧ V.heap[B]? = some (.deferred (some []))) ∧ B + 2 ≤ V.heap.size) W1 b1 s1
    (fun s A C h hk => ⟨hI s A C h.1 (toIt hk), recs hk h.2.1, Nat.le_trans h.2.2 hk.size⟩)
    (fun s A C h hk => by obtain ⟨c, h1, h2, h3⟩ := h; exact ⟨c, hIx c s A C h1 (toIt hk), recs hk h2, Nat.le_trans h3 hk.size⟩)
    (fun pre x V hj hlen => by
      obtain ⟨hi, ⟨hl, hd⟩, hs⟩ := hj
      have hy := run_yield (P := P) (args := encI x) hl (by rw [hrec]; exact hps.symm)
      rw [hrec] at hy
      refine ⟨fn, _, assign, body, hy, roundIn_of_wpIn hfn (hassign _ x V _ ?_)⟩
      refine ⟨_, run_beginRound hl (by rw [hrec]), ?_⟩
      have busy : ({ rec .ready none with state := .busy } : Loop) = rec .busy none := by rw [hrec]
      rw [busy]
      obtain ⟨hl2, hd2⟩ := afterPut (.loop (rec .busy none)) (V := V) (by omega) hd
      have kp1 := put (V := V) (.loop (rec .busy none)) hl nRd
      have hi2 := hI _ _ _ hi (put (V := V) (.loop (rec .busy none)) hl nIt)
      have hs2 : B + 2 ≤ (V.putObj (B + 1) (.loop (rec .busy none))).heap.size := by rw [World.putObj_size]; exact hs
      refine wpIn_mono (hbody (B + 1) pre x _ hs2 hi2 hlen) ?_
      intro e a3 W3 hp
      have ending : ∀ jump : Option Code, Kept (rdP fix B) (V.putObj (B + 1) (.loop (rec .busy none))) W3 →
          (Instr.endRound (B + 1) jump).run P W3 = .ok (.bool jump.isNone) (W3.putObj (B + 1) (.loop (rec (if jump.isNone then .ready else .done) jump))) ∧ W3.heap[B + 1]? = some (.loop (rec .busy none)) ∧ W3.heap[B]? = some (.deferred (some [])) ∧ B + 2 ≤ W3.heap.size := fun jump hk3 => by
        have hl3 := hk3.same _ _ hl2 (.inr ⟨by omega, rfl⟩)
        have hd3 := hk3.same _ _ hd2 (.inr ⟨Nat.le_refl _, rfl⟩)
        have hr := run_endRound (P := P) jump hl3
        have er : ({ rec .busy none with state := if jump.isNone then .ready else .done, pending := jump } : Loop) = rec (if jump.isNone then .ready else .done) jump := by rw [hrec]
        rw [er] at hr
        exact ⟨hr, hl3, hd3, Nat.le_trans hs2 hk3.size⟩
      cases e with
      | normal =>
        obtain ⟨hk3, hi3⟩ := hp
        obtain ⟨hr, hl3, hd3, hs3⟩ := ending none hk3
        refine ⟨_, _, hr, .inl ⟨rfl, ⟨hI _ _ _ hi3 (put _ hl3 nIt), afterPut _ (by omega) hd3, by rw [World.putObj_size]; exact hs3⟩, (kp1.trans (toRd hk3)).trans (put _ hl3 nRd)⟩⟩
      | ret =>
        obtain ⟨hk3, hi3⟩ := hp
        obtain ⟨hr, hl3, hd3, hs3⟩ := ending (some .ret) hk3
        exact ⟨_, _, hr, .inr ⟨rfl, ⟨.ret, hIx _ _ _ _ hi3 (put _ hl3 nIt), afterPut _ (by omega) hd3, by rw [World.putObj_size]; exact hs3⟩, (kp1.trans (toRd hk3)).trans (put _ hl3 nRd)⟩⟩
      | exit id => exact hp.elim
      | goto t => exact hp.elim
      | panic ch => exact hp.elim
      | outgrown => exact hp.elim)
    ⟨hI _ _ _ h0 (k1 _), ⟨l1, d1⟩, by omega⟩
  refine ⟨B + 1, [{ target := .collected B, args := #[] }], W1, { target := .fn (.func gf) lb, args := #[.func (.yield (B + 1)) #[] #[]] }, W1, gf, #[.func (.yield (B + 1)) #[] #[]] ++ lb, W1, ?_, ?_, ?_, ?_, ?_, ?_⟩
  · have := run_enterLoop_outer (P := P) (w := w) fn a.tmps ps assign body
    rw [hW1, hrec, hB]; exact this
  · simp only [resolve, hg]
    simp [go_sem]
  · intro f' hf'; trivial
  · simp [invoke, go_sem, eg]
  · intro h; simp [Fence.wide] at h
  · refine J0.mono ?_
    rintro e W2 ⟨⟨v, rfl⟩, (⟨xs, hS, hi, ⟨hl, hd⟩, hs⟩ | ⟨pre, c, hi, ⟨hl, hd⟩, hs⟩)⟩
    · have he := run_endLoop (P := P) hl (by rw [hrec]; simp)
      have ep : (rec .ready none).pending = none := by rw [hrec]
      rw [ep] at he
      exact ⟨none, _, he, hdone xs _ (by rw [World.putObj_size]; exact hs) hS (hI _ _ _ hi (put _ hl nIt)) ((World.putObj_heap_other (by omega)).trans hd)⟩
    · have he := run_endLoop (P := P) hl (by rw [hrec]; simp)
      have ep : (rec .done (some c)).pending = some c := by rw [hrec]
      rw [ep] at he
      exact ⟨some c, _, he, hstop c pre _ (by rw [World.putObj_size]; exact hs) (hIx _ _ _ _ hi (put _ hl nIt)) ((World.putObj_heap_other (by omega)).trans hd)⟩
end Go.Proofs.Ytjkbmenmpnidhaa
