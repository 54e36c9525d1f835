/- The map of counts: one more. -/
import Derived.Test.YtjkbmenmpnidhaaJ7
import Derived.Test.YtjkbmenmpnidhaaJ6
import Derived.WideKeyEntry
namespace Go.Proofs.Ytjkbmenmpnidhaa
open Go.RowKit Go.Maps
open Go.ChangeShapes Go.WideShapes Go.MapKept Go.ChangeMaps
open Go.WideMaps (KeyLaw)
open Go.WideElems (entry_then_store Fit set_self)
set_option linter.unusedSimpArgs false
set_option linter.unusedVariables false
set_option maxRecDepth 100000 in
theorem abK : KeyLaw Try.prog 95 := deep_law_gate Try.laidOut' (of_decide_eq_true (by kernel_rfl)) (of_decide_eq_true (by kernel_rfl)) (by kernel_rfl) abWide
theorem setBlock_twice (w : World) (b : Nat) (o o' : Obj) : setBlock (setBlock w b o) b o' = setBlock w b o' := by
  unfold setBlock
  congr 1
  simp
theorem grown_setBlock {w : World} {b : Nat} (o : Obj) (hb : b < w.heap.size) : w.grownBy (setBlock w b o) (some b) :=
  ⟨rfl, rfl, rfl, by simp [setBlock], fun k hk hne => by
    simp only [setBlock]
    rw [Array.getElem?_setIfInBounds_ne]
    exact fun e => hne (by rw [e])⟩
theorem wf_int {n : Int} (h : I64 n) : (Lit.int .i64 n).wf = true := WalkArith.wf_i64 h
theorem Cnt.entry {w : World} {M n : Nat} {S : Int → Int → Int} (h : Cnt w M n S) (k o : Int) (hk : I64 k) (ho : I64 o) (hn : n + 1 < maxLen) :
    ∃ (st : Int) (w1 : World), (Instr.mapEntry 71 (.map (some M)) (abV k o)).run Try.prog w = .ok (.tuple #[.int .i64 (S k o), .int .i64 st]) w1 ∧ w.grownBy w1 (some M) ∧ Cnt w1 M (n + 1) S ∧
      ∀ v : Int, I64 v → ∃ w2, (Instr.entryStore 71 (.map (some M)) (.int .i64 st) (.int .i64 v)).run Try.prog w1 = .ok () w2 ∧ w.grownBy w2 (some M) ∧ w1.grownBy w2 (some M) ∧ Cnt w2 M (n + 1) (fun k' o' => if k' = k ∧ o' = o then v else S k' o') := by
  have hlt := h.lt
  have hlook := h.look k o hk ho
  obtain ⟨D, hown, h2⟩ := h
  obtain ⟨l, hl⟩ := ab_key k o hk ho
  have hown0 := hown
  obtain ⟨es, clock, hb, F, hs, rfl⟩ := hown
  obtain ⟨v0, st, es1, clock1, hrun, _, hst⟩ := entry_then_store abK Try.underlying71 zeroInt hb F hl
  have key := abV k o
  -- the store
  have store : ∀ w1 : World, w1 = setBlock w M (.map es1 clock1) → ∀ v : Int, I64 v → ∃ w2, (Instr.entryStore 71 (.map (some M)) (.int .i64 (st : Int)) (.int .i64 v)).run Try.prog w1 = .ok () w2 ∧ w.grownBy w2 (some M) ∧ w1.grownBy w2 (some M) ∧ Cnt w2 M (n + 1) (fun k' o' => if k' = k ∧ o' = o then v else S k' o') := by
    intro w1 e1 v hv
    have hw1 : w1.heap[M]? = some (.map es1 clock1) := by rw [e1]; exact heap_setBlock_same hb _
    obtain ⟨es', clock', r1, r2⟩ := hst w1 (.int .i64 v) hw1
    obtain ⟨w', u1, u2, u3⟩ := hown0.update abLaw Try.underlying71 (by unfold maxLen at hn ⊢; omega) hl (plainElem_int Try.underlying3 (wf_int hv))
    have e2 : w' = setBlock w M (.map es' clock') := by
      have := u1.symm.trans r2
      cases this
      rfl
    refine ⟨_, r1, ?_, ?_, ?_⟩
    · rw [e1, setBlock_twice]; exact grown_setBlock _ hlt
    · exact grown_setBlock _ (Array.getElem?_eq_some_iff.1 hw1).1
    · rw [e1, setBlock_twice, ← e2]
      refine ⟨_, u2, fun k' o' l' hk' ho' hl' => ?_⟩
      by_cases e : l' = l
      · subst e
        have := abLaw.inj hl hl'
        cases this
        rw [atKey_put_same hown0.isMap (abLaw.key hl)]
        dsimp only
        rw [if_pos ⟨rfl, rfl⟩]
      · rw [atKey_put_other e]
        dsimp only
        rw [if_neg, h2 k' o' l' hk' ho' hl']
        rintro ⟨rfl, rfl⟩
        rw [hl] at hl'
        cases hl'
        exact e rfl
  rcases abK.find w hl es.toList F.keys with ⟨h1, h3⟩ | ⟨j, e0, h1, h3, h4⟩
  · have my : (Instr.mapEntry 71 (.map (some M)) (abV k o)).run Try.prog w = .ok (.tuple #[.int .i64 0, goInt clock]) (setBlock w M (.map (es.push ⟨abV k o, .int .i64 0, clock⟩) (clock + 1))) := by
      simp [Instr.mapEntry, run_underlying Try.underlying71, MapKept.run_getObj_map hb, abK.check w false hl, h1, zeroInt, MapKept.run_setObj_map _ hb, Result.andThen, setBlock]
    have lk : (Instr.lookup 71 (.map (some M)) (abV k o) false).run Try.prog w = .ok (.int .i64 0) w := by
      simp [Instr.lookup, run_underlying Try.underlying71, MapKept.run_getObj_map hb, abK.check w _ hl, h1, zeroInt, Result.andThen]
    have h0 : S k o = 0 := by
      have := hlook.symm.trans lk
      simpa using this
    have hup : (Instr.mapUpdate 71 (.map (some M)) (abV k o) (.int .i64 0)).run Try.prog w = .ok () (setBlock w M (.map (es.push ⟨abV k o, .int .i64 0, clock⟩) (clock + 1))) := by
      simp [Instr.mapUpdate, run_underlying Try.underlying71, MapKept.run_getObj_map hb, abK.check w false hl, h1, MapKept.run_setObj_map _ hb, Result.andThen, setBlock]
    have ew : setBlock w M (.map es1 clock1) = setBlock w M (.map (es.push ⟨abV k o, .int .i64 0, clock⟩) (clock + 1)) ∧ v0 = .int .i64 0 ∧ (st : Int) = (clock : Int) := by
      have := hrun.symm.trans my
      simp only [Result.ok.injEq, Value.tuple.injEq, goInt] at this
      obtain ⟨a1, a2⟩ := this
      simp at a1
      exact ⟨a2, a1.1, by omega⟩
    obtain ⟨w', u1, u2, u3⟩ := hown0.update abLaw Try.underlying71 (by unfold maxLen at hn ⊢; omega) hl (plainElem_int Try.underlying3 (wf_int (n := 0) ⟨by decide, by decide⟩))
    refine ⟨st, setBlock w M (.map es1 clock1), ?_, grown_setBlock _ hlt, ?_, store _ rfl⟩
    · rw [hrun, ew.2.1, h0]; rfl
    · rw [ew.1]
      have e2 : w' = setBlock w M (.map (es.push ⟨abV k o, .int .i64 0, clock⟩) (clock + 1)) := by
        have := u1.symm.trans hup
        cases this
        rfl
      rw [← e2]
      refine ⟨_, u2, fun k' o' l' hk' ho' hl' => ?_⟩
      by_cases e : l' = l
      · subst e
        have := abLaw.inj hl hl'
        cases this
        rw [atKey_put_same hown0.isMap (abLaw.key hl), h0]
      · rw [atKey_put_other e, h2 k' o' l' hk' ho' hl']
  · have hj : es[j]? = some e0 := by simpa using h3
    have hsame : es.modify j (fun e => { e with key := abV k o }) = es := by
      apply Array.ext'
      rw [Array.toList_modify, Go.ChangeMaps.modify_eq_set _ _ _ _ h3]
      have : ({ e0 with key := abV k o } : MapEntry) = e0 := by rw [← h4]
      rw [this]
      exact set_self _ _ _ h3
    have my : (Instr.mapEntry 71 (.map (some M)) (abV k o)).run Try.prog w = .ok (.tuple #[e0.val, goInt e0.born]) (setBlock w M (.map es clock)) := by
      simp [Instr.mapEntry, run_underlying Try.underlying71, MapKept.run_getObj_map hb, abK.check w false hl, h1, hj, h4, abK.stays w hl, hsame, MapKept.run_setObj_map _ hb, Result.andThen, setBlock]
    have lk : (Instr.lookup 71 (.map (some M)) (abV k o) false).run Try.prog w = .ok e0.val w := by
      simp [Instr.lookup, run_underlying Try.underlying71, MapKept.run_getObj_map hb, abK.check w _ hl, h1, Result.andThen]
    have h0 : e0.val = .int .i64 (S k o) := by
      have := lk.symm.trans hlook
      simpa using this
    have ew : setBlock w M (.map es1 clock1) = setBlock w M (.map es clock) ∧ v0 = e0.val := by
      have := hrun.symm.trans my
      simp only [Result.ok.injEq, Value.tuple.injEq, goInt] at this
      obtain ⟨a1, a2⟩ := this
      simp at a1
      exact ⟨a2, a1.1⟩
    refine ⟨st, setBlock w M (.map es1 clock1), ?_, grown_setBlock _ hlt, ?_, store _ rfl⟩
    · rw [hrun, ew.2, h0]; rfl
    · rw [ew.1]
      exact ⟨_, ⟨es, clock, heap_setBlock_same hb _, F, by omega, rfl⟩, h2⟩
end Go.Proofs.Ytjkbmenmpnidhaa
