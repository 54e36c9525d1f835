/- What came in: slices of numbers and of events. -/
import Derived.Test.YtkalcmichmfemaaE0
import Derived.ProofKit
import Derived.OpenShut
import Derived.ChangeOld
import Derived.ChangeMaps
import Derived.Lib.SmallJoins
import Derived.Deep.Slices
import Derived.Deep.Fields
import Derived.ChangeSame
namespace Go.Proofs.Ytkalcmichmfemaa
open Go.ChangeShapes Go.WideShapes Go.ChangeAt Go.RowKit Go.Joins Go.Deep
set_option linter.unusedSimpArgs false
set_option linter.unusedVariables false

section
variable {H : Type} {enc : TypeId × Value → H} {P : Program} {w : World} {base : Nat} {spare : Nat → Bool} {held : Bool}
theorem open_slice_cells {t e : TypeId} {fuel : Nat} {cs : List Value} {x : DataW H × List MemPlace} (ht : P.underlying t = some (.slice e)) (h : DataW.trod enc P w base spare held fuel t cs = some x) :
    (cs = [.slice none 0 0]) ∨
    ∃ (a : Addr) (len cap : Nat), cs = [.slice (some a) len cap] ∧ len ≤ cap ∧ cap ≤ maxLen ∧
      ∀ i, i < len → ∃ (cs' : List Value) (y : DataW H × List MemPlace) (n : Nat), cs'.length = P.cellsOf e ∧ (∀ (j : Nat) u, cs'[j]? = some u → w.cell? (a.add (i * P.cellsOf e + j)) = some u) ∧ DataW.trod enc P w base spare held n e cs' = some y := by
  rcases open_slice ht h with h0 | ⟨a, len, cap, m, n, D, Pl, hcs, hb, hl, hm, hmm, hx, hi⟩
  · exact .inl h0.1
  · refine .inr ⟨a, len, cap, hcs, hl, hm, fun i him => ?_⟩
    obtain ⟨cs', hc, ht'⟩ := hi i (by rw [hmm]; split <;> omega)
    obtain ⟨_, hcl, hat⟩ := World.cells?_some hc
    refine ⟨cs', _, _, hcl, fun j u hu => ?_, ht'⟩
    have hj : j < cs'.length := (List.getElem?_eq_some_iff.1 hu).1
    rw [← Go.Deep.add_add, hat j (by omega), hu]
theorem struct_cells {e : TypeId} {fs : Array Field} {fuel : Nat} {cs : List Value} {x : DataW H × List MemPlace} (he : P.underlying e = some (.struct fs)) (hone : oneCellFields P fs = true) (hl : cs.length = fs.size)
    (h : DataW.trod enc P w base spare held fuel e cs = some x) : ∀ (j : Nat) (f : Field), fs[j]? = some f → ∃ (v : Value) (y : DataW H × List MemPlace) (n : Nat), cs[j]? = some v ∧ DataW.trod enc P w base spare held n f.type [v] = some y := by
  intro j f hj
  obtain ⟨ys, n', hn', hy, hlen, hyl, hf⟩ := DataW.trod_struct he h
  obtain ⟨ho, hk⟩ := hone_of hone j f hj
  have hjl : j < fs.size := (Array.getElem?_eq_some_iff.1 hj).1
  have h1 := hf j f hj
  rw [ho, hk] at h1
  have hone' : (cs.drop j).take 1 = [cs[j]'(by omega)] := by
    rw [List.drop_eq_getElem_cons (by omega)]
    rfl
  rw [hone'] at h1
  have hys : ys[j]? = some (ys[j]'(by omega)) := List.getElem?_eq_getElem (by omega)
  exact ⟨_, _, _, List.getElem?_eq_getElem (by omega), h1.trans hys⟩
theorem agg_cells {r : Reach} {b0 : Nat} {t : TypeId} {fs : Array Field} {v : Value} {d : DataW H} {p : List MemPlace} (hs : P.underlying t = some (.struct fs)) (hone : oneCellFields P fs = true) (hC : P.cellsOf t = fs.size)
    (hv : Value.okWide P w r b0 t v) (h : DataW.Trod enc P w base spare held t v d p) :
    ∃ cs : Array Value, v = .agg cs ∧ cs.size = fs.size ∧ ∀ (j : Nat) (f : Field), fs[j]? = some f → ∃ (u : Value) (y : DataW H × List MemPlace) (n : Nat), cs.toList[j]? = some u ∧ DataW.trod enc P w base spare held n f.type [u] = some y := by
  obtain ⟨cs, rfl, hsz⟩ := okWide_struct hs hv
  obtain ⟨fuel, hf⟩ := h
  exact ⟨cs, rfl, hsz.trans hC, struct_cells hs hone (by simpa using hsz.trans hC) (by simpa [Value.cells] using hf)⟩
end
theorem recs_of {α : Type} {k : Nat} {enc : α → List Value} (hk : ∀ x, (enc x).length = k) (h0 : 0 < k) {w : World} {a : Addr} {len cap : Nat} (hl : len ≤ cap) (hm : cap ≤ maxLen) (P : α → Prop)
    (key : ∀ i, i < len → ∃ x, P x ∧ ∀ j u, (enc x)[j]? = some u → w.cell? (a.add (i * k + j)) = some u) : ∃ L, Recs k enc w (some a) len cap L ∧ ∀ x ∈ L, P x := by
  classical
  refine ⟨List.ofFn (fun i : Fin len => Classical.choose (key i i.2)), ⟨by simp, hl, hm, fun e => by simp at e, fun i x hx => ?_⟩, fun x hx => ?_⟩
  · have hi : i < len := by have := (List.getElem?_eq_some_iff.1 hx).1; simpa using this
    have hx' : x = Classical.choose (key i hi) := by simp [hi] at hx; exact hx.symm
    have hc := (Classical.choose_spec (key i hi)).2
    rw [← hx'] at hc
    obtain ⟨b, off, spot⟩ := a
    have hspot : spot = none := by
      obtain ⟨z, _, hz⟩ := key 0 (by omega)
      have h1 := hz 0 _ (List.getElem?_eq_getElem (by rw [hk]; exact h0))
      rw [Nat.zero_mul] at h1
      simpa [Addr.add] using World.cell?_spot h1
    subst hspot
    refine ⟨b, off, rfl, fun j u hu => ?_⟩
    have := hc j u hu
    rw [Addr.add_lit, ← Nat.add_assoc] at this
    exact this
  · obtain ⟨i, rfl⟩ := List.mem_ofFn.1 hx
    exact (Classical.choose_spec (key i i.2)).1

section
variable {H : Type} {enc : TypeId × Value → H} {w : World} {base : Nat} {spare : Nat → Bool} {held : Bool}
theorem ints_open {fuel : Nat} {v : Value} {x : DataW H × List MemPlace}
    (h : DataW.trod enc Try.prog w base spare held fuel 22 [v] = some x) : ∃ a len cap l, v = .slice a len cap ∧ Ints w a len cap l := by
  rcases open_ints Try.underlying22 Try.underlying3 (by kernel_rfl) h with ⟨hcs, _⟩ | ⟨a, l, c, zs, hcs, _, hl, hm, hz, _, hcell, hwz⟩
  · simp only [List.cons.injEq, and_true] at hcs
    exact ⟨none, 0, 0, [], hcs, Ints.nil w⟩
  · simp only [List.cons.injEq, and_true] at hcs
    have hzl : l ≤ zs.length := by rw [hz]; split <;> omega
    have hlen : (zs.take l).length = l := by rw [List.length_take]; omega
    have hen : ∀ i, i < l → en (zs.take l) i = zs.getD i 0 := by
      intro i hi
      rw [en_get _ i (by omega), List.getElem_take]
      rw [List.getD_eq_getElem?_getD, List.getElem?_eq_getElem (by omega)]; rfl
    obtain ⟨b, off, spot⟩ := a
    refine ⟨some ⟨b, off, spot⟩, l, c, zs.take l, hcs, hlen, hl, hm, fun e => by simp at e, fun i => ?_, fun i hi => ?_⟩
    · by_cases hi : i < l
      · rw [en_get _ i (by omega)]
        exact wf_i64_bounds (hwz _ (List.mem_of_mem_take (List.getElem_mem _)))
      · rw [en_of_le _ i (by omega)]; exact ⟨by omega, by omega⟩
    · have hc := hcell i (by omega)
      have hspot : spot = none := by simpa [Addr.add] using World.cell?_spot (hcell 0 (by omega))
      subst hspot
      refine ⟨b, off, rfl, ?_⟩
      rw [Addr.add_lit] at hc
      rw [hen i hi]; exact hc

theorem cells46 : Try.prog.cellsOf 46 = 5 := by kernel_rfl
theorem evs_open {fuel : Nat} {v : Value} {x : DataW H × List MemPlace} (h : DataW.trod enc Try.prog w base spare held fuel 23 [v] = some x) : ∃ a len cap L, v = .slice a len cap ∧ Evs w a len cap L := by
  rcases open_slice_cells Try.underlying23 h with hcs | ⟨a, len, cap, hcs, hl, hm, hf⟩
  · simp only [List.cons.injEq, and_true] at hcs
    exact ⟨none, 0, 0, [], hcs, Evs.nil w⟩
  · simp only [List.cons.injEq, and_true] at hcs
    rw [cells46] at hf
    have key : ∀ i, i < len → ∃ x : Ev, EvOk x ∧ ∀ j u, (encE x)[j]? = some u → w.cell? (a.add (i * 5 + j)) = some u := by
      intro i hi
      obtain ⟨cs', y, n, hcl, hcell, ht⟩ := hf i hi
      have hS := struct_cells Try.underlying46 (by kernel_rfl) (by rw [hcl]; rfl) ht
      obtain ⟨v0, y0, n0, c0, t0⟩ := hS 0 _ rfl
      obtain ⟨m0, e0, _, b0⟩ := DataW.trod_int Try.underlying3 t0
      simp only [List.cons.injEq, and_true] at e0
      subst e0
      have d0 := hcell 0 _ c0
      obtain ⟨v1, y1, n1, c1, t1⟩ := hS 1 _ rfl
      obtain ⟨m1, e1, _, b1⟩ := DataW.trod_int Try.underlying3 t1
      simp only [List.cons.injEq, and_true] at e1
      subst e1
      have d1 := hcell 1 _ c1
      obtain ⟨v2, y2, n2, c2, t2⟩ := hS 2 _ rfl
      obtain ⟨m2, e2, _, b2⟩ := DataW.trod_int Try.underlying3 t2
      simp only [List.cons.injEq, and_true] at e2
      subst e2
      have d2 := hcell 2 _ c2
      obtain ⟨v3, y3, n3, c3, t3⟩ := hS 3 _ rfl
      obtain ⟨m3, e3, _, b3⟩ := DataW.trod_int Try.underlying3 t3
      simp only [List.cons.injEq, and_true] at e3
      subst e3
      have d3 := hcell 3 _ c3
      obtain ⟨v4, y4, n4, c4, t4⟩ := hS 4 _ rfl
      obtain ⟨m4, e4, _, b4⟩ := DataW.trod_int Try.underlying3 t4
      simp only [List.cons.injEq, and_true] at e4
      subst e4
      have d4 := hcell 4 _ c4
      refine ⟨⟨m0, m1, m2, m3, m4⟩, ⟨wf_i64_bounds b0, wf_i64_bounds b1, wf_i64_bounds b2, wf_i64_bounds b3, wf_i64_bounds b4⟩, fun j u hu => ?_⟩
      match j, hu with
      | 0, hu => simp [encE] at hu; subst hu; exact d0
      | 1, hu => simp [encE] at hu; subst hu; exact d1
      | 2, hu => simp [encE] at hu; subst hu; exact d2
      | 3, hu => simp [encE] at hu; subst hu; exact d3
      | 4, hu => simp [encE] at hu; subst hu; exact d4
    obtain ⟨L, hL, hP⟩ := recs_of (k := 5) (enc := encE) encE_len (by decide) hl hm EvOk key
    exact ⟨some a, len, cap, L, hcs, hL, hP⟩
end
end Go.Proofs.Ytkalcmichmfemaa
