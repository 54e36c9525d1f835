/- What came in: slices of waits, and waits by value. -/
import Derived.Test.YtnmopfimmindnaaWt
import Derived.Test.YtnmopfimmindnaaOwn
import Derived.ChangeMaps
import Derived.ProofKit
import Derived.OpenShut
import Derived.ChangeOld
import Derived.Lib.SmallJoins
import Derived.Deep.Slices
import Derived.Deep.Fields
import Derived.ChangeSame
namespace Go.Proofs.Ytnmopfimmindnaa
open Go.ChangeShapes Go.WideShapes Go.ChangeAt Go.RowKit Go.Joins Go.Deep

section
variable {H : Type} {enc : TypeId × Value → H} {P : Program} {w : World} {base : Nat} {spare : Nat → Bool} {held : Bool}
theorem open_slice_fields {t e : TypeId} {fs : Array Field} {fuel : Nat} {cs : List Value} {x : DataW H × List MemPlace} (ht : P.underlying t = some (.slice e)) (he : P.underlying e = some (.struct fs))
    (hone : oneCellFields P fs = true) (hC : P.cellsOf e = fs.size) (h : DataW.trod enc P w base spare held fuel t cs = some x) :
    (cs = [.slice none 0 0] ∧ x = (.nil, [])) ∨
    ∃ (a : Addr) (len cap m : Nat), cs = [.slice (some a) len cap] ∧ len ≤ cap ∧ cap ≤ maxLen ∧ len ≤ m ∧
      ∀ i, i < m → ∀ (j : Nat) (f : Field), fs[j]? = some f → ∃ (v : Value) (y : DataW H × List MemPlace) (n : Nat), w.cell? (a.add (i * fs.size + j)) = some v ∧ DataW.trod enc P w base spare held n f.type [v] = some y := by
  rcases open_slice ht h with h0 | ⟨a, len, cap, m, n, D, Pl, hcs, hb, hl, hm, hmm, hx, hi⟩
  · exact .inl h0
  · refine .inr ⟨a, len, cap, m, hcs, hl, hm, by rw [hmm]; split <;> omega, fun i him j f hj => ?_⟩
    obtain ⟨cs', hc, ht'⟩ := hi i him
    rw [hC] at hc
    obtain ⟨ys, n', hn', hy, hlen, hyl, hf⟩ := DataW.trod_struct he ht'
    obtain ⟨_, hcl, hat⟩ := World.cells?_some hc
    obtain ⟨ho, hk⟩ := hone_of hone j f hj
    have hjl : j < fs.size := (Array.getElem?_eq_some_iff.1 hj).1
    have hcell := hat j hjl
    have hv : cs'[j]? = some (cs'[j]'(by omega)) := List.getElem?_eq_getElem (by omega)
    have h1 := hf j f hj
    rw [ho, hk] at h1
    have hone' : (cs'.drop j).take 1 = [cs'[j]'(by omega)] := by
      rw [List.drop_eq_getElem_cons (by omega)]
      rfl
    rw [hone'] at h1
    have hys : ys[j]? = some (ys[j]'(by omega)) := List.getElem?_eq_getElem (by omega)
    refine ⟨_, _, _, ?_, h1.trans hys⟩
    rw [← Go.Deep.add_add, hcell, hv]
end

theorem cells26 : Try.prog.cellsOf 26 = 3 := by kernel_rfl
theorem wts_open {H : Type} {enc : TypeId × Value → H} {w : World} {base : Nat} {spare : Nat → Bool} {held : Bool} {fuel : Nat} {v : Value} {x : DataW H × List MemPlace}
    (h : DataW.trod enc Try.prog w base spare held fuel 22 [v] = some x) : ∃ a len cap L, v = .slice a len cap ∧ Wts w a len cap L := by
  rcases open_slice_fields Try.underlying22 Try.underlying26 (by kernel_rfl) cells26 h with ⟨hcs, _⟩ | ⟨a, len, cap, m, hcs, hl, hm, hlm, hf⟩
  · simp only [List.cons.injEq, and_true] at hcs
    exact ⟨none, 0, 0, [], hcs, Wts.nil w⟩
  · simp only [List.cons.injEq, and_true] at hcs
    have key : ∀ i, i < len → ∃ x : Wt, WtOk x ∧ ∀ j u, (wcells x)[j]? = some u → w.cell? (a.add (i * 3 + j)) = some u := by
      intro i hi
      obtain ⟨v0, y0, n0, c0, t0⟩ := hf i (by omega) 0 _ rfl
      obtain ⟨v1, y1, n1, c1, t1⟩ := hf i (by omega) 1 _ rfl
      obtain ⟨v2, y2, n2, c2, t2⟩ := hf i (by omega) 2 _ rfl
      obtain ⟨m0, e0, _, b0⟩ := DataW.trod_int Try.underlying3 t0
      obtain ⟨m1, e1, _, b1⟩ := DataW.trod_int Try.underlying3 t1
      obtain ⟨m2, e2, _, b2⟩ := DataW.trod_int Try.underlying3 t2
      simp only [List.cons.injEq, and_true] at e0 e1 e2
      subst e0; subst e1; subst e2
      refine ⟨⟨m0, m1, m2⟩, ⟨wf_i64_bounds b0, wf_i64_bounds b1, wf_i64_bounds b2⟩, fun j u hu => ?_⟩
      match j, hu with
      | 0, hu => simp [wcells] at hu; subst hu; exact c0
      | 1, hu => simp [wcells] at hu; subst hu; exact c1
      | 2, hu => simp [wcells] at hu; subst hu; exact c2
    classical
    let f : Nat → Wt := fun i => if h : i < len then Classical.choose (key i h) else ⟨0, 0, 0⟩
    have hfx : ∀ i (h : i < len), f i = Classical.choose (key i h) := fun i h => dif_pos h
    refine ⟨some a, len, cap, (List.range len).map f, hcs, ⟨⟨by simp, hl, hm, fun e => by simp at e, fun i x hx => ?_⟩, fun x hx => ?_⟩⟩
    · have hi : i < len := by have := (List.getElem?_eq_some_iff.1 hx).1; simpa using this
      have hx' : x = f i := by simp [hi] at hx; exact hx.symm
      have hk := (Classical.choose_spec (key i hi)).2
      rw [← hfx i hi, ← hx'] at hk
      obtain ⟨b, off, spot⟩ := a
      have hc0 := (Classical.choose_spec (key 0 (by omega))).2 0 _ rfl
      have hspot : spot = none := by simpa [Addr.add] using World.cell?_spot hc0
      subst hspot
      refine ⟨b, off, rfl, fun j u hu => ?_⟩
      have := hk j u hu
      rw [Addr.add_lit, ← Nat.add_assoc] at this
      exact this
    · obtain ⟨i, hi, rfl⟩ := List.mem_map.1 hx
      have hi' : i < len := List.mem_range.1 hi
      rw [hfx i hi']
      exact (Classical.choose_spec (key i hi')).1
theorem wait_open {H : Type} {enc : TypeId × Value → H} {w : World} {base : Nat} {spare : Nat → Bool} {held : Bool} {r : Reach} {b0 : Nat} {v : Value} {d : DataW H} {p : List MemPlace}
    (hv : Value.okWide Try.prog w r b0 26 v) (h : DataW.Trod enc Try.prog w base spare held 26 v d p) : ∃ x, v = wV x ∧ WtOk x := by
  obtain ⟨c0, c1, c2, y0, y1, y2, m, rfl, _, _, e0, e1, e2⟩ := open_agg3 Try.underlying26 (by kernel_rfl) cells26 hv h
  obtain ⟨n0, k0, _, b0⟩ := DataW.trod_int Try.underlying3 e0
  obtain ⟨n1, k1, _, b1⟩ := DataW.trod_int Try.underlying3 e1
  obtain ⟨n2, k2, _, b2⟩ := DataW.trod_int Try.underlying3 e2
  simp only [List.cons.injEq, and_true] at k0 k1 k2
  subst k0; subst k1; subst k2
  exact ⟨⟨n0, n1, n2⟩, rfl, wf_i64_bounds b0, wf_i64_bounds b1, wf_i64_bounds b2⟩
theorem cells24 : Try.prog.cellsOf 24 = 3 := by kernel_rfl
theorem once_open {H : Type} {enc : TypeId × Value → H} {w : World} {base : Nat} {spare : Nat → Bool} {held : Bool} {r : Reach} {b0 : Nat} {v : Value} {d : DataW H} {p : List MemPlace}
    (hv : Value.okWide Try.prog w r b0 24 v) (h : DataW.Trod enc Try.prog w base spare held 24 v d p) : ∃ st by_ a len cap L, v = .agg #[.int .i64 st, .int .i64 by_, .slice a len cap] ∧ Wts w a len cap L ∧ I64 st ∧ I64 by_ := by
  obtain ⟨c0, c1, c2, y0, y1, y2, m, rfl, _, _, e0, e1, e2⟩ := open_agg3 Try.underlying24 (by kernel_rfl) cells24 hv h
  obtain ⟨n0, k0, _, b0⟩ := DataW.trod_int Try.underlying3 e0
  obtain ⟨n1, k1, _, b1⟩ := DataW.trod_int Try.underlying3 e1
  obtain ⟨a, len, cap, L, k2, hL⟩ := wts_open e2
  simp only [List.cons.injEq, and_true] at k0 k1
  subst k0; subst k1; subst k2
  exact ⟨n0, n1, a, len, cap, L, rfl, hL, wf_i64_bounds b0, wf_i64_bounds b1⟩
theorem ints_open {H : Type} {enc : TypeId × Value → H} {w : World} {base : Nat} {spare : Nat → Bool} {held : Bool} {fuel : Nat} {v : Value} {x : DataW H × List MemPlace}
    (h : DataW.trod enc Try.prog w base spare held fuel 41 [v] = some x) : ∃ a len cap l, v = .slice a len cap ∧ Ints w a len cap l := by
  rcases open_ints Try.underlying41 Try.underlying3 (by kernel_rfl) h with ⟨hcs, _⟩ | ⟨a, l, c, zs, hcs, _, hl, hm, hz, _, hcell, hwz⟩
  · simp only [List.cons.injEq, and_true] at hcs
    exact ⟨none, 0, 0, [], hcs, Ints.nil w⟩
  · simp only [List.cons.injEq, and_true] at hcs
    have hzl : l ≤ zs.length := by rw [hz]; split <;> omega
    have hlen : (zs.take l).length = l := by rw [List.length_take]; omega
    have hen : ∀ i, i < l → en (zs.take l) i = zs.getD i 0 := by
      intro i hi
      rw [en_get _ i (by omega), List.getElem_take]
      rw [List.getD_eq_getElem?_getD, List.getElem?_eq_getElem (by omega)]; rfl
    obtain ⟨b, off, spot⟩ := a
    refine ⟨some ⟨b, off, spot⟩, l, c, zs.take l, hcs, hlen, hl, hm, fun e => by simp at e, fun i => ?_, fun i hi => ?_⟩
    · by_cases hi : i < l
      · rw [en_get _ i (by omega)]
        exact wf_i64_bounds (hwz _ (List.mem_of_mem_take (List.getElem_mem _)))
      · rw [en_of_le _ i (by omega)]; exact ⟨by omega, by omega⟩
    · have hc := hcell i (by omega)
      have hspot : spot = none := by simpa [Addr.add] using World.cell?_spot (hcell 0 (by omega))
      subst hspot
      refine ⟨b, off, rfl, ?_⟩
      rw [Addr.add_lit] at hc
      rw [hen i hi]; exact hc
end Go.Proofs.Ytnmopfimmindnaa
