/- What came in: channels and waits by value. -/
import Derived.Test.YtfolhgpbplfilaaCh
import Derived.ProofKit
import Derived.OpenShut
import Derived.ChangeOld
import Derived.ChangeMaps
import Derived.Lib.SmallJoins
import Derived.Deep.Slices
import Derived.Deep.Fields
import Derived.ChangeSame
namespace Go.Proofs.Ytfolhgpbplfilaa
open Go.ChangeShapes Go.WideShapes Go.ChangeAt Go.RowKit Go.Joins Go.Deep

section
variable {H : Type} {enc : TypeId × Value → H} {P : Program} {w : World} {base : Nat} {spare : Nat → Bool} {held : Bool}
theorem open_slice_cells {t e : TypeId} {fuel : Nat} {cs : List Value} {x : DataW H × List MemPlace} (ht : P.underlying t = some (.slice e)) (h : DataW.trod enc P w base spare held fuel t cs = some x) :
    (cs = [.slice none 0 0]) ∨
    ∃ (a : Addr) (len cap : Nat), cs = [.slice (some a) len cap] ∧ len ≤ cap ∧ cap ≤ maxLen ∧
      ∀ i, i < len → ∃ (cs' : List Value) (y : DataW H × List MemPlace) (n : Nat), cs'.length = P.cellsOf e ∧ (∀ (j : Nat) u, cs'[j]? = some u → w.cell? (a.add (i * P.cellsOf e + j)) = some u) ∧ DataW.trod enc P w base spare held n e cs' = some y := by
  rcases open_slice ht h with h0 | ⟨a, len, cap, m, n, D, Pl, hcs, hb, hl, hm, hmm, hx, hi⟩
  · exact .inl h0.1
  · refine .inr ⟨a, len, cap, hcs, hl, hm, fun i him => ?_⟩
    obtain ⟨cs', hc, ht'⟩ := hi i (by rw [hmm]; split <;> omega)
    obtain ⟨_, hcl, hat⟩ := World.cells?_some hc
    refine ⟨cs', _, _, hcl, fun j u hu => ?_, ht'⟩
    have hj : j < cs'.length := (List.getElem?_eq_some_iff.1 hu).1
    rw [← Go.Deep.add_add, hat j (by omega), hu]
theorem struct_cells {e : TypeId} {fs : Array Field} {fuel : Nat} {cs : List Value} {x : DataW H × List MemPlace} (he : P.underlying e = some (.struct fs)) (hone : oneCellFields P fs = true) (hl : cs.length = fs.size)
    (h : DataW.trod enc P w base spare held fuel e cs = some x) : ∀ (j : Nat) (f : Field), fs[j]? = some f → ∃ (v : Value) (y : DataW H × List MemPlace) (n : Nat), cs[j]? = some v ∧ DataW.trod enc P w base spare held n f.type [v] = some y := by
  intro j f hj
  obtain ⟨ys, n', hn', hy, hlen, hyl, hf⟩ := DataW.trod_struct he h
  obtain ⟨ho, hk⟩ := hone_of hone j f hj
  have hjl : j < fs.size := (Array.getElem?_eq_some_iff.1 hj).1
  have h1 := hf j f hj
  rw [ho, hk] at h1
  have hone' : (cs.drop j).take 1 = [cs[j]'(by omega)] := by
    rw [List.drop_eq_getElem_cons (by omega)]
    rfl
  rw [hone'] at h1
  have hys : ys[j]? = some (ys[j]'(by omega)) := List.getElem?_eq_getElem (by omega)
  exact ⟨_, _, _, List.getElem?_eq_getElem (by omega), h1.trans hys⟩
theorem agg_cells {r : Reach} {b0 : Nat} {t : TypeId} {fs : Array Field} {v : Value} {d : DataW H} {p : List MemPlace} (hs : P.underlying t = some (.struct fs)) (hone : oneCellFields P fs = true) (hC : P.cellsOf t = fs.size)
    (hv : Value.okWide P w r b0 t v) (h : DataW.Trod enc P w base spare held t v d p) :
    ∃ cs : Array Value, v = .agg cs ∧ cs.size = fs.size ∧ ∀ (j : Nat) (f : Field), fs[j]? = some f → ∃ (u : Value) (y : DataW H × List MemPlace) (n : Nat), cs.toList[j]? = some u ∧ DataW.trod enc P w base spare held n f.type [u] = some y := by
  obtain ⟨cs, rfl, hsz⟩ := okWide_struct hs hv
  obtain ⟨fuel, hf⟩ := h
  exact ⟨cs, rfl, hsz.trans hC, struct_cells hs hone (by simpa using hsz.trans hC) (by simpa [Value.cells] using hf)⟩
end
theorem recs_of {α : Type} {k : Nat} {enc : α → List Value} (hk : ∀ x, (enc x).length = k) (h0 : 0 < k) {w : World} {a : Addr} {len cap : Nat} (hl : len ≤ cap) (hm : cap ≤ maxLen) (P : α → Prop)
    (key : ∀ i, i < len → ∃ x, P x ∧ ∀ j u, (enc x)[j]? = some u → w.cell? (a.add (i * k + j)) = some u) : ∃ L, Recs k enc w (some a) len cap L ∧ ∀ x ∈ L, P x := by
  classical
  refine ⟨List.ofFn (fun i : Fin len => Classical.choose (key i i.2)), ⟨by simp, hl, hm, fun e => by simp at e, fun i x hx => ?_⟩, fun x hx => ?_⟩
  · have hi : i < len := by have := (List.getElem?_eq_some_iff.1 hx).1; simpa using this
    have hx' : x = Classical.choose (key i hi) := by simp [hi] at hx; exact hx.symm
    have hc := (Classical.choose_spec (key i hi)).2
    rw [← hx'] at hc
    obtain ⟨b, off, spot⟩ := a
    have hspot : spot = none := by
      obtain ⟨z, _, hz⟩ := key 0 (by omega)
      have h1 := hz 0 _ (List.getElem?_eq_getElem (by rw [hk]; exact h0))
      rw [Nat.zero_mul] at h1
      simpa [Addr.add] using World.cell?_spot h1
    subst hspot
    refine ⟨b, off, rfl, fun j u hu => ?_⟩
    have := hc j u hu
    rw [Addr.add_lit, ← Nat.add_assoc] at this
    exact this
  · obtain ⟨i, rfl⟩ := List.mem_ofFn.1 hx
    exact (Classical.choose_spec (key i i.2)).1

section
variable {H : Type} {enc : TypeId × Value → H} {w : World} {base : Nat} {spare : Nat → Bool} {held : Bool}
theorem ints_open {fuel : Nat} {v : Value} {x : DataW H × List MemPlace}
    (h : DataW.trod enc Try.prog w base spare held fuel 22 [v] = some x) : ∃ a len cap l, v = .slice a len cap ∧ Ints w a len cap l := by
  rcases open_ints Try.underlying22 Try.underlying3 (by kernel_rfl) h with ⟨hcs, _⟩ | ⟨a, l, c, zs, hcs, _, hl, hm, hz, _, hcell, hwz⟩
  · simp only [List.cons.injEq, and_true] at hcs
    exact ⟨none, 0, 0, [], hcs, Ints.nil w⟩
  · simp only [List.cons.injEq, and_true] at hcs
    have hzl : l ≤ zs.length := by rw [hz]; split <;> omega
    have hlen : (zs.take l).length = l := by rw [List.length_take]; omega
    have hen : ∀ i, i < l → en (zs.take l) i = zs.getD i 0 := by
      intro i hi
      rw [en_get _ i (by omega), List.getElem_take]
      rw [List.getD_eq_getElem?_getD, List.getElem?_eq_getElem (by omega)]; rfl
    obtain ⟨b, off, spot⟩ := a
    refine ⟨some ⟨b, off, spot⟩, l, c, zs.take l, hcs, hlen, hl, hm, fun e => by simp at e, fun i => ?_, fun i hi => ?_⟩
    · by_cases hi : i < l
      · rw [en_get _ i (by omega)]
        exact wf_i64_bounds (hwz _ (List.mem_of_mem_take (List.getElem_mem _)))
      · rw [en_of_le _ i (by omega)]; exact ⟨by omega, by omega⟩
    · have hc := hcell i (by omega)
      have hspot : spot = none := by simpa [Addr.add] using World.cell?_spot (hcell 0 (by omega))
      subst hspot
      refine ⟨b, off, rfl, ?_⟩
      rw [Addr.add_lit] at hc
      rw [hen i hi]; exact hc

theorem cells48w : Try.prog.cellsOf 48 = 3 := by kernel_rfl
theorem cells27 : Try.prog.cellsOf 27 = 10 := by kernel_rfl
theorem cells24r : Try.prog.cellsOf 24 = 4 := by kernel_rfl
theorem cells22s : Try.prog.cellsOf 22 = 1 := by kernel_rfl
theorem cells25s : Try.prog.cellsOf 25 = 1 := by kernel_rfl
theorem cells4b : Try.prog.cellsOf 4 = 1 := by kernel_rfl
theorem cells3i : Try.prog.cellsOf 3 = 1 := by kernel_rfl
set_option maxRecDepth 100000 in
theorem wts_open {fuel : Nat} {v : Value} {x : DataW H × List MemPlace}
    (h : DataW.trod enc Try.prog w base spare held fuel 25 [v] = some x) : ∃ a len cap L, v = .slice a len cap ∧ Wts w a len cap L := by
  rcases open_slice_cells Try.underlying25 h with hcs | ⟨a, len, cap, hcs, hl, hm, hf⟩
  · simp only [List.cons.injEq, and_true] at hcs
    exact ⟨none, 0, 0, [], hcs, Wts.nil w⟩
  · simp only [List.cons.injEq, and_true] at hcs
    obtain ⟨L, hL, hP⟩ := recs_of wcells_len (by decide) hl hm WtOk (fun i hi => by
      obtain ⟨cs, y, n, hlen, hc, ht⟩ := hf i hi
      rw [cells48w] at hc hlen
      have hg := struct_cells Try.underlying48 (by kernel_rfl) hlen ht
      obtain ⟨v0, y0, n0, c0, t0⟩ := hg 0 _ rfl
      obtain ⟨v1, y1, n1, c1, t1⟩ := hg 1 _ rfl
      obtain ⟨v2, y2, n2, c2, t2⟩ := hg 2 _ rfl
      obtain ⟨m0, e0, _, b0⟩ := DataW.trod_int Try.underlying3 t0
      obtain ⟨m1, e1, _, b1⟩ := DataW.trod_int Try.underlying3 t1
      obtain ⟨m2, e2, _, b2⟩ := DataW.trod_int Try.underlying3 t2
      simp only [List.cons.injEq, and_true] at e0 e1 e2
      subst e0; subst e1; subst e2
      refine ⟨⟨m0, m1, m2⟩, ⟨wf_i64_bounds b0, wf_i64_bounds b1, wf_i64_bounds b2⟩, fun j u hu => hc j u ?_⟩
      match j, hu with
      | 0, hu => simp [wcells] at hu; subst hu; exact c0
      | 1, hu => simp [wcells] at hu; subst hu; exact c1
      | 2, hu => simp [wcells] at hu; subst hu; exact c2)
    exact ⟨some a, len, cap, L, hcs, hL, hP⟩
set_option maxRecDepth 100000 in
theorem chan_open {r : Reach} {b0 : Nat} {v : Value} {d : DataW H} {p : List MemPlace}
    (hv : Value.okWide Try.prog w r b0 27 v) (h : DataW.Trod enc Try.prog w base spare held 27 v d p) : ∃ c q, v = chV c q ∧ Cha w c q := by
  obtain ⟨cs, rfl, hsz⟩ := okWide_struct Try.underlying27 hv
  obtain ⟨fuel, hf⟩ := h
  obtain ⟨l⟩ := cs
  match l, hsz.trans cells27 with
  | [c0, c1, c2, c3, c4, c5, c6, c7, c8, c9], _ =>
    obtain ⟨xs, n, _, hx, _, hlen, hg⟩ := DataW.trod_struct Try.underlying27 hf
    match xs, hlen with
    | [y0, y1, y2, y3, y4, y5, y6], _ =>
      have g0 := hg 0 _ rfl
      have g1 := hg 1 _ rfl
      have g2 := hg 2 _ rfl
      have g3 := hg 3 _ rfl
      have g4 := hg 4 _ rfl
      have g5 := hg 5 _ rfl
      have g6 := hg 6 _ rfl
      simp [Value.cells, cells3i, cells4b, cells24r, cells25s] at g0 g1 g2 g3 g4 g5 g6
      obtain ⟨m0, e0, _, b0⟩ := DataW.trod_int Try.underlying3 g0
      obtain ⟨m1, e1, _⟩ := DataW.trod_bool Try.underlying4 g1
      obtain ⟨m3, e3, _, b3⟩ := DataW.trod_int Try.underlying3 g3
      obtain ⟨m4, e4, _, b4⟩ := DataW.trod_int Try.underlying3 g4
      obtain ⟨sa, sn, sc, sends, rfl, hs⟩ := wts_open g5
      obtain ⟨ra, rn, rq, recvs, rfl, hr⟩ := wts_open g6
      have hr4 := struct_cells Try.underlying24 (by kernel_rfl) (by rfl) g2
      obtain ⟨v0, z0, n0, k0, t0⟩ := hr4 0 _ rfl
      obtain ⟨v1, z1, n1, k1, t1⟩ := hr4 1 _ rfl
      obtain ⟨v2, z2, n2, k2, t2⟩ := hr4 2 _ rfl
      obtain ⟨v3, z3, n3, k3, t3⟩ := hr4 3 _ rfl
      simp at k0 k1 k2 k3
      subst k0; subst k1; subst k2; subst k3
      obtain ⟨r0, f0, _, d0⟩ := DataW.trod_int Try.underlying3 t0
      obtain ⟨r1, f1, _, d1⟩ := DataW.trod_int Try.underlying3 t1
      obtain ⟨za, zn, zc, zs, rfl, hz⟩ := ints_open t2
      obtain ⟨r3, f3, _, d3⟩ := DataW.trod_int Try.underlying3 t3
      simp only [List.cons.injEq, and_true] at e0 e1 e3 e4 f0 f1 f3
      subst e0; subst e1; subst e3; subst e4; subst f0; subst f1; subst f3
      exact ⟨⟨m0, m1, r0, r1, zs, r3, m3, m4, sends, recvs⟩, ⟨za, zn, zc, sa, sn, sc, ra, rn, rq⟩, rfl, wf_i64_bounds b0, wf_i64_bounds d0, wf_i64_bounds d1, wf_i64_bounds d3, wf_i64_bounds b3, wf_i64_bounds b4, hz, hs, hr⟩
set_option maxRecDepth 100000 in
theorem wait_open {r : Reach} {b0 : Nat} {v : Value} {d : DataW H} {p : List MemPlace}
    (hv : Value.okWide Try.prog w r b0 48 v) (h : DataW.Trod enc Try.prog w base spare held 48 v d p) : ∃ x, v = wV x ∧ WtOk x := by
  obtain ⟨c0, c1, c2, y0, y1, y2, m, rfl, _, _, e0, e1, e2⟩ := open_agg3 Try.underlying48 (by kernel_rfl) cells48w hv h
  obtain ⟨n0, k0, _, b0⟩ := DataW.trod_int Try.underlying3 e0
  obtain ⟨n1, k1, _, b1⟩ := DataW.trod_int Try.underlying3 e1
  obtain ⟨n2, k2, _, b2⟩ := DataW.trod_int Try.underlying3 e2
  simp only [List.cons.injEq, and_true] at k0 k1 k2
  subst k0; subst k1; subst k2
  exact ⟨⟨n0, n1, n2⟩, rfl, wf_i64_bounds b0, wf_i64_bounds b1, wf_i64_bounds b2⟩
end
end Go.Proofs.Ytfolhgpbplfilaa
