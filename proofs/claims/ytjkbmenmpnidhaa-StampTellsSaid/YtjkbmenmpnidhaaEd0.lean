/- Edges, as plain data. -/
import Derived.Test.YtjkbmenmpnidhaaA0
import Derived.Lib.SlicesCompact
namespace Go.Proofs.Ytjkbmenmpnidhaa
set_option linter.unusedSimpArgs false
set_option linter.unusedVariables false
theorem ok_of_wrong {caps : List Int} {L : List Ev} (h : wrongZ caps L = -1) : ∀ j, j < L.length → badZ caps L j = false := by
  intro j hj
  unfold wrongZ at h
  cases hf : (List.range L.length).find? (badZ caps L) with
  | none => simpa using List.find?_eq_none.1 hf j (List.mem_range.2 hj)
  | some i => rw [hf] at h; simp only at h; omega
theorem bad_parts {caps : List Int} {L : List Ev} {j : Nat} (h : badZ caps L j = false) : shapeZ L j = false ∧ begunZ L j = false ∧ fieldsZ caps L j = false ∧ beganZ L j = false ∧ channelZ caps L j = false ∧ syncZ L j = false := by
  unfold badZ at h
  simp only [Bool.or_eq_false_iff] at h
  obtain ⟨⟨⟨⟨⟨h1, h2⟩, h3⟩, h4⟩, h5⟩, h6⟩ := h
  exact ⟨h1, h2, h3, h4, h5, h6⟩
theorem shape_ok {L : List Ev} {j : Nat} (h : shapeZ L j = false) : 0 ≤ (evAt L j).g ∧ (evAt L j).g ≤ 7 ∧ 0 ≤ (evAt L j).kind ∧ (evAt L j).kind ≤ 17 ∧ 0 ≤ (evAt L j).no ∧ -1 ≤ (evAt L j).start ∧ (evAt L j).start < (j : Int) := by
  unfold shapeZ at h
  have := of_decide_eq_false h
  omega
theorem sent_ok {caps : List Int} {L : List Ev} {j : Nat} (h : badZ caps L j = false) (hk : (evAt L j).kind = 3) : (evAt L j).no = cntZ L 3 (evAt L j).obj j ∧ 0 ≤ capAt caps (evAt L j).obj ∧ cntZ L 7 (evAt L j).obj j = 0 := by
  have h5 := (bad_parts h).2.2.2.2.1
  unfold channelZ at h5
  simp only [hk] at h5
  rw [if_neg (by omega)] at h5
  have c7 := (cntZ_le L 7 (evAt L j).obj j).1
  split at h5
  · simp at h5
  · rw [if_pos trivial] at h5
    have := of_decide_eq_false h5
    omega
theorem got_ok {caps : List Int} {L : List Ev} {j : Nat} (h : badZ caps L j = false) (hk : (evAt L j).kind = 5) : (evAt L j).no = cntZ L 5 (evAt L j).obj j := by
  have h5 := (bad_parts h).2.2.2.2.1
  unfold channelZ at h5
  simp only [hk] at h5
  rw [if_neg (by omega)] at h5
  split at h5
  · simp at h5
  · rw [if_neg (by omega), if_pos trivial] at h5
    have := of_decide_eq_false h5
    omega
theorem close_ok {caps : List Int} {L : List Ev} {j : Nat} (h : badZ caps L j = false) (hk : (evAt L j).kind = 7) : cntZ L 7 (evAt L j).obj j = 0 := by
  have h5 := (bad_parts h).2.2.2.2.1
  have c7 := (cntZ_le L 7 (evAt L j).obj j).1
  unfold channelZ at h5
  simp only [hk] at h5
  rw [if_neg (by omega)] at h5
  split at h5
  · simp at h5
  · rw [if_neg (by omega), if_neg (by omega), if_neg (by omega)] at h5
    have := of_decide_eq_false h5
    omega
theorem end_ok {caps : List Int} {L : List Ev} {j : Nat} (h : badZ caps L j = false) (hk : (evAt L j).kind = 14) : cntZ L 14 (evAt L j).obj j = 0 := by
  have h6 := (bad_parts h).2.2.2.2.2
  have c7 := (cntZ_le L 14 (evAt L j).obj j).1
  unfold syncZ at h6
  simp only [hk] at h6
  rw [if_neg (by omega), if_neg (by omega), if_pos (.inl trivial)] at h6
  unfold enderZ at h6
  rw [if_neg (by omega)] at h6
  split at h6
  · simp at h6
  · have := of_decide_eq_false h6
    omega
/-- where the event of a kind and of something is that so many such are ahead of; -1: there is none -/
def placeZ (L : List Ev) (kd ob n : Int) : Int := match (List.range L.length).find? (fun j => decide ((evAt L j).kind = kd ∧ (evAt L j).obj = ob ∧ cntZ L kd ob j = n)) with
  | some j => (j : Int)
  | none => -1
def startZ (L : List Ev) (kd ob n : Int) : Int := if 0 ≤ placeZ L kd ob n then (evAt L (placeZ L kd ob n).toNat).start else -1
def numberZ (L : List Ev) (kd ob no : Int) : Int := match L.find? (fun e => decide (e.kind = kd ∧ e.obj = ob ∧ e.no = no)) with
  | some e => e.start
  | none => -1
theorem cnt_mono (L : List Ev) (kd ob : Int) (i : Nat) : ∀ d, cntZ L kd ob i ≤ cntZ L kd ob (i + d)
  | 0 => Int.le_refl _
  | d + 1 => by
    have := cnt_mono L kd ob i d
    have e : cntZ L kd ob (i + (d + 1)) = if (evAt L (i + d)).kind = kd ∧ (evAt L (i + d)).obj = ob then cntZ L kd ob (i + d) + 1 else cntZ L kd ob (i + d) := rfl
    rw [e]
    split <;> omega
theorem cnt_step {L : List Ev} {kd ob : Int} {i : Nat} (h : (evAt L i).kind = kd ∧ (evAt L i).obj = ob) : cntZ L kd ob (i + 1) = cntZ L kd ob i + 1 := by
  show (if _ then _ else _) = _
  rw [if_pos h]
theorem cnt_lt {L : List Ev} {kd ob : Int} {i j : Nat} (h : (evAt L i).kind = kd ∧ (evAt L i).obj = ob) (hij : i < j) : cntZ L kd ob i < cntZ L kd ob j := by
  have h1 := cnt_step h
  have h2 := cnt_mono L kd ob (i + 1) (j - (i + 1))
  rw [show i + 1 + (j - (i + 1)) = j by omega] at h2
  omega
theorem place_is (L : List Ev) (kd ob n : Int) (j : Nat) : placeZ L kd ob n = (j : Int) ↔ j < L.length ∧ (evAt L j).kind = kd ∧ (evAt L j).obj = ob ∧ cntZ L kd ob j = n := by
  unfold placeZ
  constructor
  · intro h
    cases hf : (List.range L.length).find? (fun j => decide ((evAt L j).kind = kd ∧ (evAt L j).obj = ob ∧ cntZ L kd ob j = n)) with
    | none => rw [hf] at h; simp only at h; omega
    | some i =>
      rw [hf] at h; simp only at h
      obtain rfl : i = j := by omega
      have h1 := List.find?_some hf
      have h2 := List.mem_of_find?_eq_some hf
      exact ⟨List.mem_range.1 h2, of_decide_eq_true h1⟩
  · rintro ⟨h0, h1, h2, h3⟩
    have e : (List.range L.length).find? (fun j => decide ((evAt L j).kind = kd ∧ (evAt L j).obj = ob ∧ cntZ L kd ob j = n)) = some j := by
      rw [List.find?_eq_some_iff_getElem]
      refine ⟨by simp [h1, h2, h3], j, by simpa using h0, by simp, fun i hi => ?_⟩
      simp only [List.getElem_range, Bool.not_eq_true', decide_eq_false_iff_not]
      rintro ⟨g1, g2, g3⟩
      have := cnt_lt ⟨g1, g2⟩ hi
      omega
    rw [e]
theorem place_ge (L : List Ev) (kd ob n : Int) : -1 ≤ placeZ L kd ob n ∧ placeZ L kd ob n < (L.length : Int) := by
  unfold placeZ
  cases hf : (List.range L.length).find? (fun j => decide ((evAt L j).kind = kd ∧ (evAt L j).obj = ob ∧ cntZ L kd ob j = n)) with
  | none => simp only; omega
  | some i =>
    have h2 := List.mem_of_find?_eq_some hf
    rw [List.mem_range] at h2
    simp only; omega
/-- a number that each such event has as its own leads to where it began -/
theorem start_number {L : List Ev} {kd ob no : Int} (h : ∀ j, j < L.length → (evAt L j).kind = kd → (evAt L j).no = cntZ L kd (evAt L j).obj j) : startZ L kd ob no = numberZ L kd ob no := by
  unfold startZ
  by_cases hp : 0 ≤ placeZ L kd ob no
  · rw [if_pos hp]
    obtain ⟨j, hj⟩ : ∃ j : Nat, placeZ L kd ob no = (j : Int) := ⟨(placeZ L kd ob no).toNat, by omega⟩
    obtain ⟨h0, h1, h2, h3⟩ := (place_is L kd ob no j).1 hj
    rw [hj, Int.toNat_natCast]
    unfold numberZ
    have hn := h j h0 h1
    rw [h2, h3] at hn
    have hg : L[j]? = some (evAt L j) := by
      unfold evAt
      rw [List.getD_eq_getElem?_getD, List.getElem?_eq_getElem h0]; rfl
    have e : L.find? (fun e => decide (e.kind = kd ∧ e.obj = ob ∧ e.no = no)) = some (evAt L j) := by
      rw [List.find?_eq_some_iff_getElem]
      have hgj : L[j] = evAt L j := by rw [List.getElem?_eq_getElem h0] at hg; exact Option.some.inj hg
      refine ⟨by simp [h1, h2, hn], j, h0, hgj, fun i hi => ?_⟩
      simp only [Bool.not_eq_true', decide_eq_false_iff_not]
      have hgi : L[i]'(by omega) = evAt L i := by
        unfold evAt; rw [List.getD_eq_getElem?_getD, List.getElem?_eq_getElem (by omega)]; rfl
      rw [hgi]
      rintro ⟨g1, g2, g3⟩
      have := cnt_lt ⟨g1, g2⟩ hi
      have hn2 := h i (by omega) g1
      rw [g2] at hn2
      omega
    rw [e]
  · rw [if_neg hp]
    unfold numberZ
    cases hf : L.find? (fun e => decide (e.kind = kd ∧ e.obj = ob ∧ e.no = no)) with
    | none => rfl
    | some e =>
      exfalso
      have h1 := List.find?_some hf
      simp only [decide_eq_true_eq] at h1
      obtain ⟨i, hi, hie⟩ := List.getElem_of_mem (List.mem_of_find?_eq_some hf)
      have hgi : evAt L i = e := by
        unfold evAt; rw [List.getD_eq_getElem?_getD, List.getElem?_eq_getElem hi]; exact hie
      rw [← hgi] at h1
      have hn := h i hi h1.1
      rw [h1.2.1, h1.2.2] at hn
      have := (place_is L kd ob no i).2 ⟨hi, h1.1, h1.2.1, hn.symm⟩
      omega
/-- the unlocks of a mutex, one after the other -/
def unlZ (L : List Ev) (ob : Int) : List Int := (List.range (cntZ L 12 ob L.length).toNat).map fun (n : Nat) => placeZ L 12 ob (n : Int)
def othersZ (caps : List Int) (L : List Ev) (e : Ev) : List Int :=
  if e.kind = 0 then [e.start] else if e.kind = 5 then [startZ L 3 e.obj e.no] else if e.kind = 3 then [startZ L 5 e.obj (e.no - capAt caps e.obj)]
  else if e.kind = 6 then [placeZ L 7 e.obj 0] else if e.kind = 15 then [placeZ L 14 e.obj 0] else if e.kind = 11 then unlZ L e.obj else []
def rawZ (caps : List Int) (L : List Ev) (i : Nat) : List Int :=
  (if 0 ≤ lastZ L (evAt L i).g i then [lastZ L (evAt L i).g i] else []) ++ (othersZ caps L (evAt L i)).filter fun k => decide (0 ≤ k ∧ k < (i : Int))
def isZ (caps : List Int) (L : List Ev) (k i : Nat) : Bool :=
  let e := evAt L i; let x := evAt L k
  if (k : Int) = lastZ L e.g i ∨ (e.kind = 0 ∧ (k : Int) = e.start) then true
  else if e.kind = 5 then decide ((k : Int) = numberZ L 3 e.obj e.no)
  else if e.kind = 3 then decide (capAt caps e.obj ≤ e.no ∧ (k : Int) = numberZ L 5 e.obj (e.no - capAt caps e.obj))
  else if e.kind = 6 then decide (x.kind = 7 ∧ x.obj = e.obj)
  else if e.kind = 11 then decide (x.kind = 12 ∧ x.obj = e.obj)
  else decide (e.kind = 15 ∧ x.kind = 14 ∧ x.obj = e.obj)
def edgesZ (caps : List Int) (L : List Ev) (i : Nat) : List Int := ((List.range i).filter fun k => isZ caps L k i).map fun (k : Nat) => (k : Int)
theorem place_nat (L : List Ev) (kd ob n : Int) (h : 0 ≤ placeZ L kd ob n) : ∃ j : Nat, placeZ L kd ob n = (j : Int) ∧ j < L.length ∧ (evAt L j).kind = kd ∧ (evAt L j).obj = ob ∧ cntZ L kd ob j = n := by
  have e : placeZ L kd ob n = ((placeZ L kd ob n).toNat : Int) := by omega
  exact ⟨_, e, (place_is L kd ob n _).1 e⟩
/-- the first of a kind, if there is but one -/
theorem place_one {L : List Ev} {kd ob : Int} (h : ∀ j, j < L.length → (evAt L j).kind = kd → cntZ L kd (evAt L j).obj j = 0) (k : Nat) (hk : k < L.length) : placeZ L kd ob 0 = (k : Int) ↔ (evAt L k).kind = kd ∧ (evAt L k).obj = ob := by
  rw [place_is]
  constructor
  · rintro ⟨_, h1, h2, _⟩; exact ⟨h1, h2⟩
  · rintro ⟨h1, h2⟩
    have := h k hk h1
    rw [h2] at this
    exact ⟨hk, h1, h2, this⟩
theorem mem_unl (L : List Ev) (ob : Int) (k : Nat) (hk : k < L.length) : (k : Int) ∈ unlZ L ob ↔ (evAt L k).kind = 12 ∧ (evAt L k).obj = ob := by
  unfold unlZ
  rw [List.mem_map]
  constructor
  · rintro ⟨n, hn, he⟩
    have := (place_is L 12 ob n k).1 he
    exact ⟨this.2.1, this.2.2.1⟩
  · rintro ⟨h1, h2⟩
    have hc := (cntZ_le L 12 ob k).1
    have hl := cnt_lt ⟨h1, h2⟩ hk
    refine ⟨(cntZ L 12 ob k).toNat, List.mem_range.2 (by omega), ?_⟩
    rw [place_is]
    exact ⟨hk, h1, h2, by omega⟩
theorem mem_raw {caps : List Int} {L : List Ev} (h : wrongZ caps L = -1) {i : Nat} (hi : i < L.length) (k : Nat) (hk : k < i) : (k : Int) ∈ rawZ caps L i ↔ isZ caps L k i = true := by
  have hok := ok_of_wrong h
  have hsent : ∀ j, j < L.length → (evAt L j).kind = 3 → (evAt L j).no = cntZ L 3 (evAt L j).obj j := fun j hj hk => (sent_ok (hok j hj) hk).1
  have hgot : ∀ j, j < L.length → (evAt L j).kind = 5 → (evAt L j).no = cntZ L 5 (evAt L j).obj j := fun j hj hk => got_ok (hok j hj) hk
  have hclose : ∀ j, j < L.length → (evAt L j).kind = 7 → cntZ L 7 (evAt L j).obj j = 0 := fun j hj hk => close_ok (hok j hj) hk
  have hend : ∀ j, j < L.length → (evAt L j).kind = 14 → cntZ L 14 (evAt L j).obj j = 0 := fun j hj hk => end_ok (hok j hj) hk
  have hkl : k < L.length := by omega
  have hlast := lastZ_lt L (evAt L i).g i
  have hstart := shape_ok (bad_parts (hok i hi)).1
  unfold rawZ isZ
  generalize evAt L i = e at *
  dsimp only
  rw [List.mem_append, List.mem_filter]
  have h1 : (k : Int) ∈ (if 0 ≤ lastZ L e.g i then [lastZ L e.g i] else []) ↔ (k : Int) = lastZ L e.g i := by
    split
    · simp
    · simp; omega
  rw [h1]
  have h2 : decide (0 ≤ (k : Int) ∧ (k : Int) < (i : Int)) = true := by simp; omega
  rw [h2]
  by_cases ha : (k : Int) = lastZ L e.g i
  · simp [ha]
  simp only [ha, false_or, and_true]
  unfold othersZ
  by_cases h0 : e.kind = 0
  · have h5 : ¬ e.kind = 5 := by omega
    have h3 : ¬ e.kind = 3 := by omega
    have h6 : ¬ e.kind = 6 := by omega
    have h11 : ¬ e.kind = 11 := by omega
    have h15 : ¬ e.kind = 15 := by omega
    simp [h0]
  by_cases h5 : e.kind = 5
  · simp [h5, start_number hsent]
  by_cases h3 : e.kind = 3
  · simp only [h3, Int.reduceEq, if_false, if_true, false_and]
    rw [start_number hgot]
    simp only [Bool.decide_and, Bool.and_eq_true, decide_eq_true_eq]
    rw [List.mem_singleton]
    constructor
    · intro hh
      refine ⟨?_, hh⟩
      apply Classical.byContradiction
      intro hc
      have : startZ L 5 e.obj (e.no - capAt caps e.obj) = (k : Int) := by rw [start_number hgot]; exact hh.symm
      unfold startZ at this
      split at this
      · rename_i hp
        obtain ⟨j, _, _, _, _, hj⟩ := place_nat _ _ _ _ hp
        have := (cntZ_le L 5 e.obj j).1
        omega
      · omega
    · exact fun hh => hh.2
  by_cases h6 : e.kind = 6
  · have hp := place_one (ob := e.obj) hclose k hkl
    simp only [h6, Int.reduceEq, if_false, if_true, false_and]
    rw [List.mem_singleton, decide_eq_true_eq, ← hp]
    exact eq_comm
  by_cases h15 : e.kind = 15
  · have hp := place_one (ob := e.obj) hend k hkl
    simp only [h15, Int.reduceEq, if_false, if_true, false_and, true_and]
    rw [List.mem_singleton, decide_eq_true_eq]
    rw [← hp]
    exact eq_comm
  by_cases h11 : e.kind = 11
  · have hp := mem_unl L e.obj k hkl
    simp only [h11, Int.reduceEq, if_false, if_true, false_and]
    rw [hp, decide_eq_true_eq]
  · rw [if_neg h0, if_neg h5, if_neg h3, if_neg h6, if_neg h15, if_neg h11, if_neg (by simp [h0]), if_neg h5, if_neg h3, if_neg h6, if_neg h11]
    simp [h15]
theorem raw_range {caps : List Int} {L : List Ev} {i : Nat} {x : Int} (h : x ∈ rawZ caps L i) : 0 ≤ x ∧ x < (i : Int) := by
  unfold rawZ at h
  rw [List.mem_append, List.mem_filter] at h
  have hl := lastZ_lt L (evAt L i).g i
  rcases h with h | ⟨_, h⟩
  · split at h
    · simp at h; omega
    · simp at h
  · simpa using h
theorem sorted_ext : ∀ {a b : List Int}, a.Pairwise (· < ·) → b.Pairwise (· < ·) → (∀ x, x ∈ a ↔ x ∈ b) → a = b
  | [], [], _, _, _ => rfl
  | [], y :: b, _, _, h => by have := (h y).2 (by simp); simp at this
  | x :: a, [], _, _, h => by have := (h x).1 (by simp); simp at this
  | x :: a, y :: b, ha, hb, h => by
    rw [List.pairwise_cons] at ha hb
    have hx := (h x).1 (by simp)
    have hy := (h y).2 (by simp)
    have e : x = y := by
      rw [List.mem_cons] at hx hy
      rcases hx with hx | hx
      · exact hx
      rcases hy with hy | hy
      · exact hy.symm
      have := ha.1 y hy; have := hb.1 x hx; omega
    subst e
    rw [sorted_ext ha.2 hb.2 fun z => ?_]
    have hz := h z
    rw [List.mem_cons, List.mem_cons] at hz
    constructor
    · intro hm
      rcases hz.1 (.inr hm) with e | e
      · subst e; have := ha.1 z hm; omega
      · exact e
    · intro hm
      rcases hz.2 (.inr hm) with e | e
      · subst e; have := hb.1 z hm; omega
      · exact e
theorem edges_sorted (caps : List Int) (L : List Ev) (i : Nat) : (edgesZ caps L i).Pairwise (· < ·) := by
  unfold edgesZ
  rw [List.pairwise_map]
  refine List.Pairwise.imp (R := (· < ·)) (by intro a b h; omega) ?_
  exact (List.pairwise_lt_range).sublist List.filter_sublist
theorem mem_edges (caps : List Int) (L : List Ev) (i : Nat) (x : Int) : x ∈ edgesZ caps L i ↔ ∃ k : Nat, x = (k : Int) ∧ k < i ∧ isZ caps L k i = true := by
  unfold edgesZ
  rw [List.mem_map]
  constructor
  · rintro ⟨k, hk, rfl⟩
    rw [List.mem_filter, List.mem_range] at hk
    exact ⟨k, rfl, hk.1, hk.2⟩
  · rintro ⟨k, rfl, hk, h⟩
    exact ⟨k, by rw [List.mem_filter, List.mem_range]; exact ⟨hk, h⟩, rfl⟩
theorem edges_of_raw {caps : List Int} {L : List Ev} (h : wrongZ caps L = -1) {i : Nat} (hi : i < L.length) {S : List Int} (hs : S.Pairwise (· < ·)) (hm : ∀ x, x ∈ S ↔ x ∈ rawZ caps L i) : S = edgesZ caps L i := by
  refine sorted_ext hs (edges_sorted caps L i) fun x => ?_
  rw [hm, mem_edges]
  constructor
  · intro hx
    have := raw_range hx
    obtain ⟨k, rfl⟩ : ∃ k : Nat, x = (k : Int) := ⟨x.toNat, by omega⟩
    exact ⟨k, rfl, by omega, (mem_raw h hi k (by omega)).1 hx⟩
  · rintro ⟨k, rfl, hk, h2⟩
    exact (mem_raw h hi k hk).2 h2
end Go.Proofs.Ytjkbmenmpnidhaa
