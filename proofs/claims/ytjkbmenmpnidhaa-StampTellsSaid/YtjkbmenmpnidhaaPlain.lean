/- Plain facts on clocks as lists of integers: no program. -/
import Derived.WalkKit
namespace Go.Proofs.Ytjkbmenmpnidhaa
set_option linter.unusedSimpArgs false
set_option linter.unusedVariables false

def mayB (n : Int) : Bool := decide (0 ≤ n ∧ n ≤ 1099511627776)
def rightB (c : List Int) : Bool := decide (c.length ≤ 16) && c.all mayB

/-- the entry of a place; what is not there counts as 0 -/
def en (c : List Int) (i : Nat) : Int := c.getD i 0

theorem en_nil (i : Nat) : en [] i = 0 := by simp [en]
theorem en_cons_zero (x : Int) (xs : List Int) : en (x :: xs) 0 = x := by simp [en]
theorem en_cons_succ (x : Int) (xs : List Int) (i : Nat) : en (x :: xs) (i + 1) = en xs i := by simp [en]
theorem en_of_le (c : List Int) (i : Nat) (h : c.length ≤ i) : en c i = 0 := by
  simp [en, List.getElem?_eq_none h]
theorem en_get (c : List Int) (i : Nat) (h : i < c.length) : en c i = c[i] := by simp [en, h]
theorem en_mem (c : List Int) (i : Nat) (h : i < c.length) : en c i ∈ c := by rw [en_get c i h]; exact List.getElem_mem h

theorem all_take_succ (l : List Int) (k : Nat) (hk : k < l.length) : (l.take (k+1)).all mayB = ((l.take k).all mayB && mayB (en l k)) := by
  rw [List.take_add_one, List.getElem?_eq_getElem hk, en_get l k hk, List.all_append]
  simp
theorem not_all_of (l : List Int) (k : Nat) (hk : k < l.length) (h : mayB (en l k) = false) : l.all mayB = false := by
  rw [List.all_eq_false]
  refine ⟨l[k], List.getElem_mem hk, ?_⟩
  rw [en_get l k hk] at h
  simpa using h

theorem right_len {c : List Int} (h : rightB c = true) : c.length ≤ 16 := by
  simp [rightB] at h; exact h.1
theorem right_en {c : List Int} (h : rightB c = true) (i : Nat) : 0 ≤ en c i ∧ en c i ≤ 1099511627776 := by
  by_cases hi : i < c.length
  · simp only [rightB, Bool.and_eq_true, List.all_eq_true] at h
    have := h.2 _ (en_mem c i hi)
    simpa [mayB] using this
  · rw [en_of_le c i (by omega)]; omega
theorem right_nonneg {c : List Int} (h : rightB c = true) : ∀ n ∈ c, 0 ≤ n := by
  intro n hn
  simp only [rightB, Bool.and_eq_true, List.all_eq_true] at h
  have := h.2 n hn
  simp [mayB] at this; omega

/-- without the zeros at its end -/
def trimL : List Int → List Int
  | [] => []
  | x :: xs => if trimL xs = [] ∧ x = 0 then [] else x :: trimL xs

theorem trimL_zero (m : List Int) (h : ∀ i, en m i = 0) : trimL m = [] := by
  induction m with
  | nil => rfl
  | cons y ys ih =>
    have h0 : y = 0 := by simpa [en_cons_zero] using h 0
    have ht : trimL ys = [] := ih fun i => by simpa [en_cons_succ] using h (i + 1)
    simp [trimL, h0, ht]

theorem trim_ext (l m : List Int) (h : ∀ i, en l i = en m i) : trimL l = trimL m := by
  induction l generalizing m with
  | nil => exact (trimL_zero m fun i => by rw [← h i, en_nil]).symm
  | cons x xs ih =>
    cases m with
    | nil => exact trimL_zero _ fun i => by rw [h i, en_nil]
    | cons y ys =>
      have h0 : x = y := by simpa [en_cons_zero] using h 0
      have ht : trimL xs = trimL ys := ih ys fun i => by simpa [en_cons_succ] using h (i + 1)
      simp [trimL, h0, ht]

theorem en_trim (l : List Int) (i : Nat) : en (trimL l) i = en l i := by
  induction l generalizing i with
  | nil => rfl
  | cons x xs ih =>
    unfold trimL
    split
    · rename_i h
      cases i with
      | zero => simp [en_nil, en_cons_zero, h.2]
      | succ i => rw [en_nil, en_cons_succ, ← ih i, h.1, en_nil]
    · cases i with
      | zero => simp [en_cons_zero]
      | succ i => rw [en_cons_succ, en_cons_succ, ih i]

theorem trim_idem (l : List Int) : trimL (trimL l) = trimL l := trim_ext _ _ (en_trim l)

theorem trim_of_last (t : List Int) (h : t = [] ∨ en t (t.length - 1) ≠ 0) : trimL t = t := by
  induction t with
  | nil => rfl
  | cons x xs ih =>
    rcases h with h | h
    · simp at h
    · cases xs with
      | nil =>
        have : x ≠ 0 := by simpa [en] using h
        simp [trimL, this]
      | cons y ys =>
        have h1 : trimL (y :: ys) = y :: ys := ih (.inr (by
          have e : (x :: y :: ys).length - 1 = ((y :: ys).length - 1) + 1 := by simp
          rw [e, en_cons_succ] at h; exact h))
        rw [trimL, h1]; simp

theorem trim_last (l : List Int) : trimL l = [] ∨ en (trimL l) ((trimL l).length - 1) ≠ 0 := by
  induction l with
  | nil => exact .inl rfl
  | cons x xs ih =>
    unfold trimL
    split
    · exact .inl rfl
    · rename_i h
      right
      rcases ih with ih | ih
      · have : x ≠ 0 := fun hx => h ⟨ih, hx⟩
        simpa [ih, en] using this
      · cases ht : trimL xs with
        | nil =>
          have : x ≠ 0 := fun hx => h ⟨ht, hx⟩
          simpa [en] using this
        | cons y ys =>
          rw [ht] at ih
          have e : (x :: y :: ys).length - 1 = ((y :: ys).length - 1) + 1 := by simp
          rw [e, en_cons_succ]; exact ih

theorem trim_len (l : List Int) : (trimL l).length ≤ l.length := by
  induction l with
  | nil => simp [trimL]
  | cons x xs ih => unfold trimL; split <;> simp; omega

theorem en_take (l : List Int) (n i : Nat) : en (l.take n) i = if i < n then en l i else 0 := by
  simp only [en, List.getD_eq_getElem?_getD, List.getElem?_take]
  split <;> simp

theorem trim_is_take (l : List Int) : trimL l = l.take (trimL l).length := by
  induction l with
  | nil => rfl
  | cons x xs ih =>
    unfold trimL
    split
    · simp
    · simp only [List.length_cons, List.take_succ_cons]; rw [← ih]

/-- what the loop from the end on leaves -/
theorem trim_of_cut (l : List Int) (n : Nat) (hn : n ≤ l.length) (h0 : ∀ j, n ≤ j → en l j = 0) (h1 : n = 0 ∨ en l (n - 1) ≠ 0) : l.take n = trimL l := by
  rw [← trim_of_last (l.take n)]
  · refine trim_ext _ _ fun i => ?_
    rw [en_take]
    split
    · rfl
    · rw [h0 i (by omega)]
  · by_cases hz : n = 0
    · subst hz; simp
    · right
      rw [List.length_take, Nat.min_eq_left hn, en_take, if_pos (by omega)]
      exact h1.resolve_left hz

/-- for a list without negative numbers: a place is in the trimmed list just if something from it on is above 0 -/
theorem trim_lt (l : List Int) (hl : ∀ n ∈ l, 0 ≤ n) (g : Nat) : g < (trimL l).length ↔ ∃ j, g ≤ j ∧ 0 < en l j := by
  have hnn : ∀ j, 0 ≤ en l j := fun j => by
    by_cases hj : j < l.length
    · exact hl _ (en_mem l j hj)
    · rw [en_of_le l j (by omega)]; omega
  constructor
  · intro h
    refine ⟨(trimL l).length - 1, by omega, ?_⟩
    have := trim_last l
    rcases this with h' | h'
    · rw [h'] at h; simp at h
    · rw [en_trim] at h'
      have := hnn ((trimL l).length - 1)
      omega
  · rintro ⟨j, hj, hp⟩
    by_cases hlt : j < (trimL l).length
    · omega
    · rw [← en_trim, en_of_le _ _ (by omega)] at hp; omega

/-! ### the greater of both -/
def grAt (a b : List Int) (i : Nat) : Int := if i < b.length ∧ (a.length ≤ i ∨ en a i < en b i) then en b i else en a i
def gr (a b : List Int) : List Int := (List.range (max a.length b.length)).map (grAt a b)

theorem en_gr (a b : List Int) (i : Nat) : en (gr a b) i = grAt a b i := by
  by_cases h : i < max a.length b.length
  · simp [gr, en, h]
  · rw [en_of_le _ _ (by simp [gr]; omega)]
    unfold grAt
    rw [if_neg (by omega), en_of_le _ _ (by omega)]

theorem en_gr_max (a b : List Int) (hb : ∀ j, 0 ≤ en b j) (i : Nat) (ha : ∀ j, 0 ≤ en a j): en (gr a b) i = max (en a i) (en b i) := by
  rw [en_gr]; unfold grAt
  have h1 := hb i; have h2 := ha i
  by_cases hib : i < b.length
  · by_cases hia : a.length ≤ i
    · have := en_of_le a i hia
      rw [if_pos ⟨hib, .inl hia⟩]; omega
    · by_cases hc : en a i < en b i
      · rw [if_pos ⟨hib, .inr hc⟩]; omega
      · rw [if_neg (by omega)]; omega
  · have := en_of_le b i (by omega)
    rw [if_neg (by omega)]; omega

theorem en_gr_nil (b : List Int) (i : Nat) : en (gr [] b) i = en b i := by
  rw [en_gr]; unfold grAt
  by_cases hib : i < b.length
  · rw [if_pos ⟨hib, .inl (by simp)⟩]
  · rw [if_neg (by omega), en_nil, en_of_le _ _ (by omega)]

/-- all rows together, trim -/
def grownL (rows : List (List Int)) : List Int := trimL (rows.foldl gr [])

theorem en_grown1 (a : List Int) (i : Nat) : en (grownL [a]) i = en a i := by
  simp [grownL, en_trim, en_gr_nil]
theorem en_grown2 (a b : List Int) (ha : ∀ j, 0 ≤ en a j) (hb : ∀ j, 0 ≤ en b j) (i : Nat) : en (grownL [a, b]) i = max (en a i) (en b i) := by
  simp only [grownL, en_trim, List.foldl_cons, List.foldl_nil]
  rw [en_gr_max _ _ hb _ (fun j => by rw [en_gr_nil]; exact ha j), en_gr_nil]

theorem grown1 (a : List Int) : grownL [a] = trimL a := by
  simp only [grownL, List.foldl_cons, List.foldl_nil]; exact trim_ext _ _ (en_gr_nil a)

/-- a list that is trim is told by its entries -/
theorem grown_ext (rows : List (List Int)) (m : List Int) (h : ∀ i, en (grownL rows) i = en m i) : grownL rows = trimL m := by
  have : grownL rows = trimL (grownL rows) := by unfold grownL; rw [trim_idem]
  rw [this]; exact trim_ext _ _ h

theorem right_of {c : List Int} (h16 : c.length ≤ 16) (h : ∀ i, 0 ≤ en c i ∧ en c i ≤ 1099511627776) : rightB c = true := by
  simp only [rightB, Bool.and_eq_true, decide_eq_true_eq, List.all_eq_true]
  refine ⟨h16, fun n hn => ?_⟩
  obtain ⟨i, hi, rfl⟩ := List.getElem_of_mem hn
  have := h i
  rw [en_get c i hi] at this
  simpa [mayB] using this

theorem gr_len (a b : List Int) : (gr a b).length = max a.length b.length := by simp [gr]
theorem grown2_len (a b : List Int) : (grownL [a, b]).length ≤ max a.length b.length := by
  refine Nat.le_trans (trim_len _) ?_
  simp [gr_len]

theorem right_join {a b : List Int} (ha : rightB a = true) (hb : rightB b = true) : rightB (grownL [a, b]) = true := by
  refine right_of ?_ fun i => ?_
  · have := grown2_len a b; have := right_len ha; have := right_len hb; omega
  · rw [en_grown2 a b (fun j => (right_en ha j).1) (fun j => (right_en hb j).1)]
    have := right_en ha i; have := right_en hb i; omega
theorem right_trim {a : List Int} (ha : rightB a = true) : rightB (trimL a) = true := by
  refine right_of ?_ fun i => ?_
  · have := trim_len a; have := right_len ha; omega
  · rw [en_trim]; exact right_en ha i

/-! ### at most -/
def leqB (a b : List Int) : Bool := (List.range a.length).all fun i => decide (en a i ≤ en b i)
def refLeqB (a b : List Int) : Bool := (List.range 16).all fun i => decide (en a i ≤ en b i)

theorem leqB_iff {a b : List Int} (hb : ∀ i, 0 ≤ en b i) : leqB a b = true ↔ ∀ i, en a i ≤ en b i := by
  simp only [leqB, List.all_eq_true, List.mem_range, decide_eq_true_eq]
  constructor
  · intro h i
    by_cases hi : i < a.length
    · exact h i hi
    · rw [en_of_le a i (by omega)]; exact hb i
  · intro h i _; exact h i
theorem refLeqB_iff {a b : List Int} (ha : a.length ≤ 16) (hb : ∀ i, 0 ≤ en b i) : refLeqB a b = true ↔ ∀ i, en a i ≤ en b i := by
  simp only [refLeqB, List.all_eq_true, List.mem_range, decide_eq_true_eq]
  constructor
  · intro h i
    by_cases hi : i < 16
    · exact h i hi
    · rw [en_of_le a i (by omega)]; exact hb i
  · intro h i _; exact h i
theorem leq_is_ref {a b : List Int} (ha : rightB a = true) (hb : rightB b = true) : leqB a b = refLeqB a b := by
  rw [Bool.eq_iff_iff, leqB_iff (fun i => (right_en hb i).1), refLeqB_iff (right_len ha) (fun i => (right_en hb i).1)]

end Go.Proofs.Ytjkbmenmpnidhaa
