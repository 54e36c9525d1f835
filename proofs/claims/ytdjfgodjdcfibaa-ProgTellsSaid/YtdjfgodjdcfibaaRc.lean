/- Reaching, as plain facts: rounds over all pairs come to the closure; a list that is closed holds what is reached. -/
namespace Go.Proofs.Ytdjfgodjdcfibaa
/-- What is reached from 0 along S among the numbers below n. -/
inductive Rch (n : Nat) (S : Nat → Nat → Bool) : Nat → Prop
  | zero : 0 < n → Rch n S 0
  | next {f t : Nat} : Rch n S f → t < n → S f t = true → Rch n S t
theorem Rch.lt {n S i} (h : Rch n S i) : i < n := by cases h with | zero h => exact h | next _ h _ => exact h
def stepM (S : Nat → Nat → Bool) (m : Nat → Bool) (f t : Nat) : Nat → Bool := fun i => m i || (i == t && (m f && S f t))
def innerM (S : Nat → Nat → Bool) (m : Nat → Bool) (f : Nat) : Nat → Nat → Bool
  | 0 => m
  | k + 1 => stepM S (innerM S m f k) f k
def midM (n : Nat) (S : Nat → Nat → Bool) (m : Nat → Bool) : Nat → Nat → Bool
  | 0 => m
  | k + 1 => innerM S (midM n S m k) k n
def roundsM (n : Nat) (S : Nat → Nat → Bool) (m : Nat → Bool) : Nat → Nat → Bool
  | 0 => m
  | k + 1 => midM n S (roundsM n S m k) n
theorem stepM_mono {S m f t i} (h : m i = true) : stepM S m f t i = true := by simp [stepM, h]
theorem innerM_mono {S m f k i} (h : m i = true) : innerM S m f k i = true := by
  induction k with
  | zero => exact h
  | succ k ih => exact stepM_mono ih
theorem innerM_mono' {S m f i} {j k : Nat} (hjk : j ≤ k) (h : innerM S m f j i = true) : innerM S m f k i = true := by
  induction k with
  | zero => obtain rfl : j = 0 := by omega
            exact h
  | succ k ih => rcases Nat.lt_or_ge j (k + 1) with h1 | h1
                 · exact stepM_mono (ih (by omega))
                 · obtain rfl : j = k + 1 := by omega
                   exact h
theorem midM_mono {n S m k i} (h : m i = true) : midM n S m k i = true := by
  induction k with
  | zero => exact h
  | succ k ih => exact innerM_mono ih
theorem midM_mono' {n S m i} {j k : Nat} (hjk : j ≤ k) (h : midM n S m j i = true) : midM n S m k i = true := by
  induction k with
  | zero => obtain rfl : j = 0 := by omega
            exact h
  | succ k ih => rcases Nat.lt_or_ge j (k + 1) with h1 | h1
                 · exact innerM_mono (ih (by omega))
                 · obtain rfl : j = k + 1 := by omega
                   exact h
theorem stepM_sound {n S m f t} (hf : f < n) (ht : t < n) (h : ∀ i, i < n → m i = true → Rch n S i) : ∀ i, i < n → stepM S m f t i = true → Rch n S i := by
  intro i hi hs
  simp only [stepM, Bool.or_eq_true, Bool.and_eq_true, beq_iff_eq] at hs
  rcases hs with h1 | ⟨rfl, h2, h3⟩
  · exact h i hi h1
  · exact .next (h f hf h2) ht h3
theorem innerM_sound {n S m f k} (hf : f < n) (hk : k ≤ n) (h : ∀ i, i < n → m i = true → Rch n S i) : ∀ i, i < n → innerM S m f k i = true → Rch n S i := by
  induction k with
  | zero => exact h
  | succ k ih => exact stepM_sound hf (by omega) (ih (by omega))
theorem midM_sound {n S m k} (hk : k ≤ n) (h : ∀ i, i < n → m i = true → Rch n S i) : ∀ i, i < n → midM n S m k i = true → Rch n S i := by
  induction k with
  | zero => exact h
  | succ k ih => exact innerM_sound (by omega) (Nat.le_refl _) (ih (by omega))
theorem roundsM_sound {n S m k} (h : ∀ i, i < n → m i = true → Rch n S i) : ∀ i, i < n → roundsM n S m k i = true → Rch n S i := by
  induction k with
  | zero => exact h
  | succ k ih => exact midM_sound (Nat.le_refl _) ih
/-- A round takes every step from what was met. -/
theorem midM_takes {n S m f t} (hf : f < n) (ht : t < n) (h : m f = true) (hs : S f t = true) : midM n S m n t = true := by
  refine midM_mono' (j := f + 1) (by omega) ?_
  show innerM S (midM n S m f) f n t = true
  refine innerM_mono' (j := t + 1) (by omega) ?_
  show stepM S (innerM S (midM n S m f) f t) f t t = true
  have h1 : innerM S (midM n S m f) f t f = true := innerM_mono (midM_mono h)
  simp [stepM, h1, hs]
def ClosedM (n : Nat) (S : Nat → Nat → Bool) (m : Nat → Bool) : Prop := ∀ f t, f < n → t < n → m f = true → S f t = true → m t = true
theorem stepM_closed {n S m f t} (hc : ClosedM n S m) (hf : f < n) (ht : t < n) : stepM S m f t = m := by
  funext i
  simp only [stepM]
  cases hm : m i with
  | true => rfl
  | false =>
    simp only [Bool.false_or]
    cases hx : (i == t && (m f && S f t)) with
    | false => rfl
    | true =>
      simp only [Bool.and_eq_true, beq_iff_eq] at hx
      obtain ⟨rfl, h2, h3⟩ := hx
      rw [hc f _ hf ht h2 h3] at hm; exact hm
theorem innerM_closed {n S m f k} (hc : ClosedM n S m) (hf : f < n) (hk : k ≤ n) : innerM S m f k = m := by
  induction k with
  | zero => rfl
  | succ k ih => show stepM S (innerM S m f k) f k = m; rw [ih (by omega)]; exact stepM_closed hc hf (by omega)
theorem midM_closed {n S m k} (hc : ClosedM n S m) (hk : k ≤ n) : midM n S m k = m := by
  induction k with
  | zero => rfl
  | succ k ih => show innerM S (midM n S m k) k n = m; rw [ih (by omega)]; exact innerM_closed hc (by omega) (Nat.le_refl _)
def cntM (m : Nat → Bool) : Nat → Nat
  | 0 => 0
  | k + 1 => cntM m k + (if m k then 1 else 0)
theorem cntM_le {m k} : cntM m k ≤ k := by
  induction k with
  | zero => exact Nat.le_refl _
  | succ k ih => show cntM m k + _ ≤ _; split <;> omega
theorem cntM_mono {m m' : Nat → Bool} {k} (h : ∀ i, i < k → m i = true → m' i = true) : cntM m k ≤ cntM m' k := by
  induction k with
  | zero => exact Nat.le_refl _
  | succ k ih =>
    have h1 := ih (fun i hi => h i (by omega))
    have h2 := h k (by omega)
    show cntM m k + _ ≤ cntM m' k + _
    cases hm : m k with
    | true => rw [h2 hm]; omega
    | false => simp only [Bool.false_eq_true, if_false]; omega
theorem cntM_lt {m m' : Nat → Bool} {k} (h : ∀ i, i < k → m i = true → m' i = true) {j} (hj : j < k) (h0 : m j = false) (h1 : m' j = true) : cntM m k < cntM m' k := by
  induction k with
  | zero => omega
  | succ k ih =>
    show cntM m k + _ < cntM m' k + _
    rcases Nat.lt_or_ge j k with hl | hl
    · have h3 := ih (fun i hi => h i (by omega)) hl
      have h2 := h k (by omega)
      cases hm : m k with
      | true => rw [h2 hm]; omega
      | false => simp only [Bool.false_eq_true, if_false]; omega
    · obtain rfl : j = k := by omega
      have h3 := cntM_mono (fun i hi => h i (Nat.lt_succ_of_lt hi))
      rw [h0, h1]; simp only [Bool.false_eq_true, if_false, if_true]; omega
theorem closed_or_more {n S m} : ClosedM n S m ∨ cntM m n < cntM (midM n S m n) n := by
  by_cases hc : ClosedM n S m
  · exact .inl hc
  · refine .inr ?_
    simp only [ClosedM, Classical.not_forall] at hc
    obtain ⟨f, t, hf, ht, hm, hs, hn⟩ := hc
    exact cntM_lt (fun i _ h => midM_mono h) ht (by simpa using hn) (midM_takes hf ht hm hs)
theorem rounds_closed_or {n S m} (h1 : 1 ≤ cntM m n) : ∀ k, ClosedM n S (roundsM n S m k) ∨ k + 1 ≤ cntM (roundsM n S m k) n
  | 0 => .inr h1
  | k + 1 => by
    rcases rounds_closed_or h1 k with hc | hc
    · refine .inl ?_
      show ClosedM n S (midM n S (roundsM n S m k) n)
      rw [midM_closed hc (Nat.le_refl _)]; exact hc
    · rcases closed_or_more (n := n) (S := S) (m := roundsM n S m k) with h2 | h2
      · refine .inl ?_
        show ClosedM n S (midM n S (roundsM n S m k) n)
        rw [midM_closed h2 (Nat.le_refl _)]; exact h2
      · refine .inr ?_
        show k + 1 + 1 ≤ cntM (midM n S (roundsM n S m k) n) n
        omega
theorem roundsM_mono {n S m k i} (h : m i = true) : roundsM n S m k i = true := by
  induction k with
  | zero => exact h
  | succ k ih => exact midM_mono ih
/-- After as many rounds as there are numbers, what is met is what is reached. -/
theorem rounds_reach {n S} (hn : 0 < n) : ∀ i, i < n → (roundsM n S (fun i => i == 0) n i = true ↔ Rch n S i) := by
  have h1 : 1 ≤ cntM (fun i => i == 0) n := by
    have := cntM_lt (m := fun _ => false) (m' := fun i => i == 0) (k := n) (fun i _ h => by simp at h) hn rfl rfl
    omega
  have hc : ClosedM n S (roundsM n S (fun i => i == 0) n) := by
    rcases rounds_closed_or (S := S) h1 n with h | h
    · exact h
    · have := cntM_le (m := roundsM n S (fun i => i == 0) n) (k := n); omega
  intro i hi
  constructor
  · exact roundsM_sound (fun i _ h => by obtain rfl : i = 0 := by simpa using h
                                         exact .zero hn) i hi
  · intro h
    clear hi
    induction h with
    | zero _ => exact roundsM_mono rfl
    | next hf ht hs ih => exact hc _ _ hf.lt ht ih hs
end Go.Proofs.Ytdjfgodjdcfibaa
