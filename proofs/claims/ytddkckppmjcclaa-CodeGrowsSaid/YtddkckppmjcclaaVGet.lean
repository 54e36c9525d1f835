/- Plain facts on what is got. -/
import Derived.Test.YtddkckppmjcclaaVPlain
namespace Go.Proofs.Ytddkckppmjcclaa
set_option linter.unusedSimpArgs false
set_option linter.unusedVariables false

def cutN : Nat → List Int → Option Nat
  | 0, _ => none
  | _ + 1, [] => none
  | f + 1, b :: r => if b < 128 then some 1 else (cutN f r).map (· + 1)
def valN : List Int → Int
  | [] => 0
  | b :: r => b % 128 + 128 * valN r
def getS (S : List Int) : Int × Nat × Int :=
  match cutN 5 S with
  | none => if 5 ≤ S.length then (0, 0, 10) else (0, 0, 9)
  | some k => if 1 < k ∧ en S (k - 1) = 0 then (0, 0, 10) else if 2147483647 < valN (S.take k) then (0, 0, 8) else (valN (S.take k), k, 0)

theorem cut_hit (f : Nat) (S : List Int) (i : Nat) (h : ∀ j, j < i → 128 ≤ en S j) (hi : i < S.length) (hb : en S i < 128) (hf : i < f) : cutN f S = some (i + 1) := by
  induction f generalizing S i with
  | zero => omega
  | succ f ih =>
    cases S with
    | nil => simp at hi
    | cons b r =>
      cases i with
      | zero => rw [en_cons_zero] at hb; rw [cutN, if_pos hb]
      | succ i =>
        have h0 := h 0 (by omega)
        rw [en_cons_zero] at h0
        rw [en_cons_succ] at hb
        rw [cutN, if_neg (by omega), ih r i (fun j hj => by have := h (j + 1) (by omega); rwa [en_cons_succ] at this) (by simpa using hi) hb (by omega)]
        rfl
theorem cut_none (f : Nat) (S : List Int) (h : ∀ j, j < f → j < S.length → 128 ≤ en S j) : cutN f S = none := by
  induction f generalizing S with
  | zero => rfl
  | succ f ih =>
    cases S with
    | nil => rfl
    | cons b r =>
      have h0 := h 0 (by omega) (by simp)
      rw [en_cons_zero] at h0
      rw [cutN, if_neg (by omega), ih r (fun j hj hl => by have := h (j + 1) (by omega) (by simpa using hl); rwa [en_cons_succ] at this)]
      rfl
theorem cut_some (f : Nat) (S : List Int) (k : Nat) (h : cutN f S = some k) : 1 ≤ k ∧ k ≤ f ∧ k ≤ S.length ∧ (∀ j, j < k - 1 → 128 ≤ en S j) ∧ en S (k - 1) < 128 := by
  induction f generalizing S k with
  | zero => simp [cutN] at h
  | succ f ih =>
    cases S with
    | nil => simp [cutN] at h
    | cons b r =>
      rw [cutN] at h
      split at h
      · rename_i hb
        simp only [Option.some.injEq] at h; subst h
        exact ⟨by omega, by omega, by simp, fun j hj => by omega, by rw [en_cons_zero]; exact hb⟩
      · rename_i hb
        obtain ⟨m, hm, rfl⟩ := Option.map_eq_some_iff.1 h
        obtain ⟨h1, h2, h3, h4, h5⟩ := ih r m hm
        refine ⟨by omega, by omega, by simp; omega, fun j hj => ?_, ?_⟩
        · cases j with
          | zero => rw [en_cons_zero]; omega
          | succ j => rw [en_cons_succ]; exact h4 j (by omega)
        · rw [show m + 1 - 1 = (m - 1) + 1 by omega, en_cons_succ]; exact h5

theorem pow_pos (i : Nat) : (0 : Int) < 128 ^ i := Int.pow_pos (by omega)
theorem val_succ (S : List Int) (i : Nat) (hi : i < S.length) : valN (S.take (i + 1)) = valN (S.take i) + (en S i % 128) * 128 ^ i := by
  induction i generalizing S with
  | zero =>
    cases S with
    | nil => simp at hi
    | cons b r => simp [valN, en_cons_zero]
  | succ i ih =>
    cases S with
    | nil => simp at hi
    | cons b r =>
      rw [List.take_succ_cons, List.take_succ_cons, valN, valN, en_cons_succ, ih r (by simpa using hi), Int.pow_succ]
      rw [Int.mul_add, ← Int.add_assoc]; congr 1
      rw [Int.mul_comm (128 ^ i) 128, ← Int.mul_assoc, ← Int.mul_assoc, Int.mul_comm 128]
theorem val_bd (S : List Int) (i : Nat) : 0 ≤ valN (S.take i) ∧ valN (S.take i) < 128 ^ i := by
  induction i generalizing S with
  | zero => simp [valN]
  | succ i ih =>
    cases S with
    | nil => simp only [List.take_nil, valN]; exact ⟨Int.le_refl _, pow_pos _⟩
    | cons b r =>
      rw [List.take_succ_cons, valN, Int.pow_succ]
      have := ih r
      omega

/-! ### put and got -/
theorem cut_put (f : Nat) (n : Int) (R : List Int) (h0 : 0 ≤ n) (h : n < 128 ^ (f + 1)) : cutN (f + 1) (putF f n ++ R) = some (putF f n).length := by
  induction f generalizing n with
  | zero => simp at h; simp [putF, cutN, h]
  | succ f ih =>
    by_cases hn : n < 128
    · rw [putF_one _ _ hn]; simp [cutN, hn]
    · rw [putF_more _ _ hn, List.cons_append, cutN, if_neg (by omega), ih (n / 128) (by omega) (by rw [Int.pow_succ] at h; omega)]
      simp
theorem val_put (f : Nat) (n : Int) (h0 : 0 ≤ n) (h : n < 128 ^ (f + 1)) : valN (putF f n) = n := by
  induction f generalizing n with
  | zero => simp at h; simp [putF, valN]; omega
  | succ f ih =>
    by_cases hn : n < 128
    · rw [putF_one _ _ hn]; simp [valN]; omega
    · rw [putF_more _ _ hn, valN, ih (n / 128) (by omega) (by rw [Int.pow_succ] at h; omega)]; omega
theorem last_put (f : Nat) (n : Int) (h0 : 0 < n) : en (putF f n) ((putF f n).length - 1) ≠ 0 := by
  induction f generalizing n with
  | zero => simp [putF, en]; omega
  | succ f ih =>
    by_cases hn : n < 128
    · rw [putF_one _ _ hn]; simp [en]; omega
    · rw [putF_more _ _ hn]
      have hl := putF_len f (n / 128)
      rw [show (((n % 128 + 128) :: putF f (n / 128)).length - 1) = ((putF f (n / 128)).length - 1) + 1 by simp; omega, en_cons_succ]
      exact ih (n / 128) (by omega)
theorem en_append_left (l m : List Int) (i : Nat) (h : i < l.length) : en (l ++ m) i = en l i := by
  rw [en_get _ _ (by simp; omega), en_get _ _ h, List.getElem_append_left h]
theorem get_put (n : Int) (R : List Int) (h0 : 0 ≤ n) (h : n ≤ 2147483647) : getS (putL n ++ R) = (n, (putL n).length, 0) := by
  have hp : n < 128 ^ (4 + 1) := by show n < (34359738368 : Int); omega
  have hc := cut_put 4 n R h0 hp
  have hv := val_put 4 n h0 hp
  have hl := putL_len n
  unfold getS
  unfold putL at *
  rw [hc]
  simp only []
  rw [List.take_left' rfl, hv]
  rw [if_neg, if_neg (by omega)]
  rintro ⟨h1, h2⟩
  rw [en_append_left _ _ _ (by omega)] at h2
  refine last_put 4 n ?_ h2
  by_cases hz : n < 128
  · rw [putF_one _ _ hz] at h1; simp at h1
  · omega

/-- what is got is put as it was -/
theorem put_val (k : Nat) (f : Nat) (S : List Int) (hS : Byt S) (hk : k + 1 = S.length) (hm : ∀ j, j < k → 128 ≤ en S j) (hl : en S k < 128) (hz : k = 0 ∨ en S k ≠ 0) (hf : k ≤ f) : putF f (valN S) = S := by
  induction k generalizing S f with
  | zero =>
    cases S with
    | nil => simp at hk
    | cons b r =>
      have hr : r = [] := List.eq_nil_of_length_eq_zero (by simpa using hk.symm)
      subst hr
      rw [en_cons_zero] at hl
      have := hS b List.mem_cons_self
      have hv : valN [b] = b := by simp [valN]; omega
      rw [hv, putF_one _ _ hl]
  | succ k ih =>
    cases S with
    | nil => simp at hk
    | cons b r =>
      have h0 := hm 0 (by omega)
      rw [en_cons_zero] at h0
      have hb := hS b List.mem_cons_self
      have hr : Byt r := fun x hx => hS x (List.mem_cons_of_mem _ hx)
      obtain ⟨f, rfl⟩ : ∃ g, f = g + 1 := ⟨f - 1, by omega⟩
      have hlr : r.length = k + 1 := by simpa using hk.symm
      have hlast : en r k ≠ 0 := by
        rcases hz with h | h
        · omega
        · rwa [en_cons_succ] at h
      have i1 := ih f r hr hlr.symm (fun j hj => by have := hm (j + 1) (by omega); rwa [en_cons_succ] at this) (by rwa [en_cons_succ] at hl) (.inr hlast) (by omega)
      have hpos : 1 ≤ valN r := by
        have e := val_succ r k (by omega)
        rw [List.take_of_length_le (by omega)] at e
        have b1 := val_bd r k
        have b2 := hr _ (en_mem r k (by omega))
        rw [en_cons_succ] at hl
        have hp := pow_pos k
        have : 1 * 128 ^ k ≤ (en r k % 128) * 128 ^ k := Int.mul_le_mul_of_nonneg_right (by omega) (by omega)
        omega
      have hv : valN (b :: r) = b % 128 + 128 * valN r := rfl
      rw [putF_more _ _ (by rw [hv]; omega), hv]
      rw [show (b % 128 + 128 * valN r) / 128 = valN r by omega, i1]
      congr 1; omega
theorem put_get (S : List Int) (hS : Byt S) (v : Int) (k : Nat) (h : getS S = (v, k, 0)) : putL v = S.take k ∧ 1 ≤ k ∧ k ≤ S.length ∧ k ≤ 5 ∧ 0 ≤ v ∧ v ≤ 2147483647 := by
  unfold getS at h
  cases hc : cutN 5 S with
  | none => rw [hc] at h; simp only [] at h; split at h <;> simp at h
  | some m =>
    rw [hc] at h
    simp only [] at h
    obtain ⟨h1, h2, h3, h4, h5⟩ := cut_some 5 S m hc
    split at h
    · simp at h
    · rename_i hz
      split at h
      · simp at h
      · rename_i hv
        simp only [Prod.mk.injEq] at h
        obtain ⟨rfl, rfl, _⟩ := h
        have hb := val_bd S m
        refine ⟨?_, h1, h3, h2, hb.1, by omega⟩
        have e : ∀ j, j < m → en (S.take m) j = en S j := fun j hj => by rw [en_take, if_pos hj]
        refine put_val (m - 1) 4 (S.take m) (byt_take hS m) (by rw [List.length_take]; omega) (fun j hj => by rw [e j (by omega)]; exact h4 j hj) (by rw [e _ (by omega)]; exact h5) ?_ (by omega)
        by_cases hm : m = 1
        · left; omega
        · right; rw [e _ (by omega)]; exact fun h0 => hz ⟨by omega, h0⟩
theorem getS_err (S : List Int) : (getS S).2.2 = 0 ∨ ((getS S).1 = 0 ∧ (getS S).2.1 = 0 ∧ ((getS S).2.2 = 8 ∨ (getS S).2.2 = 9 ∨ (getS S).2.2 = 10)) := by
  unfold getS
  split
  · split <;> simp
  · split
    · simp
    · split <;> simp
end Go.Proofs.Ytddkckppmjcclaa
