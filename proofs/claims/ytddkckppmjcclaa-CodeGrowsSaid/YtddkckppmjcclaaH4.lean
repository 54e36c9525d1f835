/- Plain facts: a program whose last block has one instruction more that does nothing. -/
import Derived.Test.YtddkckppmjcclaaE1
namespace Go.Proofs.Ytddkckppmjcclaa
open Go.RowKit
set_option linter.unusedSimpArgs false
set_option linter.unusedVariables false
def nopI : Ins := ⟨0, 0, 0⟩
def growP (p : Pr) (A : List (List Ins)) (b : List Ins) : Pr := ⟨p.caps, p.mu, p.on, p.va, p.sels, A ++ [b ++ [nopI]]⟩
theorem firstZ_zero {α : Type} {f : α → Int} : ∀ {L : List α} {i : Nat}, (∀ x ∈ L, f x = 0) → firstZ f i L = none
  | [], _, _ => rfl
  | y :: ys, i, h => by
    unfold firstZ
    rw [if_pos (h y (by simp))]
    exact firstZ_zero fun x hx => h x (List.mem_cons_of_mem _ hx)
theorem right_of_parts {p : Pr} (ht : (tablesZ p).2 = 0) (hb : ∀ b ∈ p.blks, (blkZ p b).2 = 0) : rightP p = true := by
  unfold rightP wrongZ
  rw [if_neg (by rw [ht]; simp), firstZ_zero hb]
  rfl
theorem blk_zero {p : Pr} {b : List Ins} (hl : b.length ≤ 24) (h : ∀ x ∈ b, instrZ p b.length x = 0) : (blkZ p b).2 = 0 := by
  unfold blkZ
  rw [if_neg (by omega), firstZ_zero h]
theorem grow_tables {p : Pr} {A : List (List Ins)} {b : List Ins} (h : p.blks = A ++ [b]) : tablesZ (growP p A b) = tablesZ p := by
  have e : (growP p A b).blks.length = p.blks.length := by rw [h]; simp [growP]
  have hA : SizeA (growP p A b) = SizeA p := rfl
  have hB : SizeB (growP p A b) = SizeB p := by
    unfold SizeB
    rw [e]; rfl
  unfold tablesZ
  rw [hA, hB]; rfl
theorem grow_most {p : Pr} {A : List (List Ins)} {b : List Ins} (h : p.blks = A ++ [b]) (op : Int) (bl : Nat) : mostZ (growP p A b) op bl = mostZ p op bl := by
  have e : (growP p A b).blks.length = p.blks.length := by rw [h]; simp [growP]
  unfold mostZ
  rw [e]; rfl
theorem grow_instr {p : Pr} {A : List (List Ins)} {b : List Ins} (h : p.blks = A ++ [b]) (bl : Nat) (x : Ins) : instrZ (growP p A b) bl x = instrZ p bl x := by
  unfold instrZ
  rw [grow_most h]
theorem instr_more {p : Pr} {bl : Nat} {x : Ins} (hx : instrZ p bl x = 0) : instrZ p (bl + 1) x = 0 := by
  unfold instrZ at hx ⊢
  by_cases h1 : belowZ x.op 14 = false
  · rw [if_pos h1] at hx; cases hx
  · rw [if_neg h1] at hx ⊢
    by_cases h2 : belowZ x.a (mostZ p x.op bl) = false
    · rw [if_pos h2] at hx; cases hx
    · rw [if_neg h2] at hx
      by_cases h3 : x.b < 0 ∨ lastZ x.op bl < x.b
      · rw [if_pos h3] at hx; cases hx
      · have hm : mostZ p x.op bl ≤ mostZ p x.op (bl + 1) := by
          unfold mostZ
          repeat' split
          all_goals omega
        have hl : lastZ x.op bl ≤ lastZ x.op (bl + 1) := by unfold lastZ; split <;> omega
        simp [belowZ] at h2
        rw [if_neg (by simp [belowZ]; omega), if_neg (by omega)]
theorem instr_nop (p : Pr) (bl : Nat) : instrZ p bl nopI = 0 := by
  have e : mostZ p 0 bl = 1 := by unfold mostZ; simp
  unfold instrZ nopI
  dsimp only
  rw [if_neg (by decide), e, if_neg (by decide), if_neg (by simp [lastZ])]
theorem grow_right {p : Pr} {A : List (List Ins)} {b : List Ins} (h : p.blks = A ++ [b]) (hr : rightP p = true) (hl : b.length ≤ 23) : rightP (growP p A b) = true := by
  obtain ⟨ht, hb⟩ := right_parts hr
  refine right_of_parts (by rw [grow_tables h]; exact ht) (fun c hc => ?_)
  have hc' : c ∈ A ∨ c = b ++ [nopI] := by simpa [growP] using hc
  rcases hc' with hc | rfl
  · obtain ⟨h1, h2⟩ := blk_ins (hb c (by rw [h]; simp [hc]))
    exact blk_zero h1 fun x hx => by rw [grow_instr h]; exact h2 x hx
  · obtain ⟨h1, h2⟩ := blk_ins (hb b (by rw [h]; simp))
    refine blk_zero (by simp; omega) fun x hx => ?_
    rw [grow_instr h, List.length_append, List.length_singleton]
    rcases List.mem_append.1 hx with hx | hx
    · exact instr_more (h2 x hx)
    · simp at hx; subst hx; exact instr_nop p _
theorem grow_wrong {p : Pr} {A : List (List Ins)} {b : List Ins} (hl : b.length = 24) : rightP (growP p A b) = false := by
  cases hr : rightP (growP p A b) with
  | false => rfl
  | true =>
    obtain ⟨_, hb⟩ := right_parts hr
    have := (blk_ins (hb (b ++ [nopI]) (by simp [growP]))).1
    simp at this; omega
/-- the bytes ahead of the last block's length, and those behind it -/
def preL (p : Pr) (A : List (List Ins)) : List Int := headN p ++ p.sels.flatMap selN ++ [((A.length + 1 : Nat) : Int)] ++ A.flatMap blkN
theorem num_pre {p : Pr} {A : List (List Ins)} {b : List Ins} (h : p.blks = A ++ [b]) : numL p = preL p A ++ ((b.length : Int) :: b.flatMap insN) := by
  unfold numL preL
  rw [h]
  simp [blkN]
theorem num_grow {p : Pr} {A : List (List Ins)} {b : List Ins} (h : p.blks = A ++ [b]) : numL (growP p A b) = preL p A ++ (((b.length + 1 : Nat) : Int) :: (b.flatMap insN ++ [0])) := by
  have e := num_pre (p := growP p A b) (A := A) (b := b ++ [nopI]) rfl
  rw [e]
  have e2 : preL (growP p A b) A = preL p A := by unfold preL headN growP; rfl
  rw [e2, List.length_append, List.length_singleton, List.flatMap_append]
  rfl
theorem put_small {n : Int} (h : n < 128) : putL n = [n] := putL_one h
theorem bytes_p {p : Pr} {A : List (List Ins)} {b : List Ins} (h : p.blks = A ++ [b]) (hl : b.length ≤ 24) : allL (numL p) = allL (preL p A) ++ ((b.length : Int) :: allL (b.flatMap insN)) := by
  have e : allL ((b.length : Int) :: b.flatMap insN) = (b.length : Int) :: allL (b.flatMap insN) := by
    show List.flatMap putL _ = _
    rw [List.flatMap_cons, put_small (by omega)]; rfl
  rw [num_pre h, allL_append, e]
theorem bytes_q {p : Pr} {A : List (List Ins)} {b : List Ins} (h : p.blks = A ++ [b]) (hl : b.length ≤ 23) : allL (numL (growP p A b)) = allL (preL p A) ++ (((b.length + 1 : Nat) : Int) :: (allL (b.flatMap insN) ++ [0])) := by
  have e0 : allL [0] = [0] := by show List.flatMap putL _ = _; rw [List.flatMap_cons, put_small (by decide)]; rfl
  have e : allL (((b.length + 1 : Nat) : Int) :: (b.flatMap insN ++ [0])) = ((b.length + 1 : Nat) : Int) :: (allL (b.flatMap insN) ++ [0]) := by
    have e1 : allL (((b.length + 1 : Nat) : Int) :: (b.flatMap insN ++ [0])) = putL ((b.length + 1 : Nat) : Int) ++ allL (b.flatMap insN ++ [0]) := by
      show List.flatMap putL _ = _
      rw [List.flatMap_cons]; rfl
    rw [e1, put_small (by omega), allL_append, e0]; rfl
  rw [num_grow h, allL_append, e]
/-- where two such texts differ -/
theorem differ (X Y : List Int) (a : Int) (i : Nat) (hi : i < (X ++ (a :: Y)).length) : (en (X ++ (a :: Y)) i = en (X ++ ((a + 1) :: (Y ++ [0]))) i) ↔ i ≠ X.length := by
  by_cases h1 : i < X.length
  · rw [en_append_left _ _ _ h1, en_append_left _ _ _ h1]
    exact ⟨fun _ => by omega, fun _ => rfl⟩
  · have hr : ∀ Z : List Int, en (X ++ Z) i = en Z (i - X.length) := fun Z => by
      simp only [en, List.getD_eq_getElem?_getD]
      rw [List.getElem?_append_right (by omega)]
    rw [hr, hr]
    by_cases h2 : i = X.length
    · subst h2
      rw [Nat.sub_self, en_cons_zero, en_cons_zero]
      exact ⟨fun h => by omega, fun h => absurd rfl h⟩
    · obtain ⟨j, hj⟩ : ∃ j, i - X.length = j + 1 := ⟨i - X.length - 1, by omega⟩
      rw [hj, en_cons_succ, en_cons_succ, en_append_left _ _ _ (by simp at hi; omega)]
      exact ⟨fun _ => h2, fun _ => rfl⟩
end Go.Proofs.Ytddkckppmjcclaa
