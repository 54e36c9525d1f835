/- Reading a program: plain data. -/
import Derived.Test.YtddkckppmjcclaaN4
import Derived.Test.YtddkckppmjcclaaAll
import Derived.Defers
import Derived.Recover
namespace Go.Proofs.Ytddkckppmjcclaa
open Go.RowKit
set_option linter.unusedSimpArgs false
set_option linter.unusedVariables false
/-- what reading comes to: what is read and where it goes on, or why not -/
inductive Res (α : Type) where
  | ok (a : α) (j : Nat)
  | no (c : Int)
def Res.bind {α β : Type} (r : Res α) (f : α → Nat → Res β) : Res β := match r with
  | .ok a j => f a j
  | .no c => .no c
def nP (T : List Int) (i : Nat) : Res Int := if (getS (T.drop i)).2.2 = 0 then .ok (getS (T.drop i)).1 (i + (getS (T.drop i)).2.1) else .no (getS (T.drop i)).2.2
def pairP (T : List Int) (i : Nat) : Res (Int × Bool) := (nP T i).bind fun n j => .ok (n / 2, decide (n % 2 = 1)) j
def sizeP (T : List Int) (m : Int) (i : Nat) : Res Int := (nP T i).bind fun n j => if m < n then .no 2 else .ok n j
def repP {α : Type} (f : Nat → Res α) : Nat → Nat → Res (List α)
  | 0, i => .ok [] i
  | k + 1, i => (f i).bind fun a j => (repP f k j).bind fun l j' => .ok (a :: l) j'
def insP (T : List Int) (i : Nat) : Res Ins := (nP T i).bind fun o j => if o = 0 then .ok ⟨0, 0, 0⟩ j else (nP T j).bind fun a j2 => if o = 7 then (nP T j2).bind fun b j3 => .ok ⟨o, a, b⟩ j3 else .ok ⟨o, a, 0⟩ j2
def blkP (T : List Int) (i : Nat) : Res (List Ins) := (sizeP T 24 i).bind fun n j => repP (insP T) n.toNat j
def casP (T : List Int) (i : Nat) : Res Cas := (pairP T i).bind fun p j => .ok ⟨p.2, p.1⟩ j
def selP (T : List Int) (i : Nat) : Res Sel := (pairP T i).bind fun p j => if 4 < p.1 then .no 2 else (repP (casP T) p.1.toNat j).bind fun l j' => .ok ⟨l, p.2⟩ j'
def capP (T : List Int) (i : Nat) : Res Int := (nP T i).bind fun n j => .ok (n - 1) j
def prgP (T : List Int) (i : Nat) : Res Pr := (sizeP T 4 i).bind fun n j0 => (repP (capP T) n.toNat j0).bind fun caps j1 =>
  (nP T j1).bind fun mu j2 => (nP T j2).bind fun on j3 => (nP T j3).bind fun va j4 => (sizeP T 4 j4).bind fun m j5 => (repP (selP T) m.toNat j5).bind fun sels j6 =>
  (sizeP T 6 j6).bind fun h j7 => (repP (blkP T) h.toNat j7).bind fun blks j8 => .ok ⟨caps, mu, on, va, sels, blks⟩ j8
theorem repP_snoc {α : Type} (f : Nat → Res α) : ∀ (k i : Nat), repP f (k + 1) i = (repP f k i).bind fun l j => (f j).bind fun a j' => .ok (l ++ [a]) j'
  | 0, i => by
    simp only [repP, Res.bind]
    cases f i <;> rfl
  | k + 1, i => by
    rw [repP]
    conv => rhs; rw [repP]
    cases hf : f i with
    | no c => rfl
    | ok a j =>
      simp only [Res.bind]
      rw [repP_snoc f k j]
      cases hr : repP f k j with
      | no c => rfl
      | ok l j' =>
        simp only [Res.bind]
        cases hf2 : f j' <;> simp
theorem repP_ok {α : Type} {f : Nat → Res α} {k i : Nat} {l : List α} {j : Nat} (h : repP f k i = .ok l j) {a : α} {j' : Nat} (hf : f j = .ok a j') : repP f (k + 1) i = .ok (l ++ [a]) j' := by
  rw [repP_snoc, h]; simp only [Res.bind]; rw [hf]
theorem repP_len {α : Type} {f : Nat → Res α} : ∀ {k i : Nat} {l : List α} {j : Nat}, repP f k i = .ok l j → l.length = k
  | 0, i, l, j, h => by simp only [repP] at h; cases h; rfl
  | k + 1, i, l, j, h => by
    simp only [repP] at h
    cases hf : f i with
    | no c => rw [hf] at h; cases h
    | ok a j1 =>
      rw [hf] at h; simp only [Res.bind] at h
      cases hr : repP f k j1 with
      | no c => rw [hr] at h; cases h
      | ok l2 j2 =>
        rw [hr] at h; simp only [Res.bind] at h
        cases h
        simp [repP_len hr]
theorem repP_no {α : Type} {f : Nat → Res α} {k i : Nat} {l : List α} {j : Nat} (h : repP f k i = .ok l j) {c : Int} (hf : f j = .no c) : ∀ {n : Nat}, k < n → repP f n i = .no c := by
  intro n hn
  obtain ⟨d, rfl⟩ : ∃ d, n = k + 1 + d := ⟨n - (k + 1), by omega⟩
  clear hn
  induction d with
  | zero => rw [Nat.add_zero, repP_snoc, h]; simp only [Res.bind]; rw [hf]
  | succ d ih => rw [← Nat.add_assoc, repP_snoc, ih]; rfl
/-- where it goes on lies within the text, and the numbers are small -/
theorem nP_ok {T : List Int} (hT : Byt T) {i : Nat} (hi : i ≤ T.length) {n : Int} {j : Nat} (h : nP T i = .ok n j) : i ≤ j ∧ j ≤ T.length ∧ 0 ≤ n ∧ n ≤ 2147483647 := by
  unfold nP at h
  split at h
  · rename_i h0
    cases h
    have := put_get (T.drop i) (byt_drop hT i) (getS (T.drop i)).1 (getS (T.drop i)).2.1 (by rw [← h0])
    have hl : (T.drop i).length = T.length - i := List.length_drop
    omega
  · cases h
theorem nP_eq {T : List Int} {i : Nat} (hi : i ≤ T.length) {n : Int} {j : Nat} (h : nP T i = .ok n j) : getZ T i = (n, (j : Int), 0) := by
  unfold nP at h
  split at h
  · rename_i h0
    cases h
    rw [getZ_in T i hi, if_pos h0, h0]
    simp
  · cases h
theorem nP_no {T : List Int} {i : Nat} (hi : i ≤ T.length) {c : Int} (h : nP T i = .no c) : getZ T i = (0, 0, c) ∧ c ≠ 0 ∧ (c = 8 ∨ c = 9 ∨ c = 10) := by
  unfold nP at h
  split at h
  · cases h
  · rename_i h0
    cases h
    have := getS_err (T.drop i)
    rcases this with h1 | ⟨h1, h2, h3⟩
    · exact absurd h1 h0
    · refine ⟨?_, h0, h3⟩
      rw [getZ_in T i hi, if_neg h0, h1]
end Go.Proofs.Ytddkckppmjcclaa
