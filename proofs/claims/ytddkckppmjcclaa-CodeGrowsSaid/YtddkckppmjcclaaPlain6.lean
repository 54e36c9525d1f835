/- What is wrong with one instruction, whatever it is; plain facts on programs. -/
import Derived.Test.YtddkckppmjcclaaNum
namespace Go.Proofs.Ytddkckppmjcclaa
open Go.RowKit
set_option linter.unusedSimpArgs false
set_option linter.unusedVariables false
/-- the first one of which f is not 0, and what it is -/
def firstZ {α : Type} (f : α → Int) : Nat → List α → Option (Nat × Int)
  | _, [] => none
  | i, x :: xs => if f x = 0 then firstZ f (i + 1) xs else some (i, f x)
theorem firstZ_none {α : Type} {f : α → Int} : ∀ {L : List α} {i : Nat}, (∀ x ∈ L, f x = 0) → firstZ f i L = none
  | [], _, _ => rfl
  | x :: xs, i, h => by
    unfold firstZ
    rw [if_pos (h x (by simp))]
    exact firstZ_none (fun y hy => h y (List.mem_cons_of_mem _ hy))
theorem firstZ_at {α : Type} {f : α → Int} {x : α} (hne : f x ≠ 0) : ∀ {L : List α} {k i : Nat}, (∀ y ∈ L.take k, f y = 0) → L[k]? = some x → firstZ f i L = some (i + k, f x)
  | [], _, _, _, h => by simp at h
  | y :: ys, 0, i, _, h => by
    simp at h; subst h
    unfold firstZ
    rw [if_neg hne]; rfl
  | y :: ys, k + 1, i, hl, h => by
    unfold firstZ
    rw [if_pos (hl y (by simp))]
    rw [firstZ_at hne (fun z hz => hl z (by simp; exact .inr hz)) (by simpa using h)]
    congr 2; omega
def capBad (n : Int) : Bool := decide (n < -1) || decide (3 < n)
def casBad (nc : Nat) (c : Cas) : Bool := !belowZ c.chan nc
def selZ (nc : Nat) (s : Sel) : Int := if 4 < s.cs.length then 2 else if s.cs.any (casBad nc) = true then 3 else 0
def SizeA (p : Pr) : Prop := 4 < p.caps.length ∨ p.mu < 0 ∨ 2 < p.mu ∨ p.on < 0 ∨ 2 < p.on
def SizeB (p : Pr) : Prop := p.va < 0 ∨ 4 < p.va ∨ 4 < p.sels.length ∨ p.blks.length < 1 ∨ 6 < p.blks.length
open Classical in
noncomputable def tablesZ (p : Pr) : Int × Int :=
  if SizeA p ∨ SizeB p then (-1, 2) else if p.caps.any capBad = true then (-1, 3) else match firstZ (selZ p.caps.length) 0 p.sels with
    | some (i, e) => ((i : Int), e)
    | none => (-1, 0)
def blkZ (p : Pr) (b : List Ins) : Int × Int := if 24 < b.length then (-1, 2) else match firstZ (instrZ p b.length) 0 b with
    | some (k, e) => ((k : Int), e)
    | none => (-1, 0)
noncomputable def wrongZ (p : Pr) : Int × Int × Int :=
  if (tablesZ p).2 ≠ 0 then (-1, (tablesZ p).1, (tablesZ p).2) else match firstZ (fun b => (blkZ p b).2) 0 p.blks with
    | some (b, e) => ((b : Int), (blkZ p (p.blks.getD b [])).1, e)
    | none => (-1, -1, 0)
def Says2 (w : World) (a b : Int) (e : Ending) (w' : World) : Prop := e = .returned (.tuple #[.int .i64 a, .int .i64 b]) ∧ Below w.heap.size w w'
theorem take_snocP {α : Type} {L : List α} {k : Nat} {x : α} (hx : L[k]? = some x) : L.take (k + 1) = L.take k ++ [x] := by
  rw [List.take_add_one, hx]; rfl
theorem all_snoc {α : Type} {P : α → Prop} {L : List α} {k : Nat} {x : α} (h : ∀ y ∈ L.take k, P y) (hx : L[k]? = some x) (hp : P x) : ∀ y ∈ L.take (k + 1), P y := by
  rw [take_snocP hx]
  intro y hy
  rcases List.mem_append.1 hy with hy | hy
  · exact h y hy
  · simp at hy; subst hy; exact hp
theorem all_take {α : Type} {P : α → Prop} {L : List α} {k : Nat} (h : ∀ y ∈ L.take k, P y) (hk : L.length ≤ k) : ∀ y ∈ L, P y := by
  rw [List.take_of_length_le hk] at h; exact h
end Go.Proofs.Ytddkckppmjcclaa
