/- Events as plain data; which of them are wrong. -/
import Derived.Test.YtjkbmenmpnidhaaPlain
import Derived.PlainAid
namespace Go.Proofs.Ytjkbmenmpnidhaa
set_option linter.unusedSimpArgs false
set_option linter.unusedVariables false
structure Ev where
  g : Int
  kind : Int
  obj : Int
  no : Int
  start : Int
  deriving DecidableEq
def zeroE : Ev := ⟨0, 0, 0, 0, 0⟩
def evAt (l : List Ev) (i : Nat) : Ev := l.getD i zeroE
/-- the place of the last one of a goroutine ahead of i -/
def lastZ (l : List Ev) (g : Int) : Nat → Int
  | 0 => -1
  | i + 1 => if (evAt l i).g = g then (i : Int) else lastZ l g i
/-- how many of a kind and of something are ahead of i -/
def cntZ (l : List Ev) (k o : Int) : Nat → Int
  | 0 => 0
  | i + 1 => if (evAt l i).kind = k ∧ (evAt l i).obj = o then cntZ l k o i + 1 else cntZ l k o i
/-- how many begin ahead of i -/
def cnt0 (l : List Ev) : Nat → Int
  | 0 => 0
  | i + 1 => if (evAt l i).kind = 0 then cnt0 l i + 1 else cnt0 l i
/-- who came first to a once; none: nobody did -/
def doerZ (l : List Ev) (o : Int) : Nat → Option Int
  | 0 => none
  | i + 1 => match doerZ l o i with
    | some g => some g
    | none => if (evAt l i).kind = 13 ∧ (evAt l i).obj = o then some (evAt l i).g else none
def capAt (caps : List Int) (o : Int) : Int := en caps o.toNat
def capsB (caps : List Int) : Bool := caps.all (fun n => decide (-1 ≤ n ∧ n ≤ 3)) && decide (caps.length ≤ 4)
def shapeZ (l : List Ev) (i : Nat) : Bool := decide ((evAt l i).g < 0 ∨ 7 < (evAt l i).g ∨ (evAt l i).kind < 0 ∨ 17 < (evAt l i).kind ∨ (evAt l i).no < 0 ∨ (evAt l i).start < -1 ∨ (i : Int) ≤ (evAt l i).start)
def stAt (l : List Ev) (i : Nat) : Ev := evAt l (evAt l i).start.toNat
def begunZ (l : List Ev) (i : Nat) : Bool := if (evAt l i).kind = 0 then decide ((0 ≤ lastZ l (evAt l i).g i ∨ (evAt l i).obj ≠ 0 ∨ (evAt l i).no ≠ 0 ∨ ((evAt l i).g = 0 ∧ (evAt l i).start ≠ -1)) ∨ (0 < (evAt l i).g ∧ ((evAt l i).start < 0 ∨ (stAt l i).kind ≠ 1 ∨ (stAt l i).obj ≠ (evAt l i).g))) else decide (lastZ l (evAt l i).g i < 0)
def numberedZ (k : Int) : Bool := decide (k = 3 ∨ k = 5)
def beginsZ (k : Int) : Bool := decide (k = 0 ∨ k = 3 ∨ k = 5 ∨ k = 6 ∨ k = 9 ∨ k = 11 ∨ k = 15)
def mostZ (n : Int) (k : Int) : Int := if 2 ≤ k ∧ k ≤ 7 then n else if k = 8 ∨ k = 9 ∨ 16 ≤ k then 4 else if 10 ≤ k ∧ k ≤ 15 then 2 else 1
def fieldsZ (caps : List Int) (l : List Ev) (i : Nat) : Bool := if (numberedZ (evAt l i).kind = false ∧ (evAt l i).no ≠ 0) ∨ (beginsZ (evAt l i).kind = false ∧ (evAt l i).start ≠ -1) then true else if (evAt l i).kind = 1 then decide ((evAt l i).obj ≠ cnt0 l i) else decide ((evAt l i).kind ≠ 0 ∧ ((evAt l i).obj < 0 ∨ mostZ caps.length (evAt l i).kind ≤ (evAt l i).obj))
def originZ (k : Int) : Int := if k = 3 then 2 else if k = 5 ∨ k = 6 then 4 else if k = 9 then 8 else if k = 11 then 10 else 13
def beganZ (l : List Ev) (i : Nat) : Bool := if (evAt l i).kind = 0 ∨ beginsZ (evAt l i).kind = false then false else if (evAt l i).start < 0 ∨ (evAt l i).start ≠ lastZ l (evAt l i).g i then true else if (evAt l i).kind ≤ 6 ∧ (stAt l i).kind = 8 then false else decide ((stAt l i).kind ≠ originZ (evAt l i).kind ∨ (stAt l i).obj ≠ (evAt l i).obj)
def channelZ (caps : List Int) (l : List Ev) (i : Nat) : Bool :=
  let k := (evAt l i).kind; let o := (evAt l i).obj; let n := (evAt l i).no
  if k ≠ 3 ∧ (k < 5 ∨ 7 < k) then false else if capAt caps o < 0 then true
  else if k = 3 then decide (0 < cntZ l 7 o i ∨ n ≠ cntZ l 3 o i ∨ cntZ l 5 o i + capAt caps o < n)
  else if k = 5 then decide (n ≠ cntZ l 5 o i ∨ cntZ l 3 o i < n)
  else if k = 6 then decide (¬ 0 < cntZ l 7 o i ∨ cntZ l 3 o i ≠ cntZ l 5 o i)
  else decide (0 < cntZ l 7 o i)
def enderZ (l : List Ev) (i : Nat) : Bool := if (evAt l i).kind = 15 then decide (cntZ l 14 (evAt l i).obj i = 0) else match doerZ l (evAt l i).obj i with
  | none => true
  | some g => decide (g ≠ (evAt l i).g ∨ 0 < cntZ l 14 (evAt l i).obj i)
def syncZ (l : List Ev) (i : Nat) : Bool :=
  let k := (evAt l i).kind; let o := (evAt l i).obj
  if k = 11 then decide (cntZ l 11 o i - cntZ l 12 o i ≠ 0) else if k = 12 then decide (cntZ l 11 o i - cntZ l 12 o i ≠ 1) else if k = 14 ∨ k = 15 then enderZ l i else false
def badZ (caps : List Int) (l : List Ev) (i : Nat) : Bool := shapeZ l i || begunZ l i || fieldsZ caps l i || beganZ l i || channelZ caps l i || syncZ l i
def wrongZ (caps : List Int) (l : List Ev) : Int := match (List.range l.length).find? (badZ caps l) with
  | some i => (i : Int)
  | none => -1
theorem wrong_at {caps : List Int} {l : List Ev} {k : Nat} (h : ∀ j, j < k → badZ caps l j = false) (hk : k < l.length) (hb : badZ caps l k = true) : wrongZ caps l = (k : Int) := by
  unfold wrongZ
  have e : (List.range l.length).find? (badZ caps l) = some k := by
    rw [List.find?_eq_some_iff_getElem]
    refine ⟨hb, k, by simpa using hk, by simp, fun j hj => ?_⟩
    simp [h j hj]
  rw [e]
theorem wrong_none {caps : List Int} {l : List Ev} (h : ∀ j, j < l.length → badZ caps l j = false) : wrongZ caps l = -1 := by
  unfold wrongZ
  have e : (List.range l.length).find? (badZ caps l) = none := by
    rw [List.find?_eq_none]
    intro j hj
    simp [h j (List.mem_range.1 hj)]
  rw [e]
theorem lastZ_lt (l : List Ev) (g : Int) : ∀ i, -1 ≤ lastZ l g i ∧ lastZ l g i < (i : Int)
  | 0 => by simp [lastZ]
  | i + 1 => by
    have := lastZ_lt l g i
    unfold lastZ; split <;> omega
theorem cntZ_le (l : List Ev) (k o : Int) : ∀ i, 0 ≤ cntZ l k o i ∧ cntZ l k o i ≤ (i : Int)
  | 0 => by simp [cntZ]
  | i + 1 => by
    have := cntZ_le l k o i
    unfold cntZ; split <;> omega
theorem cnt0_le (l : List Ev) : ∀ i, 0 ≤ cnt0 l i ∧ cnt0 l i ≤ (i : Int)
  | 0 => by simp [cnt0]
  | i + 1 => by
    have := cnt0_le l i
    unfold cnt0; split <;> omega
/-- what is ahead alone tells -/
theorem evAt_take (l : List Ev) (n i : Nat) (h : i < n) : evAt (l.take n) i = evAt l i := by
  unfold evAt
  rw [List.getD_eq_getElem?_getD, List.getD_eq_getElem?_getD, List.getElem?_take, if_pos h]
theorem lastZ_take (l : List Ev) (n : Nat) (g : Int) : ∀ i, i ≤ n → lastZ (l.take n) g i = lastZ l g i
  | 0, _ => rfl
  | i + 1, h => by unfold lastZ; rw [evAt_take l n i (by omega), lastZ_take l n g i (by omega)]
theorem cntZ_take (l : List Ev) (n : Nat) (k o : Int) : ∀ i, i ≤ n → cntZ (l.take n) k o i = cntZ l k o i
  | 0, _ => rfl
  | i + 1, h => by unfold cntZ; rw [evAt_take l n i (by omega), cntZ_take l n k o i (by omega)]
theorem cnt0_take (l : List Ev) (n : Nat) : ∀ i, i ≤ n → cnt0 (l.take n) i = cnt0 l i
  | 0, _ => rfl
  | i + 1, h => by unfold cnt0; rw [evAt_take l n i (by omega), cnt0_take l n i (by omega)]
theorem doerZ_take (l : List Ev) (n : Nat) (o : Int) : ∀ i, i ≤ n → doerZ (l.take n) o i = doerZ l o i
  | 0, _ => rfl
  | i + 1, h => by unfold doerZ; rw [evAt_take l n i (by omega), doerZ_take l n o i (by omega)]
theorem badZ_take (caps : List Int) (l : List Ev) (n i : Nat) (h : i < n) : badZ caps (l.take n) i = badZ caps l i := by
  have he := evAt_take l n i h
  have hs : shapeZ (l.take n) i = shapeZ l i := by unfold shapeZ; rw [he]
  unfold badZ
  rw [hs]
  cases hsh : shapeZ l i with
  | true => simp
  | false =>
    have hst : (evAt l i).start < (i : Int) := by
      unfold shapeZ at hsh
      have := of_decide_eq_false hsh
      omega
    have hS : (evAt l i).start < 0 ∨ stAt (l.take n) i = stAt l i := by
      by_cases h0 : (evAt l i).start < 0
      · exact .inl h0
      · right; unfold stAt; rw [he, evAt_take l n _ (by omega)]
    unfold begunZ fieldsZ beganZ channelZ syncZ enderZ
    simp only [he, lastZ_take l n _ i (by omega), cntZ_take l n _ _ i (by omega), cnt0_take l n i (by omega), doerZ_take l n _ i (by omega)]
    rcases hS with hS | hS
    · simp [hS]
    · rw [hS]
theorem wrong_take (caps : List Int) (l : List Ev) (n : Nat) (hn : n ≤ l.length) : wrongZ caps (l.take n) = if 0 ≤ wrongZ caps l ∧ wrongZ caps l < (n : Int) then wrongZ caps l else -1 := by
  have hlen : (l.take n).length = n := by rw [List.length_take]; omega
  cases hf : (List.range l.length).find? (badZ caps l) with
  | none =>
    have e : wrongZ caps l = -1 := by unfold wrongZ; rw [hf]
    rw [e, if_neg (by omega)]
    refine wrong_none fun j hj => ?_
    rw [hlen] at hj
    rw [badZ_take caps l n j hj]
    have := List.find?_eq_none.1 hf j (List.mem_range.2 (by omega))
    simpa using this
  | some k =>
    have e : wrongZ caps l = (k : Int) := by unfold wrongZ; rw [hf]
    obtain ⟨hb, j, hj, hjk, hno⟩ := List.find?_eq_some_iff_getElem.1 hf
    simp only [List.getElem_range] at hjk hno
    subst hjk
    rw [e]
    by_cases hk : j < n
    · rw [if_pos (by omega)]
      refine wrong_at (fun i hi => ?_) (by rw [hlen]; exact hk) (by rw [badZ_take caps l n j hk]; exact hb)
      rw [badZ_take caps l n i (by omega)]
      simpa using hno i hi
    · rw [if_neg (by omega)]
      refine wrong_none fun i hi => ?_
      rw [hlen] at hi
      rw [badZ_take caps l n i hi]
      simpa using hno i (by omega)
end Go.Proofs.Ytjkbmenmpnidhaa
