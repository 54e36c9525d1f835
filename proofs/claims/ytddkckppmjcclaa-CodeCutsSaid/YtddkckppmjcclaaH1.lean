/- Plain facts: what is encoded is read as it was, what is cut is too short, what is read is encoded as it was. -/
import Derived.Test.YtddkckppmjcclaaE1
namespace Go.Proofs.Ytddkckppmjcclaa
open Go.RowKit
set_option linter.unusedSimpArgs false
set_option linter.unusedVariables false
theorem allL_one (n : Int) : allL [n] = putL n := by unfold allL; simp
/-- from i to j the text has just the numbers L -/
def Reads (T : List Int) (i j : Nat) (L : List Int) : Prop := i ≤ T.length ∧ j ≤ T.length ∧ T.drop i = allL L ++ T.drop j
theorem Reads.nil {T : List Int} {i : Nat} (h : i ≤ T.length) : Reads T i i [] := ⟨h, h, by simp [allL]⟩
theorem Reads.trans {T : List Int} {i j k : Nat} {L M : List Int} (h : Reads T i j L) (h2 : Reads T j k M) : Reads T i k (L ++ M) :=
  ⟨h.1, h2.2.1, by rw [h.2.2, h2.2.2, allL_append, List.append_assoc]⟩
theorem nP_reads {T : List Int} (hT : Byt T) {i : Nat} (hi : i ≤ T.length) {n : Int} {j : Nat} (h : nP T i = .ok n j) : Reads T i j [n] := by
  have hj := (nP_ok hT hi h).2.1
  refine ⟨hi, hj, ?_⟩
  unfold nP at h
  split at h
  · rename_i h0
    cases h
    have := put_get (T.drop i) (byt_drop hT i) (getS (T.drop i)).1 (getS (T.drop i)).2.1 (by rw [← h0])
    rw [allL_one, this.1, ← List.drop_drop, List.take_append_drop]
  · cases h
theorem pairN_back (n : Int) : pairN (n / 2) (decide (n % 2 = 1)) = n := by
  unfold pairN
  by_cases h : n % 2 = 1
  · rw [if_pos (by simpa using h)]; omega
  · rw [if_neg (by simpa using h)]; omega
theorem pairP_reads {T : List Int} (hT : Byt T) {i : Nat} (hi : i ≤ T.length) {p : Int × Bool} {j : Nat} (h : pairP T i = .ok p j) : Reads T i j [pairN p.1 p.2] := by
  unfold pairP at h
  cases h1 : nP T i with
  | no c => rw [h1] at h; cases h
  | ok n j1 =>
    rw [h1] at h; simp only [Res.bind] at h; cases h
    rw [pairN_back]; exact nP_reads hT hi h1
theorem sizeP_reads {T : List Int} (hT : Byt T) {i : Nat} (hi : i ≤ T.length) {m n : Int} {j : Nat} (h : sizeP T m i = .ok n j) : Reads T i j [n] := by
  unfold sizeP at h
  cases h1 : nP T i with
  | no c => rw [h1] at h; cases h
  | ok o j1 =>
    rw [h1] at h; simp only [Res.bind] at h
    split at h
    · cases h
    · cases h; exact nP_reads hT hi h1
theorem repP_reads {α : Type} {T : List Int} {f : Nat → Res α} {g : α → List Int} (hf : ∀ i a j, i ≤ T.length → f i = .ok a j → Reads T i j (g a)) : ∀ {k i : Nat} {l : List α} {j : Nat}, i ≤ T.length → repP f k i = .ok l j → Reads T i j (l.flatMap g)
  | 0, i, l, j, hi, h => by simp only [repP] at h; cases h; exact Reads.nil hi
  | k + 1, i, l, j, hi, h => by
    simp only [repP] at h
    cases h1 : f i with
    | no c => rw [h1] at h; cases h
    | ok a j1 =>
      rw [h1] at h; simp only [Res.bind] at h
      have r1 := hf i a j1 hi h1
      cases hr : repP f k j1 with
      | no c => rw [hr] at h; cases h
      | ok l2 j2 =>
        rw [hr] at h; simp only [Res.bind] at h
        cases h
        rw [List.flatMap_cons]
        exact r1.trans (repP_reads hf r1.2.1 hr)
theorem insP_reads {T : List Int} (hT : Byt T) {i : Nat} (hi : i ≤ T.length) {x : Ins} {j : Nat} (h : insP T i = .ok x j) : Reads T i j (insN x) := by
  unfold insP at h
  cases h1 : nP T i with
  | no c => rw [h1] at h; cases h
  | ok o j1 =>
    rw [h1] at h; simp only [Res.bind] at h
    have r1 := nP_reads hT hi h1
    split at h
    · rename_i h0; cases h; subst h0; exact r1
    · rename_i h0
      cases h2 : nP T j1 with
      | no c => rw [h2] at h; cases h
      | ok a j2 =>
        rw [h2] at h; simp only [Res.bind] at h
        have r2 := nP_reads hT r1.2.1 h2
        split at h
        · rename_i h7
          cases h3 : nP T j2 with
          | no c => rw [h3] at h; cases h
          | ok b j3 =>
            rw [h3] at h; simp only [Res.bind] at h
            cases h
            subst h7
            exact (r1.trans r2).trans (nP_reads hT r2.2.1 h3)
        · rename_i h7
          cases h
          unfold insN
          rw [if_neg h0, if_neg h7]
          exact r1.trans r2
theorem toNat_len {α : Type} {T : List Int} {f : Nat → Res α} {m n : Int} {i j k : Nat} {l : List α} (hT : Byt T) (hi : i ≤ T.length) (hs : sizeP T m i = .ok n j) (hr : repP f n.toNat j = .ok l k) : n = (l.length : Int) := by
  rw [repP_len hr]
  have := (sizeP_ok hT hi hs).2.1
  omega
theorem blkP_reads {T : List Int} (hT : Byt T) {i : Nat} (hi : i ≤ T.length) {x : List Ins} {j : Nat} (h : blkP T i = .ok x j) : Reads T i j (blkN x) := by
  unfold blkP at h
  cases h1 : sizeP T 24 i with
  | no c => rw [h1] at h; cases h
  | ok n j1 =>
    rw [h1] at h; simp only [Res.bind] at h
    have r1 := sizeP_reads hT hi h1
    rw [toNat_len hT hi h1 h] at r1
    exact r1.trans (repP_reads (fun i a j hi h => insP_reads hT hi h) r1.2.1 h)
theorem casP_reads {T : List Int} (hT : Byt T) {i : Nat} (hi : i ≤ T.length) {x : Cas} {j : Nat} (h : casP T i = .ok x j) : Reads T i j [pairN x.chan x.send] := by
  obtain ⟨p, hp, rfl⟩ := casP_eq h
  exact pairP_reads hT hi hp
theorem flat_one {α : Type} (g : α → Int) : ∀ l : List α, l.flatMap (fun a => [g a]) = l.map g
  | [] => rfl
  | x :: xs => by rw [List.flatMap_cons, flat_one g xs]; rfl
theorem selP_reads {T : List Int} (hT : Byt T) {i : Nat} (hi : i ≤ T.length) {x : Sel} {j : Nat} (h : selP T i = .ok x j) : Reads T i j (selN x) := by
  unfold selP at h
  cases h1 : pairP T i with
  | no c => rw [h1] at h; cases h
  | ok p j1 =>
    rw [h1] at h; simp only [Res.bind] at h
    split at h
    · cases h
    · have r1 := pairP_reads hT hi h1
      have h0 := (pairP_ok hT hi h1).2.1
      cases h2 : repP (casP T) p.1.toNat j1 with
      | no c => rw [h2] at h; cases h
      | ok l j2 =>
        rw [h2] at h; simp only [Res.bind] at h
        cases h
        have r2 := repP_reads (g := fun a : Cas => [pairN a.chan a.send]) (fun i a j hi h => casP_reads hT hi h) r1.2.1 h2
        rw [flat_one] at r2
        have e : p.1 = (l.length : Int) := by rw [repP_len h2]; omega
        rw [e] at r1
        exact r1.trans r2
theorem capP_reads {T : List Int} (hT : Byt T) {i : Nat} (hi : i ≤ T.length) {x : Int} {j : Nat} (h : capP T i = .ok x j) : Reads T i j [x + 1] := nP_reads hT hi (capP_ok hT hi h).1
theorem prgP_reads {T : List Int} (hT : Byt T) {i : Nat} (hi : i ≤ T.length) {p : Pr} {j : Nat} (h : prgP T i = .ok p j) : Reads T i j (numL p) := by
  rw [prgP_eq] at h
  cases h1 : sizeP T 4 i with
  | no c => rw [h1] at h; cases h
  | ok n j0 =>
  rw [h1] at h; simp only [Res.bind] at h
  have r1 := sizeP_reads hT hi h1
  cases h2 : repP (capP T) n.toNat j0 with
  | no c => rw [h2] at h; cases h
  | ok caps j1 =>
  rw [h2] at h; simp only [prg2] at h
  rw [toNat_len hT hi h1 h2] at r1
  have r2 := repP_reads (g := fun a : Int => [a + 1]) (fun i a j hi h => capP_reads hT hi h) r1.2.1 h2
  rw [flat_one] at r2
  cases h3 : nP T j1 with
  | no c => rw [h3] at h; cases h
  | ok mu j2 =>
  rw [h3] at h; simp only [Res.bind] at h
  have r3 := nP_reads hT r2.2.1 h3
  cases h4 : nP T j2 with
  | no c => rw [h4] at h; cases h
  | ok on j3 =>
  rw [h4] at h; simp only [Res.bind] at h
  have r4 := nP_reads hT r3.2.1 h4
  cases h5 : nP T j3 with
  | no c => rw [h5] at h; cases h
  | ok va j4 =>
  rw [h5] at h; simp only [Res.bind, prg3] at h
  have r5 := nP_reads hT r4.2.1 h5
  cases h6 : sizeP T 4 j4 with
  | no c => rw [h6] at h; cases h
  | ok m j5 =>
  rw [h6] at h; simp only [Res.bind] at h
  have r6 := sizeP_reads hT r5.2.1 h6
  cases h7 : repP (selP T) m.toNat j5 with
  | no c => rw [h7] at h; cases h
  | ok sels j6 =>
  rw [h7] at h; simp only [prg4] at h
  rw [toNat_len hT r5.2.1 h6 h7] at r6
  have r7 := repP_reads (fun i a j hi h => selP_reads hT hi h) r6.2.1 h7
  cases h8 : sizeP T 6 j6 with
  | no c => rw [h8] at h; cases h
  | ok u j7 =>
  rw [h8] at h; simp only [Res.bind] at h
  have r8 := sizeP_reads hT r7.2.1 h8
  cases h9 : repP (blkP T) u.toNat j7 with
  | no c => rw [h9] at h; cases h
  | ok blks j8 =>
  rw [h9] at h; simp only at h
  rw [toNat_len hT r7.2.1 h8 h9] at r8
  have r9 := repP_reads (fun i a j hi h => blkP_reads hT hi h) r8.2.1 h9
  cases h
  have := (((((((r1.trans r2).trans r3).trans r4).trans r5).trans r6).trans r7).trans r8).trans r9
  have e : [(caps.length : Int)] ++ List.map (fun a => a + 1) caps ++ [mu] ++ [on] ++ [va] ++ [(sels.length : Int)] ++ sels.flatMap selN ++ [(blks.length : Int)] ++ blks.flatMap blkN = numL ⟨caps, mu, on, va, sels, blks⟩ := by
    unfold numL headN; simp
  rw [← e]; exact this
/-- WHAT IS READ WHOLE IS ENCODED AS IT WAS -/
theorem read_back {T : List Int} (hT : Byt T) {p : Pr} {j : Nat} (h : prgP T 0 = .ok p j) (hj : ¬ j < T.length) : allL (numL p) = T := by
  obtain ⟨_, h2, h3⟩ := prgP_reads hT (Nat.zero_le _) h
  rw [List.drop_zero, List.drop_of_length_le (by omega), List.append_nil] at h3
  exact h3.symm
end Go.Proofs.Ytddkckppmjcclaa
