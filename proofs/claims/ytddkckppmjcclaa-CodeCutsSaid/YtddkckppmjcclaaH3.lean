/- Plain facts: what is cut is too short. -/
import Derived.Test.YtddkckppmjcclaaH2
namespace Go.Proofs.Ytddkckppmjcclaa
open Go.RowKit
set_option linter.unusedSimpArgs false
set_option linter.unusedVariables false
/-- a reader that finds too few where its text is cut, and the same where it is not -/
def CutP {α : Type} (f : List Int → Nat → Res α) : Prop := ∀ (S : List Int) (k i : Nat) (a : α) (j : Nat), Byt S → f S i = .ok a j → i ≤ k → k ≤ S.length → i ≤ j ∧ (j ≤ k → f (S.take k) i = .ok a j) ∧ (k < j → f (S.take k) i = .no 9)
theorem getS_take {S : List Int} (hS : Byt S) {v : Int} {c : Nat} (h : getS S = (v, c, 0)) (m : Nat) : (c ≤ m → getS (S.take m) = (v, c, 0)) ∧ (m < c → getS (S.take m) = (0, 0, 9)) := by
  obtain ⟨hp, h1, h2, h5, hv0, hv1⟩ := put_get S hS v c h
  have hlen : (putL v).length = c := by rw [hp, List.length_take]; omega
  constructor
  · intro hm
    have e : S.take m = putL v ++ (S.drop c).take (m - c) := by
      conv => lhs; rw [← List.take_append_drop c S]
      rw [List.take_append, hp, List.length_take, List.take_take, Nat.min_eq_right (by omega), Nat.min_eq_left (by omega)]
    rw [e, get_put v _ hv0 hv1, hlen]
  · intro hm
    have hc : cutN 5 S = some c := by
      unfold getS at h
      cases hc : cutN 5 S with
      | none => rw [hc] at h; simp only [] at h; split at h <;> cases h
      | some k =>
        rw [hc] at h; simp only [] at h
        split at h
        · cases h
        · split at h
          · cases h
          · cases h; rfl
    obtain ⟨_, _, _, h4, _⟩ := cut_some 5 S c hc
    have hl : (S.take m).length = m := by rw [List.length_take]; omega
    refine getS_short (S.take m) (fun j hj => ?_) (by omega)
    rw [hl] at hj
    have := h4 j (by omega)
    have e : en (S.take m) j = en S j := by rw [en_take, if_pos hj]
    rw [e]; exact this
theorem CutP.n : CutP nP := by
  intro S k i a j hS h hi hk
  unfold nP at h
  split at h
  · rename_i h0
    cases h
    have hg : getS (S.drop i) = ((getS (S.drop i)).1, (getS (S.drop i)).2.1, 0) := by rw [← h0]
    obtain ⟨q1, q2⟩ := getS_take (byt_drop hS i) hg (k - i)
    have e : (S.take k).drop i = (S.drop i).take (k - i) := by rw [List.drop_take]
    refine ⟨by omega, fun hj => ?_, fun hj => ?_⟩
    · unfold nP; rw [e, q1 (by omega)]; rfl
    · unfold nP; rw [e, q2 (by omega)]; rfl
  · cases h
theorem CutP.bind {α β : Type} {f : List Int → Nat → Res α} {g : α → List Int → Nat → Res β} (hf : CutP f) (hg : ∀ a, CutP (g a)) : CutP (fun T i => (f T i).bind fun a j => g a T j) := by
  intro S k i b j hS h hi hk
  dsimp only at h ⊢
  cases h1 : f S i with
  | no c => rw [h1] at h; cases h
  | ok a j1 =>
    rw [h1] at h; simp only [Res.bind] at h
    obtain ⟨p1, p2, p3⟩ := hf S k i a j1 hS h1 hi hk
    by_cases hj1 : j1 ≤ k
    · obtain ⟨q1, q2, q3⟩ := hg a S k j1 b j hS h hj1 hk
      refine ⟨by omega, fun hj => ?_, fun hj => ?_⟩
      · rw [p2 hj1]; exact q2 hj
      · rw [p2 hj1]; exact q3 hj
    · by_cases hjl : j1 ≤ S.length
      · obtain ⟨q1, _, _⟩ := hg a S S.length j1 b j hS h hjl (Nat.le_refl _)
        refine ⟨by omega, fun hj => by omega, fun hj => ?_⟩
        rw [p3 (by omega)]; rfl
      · obtain ⟨_, r2, r3⟩ := hf S S.length i a j1 hS h1 (by omega) (Nat.le_refl _)
        have := r3 (by omega)
        rw [List.take_of_length_le (Nat.le_refl _), h1] at this
        cases this
theorem CutP.ok {α : Type} (a : α) : CutP (fun _ j => .ok a j) := by
  intro S k i b j hS h hi hk
  cases h
  exact ⟨Nat.le_refl _, fun _ => rfl, fun hj => by omega⟩
theorem CutP.no {α : Type} (c : Int) : CutP (fun _ _ => (.no c : Res α)) := by
  intro S k i b j hS h hi hk
  cases h
theorem CutP.ite {α : Type} {f g : List Int → Nat → Res α} {P : Prop} [Decidable P] (hf : CutP f) (hg : CutP g) : CutP (fun T i => if P then f T i else g T i) := by
  by_cases hP : P
  · simp only [if_pos hP]; exact hf
  · simp only [if_neg hP]; exact hg
theorem CutP.pair : CutP pairP := CutP.n.bind fun n => CutP.ok _
theorem CutP.size (m : Int) : CutP (fun T => sizeP T m) := CutP.n.bind fun n => CutP.ite (CutP.no 2) (CutP.ok n)
theorem CutP.rep {α : Type} {f : List Int → Nat → Res α} (hf : CutP f) : ∀ k, CutP (fun T => repP (f T) k)
  | 0 => CutP.ok []
  | k + 1 => by
    have := CutP.bind (g := fun a T j => (repP (f T) k j).bind fun l j' => .ok (a :: l) j') hf (fun a => (CutP.rep hf k).bind fun l => CutP.ok _)
    exact this
theorem CutP.ins : CutP insP := CutP.n.bind fun o => CutP.ite (CutP.ok _) (CutP.n.bind fun a => CutP.ite (CutP.n.bind fun b => CutP.ok _) (CutP.ok _))
theorem CutP.blk : CutP blkP := (CutP.size 24).bind fun n => CutP.rep CutP.ins n.toNat
theorem CutP.cas : CutP casP := CutP.pair.bind fun p => CutP.ok _
theorem CutP.sel : CutP selP := CutP.pair.bind fun p => CutP.ite (CutP.no 2) ((CutP.rep CutP.cas p.1.toNat).bind fun l => CutP.ok _)
theorem CutP.cap : CutP capP := CutP.n.bind fun n => CutP.ok _
theorem CutP.prg : CutP prgP := (CutP.size 4).bind fun n => (CutP.rep CutP.cap n.toNat).bind fun caps => CutP.n.bind fun mu => CutP.n.bind fun on => CutP.n.bind fun va => (CutP.size 4).bind fun m => (CutP.rep CutP.sel m.toNat).bind fun sels =>
  (CutP.size 6).bind fun u => (CutP.rep CutP.blk u.toNat).bind fun blks => CutP.ok _
theorem bytes_byt {p : Pr} (hr : rightP p = true) : Byt (allL (numL p)) := allL_byt _ (List.all_eq_true.1 (numL_all hr))
theorem zero_byt : Byt [0] := fun b hb => by simp at hb; subst hb; exact ⟨by decide, by decide⟩
/-- what is decoded of the bytes of a program that is right -/
theorem dec_enc {p : Pr} (hr : rightP p = true) : decZ (allL (numL p)) = (p, 0) := by
  have h := enc_read hr []
  rw [List.append_nil] at h
  unfold decZ
  rw [h]
  dsimp only
  rw [if_neg (by omega), if_pos hr]
theorem dec_long_enc {p : Pr} (hr : rightP p = true) : decZ (allL (numL p) ++ [0]) = (zeroPr, 10) := by
  have h := enc_read hr [0]
  unfold decZ
  rw [h]
  dsimp only
  rw [if_pos (by simp)]
/-- WHAT IS CUT IS TOO SHORT -/
theorem dec_cut {p : Pr} (hr : rightP p = true) {k : Nat} (hk : k < (allL (numL p)).length) : decZ ((allL (numL p)).take k) = (zeroPr, 9) := by
  have h := enc_read hr []
  rw [List.append_nil] at h
  obtain ⟨_, _, h3⟩ := CutP.prg _ k 0 p _ (bytes_byt hr) h (Nat.zero_le _) (by omega)
  unfold decZ
  rw [h3 hk]
theorem dec_back {T : List Int} (hT : Byt T) {p : Pr} {c : Int} (h : decZ T = (p, c)) (hc : c = 0) : rightP p = true ∧ allL (numL p) = T := by
  subst hc
  unfold decZ at h
  cases h1 : prgP T 0 with
  | no c => rw [h1] at h; simp only [Prod.mk.injEq] at h; exact absurd h.2 (NoZ.prg _ _ _ h1)
  | ok q j =>
    rw [h1] at h; simp only at h
    by_cases hj : j < T.length
    · rw [if_pos hj] at h; cases h
    · rw [if_neg hj] at h
      by_cases hr : rightP q = true
      · rw [if_pos hr] at h
        cases h
        exact ⟨hr, read_back hT h1 hj⟩
      · rw [if_neg hr] at h; cases h
theorem dec_zero {T : List Int} {p : Pr} {c : Int} (h : decZ T = (p, c)) (hc : c ≠ 0) : p = zeroPr := by
  unfold decZ at h
  cases h1 : prgP T 0 with
  | no c => rw [h1] at h; simp only [Prod.mk.injEq] at h; exact h.1.symm
  | ok q j =>
    rw [h1] at h; simp only at h
    by_cases hj : j < T.length
    · rw [if_pos hj] at h; cases h; rfl
    · rw [if_neg hj] at h
      by_cases hr : rightP q = true
      · rw [if_pos hr] at h; cases h; exact absurd rfl hc
      · rw [if_neg hr] at h; cases h; rfl
end Go.Proofs.Ytddkckppmjcclaa
