/- Right, Count. -/
import Derived.Test.YtddkckppmjcclaaWrongP
namespace Go.Proofs.Ytddkckppmjcclaa
open Go.RowKit
set_option linter.unusedSimpArgs false
set_option linter.unusedVariables false
noncomputable def rightP (p : Pr) : Bool := (wrongZ p).2.2 == 0
theorem firstZ_some {α : Type} {f : α → Int} : ∀ {L : List α} {i k : Nat} {e : Int}, firstZ f i L = some (k, e) → e ≠ 0
  | [], _, _, _, h => by simp [firstZ] at h
  | x :: xs, i, k, e, h => by
    unfold firstZ at h
    by_cases hx : f x = 0
    · rw [if_pos hx] at h; exact firstZ_some h
    · rw [if_neg hx] at h
      simp at h
      rw [← h.2]; exact hx
theorem firstZ_all {α : Type} {f : α → Int} : ∀ {L : List α} {i : Nat}, firstZ f i L = none → ∀ x ∈ L, f x = 0
  | [], _, _, x, hx => by simp at hx
  | y :: ys, i, h, x, hx => by
    unfold firstZ at h
    by_cases hy : f y = 0
    · rw [if_pos hy] at h
      rcases List.mem_cons.1 hx with rfl | hx
      · exact hy
      · exact firstZ_all h x hx
    · rw [if_neg hy] at h; cases h
theorem right_parts {p : Pr} (h : rightP p = true) : (tablesZ p).2 = 0 ∧ ∀ b ∈ p.blks, (blkZ p b).2 = 0 := by
  unfold rightP at h
  rw [beq_iff_eq] at h
  by_cases ht : (tablesZ p).2 = 0
  · refine ⟨ht, ?_⟩
    unfold wrongZ at h
    rw [if_neg (by simp [ht])] at h
    cases hf : firstZ (fun b => (blkZ p b).2) 0 p.blks with
    | none => exact firstZ_all hf
    | some v =>
      obtain ⟨k, e⟩ := v
      rw [hf] at h
      exact absurd h (firstZ_some hf)
  · rw [wz_tab ht] at h; exact absurd h ht
theorem blk_parts {p : Pr} {b : List Ins} (h : (blkZ p b).2 = 0) : b.length ≤ 24 ∧ ∀ x ∈ b, instrZ p b.length x = 0 := by
  by_cases hb : 24 < b.length
  · rw [blk_size hb] at h; cases h
  · refine ⟨by omega, ?_⟩
    unfold blkZ at h
    rw [if_neg hb] at h
    cases hf : firstZ (instrZ p b.length) 0 b with
    | none => exact firstZ_all hf
    | some v =>
      obtain ⟨k, e⟩ := v
      rw [hf] at h
      exact absurd h (firstZ_some hf)
open Classical in
theorem tab_parts {p : Pr} (h : (tablesZ p).2 = 0) : ¬ SizeA p ∧ ¬ SizeB p := by
  by_cases hs : SizeA p ∨ SizeB p
  · rw [tz_size hs] at h; cases h
  · exact ⟨fun hh => hs (.inl hh), fun hh => hs (.inr hh)⟩
set_option maxRecDepth 100000 in
set_option maxHeartbeats 8000000 in
theorem Right_any (p : Pr) (q : PAt) (w : World) (h : Prg w p q) :
    Calls Try.prog 17 #[prV p q] w fun e w' => e = .returned (.bool (rightP p)) ∧ Below w.heap.size w w' := by
  have B_0 := Lib.hid (below_alloc w (.cells (prC p q) 26))
  have HW := Lib.hid (Wrong_any p q _ (h.below B_0.out))
  unfold Says4 at HW
  have R := Lib.hid (show rightP p = ((wrongZ p).2.2 == 0) from rfl)
  rw [R.out]
  obtain ⟨a, b, c, hz⟩ : ∃ a b c, wrongZ p = (a, b, c) := ⟨_, _, _, rfl⟩
  rw [hz] at HW ⊢
  simp only [] at HW ⊢
  clear h hz
  go_enter Try.func17, Try.ntmps17
  go_wp2_with fail
  refine HW.out.mono ?_
  rintro e w1 ⟨rfl, hb⟩
  have B_1 := Lib.hid (B_0.out.trans (Below.mono hb B_0.out.size))
  clear hb
  go_wp2_with fail
  go_ret
  exact ⟨rfl, B_1.out⟩
def cnt (l : List Ins) (op : Int) : Nat := (l.filter fun x => x.op == op).length
def cntB (B : List (List Ins)) (op : Int) : Nat := cnt B.flatten op
theorem cnt_snoc (l : List Ins) (x : Ins) (op : Int) : cnt (l ++ [x]) op = cnt l op + if (x.op == op) = true then 1 else 0 := by
  unfold cnt
  rw [List.filter_append]
  cases h : (x.op == op) <;> simp [List.filter_cons, h]
theorem cntB_snoc (B : List (List Ins)) (b : List Ins) (op : Int) : cntB (B ++ [b]) op = cntB B op + cnt b op := by
  unfold cntB cnt
  simp [List.flatten_append]
theorem cnt_le (l : List Ins) (op : Int) : cnt l op ≤ l.length := List.length_filter_le _ _
theorem cntB_le {B : List (List Ins)} (h : ∀ b ∈ B, b.length ≤ 24) (op : Int) : cntB B op ≤ 24 * B.length := by
  induction B with
  | nil => simp [cntB, cnt]
  | cons b bs ih =>
    have h1 := ih (fun x hx => h x (List.mem_cons_of_mem _ hx))
    have h2 := h b (by simp)
    have h3 := cnt_le b op
    have e : cntB (b :: bs) op = cnt b op + cntB bs op := by unfold cntB cnt; simp
    rw [e, List.length_cons]; omega
end Go.Proofs.Ytddkckppmjcclaa
