/- What is wrong with a program's tables: program and reference. -/
import Derived.Test.YtddkckppmjcclaaPlain6
namespace Go.Proofs.Ytddkckppmjcclaa
open Go.RowKit
set_option linter.unusedSimpArgs false
set_option linter.unusedVariables false
open Classical in
noncomputable def sizesB (p : Pr) : Bool := decide (SizeA p ∨ SizeB p)
open Classical in
theorem sb_yes {p : Pr} (h : SizeA p ∨ SizeB p) : sizesB p = true := by unfold sizesB; exact decide_eq_true h
open Classical in
theorem sb_no {p : Pr} (h : ¬ (SizeA p ∨ SizeB p)) : sizesB p = false := by unfold sizesB; exact decide_eq_false h
theorem szA_cases (p : Pr) (q : PAt) (hz : Szs p q) : (SizeA p ↔ (4 < q.cn ∨ (q.cn ≤ 4 ∧ p.mu < 0) ∨ (q.cn ≤ 4 ∧ 0 ≤ p.mu ∧ 2 < p.mu) ∨ (q.cn ≤ 4 ∧ 0 ≤ p.mu ∧ p.mu ≤ 2 ∧ p.on < 0) ∨ (q.cn ≤ 4 ∧ 0 ≤ p.mu ∧ p.mu ≤ 2 ∧ 0 ≤ p.on ∧ 2 < p.on))) := by
  unfold SizeA; rw [hz.cn]; omega
theorem szB_cases (p : Pr) (q : PAt) (hz : Szs p q) : (SizeB p ↔ (p.va < 0 ∨ (0 ≤ p.va ∧ 4 < p.va) ∨ (0 ≤ p.va ∧ p.va ≤ 4 ∧ 4 < q.sn) ∨ (0 ≤ p.va ∧ p.va ≤ 4 ∧ q.sn ≤ 4 ∧ q.bn < 1) ∨ (0 ≤ p.va ∧ p.va ≤ 4 ∧ q.sn ≤ 4 ∧ 1 ≤ q.bn ∧ 6 < q.bn))) := by
  unfold SizeB; rw [hz.sn, hz.bn]; omega
theorem szA_not {p : Pr} {q : PAt} (hz : Szs p q) (h : ¬ SizeA p) : q.cn ≤ 4 ∧ 0 ≤ p.mu ∧ p.mu ≤ 2 ∧ 0 ≤ p.on ∧ p.on ≤ 2 := by
  unfold SizeA at h; rw [hz.cn] at h; omega
theorem szB_not {p : Pr} {q : PAt} (hz : Szs p q) (h : ¬ SizeB p) : 0 ≤ p.va ∧ p.va ≤ 4 ∧ q.sn ≤ 4 ∧ 1 ≤ q.bn ∧ q.bn ≤ 6 := by
  unfold SizeB at h; rw [hz.sn, hz.bn] at h; omega
open Classical in
theorem tz_size {p : Pr} (h : SizeA p ∨ SizeB p) : tablesZ p = (-1, 2) := by unfold tablesZ; rw [if_pos h]
open Classical in
theorem tz_caps {p : Pr} (h : ¬ (SizeA p ∨ SizeB p)) (hc : p.caps.any capBad = true) : tablesZ p = (-1, 3) := by unfold tablesZ; rw [if_neg h, if_pos hc]
open Classical in
theorem tz_sel {p : Pr} (h : ¬ (SizeA p ∨ SizeB p)) (hc : p.caps.any capBad = false) {k : Nat} {x : Sel} (hl : ∀ y ∈ p.sels.take k, selZ p.caps.length y = 0) (hx : p.sels[k]? = some x) (hne : selZ p.caps.length x ≠ 0) : tablesZ p = ((k : Int), selZ p.caps.length x) := by
  unfold tablesZ
  rw [if_neg h, if_neg (by rw [hc]; simp), firstZ_at hne hl hx]
  simp
open Classical in
theorem tz_ok {p : Pr} (h : ¬ (SizeA p ∨ SizeB p)) (hc : p.caps.any capBad = false) (hl : ∀ y ∈ p.sels, selZ p.caps.length y = 0) : tablesZ p = (-1, 0) := by
  unfold tablesZ
  rw [if_neg h, if_neg (by rw [hc]; simp), firstZ_none hl]
theorem any_at {α : Type} {f : α → Bool} {L : List α} {k : Nat} {x : α} (hx : L[k]? = some x) (h : f x = true) : L.any f = true := List.any_eq_true.2 ⟨x, List.mem_of_getElem? hx, h⟩
theorem any_no {α : Type} {f : α → Bool} {L : List α} {k : Nat} (h : ∀ y ∈ L.take k, f y = false) (hk : L.length ≤ k) : L.any f = false := by
  rw [List.any_eq_false]
  intro x hx
  have := all_take h hk x hx
  simp [this]
theorem sel_size {nc : Nat} {s : Sel} (h : 4 < s.cs.length) : selZ nc s = 2 := if_pos h
theorem sel_bad {nc : Nat} {s : Sel} (h : ¬ 4 < s.cs.length) (hb : s.cs.any (casBad nc) = true) : selZ nc s = 3 := by unfold selZ; rw [if_neg h, if_pos hb]
theorem sel_ok {nc : Nat} {s : Sel} (h : ¬ 4 < s.cs.length) (hb : s.cs.any (casBad nc) = false) : selZ nc s = 0 := by unfold selZ; rw [if_neg h, if_neg (by rw [hb]; simp)]
set_option maxRecDepth 100000 in
set_option maxHeartbeats 8000000 in
theorem refSizes_any (p : Pr) (q : PAt) (w : World) (hz : Szs p q) :
    Calls Try.prog 47 #[prV p q] w fun e w' => e = .returned (.bool (sizesB p)) ∧ Below w.heap.size w w' := by
  by_cases hA : SizeA p
  · have R := Lib.hid (sb_yes (.inl hA))
    rw [R.out]
    rcases (szA_cases p q hz).1 hA with h | ⟨h1, h⟩ | ⟨h1, h2, h⟩ | ⟨h1, h2, h3, h⟩ | ⟨h1, h2, h3, h4, h⟩
    all_goals
      clear hA hz
      go_enter Try.func47, Try.ntmps47
      go_wp2_with fail
      go_ret
      exact ⟨ret_bool (by simp; try omega), below_alloc w _⟩
  · obtain ⟨a1, a2, a3, a4, a5⟩ := szA_not hz hA
    by_cases hB : SizeB p
    · have R := Lib.hid (sb_yes (.inr hB))
      rw [R.out]
      rcases (szB_cases p q hz).1 hB with h | ⟨h1, h⟩ | ⟨h1, h2, h⟩ | ⟨h1, h2, h3, h⟩ | ⟨h1, h2, h3, h4, h⟩
      all_goals
        clear hA hB hz
        go_enter Try.func47, Try.ntmps47
        go_wp2_with fail
        go_ret
        exact ⟨ret_bool (by simp; try omega), below_alloc w _⟩
    · have R := Lib.hid (sb_no (fun h => h.elim hA hB))
      rw [R.out]
      obtain ⟨b1, b2, b3, b4, b5⟩ := szB_not hz hB
      clear hA hB hz
      go_enter Try.func47, Try.ntmps47
      go_wp2_with fail
      go_ret
      exact ⟨ret_bool (by simp; try omega), below_alloc w _⟩
end Go.Proofs.Ytddkckppmjcclaa
