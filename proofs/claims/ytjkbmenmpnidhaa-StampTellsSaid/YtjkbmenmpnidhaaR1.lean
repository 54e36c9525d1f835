/- The reference: what tells by a number alone; Caps, Last, Count. -/
import Derived.Test.YtjkbmenmpnidhaaTk
import Derived.Test.YtjkbmenmpnidhaaE0
namespace Go.Proofs.Ytjkbmenmpnidhaa
open Go.RowKit
set_option linter.unusedSimpArgs false
set_option linter.unusedVariables false
set_option maxRecDepth 100000 in
set_option maxHeartbeats 8000000 in
theorem numbered_any (k : Int) (w : World) : Calls Try.prog 91 #[.int .i64 k] w fun e w' => e = .returned (.bool (numberedZ k)) ∧ w = w' := by
  by_cases h3 : k = 3
  · subst h3
    go_enter Try.func91, Try.ntmps91
    go_wp2_with fail
    go_ret
    exact ⟨rfl, rfl⟩
  · obtain ⟨h3b, h3c⟩ := ne_facts h3
    by_cases h5 : k = 5
    · subst h5
      go_enter Try.func91, Try.ntmps91
      go_wp2_with fail
      go_ret
      exact ⟨rfl, rfl⟩
    · obtain ⟨h5b, h5c⟩ := ne_facts h5
      have HZ := Lib.hid (show numberedZ k = false by unfold numberedZ; rw [decide_eq_false_iff_not]; omega)
      go_enter Try.func91, Try.ntmps91
      go_wp2_with fail
      go_ret
      exact ⟨ret_bool HZ.out.symm, rfl⟩
set_option maxRecDepth 100000 in
set_option maxHeartbeats 8000000 in
theorem begins_any (k : Int) (w : World) : Calls Try.prog 92 #[.int .i64 k] w fun e w' => e = .returned (.bool (beginsZ k)) ∧ w = w' := by
  by_cases h0 : k = 0
  · subst h0
    go_enter Try.func92, Try.ntmps92
    go_wp2_with fail
    go_ret
    exact ⟨rfl, rfl⟩
  · obtain ⟨h0b, h0c⟩ := ne_facts h0
    by_cases h3 : k = 3
    · subst h3
      go_enter Try.func92, Try.ntmps92
      go_wp2_with fail
      go_ret
      exact ⟨rfl, rfl⟩
    · obtain ⟨h3b, h3c⟩ := ne_facts h3
      by_cases h5 : k = 5
      · subst h5
        go_enter Try.func92, Try.ntmps92
        go_wp2_with fail
        go_ret
        exact ⟨rfl, rfl⟩
      · obtain ⟨h5b, h5c⟩ := ne_facts h5
        by_cases h6 : k = 6
        · subst h6
          go_enter Try.func92, Try.ntmps92
          go_wp2_with fail
          go_ret
          exact ⟨rfl, rfl⟩
        · obtain ⟨h6b, h6c⟩ := ne_facts h6
          by_cases h9 : k = 9
          · subst h9
            go_enter Try.func92, Try.ntmps92
            go_wp2_with fail
            go_ret
            exact ⟨rfl, rfl⟩
          · obtain ⟨h9b, h9c⟩ := ne_facts h9
            by_cases h11 : k = 11
            · subst h11
              go_enter Try.func92, Try.ntmps92
              go_wp2_with fail
              go_ret
              exact ⟨rfl, rfl⟩
            · obtain ⟨h11b, h11c⟩ := ne_facts h11
              by_cases h15 : k = 15
              · subst h15
                go_enter Try.func92, Try.ntmps92
                go_wp2_with fail
                go_ret
                exact ⟨rfl, rfl⟩
              · obtain ⟨h15b, h15c⟩ := ne_facts h15
                have HZ := Lib.hid (show beginsZ k = false by unfold beginsZ; rw [decide_eq_false_iff_not]; omega)
                go_enter Try.func92, Try.ntmps92
                go_wp2_with fail
                go_ret
                exact ⟨ret_bool HZ.out.symm, rfl⟩
set_option maxRecDepth 100000 in
set_option maxHeartbeats 8000000 in
theorem origin_any (k : Int) (w : World) : Calls Try.prog 94 #[.int .i64 k] w fun e w' => e = .returned (.int .i64 (originZ k)) ∧ w = w' := by
  by_cases h3 : k = 3
  · subst h3
    go_enter Try.func94, Try.ntmps94
    go_wp2_with fail
    go_ret
    exact ⟨rfl, rfl⟩
  · obtain ⟨h3b, h3c⟩ := ne_facts h3
    by_cases h5 : k = 5
    · subst h5
      go_enter Try.func94, Try.ntmps94
      go_wp2_with fail
      go_ret
      exact ⟨rfl, rfl⟩
    · obtain ⟨h5b, h5c⟩ := ne_facts h5
      by_cases h6 : k = 6
      · subst h6
        go_enter Try.func94, Try.ntmps94
        go_wp2_with fail
        go_ret
        exact ⟨rfl, rfl⟩
      · obtain ⟨h6b, h6c⟩ := ne_facts h6
        by_cases h9 : k = 9
        · subst h9
          go_enter Try.func94, Try.ntmps94
          go_wp2_with fail
          go_ret
          exact ⟨rfl, rfl⟩
        · obtain ⟨h9b, h9c⟩ := ne_facts h9
          by_cases h11 : k = 11
          · subst h11
            go_enter Try.func94, Try.ntmps94
            go_wp2_with fail
            go_ret
            exact ⟨rfl, rfl⟩
          · obtain ⟨h11b, h11c⟩ := ne_facts h11
            have HZ := Lib.hid (show originZ k = 13 by unfold originZ; simp [h3, h5, h6, h9, h11])
            go_enter Try.func94, Try.ntmps94
            go_wp2_with fail
            go_ret
            exact ⟨ret_int HZ.out.symm, rfl⟩
set_option maxRecDepth 100000 in
set_option maxHeartbeats 8000000 in
theorem most_any (a : Option Addr) (n c : Nat) (k : Int) (w : World) : Calls Try.prog 93 #[.slice a n c, .int .i64 k] w fun e w' => e = .returned (.int .i64 (mostZ n k)) ∧ w = w' := by
  rcases (show (2 ≤ k ∧ k ≤ 7) ∨ (¬ (2 ≤ k ∧ k ≤ 7) ∧ (k = 8 ∨ k = 9 ∨ 16 ≤ k)) ∨ (10 ≤ k ∧ k ≤ 15) ∨ k < 2 by omega) with h | ⟨h0, h⟩ | h | h
  · obtain ⟨h1, h2⟩ := h
    have HZ := Lib.hid (show mostZ n k = n by unfold mostZ; rw [if_pos ⟨h1, h2⟩])
    go_enter Try.func93, Try.ntmps93
    go_wp2_with fail
    go_ret
    exact ⟨ret_int HZ.out.symm, rfl⟩
  · have HZ := Lib.hid (show mostZ n k = 4 by unfold mostZ; rw [if_neg h0, if_pos h])
    rcases h with rfl | rfl | h
    · go_enter Try.func93, Try.ntmps93
      go_wp2_with fail
      go_ret
      exact ⟨ret_int HZ.out.symm, rfl⟩
    · go_enter Try.func93, Try.ntmps93
      go_wp2_with fail
      go_ret
      exact ⟨ret_int HZ.out.symm, rfl⟩
    · have h1 : ¬ k ≤ 7 := by omega
      have h1' : 2 ≤ k := by omega
      obtain ⟨h2, h2c⟩ := ne_facts (show ¬ k = 8 by omega)
      obtain ⟨h3, h3c⟩ := ne_facts (show ¬ k = 9 by omega)
      clear h0
      go_enter Try.func93, Try.ntmps93
      go_wp2_with fail
      go_ret
      exact ⟨ret_int HZ.out.symm, rfl⟩
  · obtain ⟨h1, h2⟩ := h
    have HZ := Lib.hid (show mostZ n k = 2 by unfold mostZ; rw [if_neg (by omega), if_neg (by omega), if_pos ⟨h1, h2⟩])
    have g1 : ¬ k ≤ 7 := by omega
    have g1' : 2 ≤ k := by omega
    obtain ⟨h3, h3c⟩ := ne_facts (show ¬ k = 8 by omega)
    obtain ⟨h4, h4c⟩ := ne_facts (show ¬ k = 9 by omega)
    have g2 : ¬ 16 ≤ k := by omega
    go_enter Try.func93, Try.ntmps93
    go_wp2_with fail
    go_ret
    exact ⟨ret_int HZ.out.symm, rfl⟩
  · have HZ := Lib.hid (show mostZ n k = 1 by unfold mostZ; rw [if_neg (by omega), if_neg (by omega), if_neg (by omega)])
    have g1 : ¬ 2 ≤ k := by omega
    obtain ⟨h3, h3c⟩ := ne_facts (show ¬ k = 8 by omega)
    obtain ⟨h4, h4c⟩ := ne_facts (show ¬ k = 9 by omega)
    have g2 : ¬ 16 ≤ k := by omega
    have g3 : ¬ 10 ≤ k := by omega
    go_enter Try.func93, Try.ntmps93
    go_wp2_with fail
    go_ret
    exact ⟨ret_int HZ.out.symm, rfl⟩
theorem capsB_no {caps : List Int} {k : Nat} (hk : k < caps.length) (h : en caps k < -1 ∨ 3 < en caps k) : capsB caps = false := by
  have e : caps.all (fun n => decide (-1 ≤ n ∧ n ≤ 3)) = false := by
    rw [Bool.eq_false_iff]
    intro hall
    have := of_decide_eq_true (List.all_eq_true.1 hall _ (en_mem caps k hk))
    omega
  unfold capsB; rw [e]; rfl
theorem capsB_all {caps : List Int} (h : ∀ j, j < caps.length → -1 ≤ en caps j ∧ en caps j ≤ 3) : caps.all (fun n => decide (-1 ≤ n ∧ n ≤ 3)) = true := by
  rw [List.all_eq_true]
  intro x hx
  obtain ⟨i, hi, rfl⟩ := List.getElem_of_mem hx
  have := h i hi
  rw [en_get caps i hi] at this
  exact decide_eq_true this
set_option maxRecDepth 100000 in
set_option maxHeartbeats 8000000 in
theorem refCaps_any (a : Option Addr) (n c : Nat) (caps : List Int) (w : World) (h : Ints w a n c caps) : Calls Try.prog 21 #[.slice a n c] w fun e w' => e = .returned (.bool (capsB caps)) ∧ w = w' := by
  have HL := Lib.hid h.len_eq
  have H := Lib.hid h
  have hle := h.len_le
  clear h
  go_enter Try.func21, Try.ntmps21
  go_wp2_with fail
  go_loopw [7] (fun i wr => ∃ k : Nat, k ≤ n ∧ i = .int .i64 k ∧ (∀ j, j < k → -1 ≤ en caps j ∧ en caps j ≤ 3) ∧ wr = w) (fun i _ => n - (intOf i).toNat)
  case atStart => exact ⟨0, Nat.zero_le _, rfl, fun j hj => absurd hj (Nat.not_lt_zero _), rfl⟩
  case round =>
    obtain ⟨k, hk, rfl, hall, rfl⟩ := hrel
    have HA := Lib.hid hall
    clear hall
    by_cases hlt : k < n
    · have hlt' : (k : Int) < (n : Int) := by omega
      obtain ⟨b, off, rfl, hc⟩ := H.out.cell k hlt
      have HBAD := Lib.hid (fun h => capsB_no (caps := caps) (k := k) (by rw [HL.out]; exact hlt) h)
      obtain ⟨x, hx⟩ : ∃ x, x = en caps k := ⟨_, rfl⟩
      rw [← hx] at hc HBAD
      have HX := Lib.hid hx
      clear hx
      rcases (show x < -1 ∨ (¬ x < -1 ∧ 3 < x) ∨ (¬ x < -1 ∧ ¬ 3 < x) by omega) with h1 | ⟨h1, h2⟩ | ⟨h1, h2⟩
      · have HZ := Lib.hid (HBAD.out (.inl h1))
        go_wp2_with fail
        go_ret
        exact ⟨ret_bool HZ.out.symm, rfl⟩
      · have HZ := Lib.hid (HBAD.out (.inr h2))
        go_wp2_with fail
        go_ret
        exact ⟨ret_bool HZ.out.symm, rfl⟩
      · go_wp2_with fail
        go_roundw
        case rel => exact ⟨k + 1, by omega, by go_num, fun j hj => by
          by_cases e : j = k
          · subst e; rw [← HX.out]; omega
          · exact HA.out j (by omega), trivial⟩
        case measure => simp [intOf]; omega
    · have hke : k = n := by omega
      have HZ := Lib.hid (show capsB caps = decide (n ≤ 4) by unfold capsB; rw [capsB_all (fun j hj => HA.out j (by rw [HL.out] at hj; omega)), HL.out]; rfl)
      subst hke
      by_cases h4 : k ≤ 4
      · have h4' : (k : Int) ≤ 4 := by omega
        have HZ2 := Lib.hid (HZ.out.trans (decide_eq_true h4))
        go_wp2_with fail
        go_ret
        exact ⟨ret_bool HZ2.out.symm, rfl⟩
      · have h4' : ¬ (k : Int) ≤ 4 := by omega
        have HZ2 := Lib.hid (HZ.out.trans (decide_eq_false h4))
        go_wp2_with fail
        go_ret
        exact ⟨ret_bool HZ2.out.symm, rfl⟩
end Go.Proofs.Ytjkbmenmpnidhaa
