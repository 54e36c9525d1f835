/- The reference: number, is, Of, May. -/
import Derived.Test.YtjkbmenmpnidhaaR2
import Derived.Test.YtjkbmenmpnidhaaEd1
namespace Go.Proofs.Ytjkbmenmpnidhaa
open Go.RowKit
set_option linter.unusedSimpArgs false
set_option linter.unusedVariables false
theorem evAt_get {L : List Ev} {i : Nat} (h : i < L.length) : L[i] = evAt L i := by
  unfold evAt; rw [List.getD_eq_getElem?_getD, List.getElem?_eq_getElem h]; rfl
theorem number_hit {L : List Ev} {kd ob no : Int} {k : Nat} (h : ∀ j, j < k → ¬ ((evAt L j).kind = kd ∧ (evAt L j).obj = ob ∧ (evAt L j).no = no)) (hk : k < L.length) (hp : (evAt L k).kind = kd ∧ (evAt L k).obj = ob ∧ (evAt L k).no = no) : numberZ L kd ob no = (evAt L k).start := by
  unfold numberZ
  have e : L.find? (fun e => decide (e.kind = kd ∧ e.obj = ob ∧ e.no = no)) = some (evAt L k) := by
    rw [List.find?_eq_some_iff_getElem]
    refine ⟨by simp [hp.1, hp.2.1, hp.2.2], k, hk, evAt_get hk, fun i hi => ?_⟩
    rw [evAt_get (by omega)]
    have := h i hi; simp only [Bool.not_eq_true', decide_eq_true_eq, decide_eq_false_iff_not]; exact this
  rw [e]
theorem number_none {L : List Ev} {kd ob no : Int} (h : ∀ j, j < L.length → ¬ ((evAt L j).kind = kd ∧ (evAt L j).obj = ob ∧ (evAt L j).no = no)) : numberZ L kd ob no = -1 := by
  unfold numberZ
  have e : L.find? (fun e => decide (e.kind = kd ∧ e.obj = ob ∧ e.no = no)) = none := by
    rw [List.find?_eq_none]
    intro x hx
    obtain ⟨i, hi, rfl⟩ := List.getElem_of_mem hx
    rw [evAt_get hi]
    have := h i hi; simp only [Bool.not_eq_true', decide_eq_true_eq, decide_eq_false_iff_not]; exact this
  rw [e]
set_option maxRecDepth 100000 in
set_option maxHeartbeats 8000000 in
theorem number_any (a : Option Addr) (n c : Nat) (L : List Ev) (kd ob no : Int) (w : World) (h : Evs w a n c L) : Calls Try.prog 34 #[.slice a n c, .int .i64 kd, .int .i64 ob, .int .i64 no] w (IntTo w (numberZ L kd ob no)) := by
  have H := Lib.hid h
  have HL := Lib.hid h.recs.len_eq
  have hle := h.recs.len_le
  clear h
  go_enter Try.func34, Try.ntmps34
  go_wp2_with fail
  go_loopw [13] (fun j wr => ∃ k : Nat, k ≤ n ∧ j = .int .i64 k ∧ (∀ q, q < k → ¬ ((evAt L q).kind = kd ∧ (evAt L q).obj = ob ∧ (evAt L q).no = no)) ∧ Below w.heap.size w wr) (fun j _ => n - (intOf j).toNat)
  case atStart => exact ⟨0, Nat.zero_le _, rfl, fun q hq => absurd hq (Nat.not_lt_zero _), Below.refl _ _⟩
  case round =>
    obtain ⟨k, hk, rfl, hno, hb⟩ := hrel
    have HB := Lib.hid hb
    have HN := Lib.hid hno
    clear hb hno
    by_cases hlt : k < n
    · have hlt' : (k : Int) < (n : Int) := by omega
      obtain ⟨b', off', _, he, c0, c1, c2, c3, c4⟩ := (H.out.below HB.out).at k hlt
      subst he
      have BA := Lib.hid (HB.out.trans (Below.mono (below_alloc wr (.cells (evC (evAt L k)) 48)) HB.out.size))
      have HIT := Lib.hid (fun hp => number_hit (kd := kd) (ob := ob) (no := no) HN.out (by rw [HL.out]; exact hlt) hp)
      have MISS := Lib.hid (fun (hp : ¬ ((evAt L k).kind = kd ∧ (evAt L k).obj = ob ∧ (evAt L k).no = no)) => (show ∀ q, q < k + 1 → ¬ ((evAt L q).kind = kd ∧ (evAt L q).obj = ob ∧ (evAt L q).no = no) from fun q hq => by
        by_cases e : q = k
        · subst e; exact hp
        · exact HN.out q (by omega)))
      obtain ⟨x, hx⟩ : ∃ x, x = evAt L k := ⟨_, rfl⟩
      rw [← hx] at c0 c1 c2 c3 c4 HIT MISS BA
      clear hx
      unfold evC at BA
      obtain ⟨x0, x1, x2, x3, x4⟩ := x
      dsimp only at c0 c1 c2 c3 c4 HIT MISS BA
      by_cases he : x1 = kd
      · obtain ⟨e1, e2⟩ := eq_facts he
        by_cases hf : x2 = ob
        · obtain ⟨f1, f2⟩ := eq_facts hf
          by_cases hg : x3 = no
          · obtain ⟨g1, g2⟩ := eq_facts hg
            have HZ := Lib.hid (HIT.out ⟨he, hf, hg⟩)
            subst he; subst hf; subst hg
            clear HIT MISS
            go_wp2_with fail
            go_ret
            exact ⟨ret_int HZ.out.symm, BA.out⟩
          · obtain ⟨g1, g2⟩ := ne_facts hg
            have HM := Lib.hid (MISS.out fun h => hg h.2.2)
            subst he; subst hf
            clear HIT MISS
            go_wp2_with fail
            go_roundw
            case rel => exact ⟨k + 1, by omega, by go_num, HM.out, BA.out⟩
            case measure => simp [intOf]; omega
        · obtain ⟨f1, f2⟩ := ne_facts hf
          have HM := Lib.hid (MISS.out fun h => hf h.2.1)
          subst he
          clear HIT MISS
          go_wp2_with fail
          go_roundw
          case rel => exact ⟨k + 1, by omega, by go_num, HM.out, BA.out⟩
          case measure => simp [intOf]; omega
      · obtain ⟨e1, e2⟩ := ne_facts he
        have HM := Lib.hid (MISS.out fun h => he h.1)
        clear HIT MISS
        go_wp2_with fail
        go_roundw
        case rel => exact ⟨k + 1, by omega, by go_num, HM.out, BA.out⟩
        case measure => simp [intOf]; omega
    · have hke : k = n := by omega
      have HZ := Lib.hid (number_none (kd := kd) (ob := ob) (no := no) (fun j hj => HN.out j (by rw [HL.out] at hj; omega)))
      subst hke
      go_wp2_with fail
      go_ret
      exact ⟨ret_int HZ.out.symm, HB.out⟩
end Go.Proofs.Ytjkbmenmpnidhaa
