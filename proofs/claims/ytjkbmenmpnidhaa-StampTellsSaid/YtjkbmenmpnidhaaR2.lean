/- Last and Count: the reference, and the program. -/
import Derived.Test.YtjkbmenmpnidhaaR1
namespace Go.Proofs.Ytjkbmenmpnidhaa
open Go.RowKit
set_option linter.unusedSimpArgs false
set_option linter.unusedVariables false
set_option maxRecDepth 100000 in
set_option maxHeartbeats 8000000 in
theorem refLast_any (a : Option Addr) (n c : Nat) (L : List Ev) (i : Nat) (w : World) (h : Evs w a n c L) (hi : i < n) : Calls Try.prog 33 #[.slice a n c, .int .i64 (i : Int)] w (IntTo w (lastZ L (evAt L i).g i)) := by
  have H := Lib.hid h
  have hle := h.recs.len_le
  have hlc := h.recs.le_cap
  obtain ⟨b, off, _, rfl, d0, d1, d2, d3, d4⟩ := h.at i hi
  obtain ⟨G, hG⟩ : ∃ G, G = (evAt L i).g := ⟨_, rfl⟩
  rw [← hG] at d0 ⊢
  have D0 := Lib.hid d0
  have hi' : (i : Int) ≤ (n : Int) := by omega
  have hi2 : (i : Int) < (n : Int) := by omega
  have hic : (i : Int) ≤ (c : Int) := by omega
  clear h d0 d1 d2 d3 d4 hG
  go_enter Try.func33, Try.ntmps33
  go_wp2_with fail
  go_loopw [5, 11] (fun v j wr => ∃ k : Nat, k ≤ i ∧ j = .int .i64 k ∧ v = .int .i64 (lastZ L G k) ∧ Below w.heap.size w wr) (fun _ j _ => i - (intOf j).toNat)
  case atStart => exact ⟨0, Nat.zero_le _, rfl, rfl, Below.refl _ _⟩
  case round =>
    obtain ⟨k, hk, rfl, rfl, hb⟩ := hrel
    have HB := Lib.hid hb
    clear hb
    by_cases hlt : k < i
    · have hlt' : (k : Int) < (i : Int) := by omega
      have hkn : (k : Int) < (n : Int) := by omega
      obtain ⟨b', off', _, he, c0, c1, c2, c3, c4⟩ := (H.out.below HB.out).at k (by omega)
      cases he
      have d0 := (HB.out.cell (cell_lt D0.out)).trans D0.out
      have HZ := Lib.hid (show lastZ L G (k + 1) = if (evAt L k).g = G then (k : Int) else lastZ L G k from rfl)
      obtain ⟨x, hx⟩ : ∃ x, x = (evAt L k).g := ⟨_, rfl⟩
      rw [← hx] at c0 HZ
      clear hx c1 c2 c3 c4
      by_cases he : x = G
      · obtain ⟨e1, e2⟩ := eq_facts he
        have HZ2 := Lib.hid (HZ.out.trans (if_pos he))
        subst he
        go_wp2_with fail
        go_quiet (fail)
        have hb' := below_drewN HB.out nq
        go_wp2_with fail
        go_roundw
        case rel => exact ⟨k + 1, by omega, by go_num, by rw [HZ2.out], hb'⟩
        case measure => simp [intOf]; omega
      · obtain ⟨e1, e2⟩ := ne_facts he
        have HZ2 := Lib.hid (HZ.out.trans (if_neg he))
        go_wp2_with fail
        go_quiet (fail)
        have hb' := below_drewN HB.out nq
        go_wp2_with fail
        go_roundw
        case rel => exact ⟨k + 1, by omega, by go_num, by rw [HZ2.out], hb'⟩
        case measure => simp [intOf]; omega
    · have hke : k = i := by omega
      subst hke
      go_wp2_with fail
      go_ret
      exact ⟨rfl, HB.out⟩
def PairI (w : World) (x why : Int) (e : Ending) (w' : World) : Prop := e = .returned (.tuple #[.int .i64 x, .int .i64 why]) ∧ Below w.heap.size w w'
set_option maxRecDepth 100000 in
set_option maxHeartbeats 8000000 in
theorem refCount_any (a : Option Addr) (n c : Nat) (L : List Ev) (i : Nat) (kd ob : Int) (w : World) (h : Evs w a n c L) (hi : i < n) : Calls Try.prog 95 #[.slice a n c, .int .i64 (i : Int), .int .i64 kd, .int .i64 ob] w (IntTo w (cntZ L kd ob i)) := by
  have H := Lib.hid h
  have hle := h.recs.len_le
  have hlc := h.recs.le_cap
  obtain ⟨b, off, _, rfl, d0, d1, d2, d3, d4⟩ := h.at i hi
  have hi' : (i : Int) ≤ (n : Int) := by omega
  have hi2 : (i : Int) < (n : Int) := by omega
  have hi3 : ¬ (n : Int) ≤ (i : Int) := by omega
  have hic : (i : Int) ≤ (c : Int) := by omega
  have hi0 : ¬ (i : Int) < 0 := by omega
  clear h d0 d1 d2 d3 d4
  go_enter Try.func95, Try.ntmps95
  go_wp2_with fail
  go_loopw [9, 16] (fun v j wr => ∃ k : Nat, k ≤ i ∧ j = .int .i64 k ∧ v = .int .i64 (cntZ L kd ob k) ∧ Below w.heap.size w wr) (fun _ j _ => i - (intOf j).toNat)
  case atStart => exact ⟨0, Nat.zero_le _, rfl, rfl, Below.refl _ _⟩
  case round =>
    obtain ⟨k, hk, rfl, rfl, hb⟩ := hrel
    have HB := Lib.hid hb
    clear hb
    by_cases hlt : k < i
    · have hlt' : (k : Int) < (i : Int) := by omega
      have hkn : (k : Int) < (n : Int) := by omega
      obtain ⟨b', off', _, he, c0, c1, c2, c3, c4⟩ := (H.out.below HB.out).at k (by omega)
      cases he
      have HZ := Lib.hid (show cntZ L kd ob (k + 1) = if (evAt L k).kind = kd ∧ (evAt L k).obj = ob then cntZ L kd ob k + 1 else cntZ L kd ob k from rfl)
      have hcl := cntZ_le L kd ob k
      have hc0 := hcl.1
      have hc1 := hcl.2
      clear hcl
      have BA := Lib.hid (HB.out.trans (Below.mono (below_alloc wr (.cells (evC (evAt L k)) 48)) HB.out.size))
      obtain ⟨x, hx⟩ : ∃ x, x = evAt L k := ⟨_, rfl⟩
      obtain ⟨z, hz⟩ : ∃ z, z = cntZ L kd ob k := ⟨_, rfl⟩
      rw [← hx] at c0 c1 c2 c3 c4 HZ BA
      rw [← hz] at HZ hc0 hc1 ⊢
      clear hx hz
      unfold evC at BA
      obtain ⟨x0, x1, x2, x3, x4⟩ := x
      dsimp only at c0 c1 c2 c3 c4 HZ BA
      by_cases he : x1 = kd
      · obtain ⟨e1, e2⟩ := eq_facts he
        by_cases hf : x2 = ob
        · obtain ⟨f1, f2⟩ := eq_facts hf
          have HZ2 := Lib.hid (HZ.out.trans (if_pos ⟨he, hf⟩))
          subst he
          subst hf
          go_wp2_with fail
          go_roundw
          case rel => exact ⟨k + 1, by omega, by go_num, by rw [HZ2.out], BA.out⟩
          case measure => simp [intOf]; omega
        · obtain ⟨f1, f2⟩ := ne_facts hf
          have HZ2 := Lib.hid (HZ.out.trans (if_neg (fun h => hf h.2)))
          subst he
          go_wp2_with fail
          go_roundw
          case rel => exact ⟨k + 1, by omega, by go_num, by rw [HZ2.out], BA.out⟩
          case measure => simp [intOf]; omega
      · obtain ⟨e1, e2⟩ := ne_facts he
        have HZ2 := Lib.hid (HZ.out.trans (if_neg (fun h => he h.1)))
        go_wp2_with fail
        go_roundw
        case rel => exact ⟨k + 1, by omega, by go_num, by rw [HZ2.out], BA.out⟩
        case measure => simp [intOf]; omega
    · have hke : k = i := by omega
      subst hke
      go_wp2_with fail
      go_ret
      exact ⟨rfl, HB.out⟩
set_option maxRecDepth 100000 in
set_option maxHeartbeats 8000000 in
theorem Last_no (a : Option Addr) (n c : Nat) (i : Int) (w : World) (hi : i < 0 ∨ (n : Int) ≤ i) : Calls Try.prog 44 #[.slice a n c, .int .i64 i] w (PairI w 0 3) := by
  rcases hi with h | h
  · go_enter Try.func44, Try.ntmps44
    go_wp2_with fail
    go_ret2
    exact ⟨rfl, Below.refl _ _⟩
  · have h0 : ¬ i < 0 := by omega
    go_enter Try.func44, Try.ntmps44
    go_wp2_with fail
    go_ret2
    exact ⟨rfl, Below.refl _ _⟩
theorem lastZ_up (L : List Ev) (G : Int) (i : Nat) : ∀ d k : Nat, k + d = i → (∀ j, k ≤ j → j < i → ¬ (evAt L j).g = G) → lastZ L G i = lastZ L G k
  | 0, k, h, _ => by rw [show i = k by omega]
  | d + 1, k, h, hn => by
    rw [lastZ_up L G i d (k + 1) (by omega) (fun j h1 h2 => hn j (by omega) h2)]
    have := hn k (Nat.le_refl _) (by omega)
    conv => lhs; unfold lastZ
    rw [if_neg this]
set_option maxRecDepth 100000 in
set_option maxHeartbeats 8000000 in
theorem Last_go (a : Option Addr) (n c : Nat) (L : List Ev) (i : Nat) (w : World) (h : Evs w a n c L) (hi : i < n) : Calls Try.prog 44 #[.slice a n c, .int .i64 (i : Int)] w (PairI w (lastZ L (evAt L i).g i) 0) := by
  have H := Lib.hid h
  have hle := h.recs.len_le
  have hlc := h.recs.le_cap
  obtain ⟨b, off, _, rfl, d0, d1, d2, d3, d4⟩ := h.at i hi
  obtain ⟨G, hG⟩ : ∃ G, G = (evAt L i).g := ⟨_, rfl⟩
  rw [← hG] at d0 ⊢
  have D0 := Lib.hid d0
  have hi2 : (i : Int) < (n : Int) := by omega
  have hi3 : ¬ (n : Int) ≤ (i : Int) := by omega
  have hi0 : ¬ (i : Int) < 0 := by omega
  clear h d0 d1 d2 d3 d4 hG
  go_enter Try.func44, Try.ntmps44
  go_wp2_with fail
  go_loopw [6] (fun j wr => ∃ k : Nat, k ≤ i ∧ j = .int .i64 ((k : Int) - 1) ∧ (∀ j, k ≤ j → j < i → ¬ (evAt L j).g = G) ∧ Below w.heap.size w wr) (fun j _ => (intOf j + 1).toNat)
  case atStart => exact ⟨i, Nat.le_refl _, rfl, fun j h1 h2 => absurd h2 (by omega), Below.refl _ _⟩
  case round =>
    obtain ⟨k, hk, rfl, hno, hb⟩ := hrel
    have HN := Lib.hid hno
    have HB := Lib.hid hb
    clear hb hno
    have HUP := Lib.hid (lastZ_up L G i (i - k) k (by omega) HN.out)
    cases k with
    | zero =>
      have HZ := Lib.hid (HUP.out.trans (show lastZ L G 0 = -1 from rfl))
      have hz : ((0 : Nat) : Int) - 1 = -1 := rfl
      rw [hz]
      go_wp2_with fail
      go_ret2
      exact ⟨ret_int_err HZ.out.symm rfl, HB.out⟩
    | succ k =>
      have hz : (((k + 1 : Nat)) : Int) - 1 = (k : Int) := by omega
      rw [hz]
      have hk0 : (0 : Int) ≤ (k : Int) := by omega
      have hkn : (k : Int) < (n : Int) := by omega
      obtain ⟨b', off', _, he, c0, c1, c2, c3, c4⟩ := (H.out.below HB.out).at k (by omega)
      cases he
      have d0 := (HB.out.cell (cell_lt D0.out)).trans D0.out
      have HZ := Lib.hid (show lastZ L G (k + 1) = if (evAt L k).g = G then (k : Int) else lastZ L G k from rfl)
      obtain ⟨x, hx⟩ : ∃ x, x = (evAt L k).g := ⟨_, rfl⟩
      rw [← hx] at c0 HZ
      have HX := Lib.hid hx
      clear hx c1 c2 c3 c4 hz
      by_cases he : x = G
      · obtain ⟨e1, e2⟩ := eq_facts he
        have HZ2 := Lib.hid (HUP.out.trans (HZ.out.trans (if_pos he)))
        subst he
        go_wp2_with fail
        go_quiet (fail)
        have hb' := below_drewN HB.out nq
        go_wp2_with fail
        go_ret2
        exact ⟨ret_int_err HZ2.out.symm rfl, hb'⟩
      · obtain ⟨e1, e2⟩ := ne_facts he
        go_wp2_with fail
        go_quiet (fail)
        have hb' := below_drewN HB.out nq
        go_wp2_with fail
        go_roundw
        case rel => exact ⟨k, by omega, by first | trivial | go_num, fun j h1 h2 => by
          by_cases e : j = k
          · subst e; rw [← HX.out]; exact he
          · exact HN.out j (by omega) h2, hb'⟩
        case measure => (simp [intOf]) <;> omega
end Go.Proofs.Ytjkbmenmpnidhaa
