/- The reference: Same, of two that are the same. -/
import Derived.Test.YtddkckppmjcclaaE1
namespace Go.Proofs.Ytddkckppmjcclaa
open Go.RowKit
set_option linter.unusedSimpArgs false
set_option linter.unusedVariables false
set_option maxRecDepth 100000 in
set_option maxHeartbeats 8000000 in
theorem Instrs_yes (a a2 : Option Addr) (n n2 c c2 : Nat) (L : List Ins) (w : World) (h : Blk w a n c L) (h2 : Blk w a2 n2 c2 L) :
    Calls Try.prog 28 #[.slice a n c, .slice a2 n2 c2] w fun e w' => e = .returned (.bool true) ∧ Below w.heap.size w w' := by
  have hn : n = n2 := by rw [← h.recs.len_eq, ← h2.recs.len_eq]
  subst hn
  have H := Lib.hid h; have H2 := Lib.hid h2; have hle := h.recs.len_le
  clear h h2
  go_enter Try.func28, Try.ntmps28
  go_wp2_with fail
  go_loopw [13] (fun i wr => ∃ k : Nat, k ≤ n ∧ i = .int .i64 k ∧ Below w.heap.size w wr) (fun i _ => n - (intOf i).toNat)
  case atStart => exact ⟨0, Nat.zero_le _, rfl, Below.refl _ _⟩
  case round =>
    obtain ⟨k, hk, rfl, hb⟩ := hrel
    by_cases hlt : k < n
    · obtain ⟨x, b, off, hx, _, ha, c0, c1, c2⟩ := (H.out.below hb).at k hlt
      obtain ⟨y, b2, off2, hy, _, ha2, d0, d1, d2⟩ := (H2.out.below hb).at k hlt
      have hxy : y = x := by rw [hx] at hy; cases hy; rfl
      subst hxy
      have hlt' : (k : Int) < (n : Int) := by omega
      have HB := Lib.hid hb
      clear hx hy hb
      rw [ha, ha2]
      clear ha ha2
      go_wp2_with fail
      go_quiet (fail)
      have hb' := below_drewN HB.out nq
      go_wp2_with fail
      go_roundw
      case rel => exact ⟨k + 1, by omega, by go_num, hb'⟩
      case measure => simp [intOf]; omega
    · have hke : k = n := by omega
      subst hke
      go_wp2_with fail
      go_ret
      exact ⟨rfl, hb⟩
set_option maxRecDepth 100000 in
set_option maxHeartbeats 8000000 in
theorem selects_yes (a a2 : Option Addr) (n n2 c c2 : Nat) (L : List Sel) (w : World) (h : Sels w a n c L) (h2 : Sels w a2 n2 c2 L) :
    Calls Try.prog 27 #[.slice a n c, .slice a2 n2 c2] w fun e w' => e = .returned (.bool true) ∧ Below w.heap.size w w' := by
  have hn : n = n2 := by rw [← h.len, ← h2.len]
  subst hn
  have H := Lib.hid h; have H2 := Lib.hid h2; have hle := h.caps
  have hle' : n ≤ 9223372036854775807 := by unfold maxLen at hle; omega
  clear h h2 hle
  go_enter Try.func27, Try.ntmps27
  go_wp2_with fail
  go_loopw [14] (fun i wr => ∃ k : Nat, k ≤ n ∧ i = .int .i64 k ∧ Below w.heap.size w wr) (fun i _ => n - (intOf i).toNat)
  case atStart => exact ⟨0, Nat.zero_le _, rfl, Below.refl _ _⟩
  case round =>
    obtain ⟨k, hk, rfl, hb⟩ := hrel
    by_cases hlt : k < n
    · obtain ⟨x, b, off, ca, cn, cc, hx, ha, c0, c1, hcs⟩ := (H.out.below hb).at k hlt
      obtain ⟨y, b2, off2, ca2, cn2, cc2, hy, ha2, d0, d1, hcs2⟩ := (H2.out.below hb).at k hlt
      have hxy : y = x := by rw [hx] at hy; cases hy; rfl
      subst hxy
      have hcn : cn = cn2 := by rw [← hcs.recs.len_eq, ← hcs2.recs.len_eq]
      subst hcn
      have hlc := hcs.recs.len_le
      have hlt' : (k : Int) < (n : Int) := by omega
      have HB := Lib.hid hb; have HC := Lib.hid hcs; have HC2 := Lib.hid hcs2
      have HL0 := Lib.hid c0; have HL1 := Lib.hid d0
      clear hx hy hb hcs hcs2
      rw [ha, ha2]
      clear ha ha2
      go_wp2_with fail
      go_quiet (fail)
      have hb1 : Below wr.heap.size wr (wr.drewN nq) := below_drewN (Below.refl _ _) nq
      have HB1 := Lib.hid (below_drewN HB.out nq)
      have HD0 := Lib.hid (((hb1.cell (World.block_lt_of_cell? _ _ HL0.out)).trans HL0.out)); have HD1 := Lib.hid (((hb1.cell (World.block_lt_of_cell? _ _ HL1.out)).trans HL1.out))
      have HC1 := Lib.hid (HC.out.below hb1); have HC3 := Lib.hid (HC2.out.below hb1)
      obtain ⟨w1, hw1⟩ : ∃ w1, w1 = wr.drewN nq := ⟨_, rfl⟩
      rw [← hw1] at HB1 HD0 HD1 HC1 HC3 ⊢
      clear hw1 hb1 HB HC HC2 HL0 HL1 c0 c1 d0 d1
      have d0 := HD0.out
      go_wp2_with fail
      clear d0
      go_loopw [49] (fun i wr => ∃ j : Nat, j ≤ cn ∧ i = .int .i64 j ∧ Below w1.heap.size w1 wr) (fun i _ => cn - (intOf i).toNat)
      case atStart => exact ⟨0, Nat.zero_le _, rfl, Below.refl _ _⟩
      case round =>
        obtain ⟨j, hj, rfl, hb⟩ := hrel
        by_cases hlj : j < cn
        · obtain ⟨z, b3, o3, hz, _, ha3, e0, e1⟩ := (HC1.out.below hb).at j hlj
          obtain ⟨z2, b4, o4, hz2, _, ha4, f0, f1⟩ := (HC3.out.below hb).at j hlj
          have hzz : z2 = z := by rw [hz] at hz2; cases hz2; rfl
          subst hzz
          have hlj' : (j : Int) < (cn : Int) := by omega
          have d0 := (hb.cell (World.block_lt_of_cell? _ _ HD0.out)).trans HD0.out
          have d1 := (hb.cell (World.block_lt_of_cell? _ _ HD1.out)).trans HD1.out
          have HB := Lib.hid hb
          clear hz hz2 hb
          rw [ha3] at d0
          rw [ha4] at d1
          go_wp2_with fail
          go_quiet (fail)
          have hb' := below_drewN HB.out nq
          go_wp2_with fail
          go_roundw
          case rel => exact ⟨j + 1, by omega, by go_num, hb'⟩
          case measure => simp [intOf]; omega
        · have hje : j = cn := by omega
          subst hje
          have hb2 := HB1.out.trans (Below.mono hb HB1.out.size)
          go_wp2_with fail
          go_roundw
          case rel => exact ⟨k + 1, by omega, by go_num, hb2⟩
          case measure => simp [intOf]; omega
    · have hke : k = n := by omega
      subst hke
      go_wp2_with fail
      go_ret
      exact ⟨rfl, hb⟩
end Go.Proofs.Ytddkckppmjcclaa
