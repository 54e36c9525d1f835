/- The reference: Count. -/
import Derived.Test.YtdjfgodjdcfibaaR2
import Derived.Test.YtdjfgodjdcfibaaCount
namespace Go.Proofs.Ytdjfgodjdcfibaa
open Go.RowKit
set_option maxRecDepth 100000 in
set_option maxHeartbeats 8000000 in
theorem refCount_go (p : Pr) (q : PAt) (op : Int) (w : World) (h : Prg w p q) (hr : rightP p = true) :
    Calls Try.prog 14 #[prV p q, .int .i64 op] w (Says3 w (cntB p.blks op)) := by
  have X_0 := Lib.hid (Bx.new w (prC p q) 26)
  have B_0 := Lib.hid (below_alloc w (.cells (prC p q) 26))
  have P_0 := Lib.hid (h.below B_0.out)
  obtain ⟨ht, hbk⟩ := right_parts hr
  have hsb := szB_not h.szs (tab_parts ht).2
  obtain ⟨_, _, _, _, hb6⟩ := hsb
  have hbl := Lib.hid h.blks.len
  have H24 := Lib.hid (fun b hb => (blk_parts (hbk b hb)).1)
  have HBB := Lib.hid (fun k => Nat.le_trans (cntB_le (B := p.blks.take k) (fun b hb => H24.out b (List.mem_of_mem_take hb)) op) (Nat.mul_le_mul_left 24 (Nat.le_trans (List.length_take_le' _ _) (by rw [h.blks.len]; exact hb6))))
  clear h hr ht hbk
  go_enter Try.func14, Try.ntmps14
  obtain ⟨BX, hBX⟩ : ∃ x, x = w.heap.size := ⟨_, rfl⟩
  rw [← hBX] at X_0
  have HBX := Lib.hid hBX
  clear hBX
  obtain ⟨w1, hw1⟩ : ∃ w1, w1 = w.alloc (.cells (prC p q) 26) := ⟨_, rfl⟩
  rw [← hw1] at X_0 B_0 P_0
  go_wp2_with fail
  rw [← hw1]
  try rw [← HBX.out]
  clear hw1
  obtain ⟨x0, x1, x2, x3, x4, x5⟩ := X_0.out.cells6
  go_wp2_with fail
  clear x0 x1 x2 x3 x4 x5
  go_loopw [5, 13] (fun n i wr => ∃ k : Nat, k ≤ q.bn ∧ i = .int .i64 k ∧ n = .int .i64 (cntB (p.blks.take k) op) ∧ Below w1.heap.size w1 wr) (fun _ i _ => q.bn - (intOf i).toNat)
  case atStart => exact ⟨0, Nat.zero_le _, rfl, rfl, Below.refl _ _⟩
  case round =>
    obtain ⟨m, hm, rfl, rfl, hbw⟩ := hrel
    have HBW := Lib.hid hbw; clear hbw
    by_cases hlm : m < q.bn
    · have hlm' : (m : Int) < (q.bn : Int) := by omega
      obtain ⟨x, b2, o2, ca, cn, cc, hx, hba2, d0, hblk⟩ := (P_0.out.blks.below HBW.out).at m hlm
      have HX := Lib.hid (take_snocP hx); have HC := Lib.hid hblk
      have HCL := Lib.hid hblk.recs.len_eq
      have hc24 : cn ≤ 24 := by rw [← hblk.recs.len_eq]; exact H24.out x (List.mem_of_getElem? hx)
      have HS := Lib.hid (cntB_snoc (p.blks.take m) x op)
      have hc0 := HBB.out m
      obtain ⟨c0, hc0e⟩ : ∃ c, c = cntB (p.blks.take m) op := ⟨_, rfl⟩
      rw [← hc0e] at HS hc0 ⊢
      clear hc0e hx hblk
      rw [hba2]
      go_wp2_with fail
      clear d0
      go_loopw [5, 19] (fun n i w3 => ∃ j : Nat, j ≤ cn ∧ i = .int .i64 j ∧ n = .int .i64 ((c0 + cnt (x.take j) op : Nat) : Int) ∧ Below wr.heap.size wr w3) (fun _ i _ => cn - (intOf i).toNat)
      case atStart => exact ⟨0, Nat.zero_le _, rfl, by simp [cnt], Below.refl _ _⟩
      case round =>
        obtain ⟨j, hj, rfl, rfl, hb3⟩ := hrel
        have HB3 := Lib.hid hb3; clear hb3
        by_cases hlj : j < cn
        · have hlj' : (j : Int) < (cn : Int) := by omega
          obtain ⟨y, b3, o3, hy, hyok, hca3, e0, e1, e2⟩ := (HC.out.below HB3.out).at j hlj
          have HY := Lib.hid (take_snocP hy)
          have HCS := Lib.hid (cnt_snoc (x.take j) y op)
          have hcj := Nat.le_trans (cnt_le (x.take j) op) (List.length_take_le _ _)
          obtain ⟨c1, hc1e⟩ : ∃ c, c = cnt (x.take j) op := ⟨_, rfl⟩
          rw [← hc1e] at HCS hcj ⊢
          clear hc1e hy hyok
          rw [hca3]
          cases ho : (y.op == op) with
          | true =>
            have R := Lib.hid (show c0 + cnt (x.take (j + 1)) op = c0 + c1 + 1 by rw [HY.out, HCS.out, ho]; rfl)
            go_wp2_with fail
            go_roundw
            case rel => exact ⟨j + 1, by omega, by go_num, by rw [R.out]; go_num, belowX_alloc HB3.out _⟩
            case measure => simp [intOf]; omega
          | false =>
            have R := Lib.hid (show c0 + cnt (x.take (j + 1)) op = c0 + c1 by rw [HY.out, HCS.out, ho]; rfl)
            go_wp2_with fail
            go_roundw
            case rel => exact ⟨j + 1, by omega, by go_num, by rw [R.out], belowX_alloc HB3.out _⟩
            case measure => simp [intOf]; omega
        · have hje : (cn : Int) ≤ (j : Int) := by omega
          have R := Lib.hid (show c0 + cnt (x.take j) op = cntB (p.blks.take (m + 1)) op by rw [HX.out, HS.out, List.take_of_length_le (by rw [HCL.out]; omega)])
          rw [R.out]
          go_wp2_with fail
          go_roundw
          case rel => exact ⟨m + 1, by omega, by go_num, rfl, HBW.out.trans (Below.mono HB3.out HBW.out.size)⟩
          case measure => simp [intOf]; omega
    · have hme : (q.bn : Int) ≤ (m : Int) := by omega
      have R := Lib.hid (show p.blks.take m = p.blks from List.take_of_length_le (by rw [hbl.out]; omega))
      rw [R.out]
      go_wp2_with fail
      go_ret
      exact ⟨rfl, B_0.out.trans (Below.mono HBW.out B_0.out.size)⟩
end Go.Proofs.Ytdjfgodjdcfibaa
