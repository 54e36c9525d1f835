/- The reference: Same, of two that are the same: the walk. -/
import Derived.Test.YtddkckppmjcclaaG1
namespace Go.Proofs.Ytddkckppmjcclaa
open Go.RowKit
set_option linter.unusedSimpArgs false
set_option linter.unusedVariables false
set_option maxRecDepth 100000 in
set_option maxHeartbeats 8000000 in
theorem Same_yes (p : Pr) (q q2 : PAt) (w : World) (h : Prg w p q) (h2 : Prg w p q2) : Calls Try.prog 16 #[prV p q, prV p q2] w fun e w' => e = .returned (.bool true) ∧ Below w.heap.size w w' := by
  have hcn : q2.cn = q.cn := by rw [← h.caps.len_eq, ← h2.caps.len_eq]
  have hsn : q2.sn = q.sn := by rw [← h.sels.len, ← h2.sels.len]
  have hbn : q2.bn = q.bn := by rw [← h.blks.len, ← h2.blks.len]
  obtain ⟨ca, cn, cc, sa, sn, sc, ba, bn, bc⟩ := q
  obtain ⟨ca2, cn2, cc2, sa2, sn2, sc2, ba2, bn2, bc2⟩ := q2
  dsimp only at hcn hsn hbn
  subst hcn hsn hbn
  have hcl : cn2 ≤ 9223372036854775807 := h.caps.len_le
  have hbl : bn2 ≤ 9223372036854775807 := by have := h.blks.caps; unfold maxLen at this; dsimp only at this; omega
  have K1 := Lib.hid ((Bx.new w (prC p ⟨ca, cn2, cc, sa, sn2, sc, ba, bn2, bc⟩) 26).below (below_alloc _ (.cells (prC p ⟨ca2, cn2, cc2, sa2, sn2, sc2, ba2, bn2, bc2⟩) 26)))
  have K2 := Lib.hid (Bx.new2 w (.cells (prC p ⟨ca, cn2, cc, sa, sn2, sc, ba, bn2, bc⟩) 26) (prC p ⟨ca2, cn2, cc2, sa2, sn2, sc2, ba2, bn2, bc2⟩) 26)
  have BB := Lib.hid ((below_alloc w (.cells (prC p ⟨ca, cn2, cc, sa, sn2, sc, ba, bn2, bc⟩) 26)).trans (Below.mono (below_alloc (w.alloc (.cells (prC p ⟨ca, cn2, cc, sa, sn2, sc, ba, bn2, bc⟩) 26)) (.cells (prC p ⟨ca2, cn2, cc2, sa2, sn2, sc2, ba2, bn2, bc2⟩) 26)) (by simp)))
  have P1 := Lib.hid (h.below BB.out); have P2 := Lib.hid (h2.below BB.out)
  clear h h2
  obtain ⟨b1, hb1⟩ : ∃ b, b = w.heap.size := ⟨_, rfl⟩
  obtain ⟨b2, hb2⟩ : ∃ b, b = w.heap.size + 1 := ⟨_, rfl⟩
  obtain ⟨w1, hw1⟩ : ∃ x, x = (w.alloc (.cells (prC p ⟨ca, cn2, cc, sa, sn2, sc, ba, bn2, bc⟩) 26)).alloc (.cells (prC p ⟨ca2, cn2, cc2, sa2, sn2, sc2, ba2, bn2, bc2⟩) 26) := ⟨_, rfl⟩
  have HB1 := Lib.hid hb1; have HB2 := Lib.hid hb2; have HW1 := Lib.hid hw1
  rw [← hw1] at K1 K2 BB P1 P2
  rw [← hb1] at K1
  rw [← hb2] at K2
  clear hw1 hb1 hb2
  have HS := Lib.hid (fun W H H2 => selects_yes sa sa2 sn2 sn2 sc sc2 p.sels W H H2)
  go_enter Try.func16, Try.ntmps16
  go_upto_region 1 with (fail)
  rw [← HW1.out, ← HB2.out, ← HB1.out]
  obtain ⟨x0, x1, x2, x3, x4, x5⟩ := K1.out.cells6
  obtain ⟨y0, y1, y2, y3, y4, y5⟩ := K2.out.cells6
  dsimp only at x0 x1 x2 x3 x4 x5 y0 y1 y2 y3 y4 y5
  go_wp2_with fail
  clear x0 x1 x2 x3 x4 x5 y0 y1 y2 y3 y4 y5
  refine (HS.out _ P1.out.sels P2.out.sels).mono ?_
  rintro e w2 ⟨rfl, hb⟩
  have K1n := Lib.hid (K1.out.below hb); have K2n := Lib.hid (K2.out.below hb); have BBn := Lib.hid (BB.out.trans (Below.mono hb BB.out.size)); have P1n := Lib.hid (P1.out.below hb); have P2n := Lib.hid (P2.out.below hb)
  clear hb K1 K2 BB P1 P2 HS
  have K1 := K1n; have K2 := K2n; have BB := BBn; have P1 := P1n; have P2 := P2n
  clear K1n K2n BBn P1n P2n
  obtain ⟨x0, x1, x2, x3, x4, x5⟩ := K1.out.cells6
  obtain ⟨y0, y1, y2, y3, y4, y5⟩ := K2.out.cells6
  dsimp only at x0 x1 x2 x3 x4 x5 y0 y1 y2 y3 y4 y5
  go_upto_region 3 with (fail)
  go_wp2_with fail
  clear x0 x1 x2 x3 x4 x5 y0 y1 y2 y3 y4 y5
  go_loopw [55] (fun i wr => ∃ k : Nat, k ≤ cn2 ∧ i = .int .i64 k ∧ Below w2.heap.size w2 wr) (fun i _ => cn2 - (intOf i).toNat)
  case atStart => exact ⟨0, Nat.zero_le _, rfl, Below.refl _ _⟩
  case round =>
    obtain ⟨k, hk, rfl, hb⟩ := hrel
    by_cases hlt : k < cn2
    · obtain ⟨b3, o3, ha3, e0⟩ := (P1.out.caps.below hb).cell k hlt
      obtain ⟨b4, o4, ha4, f0⟩ := (P2.out.caps.below hb).cell k hlt
      obtain ⟨n, hn⟩ : ∃ n, n = en p.caps k := ⟨_, rfl⟩
      rw [← hn] at e0 f0
      clear hn
      dsimp only at ha3 ha4
      have hlt' : (k : Int) < (cn2 : Int) := by omega
      have x0 := Bx.cell (K1.out.below hb) 0 rfl
      have y0 := Bx.cell (K2.out.below hb) 0 rfl
      simp only [List.getElem_toArray, List.getElem_cons_zero] at x0 y0
      try dsimp only at x0 y0
      rw [ha3] at x0
      rw [ha4] at y0
      have HB := Lib.hid hb
      clear ha3 ha4 hb
      go_wp2_with fail
      go_quiet (fail)
      have hb' := below_drewN HB.out nq
      go_wp2_with fail
      go_roundw
      case rel => exact ⟨k + 1, by omega, by go_num, hb'⟩
      case measure => simp [intOf]; omega
    · have hke : k = cn2 := by omega
      subst hke
      have K1n := Lib.hid (K1.out.below hb); have K2n := Lib.hid (K2.out.below hb); have BBn := Lib.hid (BB.out.trans (Below.mono hb BB.out.size)); have P1n := Lib.hid (P1.out.below hb); have P2n := Lib.hid (P2.out.below hb)
      clear hb K1 K2 BB P1 P2
      have K1 := K1n; have K2 := K2n; have BB := BBn; have P1 := P1n; have P2 := P2n
      clear K1n K2n BBn P1n P2n
      obtain ⟨x0, x1, x2, x3, x4, x5⟩ := K1.out.cells6
      dsimp only at x0 x1 x2 x3 x4 x5
      go_wp2_with fail
      clear x0 x1 x2 x3 x4 x5
      obtain ⟨wq, hwq⟩ : ∃ x, x = wr := ⟨_, rfl⟩
      subst hwq
      go_loopw [73] (fun i wr => ∃ k : Nat, k ≤ bn2 ∧ i = .int .i64 k ∧ Below wq.heap.size wq wr) (fun i _ => bn2 - (intOf i).toNat)
      case atStart => exact ⟨0, Nat.zero_le _, rfl, Below.refl _ _⟩
      case round =>
        obtain ⟨k, hk, rfl, hb⟩ := hrel
        by_cases hlt2 : k < bn2
        · obtain ⟨x, b3, o3, da, dn, dc, hx, ha3, e0, hk1⟩ := (P1.out.blks.below hb).at k hlt2
          obtain ⟨y, b4, o4, ea, en_, ec, hy, ha4, f0, hk2⟩ := (P2.out.blks.below hb).at k hlt2
          have hxy : y = x := by rw [hx] at hy; cases hy; rfl
          subst hxy
          dsimp only at ha3 ha4
          have HI := Lib.hid (fun W (H : Below wr.heap.size wr W) => Instrs_yes da ea dn en_ dc ec y W (hk1.below H) (hk2.below H))
          have hlt' : (k : Int) < (bn2 : Int) := by omega
          have x0 := Bx.cell (K1.out.below hb) 5 rfl
          have y0 := Bx.cell (K2.out.below hb) 5 rfl
          simp only [List.getElem_toArray, List.getElem_cons_zero, List.getElem_cons_succ] at x0 y0
          try dsimp only at x0 y0
          rw [ha3] at x0
          rw [ha4] at y0
          have HX0 := Lib.hid x0; have HY0 := Lib.hid y0; have HE0 := Lib.hid e0; have HF0 := Lib.hid f0
          have HB := Lib.hid hb
          clear ha3 ha4 hb hk1 hk2 hx hy x0 y0 e0 f0
          go_upto_region 12 with (fail)
          have HSS := Lib.hid (show ∀ W, Below wr.heap.size wr W → (fun W => W.cell? ⟨b1, 5, none⟩ = some (.slice (some ⟨b3, o3, none⟩) bn2 bc) ∧ W.cell? ⟨b2, 5, none⟩ = some (.slice (some ⟨b4, o4, none⟩) bn2 bc2) ∧ W.cell? ⟨b3, o3 + k, none⟩ = some (.slice da dn dc) ∧ W.cell? ⟨b4, o4 + k, none⟩ = some (.slice ea en_ ec)) W from fun W hb => ⟨(hb.cell (World.block_lt_of_cell? _ _ HX0.out)).trans HX0.out, (hb.cell (World.block_lt_of_cell? _ _ HY0.out)).trans HY0.out, (hb.cell (World.block_lt_of_cell? _ _ HE0.out)).trans HE0.out, (hb.cell (World.block_lt_of_cell? _ _ HF0.out)).trans HF0.out⟩)
          refine wp_region_held_drew (S := (fun W => W.cell? ⟨b1, 5, none⟩ = some (.slice (some ⟨b3, o3, none⟩) bn2 bc) ∧ W.cell? ⟨b2, 5, none⟩ = some (.slice (some ⟨b4, o4, none⟩) bn2 bc2) ∧ W.cell? ⟨b3, o3 + k, none⟩ = some (.slice da dn dc) ∧ W.cell? ⟨b4, o4 + k, none⟩ = some (.slice ea en_ ec))) (by kernel_rfl) (HSS.out _ (Below.refl _ _).drew) (fun hHeld => ?_)
          (try simp only [Act.put, List.getElem_toArray, List.getElem_cons_zero, List.getElem_cons_succ, List.setIfInBounds_toArray, List.set_cons_zero, List.set_cons_succ])
          refine wpAnyH_take (i := 0) (v := ?_) rfl (by kernel_rfl) (by kernel_rfl) (by kernel_rfl) (fun _ _ _ h => h) (Or.inl ⟨by rfl, ?_⟩) (by assumption) ?_
          rotate_left
          · (intro w hSw; (try dsimp only at hSw); go_simp; try with_reducible rfl)
          (try simp only [Act.put, List.getElem_toArray, List.getElem_cons_zero, List.getElem_cons_succ, List.setIfInBounds_toArray, List.set_cons_zero, List.set_cons_succ])
          refine wpAnyH_take (i := 1) (v := ?_) rfl (by kernel_rfl) (by kernel_rfl) (by kernel_rfl) (fun _ _ _ h => h) (Or.inl ⟨by rfl, ?_⟩) (by assumption) ?_
          rotate_left
          · (intro w hSw; (try dsimp only at hSw); go_simp; try with_reducible rfl)
          (try simp only [Act.put, List.getElem_toArray, List.getElem_cons_zero, List.getElem_cons_succ, List.setIfInBounds_toArray, List.set_cons_zero, List.set_cons_succ])
          refine wpAnyH_take (i := 2) (v := ?_) rfl (by kernel_rfl) (by kernel_rfl) (by kernel_rfl) (fun _ _ _ h => h) (Or.inl ⟨by rfl, ?_⟩) (by assumption) ?_
          rotate_left
          · (intro w hSw; (try dsimp only at hSw); go_simp; try with_reducible rfl)
          (try simp only [Act.put, List.getElem_toArray, List.getElem_cons_zero, List.getElem_cons_succ, List.setIfInBounds_toArray, List.set_cons_zero, List.set_cons_succ])
          refine wpAnyH_take (i := 3) (v := ?_) rfl (by kernel_rfl) (by kernel_rfl) (by kernel_rfl) (fun _ _ _ h => h) (Or.inl ⟨by rfl, ?_⟩) (by assumption) ?_
          rotate_left
          · (intro w hSw; (try dsimp only at hSw); go_simp; try with_reducible rfl)
          (try simp only [Act.put, List.getElem_toArray, List.getElem_cons_zero, List.getElem_cons_succ, List.setIfInBounds_toArray, List.set_cons_zero, List.set_cons_succ])
          refine wpAnyH_take (i := 4) (v := ?_) rfl (by kernel_rfl) (by kernel_rfl) (by kernel_rfl) (fun _ _ _ h => h) (Or.inl ⟨by rfl, ?_⟩) (by assumption) ?_
          rotate_left
          · (intro w hSw; (try dsimp only at hSw); go_simp; try with_reducible rfl)
          (try simp only [Act.put, List.getElem_toArray, List.getElem_cons_zero, List.getElem_cons_succ, List.setIfInBounds_toArray, List.set_cons_zero, List.set_cons_succ])
          refine wpAnyH_take (i := 5) (v := ?_) rfl (by kernel_rfl) (by kernel_rfl) (by kernel_rfl) (fun _ _ _ h => h) (Or.inl ⟨by rfl, ?_⟩) (by assumption) ?_
          rotate_left
          · (intro w hSw; (try dsimp only at hSw); go_simp; try with_reducible rfl)
          (try simp only [Act.put, List.getElem_toArray, List.getElem_cons_zero, List.getElem_cons_succ, List.setIfInBounds_toArray, List.set_cons_zero, List.set_cons_succ])
          refine wpAnyH_take (i := 6) (v := ?_) rfl (by kernel_rfl) (by kernel_rfl) (by kernel_rfl) (fun _ _ _ h => h) (Or.inl ⟨by rfl, ?_⟩) (by assumption) ?_
          rotate_left
          · (intro w hSw; (try dsimp only at hSw); go_simp; try with_reducible rfl)
          (try simp only [Act.put, List.getElem_toArray, List.getElem_cons_zero, List.getElem_cons_succ, List.setIfInBounds_toArray, List.set_cons_zero, List.set_cons_succ])
          refine wpAnyH_take (i := 7) (v := ?_) rfl (by kernel_rfl) (by kernel_rfl) (by kernel_rfl) (fun _ _ _ h => h) (Or.inl ⟨by rfl, ?_⟩) (by assumption) ?_
          rotate_left
          · (intro w hSw; (try dsimp only at hSw); go_simp; try with_reducible rfl)
          (try simp only [Act.put, List.getElem_toArray, List.getElem_cons_zero, List.getElem_cons_succ, List.setIfInBounds_toArray, List.set_cons_zero, List.set_cons_succ])
          refine wpAnyH_take (i := 8) (v := ?_) rfl (by kernel_rfl) (by kernel_rfl) (by kernel_rfl) (fun _ _ _ h => h) (Or.inl ⟨by rfl, ?_⟩) (by assumption) ?_
          rotate_left
          · (intro w hSw; (try dsimp only at hSw); go_simp; try with_reducible rfl)
          (try simp only [Act.put, List.getElem_toArray, List.getElem_cons_zero, List.getElem_cons_succ, List.setIfInBounds_toArray, List.set_cons_zero, List.set_cons_succ])
          refine wpAnyH_take (i := 9) (v := ?_) rfl (by kernel_rfl) (by kernel_rfl) (by kernel_rfl) (fun _ _ _ h => h) (Or.inl ⟨by rfl, ?_⟩) (by assumption) ?_
          rotate_left
          · (intro w hSw; (try dsimp only at hSw); go_simp; try with_reducible rfl)
          (try simp only [Act.put, List.getElem_toArray, List.getElem_cons_zero, List.getElem_cons_succ, List.setIfInBounds_toArray, List.set_cons_zero, List.set_cons_succ])
          refine wpAnyH_ready (rs := [10]) (by kernel_rfl) (by simp) ?_
          refine AllReadyH.cons (o := _) rfl (fun K hK => ?_) AllReadyH.nil
          go_simp
          refine (HI.out wr.drew (Below.refl _ _).drew).mono ?_
          rintro e w5 ⟨rfl, hb⟩
          have HB5 := Lib.hid (show Below wr.heap.size wr w5 from (Below.refl _ _).drew.trans hb)
          clear hb
          clear hHeld
          refine hK.out _ _ (HSS.out _ HB5.out) (fun hHeld => ?_)
          clear hK K
          (try simp only [Act.put, List.getElem_toArray, List.getElem_cons_zero, List.getElem_cons_succ, List.setIfInBounds_toArray, List.set_cons_zero, List.set_cons_succ])
          refine wpAnyH_take (i := 11) (v := ?_) rfl (by kernel_rfl) (by kernel_rfl) (by kernel_rfl) (fun _ _ _ h => h) (Or.inl ⟨by rfl, ?_⟩) (by assumption) ?_
          rotate_left
          · (intro w hSw; (try dsimp only at hSw); go_simp; try with_reducible rfl)
          (try simp only [Act.put, List.getElem_toArray, List.getElem_cons_zero, List.getElem_cons_succ, List.setIfInBounds_toArray, List.set_cons_zero, List.set_cons_succ])
          refine wpAnyH_done (by kernel_rfl) ?_ _
          clear hHeld
          have hb' := HB.out.trans (Below.mono HB5.out HB.out.size)
          go_wp2_with fail
          go_roundw
          case rel => exact ⟨k + 1, by omega, by go_num, hb'⟩
          case measure => simp [intOf]; omega
        · have hke : k = bn2 := by omega
          subst hke
          have hb2 := BB.out.trans (Below.mono hb BB.out.size)
          go_wp2_with fail
          go_ret
          exact ⟨rfl, hb2⟩
end Go.Proofs.Ytddkckppmjcclaa
