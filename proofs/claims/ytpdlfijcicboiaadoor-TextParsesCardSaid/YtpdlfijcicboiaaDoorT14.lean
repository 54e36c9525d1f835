/- A piece that is read: the reference. -/
import Derived.Test.YtpdlfijcicboiaaDoorT13
import Derived.Deep.RegionHeld
namespace Go.Proofs.YtpdlfijcicboiaaDoor
open Go.RowKit
set_option linter.unusedSimpArgs false
set_option linter.unusedVariables false
set_option maxRecDepth 100000 in
set_option maxHeartbeats 8000000 in
theorem piece_any (s : ByteArray) (w : World) (hs : s.size ≤ 10000) : Calls Tryd.prog 27 #[.string s] w (InsTo w (paZ s)) := by
  have B0 := Lib.hid (below_alloc w (.cells #[.int .i64 0, .int .i64 0, .int .i64 0] 31))
  have K0 := Lib.hid (Bx.new w #[.int .i64 0, .int .i64 0, .int .i64 0] 31)
  have HS := Lib.hid (refCut_any s spB (w.alloc (.cells #[.int .i64 0, .int .i64 0, .int .i64 0] 31)) (by decide) hs (by decide))
  unfold GotT spB at HS
  have HPL : Hid (∀ x ∈ pcB s ⟨#[32]⟩, x.size ≤ 10000) := Lib.hid (fun x hx => by have := pcB_le hx; omega)
  have HPN := Lib.hid (pcB_len s ⟨#[32]⟩ (by decide))
  have HZ : Hid (paZ s = paW (pcB s ⟨#[32]⟩)) := Lib.hid rfl
  obtain ⟨b0, hb0⟩ : ∃ z, z = w.heap.size := ⟨_, rfl⟩
  obtain ⟨v0, hv0⟩ : ∃ z, z = w.alloc (.cells #[.int .i64 0, .int .i64 0, .int .i64 0] 31) := ⟨_, rfl⟩
  rw [← hv0] at B0 K0 HS
  rw [← hb0] at K0
  have HB0 := Lib.hid hb0; have HV0 := Lib.hid hv0
  have HL0 := Lib.hid (show w.heap.size ≤ b0 by omega)
  clear hb0 hv0
  go_enter Tryd.func27, Tryd.ntmps27
  go_upto_region 1 with (fail)
  rw [← HV0.out, ← HB0.out]
  go_wp2_with fail
  refine HS.out.mono ?_
  rintro e w1 ⟨a, n, c, rfl, hT, hb⟩
  have hn := Recs.len_eq hT
  have hnc := Recs.le_cap hT
  have hncm := Recs.cap_le hT
  have hn1 : 1 ≤ n := by rw [← hn, HPN.out]; omega
  obtain ⟨W, hW⟩ : ∃ W, W = pcB s ⟨#[32]⟩ := ⟨_, rfl⟩
  rw [← hW] at hT hn HPL HZ
  have T1 := Lib.hid hT
  have K1 := Lib.hid (K0.out.below hb); have B1 := Lib.hid (B0.out.trans (Below.mono hb B0.out.size))
  obtain ⟨ab, off, rfl, hc0, hx0⟩ := hT.at 0 (by omega)
  have HX0 := Lib.hid (HPL.out _ hx0)
  have HN := Lib.hid hn
  rw [Nat.add_zero] at hc0
  clear hb hW hT hn hx0 HS K0 B0
  obtain ⟨x0, hx0⟩ : ∃ x0, x0 = wat W 0 := ⟨_, rfl⟩
  rw [← hx0] at hc0 HX0
  have HXE := Lib.hid hx0
  have HOP := Lib.hid (fun V => refOp_any x0 V)
  clear hx0
  unfold maxLen at hncm
  cases hop : opS 14 x0 with
  | none =>
    have HR := Lib.hid (show paW W = (zeroI, 11) by unfold paW; rw [← HXE.out, hop])
    have hz : opZ x0 = -1 := by unfold opZ; rw [hop]
    rw [hz] at HOP
    clear hop hz
    go_wp2_with fail
    refine (HOP.out _).mono ?_
    rintro e wp ⟨rfl, hb⟩
    have K1 := Lib.hid (K1.out.below hb); have T1 := Lib.hid (show Txts _ _ _ _ _ from Recs.below T1.out hb); have B1 := Lib.hid (B1.out.trans (Below.mono hb B1.out.size)); have hc0 := (hb.cell (cell_lt hc0)).trans hc0
    clear hb
    obtain ⟨y0, y1, y2⟩ := Bx.cells3 K1.out
    have l0 := Bx.lt K1.out; have f0 := Bx.froz K1.out 0; have f1 := Bx.froz K1.out 1; have f2 := Bx.froz K1.out 2
    go_wp2_with fail
    exact bodyPost_ret (ins_res (x := zeroI) (p := 2) (u := 3) rfl _ rfl (Bx.st3 K1.out _ _ _)) rfl ⟨ret_ins (HZ.out.trans HR.out), st3_below B1.out HL0.out B1.out.size _ _ _⟩
  | some j =>
    have hj : j < 14 := opS_lt x0 14 j hop
    have HR : Hid (paW W = if (W.length : Int) = 1 + numZ (j : Int) then (if okUp W (W.length - 1) = true then (⟨(j : Int), numAt W (W.length - 1) 0, numAt W (W.length - 1) 1⟩, 0) else (zeroI, 12)) else (zeroI, 12)) := Lib.hid (by unfold paW; rw [← HXE.out, hop])
    have hz : opZ x0 = (j : Int) := by unfold opZ; rw [hop]
    rw [hz] at HOP
    clear hz
    have HNB := Lib.hid (fun V => refNumbers_any (j : Int) V)
    obtain ⟨m, hm⟩ : ∃ m, m = numZ (j : Int) := ⟨_, rfl⟩
    rw [← hm] at HNB HR
    have hmc : m = 0 ∨ m = 1 ∨ m = 2 := by rw [hm]; exact numZ_cases _
    clear hop hm
    have hj0 : ¬ (j : Int) < 0 := by omega
    go_wp2_with fail
    refine (HOP.out _).mono ?_
    rintro e wp ⟨rfl, hb⟩
    have K1 := Lib.hid (K1.out.below hb); have T1 := Lib.hid (show Txts _ _ _ _ _ from Recs.below T1.out hb); have B1 := Lib.hid (B1.out.trans (Below.mono hb B1.out.size)); have hc0 := (hb.cell (cell_lt hc0)).trans hc0
    clear hb
    by_cases hne : (n : Int) - 1 = m
    · have HR2 := Lib.hid (HR.out.trans (if_pos (by rw [HN.out]; omega)))
      have hneb : ((n : Int) - 1 == m) = true := by rw [beq_iff_eq]; exact hne
      have hne2 : ((n : Int) - 1 != m) = false := by simp [hneb, bne]
      have BA := below_alloc wp (.cells #[.int .i64 0, .int .i64 0] 3)
      have A2 := Lib.hid (Bx.new wp #[.int .i64 0, .int .i64 0] 3)
      have K2 := Lib.hid (K1.out.below BA); have T2 := Lib.hid (show Txts _ _ _ _ _ from Recs.below T1.out BA); have B2 := Lib.hid (B1.out.trans (Below.mono BA B1.out.size))
      have hlt0 := Bx.lt K1.out
      have hs1 := B1.out.size
      obtain ⟨b1, hb1⟩ : ∃ z, z = wp.heap.size := ⟨_, rfl⟩
      obtain ⟨v1, hv1⟩ : ∃ z, z = wp.alloc (.cells #[.int .i64 0, .int .i64 0] 3) := ⟨_, rfl⟩
      rw [← hv1] at A2 K2 T2 B2
      rw [← hb1] at A2
      have n01 : b0 ≠ b1 := by omega
      have HL1 := Lib.hid (show w.heap.size ≤ b1 by omega)
      have HB1 := Lib.hid hb1; have HV1 := Lib.hid hv1
      clear hb1 hv1 BA hlt0 hs1
      go_wp2_with fail
      refine (HNB.out _).mono ?_
      rintro e w2 ⟨rfl, rfl⟩
      go_upto_region 8 with (fail)
      rw [← HV1.out, ← HB1.out]
      have hn2 : 1 ≤ c := by omega
      have HML := Lib.hid (show W.length - 1 = n - 1 by rw [HN.out])
      obtain ⟨M, hM⟩ : ∃ M, M = n - 1 := ⟨_, rfl⟩
      rw [← hM] at HML
      have hM2 : M ≤ 2 := by omega
      have hMn : n = M + 1 := by omega
      have HM := Lib.hid hM
      have HMN := Lib.hid hMn
      have hhc : c = 1 ∨ ¬ c = 1 := by omega
      have hm1 : (1 : Int) ≤ (n : Int) := by omega
      have nab1 : ab ≠ b1 := by have := HB1.out; have := cell_lt hc0; dsimp only at this; omega
      clear hmc hn1 hM hMn hc0 HX0
      have e1 : n - 1 = M := HM.out.symm
      have hcm : M ≤ c - 1 := by omega
      rcases hhc with hc1 | hc1
      · go_wp2_with fail
        clear e1
        go_loopw [31] (fun i wr => ∃ k : Nat, k ≤ M ∧ i = .int .i64 k ∧ okUp W k = true ∧ Bx wr b1 (numC W k) 3 ∧ Bx wr b0 #[.int .i64 0, .int .i64 0, .int .i64 0] 31 ∧ Txts wr (some ⟨ab, off, none⟩) n c W ∧ Below w.heap.size w wr) (fun i _ => M - (intOf i).toNat)
        case atStart => exact ⟨0, Nat.zero_le _, rfl, rfl, A2.out, K2.out, T2.out, B2.out⟩
        case round =>
          obtain ⟨k, hk, rfl, hok, hA, hK, hT, hb⟩ := hrel
          have A3 := Lib.hid hA; have K3 := Lib.hid hK; have T3 := Lib.hid hT; have B3 := Lib.hid hb
          have HOK := Lib.hid hok
          clear hA hK hT hb hok
          by_cases hlt : k < M
          · have hlt' : (k : Int) < (M : Int) := by omega
            exact absurd hlt (by omega)
          · have hke : k = M := by omega
            subst hke
            have HR3 := Lib.hid (HR2.out.trans (if_pos (by rw [HML.out]; exact HOK.out)))
            rw [HML.out] at HR3
            have DR : Below wr.heap.size wr wr.drew := (Below.refl _ _).drew
            have A4 := Lib.hid (A3.out.below DR); have K4 := Lib.hid (K3.out.below DR); have B4 := Lib.hid (B3.out.trans (Below.mono DR B3.out.size))
            clear DR
            have HSS := Lib.hid (fun (V : World) (h : Bx V b1 (numC W k) 3) => Bx.cells2 h)
            go_upto_region 16 with (fail)
            refine wp_region_held_drew (S := (fun V => V.cell? ⟨b1, 0, none⟩ = some (.int .i64 (numAt W k 0)) ∧ V.cell? ⟨b1, 1, none⟩ = some (.int .i64 (numAt W k 1)))) (by kernel_rfl) (HSS.out _ A4.out) (fun hHeld => ?_)
            (try simp only [Act.put, List.getElem_toArray, List.getElem_cons_zero, List.getElem_cons_succ, List.setIfInBounds_toArray, List.set_cons_zero, List.set_cons_succ])
            obtain ⟨w4, hw4⟩ : ∃ z, z = wr.drew := ⟨_, rfl⟩
            rw [← hw4] at A4 K4 B4 ⊢
            clear hw4
            clear hHeld
            have hHeld := HSS.out _ A4.out
            refine wpAnyH_take (i := 0) (v := ?_) rfl (by kernel_rfl) (by kernel_rfl) (by kernel_rfl) (fun _ _ _ h => h) (Or.inl ⟨by rfl, ?_⟩) (by assumption) ?_
            rotate_left
            · (intro w hSw; (try dsimp only at hSw); go_simp; try with_reducible rfl)
            (try simp only [Act.put, List.getElem_toArray, List.getElem_cons_zero, List.getElem_cons_succ, List.setIfInBounds_toArray, List.set_cons_zero, List.set_cons_succ])
            refine wpAnyH_take (i := 1) (v := ?_) rfl (by kernel_rfl) (by kernel_rfl) (by kernel_rfl) (fun _ _ _ h => h) (Or.inl ⟨by rfl, ?_⟩) (by assumption) ?_
            rotate_left
            · (intro w hSw; (try dsimp only at hSw); go_simp; try with_reducible rfl)
            (try simp only [Act.put, List.getElem_toArray, List.getElem_cons_zero, List.getElem_cons_succ, List.setIfInBounds_toArray, List.set_cons_zero, List.set_cons_succ])
            refine wpAnyH_take (i := 2) (v := ?_) rfl (by kernel_rfl) (by kernel_rfl) (by kernel_rfl) (fun _ _ _ h => h) (Or.inl ⟨by rfl, ?_⟩) (by assumption) ?_
            rotate_left
            · (intro w hSw; (try dsimp only at hSw); go_simp; try with_reducible rfl)
            (try simp only [Act.put, List.getElem_toArray, List.getElem_cons_zero, List.getElem_cons_succ, List.setIfInBounds_toArray, List.set_cons_zero, List.set_cons_succ])
            refine wpAnyH_take (i := 3) (v := ?_) rfl (by kernel_rfl) (by kernel_rfl) (by kernel_rfl) (fun _ _ _ h => h) (Or.inl ⟨by rfl, ?_⟩) (by assumption) ?_
            rotate_left
            · (intro w hSw; (try dsimp only at hSw); go_simp; try with_reducible rfl)
            (try simp only [Act.put, List.getElem_toArray, List.getElem_cons_zero, List.getElem_cons_succ, List.setIfInBounds_toArray, List.set_cons_zero, List.set_cons_succ])
            refine wpAnyH_take (i := 4) (v := ?_) rfl (by kernel_rfl) (by kernel_rfl) (by kernel_rfl) (fun _ _ _ h => h) (Or.inl ⟨by rfl, ?_⟩) (by assumption) ?_
            rotate_left
            · (intro w hSw; (try dsimp only at hSw); go_simp; try with_reducible rfl)
            (try simp only [Act.put, List.getElem_toArray, List.getElem_cons_zero, List.getElem_cons_succ, List.setIfInBounds_toArray, List.set_cons_zero, List.set_cons_succ])
            refine wpAnyH_take (i := 5) (v := ?_) rfl (by kernel_rfl) (by kernel_rfl) (by kernel_rfl) (fun _ _ _ h => h) (Or.inl ⟨by rfl, ?_⟩) (by assumption) ?_
            rotate_left
            · (intro w hSw; (try dsimp only at hSw); go_simp; try with_reducible rfl)
            (try simp only [Act.put, List.getElem_toArray, List.getElem_cons_zero, List.getElem_cons_succ, List.setIfInBounds_toArray, List.set_cons_zero, List.set_cons_succ])
            refine wpAnyH_take (i := 6) (v := ?_) rfl (by kernel_rfl) (by kernel_rfl) (by kernel_rfl) (fun _ _ _ h => h) (Or.inl ⟨by rfl, ?_⟩) (by assumption) ?_
            rotate_left
            · (intro w hSw; (try dsimp only at hSw); go_simp; try with_reducible rfl)
            (try simp only [Act.put, List.getElem_toArray, List.getElem_cons_zero, List.getElem_cons_succ, List.setIfInBounds_toArray, List.set_cons_zero, List.set_cons_succ])
            refine wpAnyH_take (i := 7) (v := ?_) rfl (by kernel_rfl) (by kernel_rfl) (by kernel_rfl) (fun _ _ _ h => h) (Or.inl ⟨by rfl, ?_⟩) (by assumption) ?_
            rotate_left
            · (intro w hSw; (try dsimp only at hSw); go_simp; try with_reducible rfl)
            (try simp only [Act.put, List.getElem_toArray, List.getElem_cons_zero, List.getElem_cons_succ, List.setIfInBounds_toArray, List.set_cons_zero, List.set_cons_succ])
            obtain ⟨y0, y1, y2⟩ := Bx.cells3 K4.out
            have l0 := Bx.lt K4.out; have f0 := Bx.froz K4.out 0; have f1 := Bx.froz K4.out 1; have f2 := Bx.froz K4.out 2
            have A5 := Lib.hid (A4.out.other (grown_st3 (World.grownBy.refl w4 (some b0)) (.int .i64 (j : Int)) (.int .i64 (numAt W k 0)) (.int .i64 (numAt W k 1))) (some_ne (Ne.symm n01)))
            refine wpAnyH_ready (rs := [8]) (by kernel_rfl) (by simp) ?_
            refine AllReadyH.cons (o := _) rfl (fun K hK => ?_) AllReadyH.nil
            go_simp
            clear hHeld
            refine hK.out _ _ (HSS.out _ A5.out) (fun hHeld => ?_)
            clear hK K
            (try simp only [Act.put, List.getElem_toArray, List.getElem_cons_zero, List.getElem_cons_succ, List.setIfInBounds_toArray, List.set_cons_zero, List.set_cons_succ])
            refine wpAnyH_take (i := 9) (v := ?_) rfl (by kernel_rfl) (by kernel_rfl) (by kernel_rfl) (fun _ _ _ h => h) (Or.inl ⟨by rfl, ?_⟩) (by assumption) ?_
            rotate_left
            · (intro w hSw; (try dsimp only at hSw); go_simp; try with_reducible rfl)
            (try simp only [Act.put, List.getElem_toArray, List.getElem_cons_zero, List.getElem_cons_succ, List.setIfInBounds_toArray, List.set_cons_zero, List.set_cons_succ])
            refine wpAnyH_done (by kernel_rfl) ?_ _
            clear hHeld y0 y1 y2 l0 f0 f1 f2
            go_wp2_with fail
            exact bodyPost_ret (ins_res (x := ⟨(j : Int), numAt W k 0, numAt W k 1⟩) (p := 2) (u := 3) rfl _ rfl (Bx.st3 K4.out _ _ _)) rfl ⟨ret_ins (HZ.out.trans HR3.out), st3_below B4.out HL0.out B4.out.size _ _ _⟩
      · go_wp2_with fail
        clear e1
        go_loopw [31] (fun i wr => ∃ k : Nat, k ≤ M ∧ i = .int .i64 k ∧ okUp W k = true ∧ Bx wr b1 (numC W k) 3 ∧ Bx wr b0 #[.int .i64 0, .int .i64 0, .int .i64 0] 31 ∧ Txts wr (some ⟨ab, off, none⟩) n c W ∧ Below w.heap.size w wr) (fun i _ => M - (intOf i).toNat)
        case atStart => exact ⟨0, Nat.zero_le _, rfl, rfl, A2.out, K2.out, T2.out, B2.out⟩
        case round =>
          obtain ⟨k, hk, rfl, hok, hA, hK, hT, hb⟩ := hrel
          have A3 := Lib.hid hA; have K3 := Lib.hid hK; have T3 := Lib.hid hT; have B3 := Lib.hid hb
          have HOK := Lib.hid hok
          clear hA hK hT hb hok
          by_cases hlt : k < M
          · have hlt' : (k : Int) < (M : Int) := by omega
            obtain ⟨b', off', he, hc, hmem⟩ := T3.out.at (k + 1) (by have := HMN.out; omega)
            cases he
            have hsz := Lib.hid (HPL.out _ hmem)
            have HNU := Lib.hid (fun V => refNumber_any (wat W (k + 1)) V hsz.out)
            rw [show off + (k + 1) = off + 1 + k by omega] at hc
            unfold NumTo at HNU
            have HOS := Lib.hid (okUp_succ W k)
            have HOL := Lib.hid (fun m hm h => okUp_le W k m hm h)
            have hk2 : k < 2 := by omega
            have hk2' : (k : Int) < 2 := by omega
            have HCS := Lib.hid (numC_set W k hk2)
            obtain ⟨z, hz⟩ := numC_at W k hk2
            have HCA := Lib.hid hz
            obtain ⟨y, hy⟩ : ∃ y, y = wat W (k + 1) := ⟨_, rfl⟩
            rw [← hy] at hc HNU HOS HOL HCS
            clear hz hmem hy hsz
            go_wp2_with fail
            refine (HNU.out _).mono ?_
            rintro e w3 ⟨v, rfl, hv64, hveq, hb⟩
            have A4 := Lib.hid (A3.out.below hb); have K4 := Lib.hid (K3.out.below hb); have T4 := Lib.hid (show Txts _ _ _ _ _ from Recs.below T3.out hb); have B4 := Lib.hid (B3.out.trans (Below.mono hb B3.out.size))
            have HVE := Lib.hid hveq
            clear hb hc hveq
            have lA := Bx.lt A4.out; have fA := Bx.froz A4.out k; have cA := Bx.cell A4.out k HCA.out
            have G5 := Lib.hid (grow_setCell w3 b1 k (.int .i64 v))
            have A5 := Lib.hid (Bx.set A4.out k (.int .i64 v))
            have K5 := Lib.hid (K4.out.other G5.out (some_ne n01))
            have B5 := Lib.hid (B4.out.grown G5.out B4.out.size (fun j hj => by cases hj; exact HL1.out))
            cases ho : okL (tx y) with
            | true =>
              have HA : Hid ((numC W k).setIfInBounds k (.int .i64 v) = numC W (k + 1)) := Lib.hid (by rw [HVE.out ho]; exact HCS.out)
              have HO1 : Hid (okUp W (k + 1) = true) := Lib.hid (by rw [HOS.out, HOK.out, ho]; rfl)
              clear ho
              go_wp2_with fail
              go_roundw
              case rel => exact ⟨k + 1, by omega, by go_num, HO1.out, by rw [← HA.out]; exact A5.out, K5.out, T4.out.other G5.out (some_ne nab1), B5.out⟩
              case measure => simp [intOf]; omega
            | false =>
              have HR3 := Lib.hid (HR2.out.trans (if_neg (by rw [HML.out, HOL.out M hlt ho]; decide)))
              clear ho
              obtain ⟨y0, y1, y2⟩ := Bx.cells3 K4.out
              have l0 := Bx.lt K4.out; have f0 := Bx.froz K4.out 0; have f1 := Bx.froz K4.out 1; have f2 := Bx.froz K4.out 2
              go_wp2_with fail
              exact bodyPost_ret (ins_res (x := zeroI) (p := 2) (u := 3) rfl _ rfl (Bx.st3 K4.out _ _ _)) rfl ⟨ret_ins (HZ.out.trans HR3.out), st3_below B4.out HL0.out B4.out.size _ _ _⟩
          · have hke : k = M := by omega
            subst hke
            have HR3 := Lib.hid (HR2.out.trans (if_pos (by rw [HML.out]; exact HOK.out)))
            rw [HML.out] at HR3
            have DR : Below wr.heap.size wr wr.drew := (Below.refl _ _).drew
            have A4 := Lib.hid (A3.out.below DR); have K4 := Lib.hid (K3.out.below DR); have B4 := Lib.hid (B3.out.trans (Below.mono DR B3.out.size))
            clear DR
            have HSS := Lib.hid (fun (V : World) (h : Bx V b1 (numC W k) 3) => Bx.cells2 h)
            go_upto_region 16 with (fail)
            refine wp_region_held_drew (S := (fun V => V.cell? ⟨b1, 0, none⟩ = some (.int .i64 (numAt W k 0)) ∧ V.cell? ⟨b1, 1, none⟩ = some (.int .i64 (numAt W k 1)))) (by kernel_rfl) (HSS.out _ A4.out) (fun hHeld => ?_)
            (try simp only [Act.put, List.getElem_toArray, List.getElem_cons_zero, List.getElem_cons_succ, List.setIfInBounds_toArray, List.set_cons_zero, List.set_cons_succ])
            obtain ⟨w4, hw4⟩ : ∃ z, z = wr.drew := ⟨_, rfl⟩
            rw [← hw4] at A4 K4 B4 ⊢
            clear hw4
            clear hHeld
            have hHeld := HSS.out _ A4.out
            refine wpAnyH_take (i := 0) (v := ?_) rfl (by kernel_rfl) (by kernel_rfl) (by kernel_rfl) (fun _ _ _ h => h) (Or.inl ⟨by rfl, ?_⟩) (by assumption) ?_
            rotate_left
            · (intro w hSw; (try dsimp only at hSw); go_simp; try with_reducible rfl)
            (try simp only [Act.put, List.getElem_toArray, List.getElem_cons_zero, List.getElem_cons_succ, List.setIfInBounds_toArray, List.set_cons_zero, List.set_cons_succ])
            refine wpAnyH_take (i := 1) (v := ?_) rfl (by kernel_rfl) (by kernel_rfl) (by kernel_rfl) (fun _ _ _ h => h) (Or.inl ⟨by rfl, ?_⟩) (by assumption) ?_
            rotate_left
            · (intro w hSw; (try dsimp only at hSw); go_simp; try with_reducible rfl)
            (try simp only [Act.put, List.getElem_toArray, List.getElem_cons_zero, List.getElem_cons_succ, List.setIfInBounds_toArray, List.set_cons_zero, List.set_cons_succ])
            refine wpAnyH_take (i := 2) (v := ?_) rfl (by kernel_rfl) (by kernel_rfl) (by kernel_rfl) (fun _ _ _ h => h) (Or.inl ⟨by rfl, ?_⟩) (by assumption) ?_
            rotate_left
            · (intro w hSw; (try dsimp only at hSw); go_simp; try with_reducible rfl)
            (try simp only [Act.put, List.getElem_toArray, List.getElem_cons_zero, List.getElem_cons_succ, List.setIfInBounds_toArray, List.set_cons_zero, List.set_cons_succ])
            refine wpAnyH_take (i := 3) (v := ?_) rfl (by kernel_rfl) (by kernel_rfl) (by kernel_rfl) (fun _ _ _ h => h) (Or.inl ⟨by rfl, ?_⟩) (by assumption) ?_
            rotate_left
            · (intro w hSw; (try dsimp only at hSw); go_simp; try with_reducible rfl)
            (try simp only [Act.put, List.getElem_toArray, List.getElem_cons_zero, List.getElem_cons_succ, List.setIfInBounds_toArray, List.set_cons_zero, List.set_cons_succ])
            refine wpAnyH_take (i := 4) (v := ?_) rfl (by kernel_rfl) (by kernel_rfl) (by kernel_rfl) (fun _ _ _ h => h) (Or.inl ⟨by rfl, ?_⟩) (by assumption) ?_
            rotate_left
            · (intro w hSw; (try dsimp only at hSw); go_simp; try with_reducible rfl)
            (try simp only [Act.put, List.getElem_toArray, List.getElem_cons_zero, List.getElem_cons_succ, List.setIfInBounds_toArray, List.set_cons_zero, List.set_cons_succ])
            refine wpAnyH_take (i := 5) (v := ?_) rfl (by kernel_rfl) (by kernel_rfl) (by kernel_rfl) (fun _ _ _ h => h) (Or.inl ⟨by rfl, ?_⟩) (by assumption) ?_
            rotate_left
            · (intro w hSw; (try dsimp only at hSw); go_simp; try with_reducible rfl)
            (try simp only [Act.put, List.getElem_toArray, List.getElem_cons_zero, List.getElem_cons_succ, List.setIfInBounds_toArray, List.set_cons_zero, List.set_cons_succ])
            refine wpAnyH_take (i := 6) (v := ?_) rfl (by kernel_rfl) (by kernel_rfl) (by kernel_rfl) (fun _ _ _ h => h) (Or.inl ⟨by rfl, ?_⟩) (by assumption) ?_
            rotate_left
            · (intro w hSw; (try dsimp only at hSw); go_simp; try with_reducible rfl)
            (try simp only [Act.put, List.getElem_toArray, List.getElem_cons_zero, List.getElem_cons_succ, List.setIfInBounds_toArray, List.set_cons_zero, List.set_cons_succ])
            refine wpAnyH_take (i := 7) (v := ?_) rfl (by kernel_rfl) (by kernel_rfl) (by kernel_rfl) (fun _ _ _ h => h) (Or.inl ⟨by rfl, ?_⟩) (by assumption) ?_
            rotate_left
            · (intro w hSw; (try dsimp only at hSw); go_simp; try with_reducible rfl)
            (try simp only [Act.put, List.getElem_toArray, List.getElem_cons_zero, List.getElem_cons_succ, List.setIfInBounds_toArray, List.set_cons_zero, List.set_cons_succ])
            obtain ⟨y0, y1, y2⟩ := Bx.cells3 K4.out
            have l0 := Bx.lt K4.out; have f0 := Bx.froz K4.out 0; have f1 := Bx.froz K4.out 1; have f2 := Bx.froz K4.out 2
            have A5 := Lib.hid (A4.out.other (grown_st3 (World.grownBy.refl w4 (some b0)) (.int .i64 (j : Int)) (.int .i64 (numAt W k 0)) (.int .i64 (numAt W k 1))) (some_ne (Ne.symm n01)))
            refine wpAnyH_ready (rs := [8]) (by kernel_rfl) (by simp) ?_
            refine AllReadyH.cons (o := _) rfl (fun K hK => ?_) AllReadyH.nil
            go_simp
            clear hHeld
            refine hK.out _ _ (HSS.out _ A5.out) (fun hHeld => ?_)
            clear hK K
            (try simp only [Act.put, List.getElem_toArray, List.getElem_cons_zero, List.getElem_cons_succ, List.setIfInBounds_toArray, List.set_cons_zero, List.set_cons_succ])
            refine wpAnyH_take (i := 9) (v := ?_) rfl (by kernel_rfl) (by kernel_rfl) (by kernel_rfl) (fun _ _ _ h => h) (Or.inl ⟨by rfl, ?_⟩) (by assumption) ?_
            rotate_left
            · (intro w hSw; (try dsimp only at hSw); go_simp; try with_reducible rfl)
            (try simp only [Act.put, List.getElem_toArray, List.getElem_cons_zero, List.getElem_cons_succ, List.setIfInBounds_toArray, List.set_cons_zero, List.set_cons_succ])
            refine wpAnyH_done (by kernel_rfl) ?_ _
            clear hHeld y0 y1 y2 l0 f0 f1 f2
            go_wp2_with fail
            exact bodyPost_ret (ins_res (x := ⟨(j : Int), numAt W k 0, numAt W k 1⟩) (p := 2) (u := 3) rfl _ rfl (Bx.st3 K4.out _ _ _)) rfl ⟨ret_ins (HZ.out.trans HR3.out), st3_below B4.out HL0.out B4.out.size _ _ _⟩
    · have HR2 := Lib.hid (HR.out.trans (if_neg (by rw [HN.out]; omega)))
      have hneb : ((n : Int) - 1 == m) = false := by rw [beq_eq_false_iff_ne]; exact hne
      have hne2 : ((n : Int) - 1 != m) = true := by simp [hneb, bne]
      obtain ⟨y0, y1, y2⟩ := Bx.cells3 K1.out
      have l0 := Bx.lt K1.out; have f0 := Bx.froz K1.out 0; have f1 := Bx.froz K1.out 1; have f2 := Bx.froz K1.out 2
      go_wp2_with fail
      refine (HNB.out _).mono ?_
      rintro e w2 ⟨rfl, rfl⟩
      go_wp2_with fail
      exact bodyPost_ret (ins_res (x := zeroI) (p := 2) (u := 3) rfl _ rfl (Bx.st3 K1.out _ _ _)) rfl ⟨ret_ins (HZ.out.trans HR2.out), st3_below B1.out HL0.out B1.out.size _ _ _⟩
end Go.Proofs.YtpdlfijcicboiaaDoor
