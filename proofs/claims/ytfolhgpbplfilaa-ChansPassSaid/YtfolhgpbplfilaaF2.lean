/- The reference: Right. -/
import Derived.Test.YtfolhgpbplfilaaD1
namespace Go.Proofs.Ytfolhgpbplfilaa
open Go.RowKit
set_option maxRecDepth 100000 in
set_option maxHeartbeats 4000000 in
theorem refNumbers_any (n f k : Nat) (a : Option Addr) (cap : Nat) (zs : List Int) (fr tt : Int) (w : World) (hI : Ints w a n cap zs) (hn : n ≤ 8) (hf : f < max n 1) (hk : k ≤ n)
    (h0 : 0 ≤ fr) (h1 : fr ≤ tt) (h2 : tt ≤ 1048576) :
    Calls Try.prog 34 #[ringV n f (.slice a n cap) k, .int .i64 fr, .int .i64 tt] w fun e w' => e = .returned (.bool (decide (takenL n f k zs = runL fr (tt - fr).toNat))) ∧ Below w.heap.size w w' := by
  have A1 := Lib.hid (below_alloc w (.cells #[.int .i64 n, .int .i64 f, .slice a n cap, .int .i64 k] 24))
  have K1 := Lib.hid (Bx.new w #[.int .i64 n, .int .i64 f, .slice a n cap, .int .i64 k] 24)
  have HIT := Lib.hid (refItems_ok n f k a cap zs _ (hI.below A1.out) hn hf hk)
  unfold GotInts ringV at HIT
  have HLE := Lib.hid (show (takenL n f k zs).length = k from taken_len _ _ _ _)
  obtain ⟨L, hL⟩ : ∃ L, L = takenL n f k zs := ⟨_, rfl⟩
  rw [← hL] at HIT HLE ⊢
  have hk8 : k ≤ 8 := by omega
  clear hI hn hf hL
  unfold ringV
  go_enter Try.func34, Try.ntmps34
  go_upto_region 1 with (fail)
  obtain ⟨p0, p1, p2, p3⟩ := K1.out.cells4
  go_wp2_with fail
  refine HIT.out.mono ?_
  rintro e w2 ⟨a2, m, c2, rfl, hi, hb⟩
  have A2 := Lib.hid (A1.out.trans (Below.mono hb A1.out.size)); have I2 := Lib.hid hi
  have HMK := Lib.hid (show m = k by have := hi.len_eq; have := HLE.out; omega)
  have hm8 : m ≤ 8 := by have := HMK.out; omega
  have HML := Lib.hid hi.len_eq
  clear hb hi p0 p1 p2 p3
  go_wp2_with fail
  go_loopw [14] (fun i wr => ∃ k : Nat, k ≤ m ∧ i = .int .i64 k ∧ Lk L fr k ∧ w2 = wr) (fun i _ => m - (intOf i).toNat)
  case atStart => exact ⟨0, Nat.zero_le _, rfl, fun j hj => absurd hj (by omega), rfl⟩
  case round =>
    obtain ⟨j, hj, rfl, hall, rfl⟩ := hrel
    have HA := Lib.hid hall
    clear hall
    by_cases hlt : j < m
    · obtain ⟨b, off, rfl, hc⟩ := I2.out.cell j hlt
      have hlt' : (j : Int) < (m : Int) := by omega
      obtain ⟨v, hv⟩ : ∃ v, v = en L j := ⟨_, rfl⟩
      rw [← hv] at hc
      have HV := Lib.hid hv
      clear hv
      by_cases hve : v = fr + j
      · have hvb2 : (v != fr + j) = false := by rw [bne_eq_false_iff_eq]; exact hve
        have HVE := Lib.hid hve
        clear hve
        go_wp2_with fail
        go_roundw
        case rel => exact ⟨j + 1, by omega, by go_num, Lk_succ HA.out (HV.out.symm.trans HVE.out), trivial⟩
        case measure => simp [intOf]; omega
      · have hvb2 : (v != fr + j) = true := by rw [bne_iff_ne]; exact hve
        have RF := Lib.hid (show decide (L = runL fr (tt - fr).toNat) = false from decide_eq_false (fun he => by
          have hl : m = (tt - fr).toNat := by rw [← HML.out, he, runL_len]
          exact hve (by rw [HV.out, he]; exact runL_get _ _ _ (by rw [← hl]; exact hlt))))
        clear hve
        go_wp2_with fail
        go_ret
        exact ⟨ret_bool RF.out.symm, A2.out⟩
    · obtain rfl : j = m := by omega
      have hlt2 : ¬ (j : Int) < (j : Int) := by omega
      by_cases hms : (j : Int) = tt - fr
      · have hmb : ((j : Int) == tt - fr) = true := by rw [beq_iff_eq]; exact hms
        have RF := Lib.hid (show decide (L = runL fr (tt - fr).toNat) = true from decide_eq_true (by
          have : (tt - fr).toNat = j := by omega
          rw [this]; exact Lk_all HML.out HA.out))
        clear hms
        go_wp2_with fail
        go_ret
        exact ⟨ret_bool RF.out.symm, A2.out⟩
      · have hmb : ((j : Int) == tt - fr) = false := by rw [beq_eq_false_iff_ne]; exact hms
        have RF := Lib.hid (show decide (L = runL fr (tt - fr).toNat) = false from decide_eq_false (fun he => hms (by
          have hl := HML.out
          rw [he, runL_len] at hl; omega)))
        clear hms
        go_wp2_with fail
        go_ret
        exact ⟨ret_bool RF.out.symm, A2.out⟩
end Go.Proofs.Ytfolhgpbplfilaa
namespace Go.Proofs.Ytfolhgpbplfilaa
open Go.RowKit
theorem right_len64 {L : List Wt} (h : rightW L = true) : L.length ≤ 64 := (rightW_iff.1 h).1
set_option maxRecDepth 100000 in
set_option maxHeartbeats 4000000 in
theorem refRight_c (c : Chn) (q : CAt) (w : World) (h : Cha w c q) :
    Calls Try.prog 12 #[chV c q] w fun e w' => e = .returned (.bool (rightC c)) ∧ Below w.heap.size w w' := by
  obtain ⟨cap_, cl, rc, rf, zs, rk, sent, got, sends, recvs⟩ := c
  obtain ⟨za, zn, zc, sa, sn, sc, ra, rn, rq⟩ := q
  have hcap := h.cap; have hrc := h.rc; have hsn := h.sent; have hgo := h.got
  unfold I64 at hcap hrc hsn hgo
  simp only at hcap hrc hsn hgo
  have HZL := Lib.hid h.zs.len_eq
  simp only at HZL
  have A1 := Lib.hid (below_alloc w (.cells (chC ⟨cap_, cl, rc, rf, zs, rk, sent, got, sends, recvs⟩ ⟨za, zn, zc, sa, sn, sc, ra, rn, rq⟩) 27))
  have K1 := Lib.hid (Bx.new w (chC ⟨cap_, cl, rc, rf, zs, rk, sent, got, sends, recvs⟩ ⟨za, zn, zc, sa, sn, sc, ra, rn, rq⟩) 27)
  have H1 := Lib.hid (h.below A1.out)
  have HRR := Lib.hid (fun W => r_refRight_any rc rf rk za zn zc W h.rc h.rf h.rk (by have := h.zs.len_le; simp only at this; omega))
  unfold ringV at HRR
  have HRI := Lib.hid (show ringC ⟨cap_, cl, rc, rf, zs, rk, sent, got, sends, recvs⟩ = rightZ rc rf zn rk by unfold ringC; simp only; rw [HZL.out])
  have HSL := Lib.hid h.sends.recs.len_eq; have HRL := Lib.hid h.recvs.recs.len_eq
  have hsl := h.sends.recs.len_le; have hrl := h.recvs.recs.len_le
  simp only at HSL HRL hsl hrl
  have HR := Lib.hid (fun W a n c L (H : Wts W a n c L) => refRight_any a n c L W H)
  clear h
  obtain ⟨B0, hB0⟩ : ∃ b, b = w.heap.size := ⟨_, rfl⟩
  obtain ⟨X, hX⟩ : ∃ X, X = w.alloc (.cells (chC ⟨cap_, cl, rc, rf, zs, rk, sent, got, sends, recvs⟩ ⟨za, zn, zc, sa, sn, sc, ra, rn, rq⟩) 27) := ⟨_, rfl⟩
  rw [← hX] at A1 K1 H1
  rw [← hB0] at K1
  have HB0 := Lib.hid hB0; have HX := Lib.hid hX
  clear hB0 hX
  go_enter Try.func12, Try.ntmps12
  go_upto_region 1 with (fail)
  rw [← HX.out]
  rw [← HB0.out]
  obtain ⟨p0, p1, p2, p3, p4, p5, p6, p7, p8, p9⟩ := K1.out.cells10
  by_cases hc1 : cap_ < -1
  · have RF := Lib.hid (show rightC ⟨cap_, cl, rc, rf, zs, rk, sent, got, sends, recvs⟩ = false by simp only [rightC, numC]; rw [decide_eq_false (by omega)]; rfl)
    go_wp2_with fail
    go_ret
    exact ⟨ret_bool RF.out.symm, A1.out⟩
  by_cases hc2 : 3 < cap_
  · have RF := Lib.hid (show rightC ⟨cap_, cl, rc, rf, zs, rk, sent, got, sends, recvs⟩ = false by simp only [rightC, numC]; rw [decide_eq_false (by omega)]; rfl)
    go_wp2_with fail
    go_ret
    exact ⟨ret_bool RF.out.symm, A1.out⟩
  cases hri : rightZ rc rf zn rk with
  | false =>
    rw [hri] at HRR
    have RF := Lib.hid (show rightC ⟨cap_, cl, rc, rf, zs, rk, sent, got, sends, recvs⟩ = false by have := HRI.out; rw [hri] at this; simp [rightC, this])
    clear hri
    go_wp2_with fail
    clear p0 p1 p2 p3 p4 p5 p6 p7 p8 p9
    refine (HRR.out _).mono ?_
    rintro e w2 ⟨rfl, hb⟩
    have A2 := Lib.hid (A1.out.trans (Below.mono hb A1.out.size)); have K2 := Lib.hid (K1.out.below hb); have H2 := Lib.hid (H1.out.below hb)
    clear hb
    obtain ⟨p0, p1, p2, p3, p4, p5, p6, p7, p8, p9⟩ := K2.out.cells10
    go_wp2_with fail
    go_ret
    exact ⟨ret_bool RF.out.symm, A2.out⟩
  | true =>
    rw [hri] at HRR HRI
    simp only [rightZ, decide_eq_true_eq] at hri
    obtain ⟨r1, r2, r3, r4, r5, r6, r7⟩ := hri
    by_cases hmx : rc = max cap_ 0
    · have hmb : (rc != max cap_ 0) = false := by rw [bne_eq_false_iff_eq]; exact hmx
      have hcn : (cap_ = -1 ∧ rc = 0) ∨ (0 ≤ cap_ ∧ rc = cap_) := by omega
      have HMX := Lib.hid hmx
      clear hmx hmb
      obtain ⟨f, rfl⟩ : ∃ f : Nat, rf = f := ⟨rf.toNat, by omega⟩
      obtain ⟨k0, rfl⟩ : ∃ k : Nat, rk = k := ⟨rk.toNat, by omega⟩
      obtain rfl : rc = (zn : Int) := by omega
      have HNB := Lib.hid (fun W (H : Ints W za zn zc zs) (g0 : 0 ≤ got) (g1 : got ≤ sent) (g2 : sent ≤ 1048576) => refNumbers_any zn f k0 za zc zs got sent W H (by omega) (by omega) (by omega) g0 g1 g2)
      unfold ringV at HNB
      have HIC := Lib.hid (show itemsC ⟨cap_, cl, (zn : Int), (f : Int), zs, (k0 : Int), sent, got, sends, recvs⟩ = takenL zn f k0 zs from rfl)
      have hkc : k0 ≤ zn := by omega
      clear r1 r2 r3 r4 r5 r6 r7
      rcases hcn with ⟨hcn, hzn⟩ | ⟨hcn, hzn⟩
      · subst hcn
        have hmc : ((zn : Int) != 0) = false := by rw [bne_eq_false_iff_eq]; exact hzn
        have HZN := Lib.hid hzn
        clear hzn
        go_wp2_with fail
        clear p0 p1 p2 p3 p4 p5 p6 p7 p8 p9
        refine (HRR.out _).mono ?_
        rintro e w2 ⟨rfl, hb⟩
        have A2 := Lib.hid (A1.out.trans (Below.mono hb A1.out.size)); have K2 := Lib.hid (K1.out.below hb); have H2 := Lib.hid (H1.out.below hb)
        clear hb
        obtain ⟨p0, p1, p2, p3, p4, p5, p6, p7, p8, p9⟩ := K2.out.cells10
        go_wp2_with fail
        clear p0 p1 p2 p3 p4 p5 p6 p7 p8 p9
        refine (HR.out _ _ _ _ _ H2.out.sends).mono ?_
        rintro e w3 ⟨rfl, hb⟩
        have A3 := Lib.hid (A2.out.trans (Below.mono hb A2.out.size)); have K3 := Lib.hid (K2.out.below hb); have H3 := Lib.hid (H2.out.below hb)
        clear hb
        obtain ⟨p0, p1, p2, p3, p4, p5, p6, p7, p8, p9⟩ := K3.out.cells10
        cases hw1 : rightW sends with
        | false =>
          have RF := Lib.hid (show rightC ⟨-1, cl, (zn : Int), (f : Int), zs, (k0 : Int), sent, got, sends, recvs⟩ = false by simp [rightC, hw1])
          clear hw1
          go_wp2_with fail
          go_ret
          exact ⟨ret_bool RF.out.symm, A3.out⟩
        | true =>
          have HW1 := Lib.hid hw1
          clear hw1
          go_wp2_with fail
          clear p0 p1 p2 p3 p4 p5 p6 p7 p8 p9
          refine (HR.out _ _ _ _ _ H3.out.recvs).mono ?_
          rintro e w4 ⟨rfl, hb⟩
          have A4 := Lib.hid (A3.out.trans (Below.mono hb A3.out.size)); have K4 := Lib.hid (K3.out.below hb); have H4 := Lib.hid (H3.out.below hb)
          clear hb
          obtain ⟨p0, p1, p2, p3, p4, p5, p6, p7, p8, p9⟩ := K4.out.cells10
          cases hw2 : rightW recvs with
          | false =>
            have RF := Lib.hid (show rightC ⟨-1, cl, (zn : Int), (f : Int), zs, (k0 : Int), sent, got, sends, recvs⟩ = false by simp [rightC, hw2])
            clear hw2
            go_wp2_with fail
            go_ret
            exact ⟨ret_bool RF.out.symm, A4.out⟩
          | true =>
            have HW2 := Lib.hid hw2
            clear hw2
            by_cases hs0 : sent < 0
            · have RF := Lib.hid (show rightC ⟨-1, cl, (zn : Int), (f : Int), zs, (k0 : Int), sent, got, sends, recvs⟩ = false by simp only [rightC, numC]; rw [decide_eq_false (by omega)]; rfl)
              go_wp2_with fail
              go_ret
              exact ⟨ret_bool RF.out.symm, A4.out⟩
            by_cases hs1 : 1048576 < sent
            · have RF := Lib.hid (show rightC ⟨-1, cl, (zn : Int), (f : Int), zs, (k0 : Int), sent, got, sends, recvs⟩ = false by simp only [rightC, numC]; rw [decide_eq_false (by omega)]; rfl)
              go_wp2_with fail
              go_ret
              exact ⟨ret_bool RF.out.symm, A4.out⟩
            by_cases hg0 : got < 0
            · have RF := Lib.hid (show rightC ⟨-1, cl, (zn : Int), (f : Int), zs, (k0 : Int), sent, got, sends, recvs⟩ = false by simp only [rightC, numC]; rw [decide_eq_false (by omega)]; rfl)
              go_wp2_with fail
              go_ret
              exact ⟨ret_bool RF.out.symm, A4.out⟩
            by_cases hg1 : sent < got
            · have RF := Lib.hid (show rightC ⟨-1, cl, (zn : Int), (f : Int), zs, (k0 : Int), sent, got, sends, recvs⟩ = false by simp only [rightC, numC]; rw [decide_eq_false (by omega)]; rfl)
              go_wp2_with fail
              go_ret
              exact ⟨ret_bool RF.out.symm, A4.out⟩
            have HNM := Lib.hid (show numC ⟨-1, cl, (zn : Int), (f : Int), zs, (k0 : Int), sent, got, sends, recvs⟩ = true by simp only [numC, decide_eq_true_eq]; have := HMX.out; omega)
            have HNC := Lib.hid (HNB.out _ H4.out.zs (by omega) (by omega) (by omega))
            by_cases hit : takenL zn f k0 zs = runL got (sent - got).toNat
            · rw [decide_eq_true hit] at HNC
              have HE := Lib.hid (show rightC ⟨-1, cl, (zn : Int), (f : Int), zs, (k0 : Int), sent, got, sends, recvs⟩ = idleC ⟨-1, cl, (zn : Int), (f : Int), zs, (k0 : Int), sent, got, sends, recvs⟩ by unfold rightC; rw [HNM.out, HRI.out, HIC.out, decide_eq_true hit]; simp only; rw [HW1.out, HW2.out]; rfl)
              have HES := Lib.hid (isEmpty_len HSL.out); have HER := Lib.hid (isEmpty_len HRL.out)
              clear hit HNB
              have hs64 : sn ≤ 64 := by rw [← HSL.out]; exact right_len64 HW1.out
              have hr64 : rn ≤ 64 := by rw [← HRL.out]; exact right_len64 HW2.out
              go_wp2_with fail
              clear p0 p1 p2 p3 p4 p5 p6 p7 p8 p9
              refine (HNC.out).mono ?_
              rintro e w5 ⟨rfl, hb⟩
              have A5 := Lib.hid (A4.out.trans (Below.mono hb A4.out.size)); have K5 := Lib.hid (K4.out.below hb); have H5 := Lib.hid (H4.out.below hb)
              clear hb
              obtain ⟨p0, p1, p2, p3, p4, p5, p6, p7, p8, p9⟩ := K5.out.cells10
              cases cl
              all_goals rcases Nat.eq_zero_or_pos sn with hsn | hsn
              all_goals rcases Nat.eq_zero_or_pos rn with hrn | hrn
              all_goals rcases Int.lt_or_le 0 sent with hse | hse
              all_goals
                first
                | (have hse2 : (sent == 0) = false := by rw [beq_eq_false_iff_ne]; omega)
                | (have hse2 : (sent == 0) = true := by rw [beq_iff_eq]; omega)
                first
                | (have hlb : ((sn : Int) + (rn : Int) == 0) = false := by rw [beq_eq_false_iff_ne]; omega)
                | (have hlb : ((sn : Int) + (rn : Int) == 0) = true := by rw [beq_iff_eq]; omega)
                have RF := HE.out
                simp only [idleC, HES.out, HER.out] at RF
                first
                | rw [decide_eq_true hsn] at RF
                | rw [show decide (sn = 0) = false from decide_eq_false (by omega)] at RF
                first
                | rw [decide_eq_true hrn] at RF
                | rw [show decide (rn = 0) = false from decide_eq_false (by omega)] at RF
                first
                | rw [show decide (sent ≤ 0) = true from decide_eq_true (by omega)] at RF
                | rw [show decide (sent ≤ 0) = false from decide_eq_false (by omega)] at RF
                have RF := Lib.hid RF
                go_wp2_with fail
                go_ret
                exact ⟨ret_bool (by rw [RF.out]; first | rfl | (simp; omega) | simp_all), A5.out⟩
            · rw [decide_eq_false hit] at HNC
              have RF := Lib.hid (show rightC ⟨-1, cl, (zn : Int), (f : Int), zs, (k0 : Int), sent, got, sends, recvs⟩ = false by exact right_no_items (by rw [HIC.out]; exact hit))
              clear hit HNB
              go_wp2_with fail
              clear p0 p1 p2 p3 p4 p5 p6 p7 p8 p9
              refine (HNC.out).mono ?_
              rintro e w5 ⟨rfl, hb⟩
              have A5 := Lib.hid (A4.out.trans (Below.mono hb A4.out.size)); have K5 := Lib.hid (K4.out.below hb); have H5 := Lib.hid (H4.out.below hb)
              clear hb
              obtain ⟨p0, p1, p2, p3, p4, p5, p6, p7, p8, p9⟩ := K5.out.cells10
              go_wp2_with fail
              go_ret
              exact ⟨ret_bool RF.out.symm, A5.out⟩
      · obtain rfl : cap_ = (zn : Int) := hzn.symm
        clear hzn
        go_wp2_with fail
        clear p0 p1 p2 p3 p4 p5 p6 p7 p8 p9
        refine (HRR.out _).mono ?_
        rintro e w2 ⟨rfl, hb⟩
        have A2 := Lib.hid (A1.out.trans (Below.mono hb A1.out.size)); have K2 := Lib.hid (K1.out.below hb); have H2 := Lib.hid (H1.out.below hb)
        clear hb
        obtain ⟨p0, p1, p2, p3, p4, p5, p6, p7, p8, p9⟩ := K2.out.cells10
        go_wp2_with fail
        clear p0 p1 p2 p3 p4 p5 p6 p7 p8 p9
        refine (HR.out _ _ _ _ _ H2.out.sends).mono ?_
        rintro e w3 ⟨rfl, hb⟩
        have A3 := Lib.hid (A2.out.trans (Below.mono hb A2.out.size)); have K3 := Lib.hid (K2.out.below hb); have H3 := Lib.hid (H2.out.below hb)
        clear hb
        obtain ⟨p0, p1, p2, p3, p4, p5, p6, p7, p8, p9⟩ := K3.out.cells10
        cases hw1 : rightW sends with
        | false =>
          have RF := Lib.hid (show rightC ⟨(zn : Int), cl, (zn : Int), (f : Int), zs, (k0 : Int), sent, got, sends, recvs⟩ = false by simp [rightC, hw1])
          clear hw1
          go_wp2_with fail
          go_ret
          exact ⟨ret_bool RF.out.symm, A3.out⟩
        | true =>
          have HW1 := Lib.hid hw1
          clear hw1
          go_wp2_with fail
          clear p0 p1 p2 p3 p4 p5 p6 p7 p8 p9
          refine (HR.out _ _ _ _ _ H3.out.recvs).mono ?_
          rintro e w4 ⟨rfl, hb⟩
          have A4 := Lib.hid (A3.out.trans (Below.mono hb A3.out.size)); have K4 := Lib.hid (K3.out.below hb); have H4 := Lib.hid (H3.out.below hb)
          clear hb
          obtain ⟨p0, p1, p2, p3, p4, p5, p6, p7, p8, p9⟩ := K4.out.cells10
          cases hw2 : rightW recvs with
          | false =>
            have RF := Lib.hid (show rightC ⟨(zn : Int), cl, (zn : Int), (f : Int), zs, (k0 : Int), sent, got, sends, recvs⟩ = false by simp [rightC, hw2])
            clear hw2
            go_wp2_with fail
            go_ret
            exact ⟨ret_bool RF.out.symm, A4.out⟩
          | true =>
            have HW2 := Lib.hid hw2
            clear hw2
            by_cases hs0 : sent < 0
            · have RF := Lib.hid (show rightC ⟨(zn : Int), cl, (zn : Int), (f : Int), zs, (k0 : Int), sent, got, sends, recvs⟩ = false by simp only [rightC, numC]; rw [decide_eq_false (by omega)]; rfl)
              go_wp2_with fail
              go_ret
              exact ⟨ret_bool RF.out.symm, A4.out⟩
            by_cases hs1 : 1048576 < sent
            · have RF := Lib.hid (show rightC ⟨(zn : Int), cl, (zn : Int), (f : Int), zs, (k0 : Int), sent, got, sends, recvs⟩ = false by simp only [rightC, numC]; rw [decide_eq_false (by omega)]; rfl)
              go_wp2_with fail
              go_ret
              exact ⟨ret_bool RF.out.symm, A4.out⟩
            by_cases hg0 : got < 0
            · have RF := Lib.hid (show rightC ⟨(zn : Int), cl, (zn : Int), (f : Int), zs, (k0 : Int), sent, got, sends, recvs⟩ = false by simp only [rightC, numC]; rw [decide_eq_false (by omega)]; rfl)
              go_wp2_with fail
              go_ret
              exact ⟨ret_bool RF.out.symm, A4.out⟩
            by_cases hg1 : sent < got
            · have RF := Lib.hid (show rightC ⟨(zn : Int), cl, (zn : Int), (f : Int), zs, (k0 : Int), sent, got, sends, recvs⟩ = false by simp only [rightC, numC]; rw [decide_eq_false (by omega)]; rfl)
              go_wp2_with fail
              go_ret
              exact ⟨ret_bool RF.out.symm, A4.out⟩
            have HNM := Lib.hid (show numC ⟨(zn : Int), cl, (zn : Int), (f : Int), zs, (k0 : Int), sent, got, sends, recvs⟩ = true by simp only [numC, decide_eq_true_eq]; have := HMX.out; omega)
            have HNC := Lib.hid (HNB.out _ H4.out.zs (by omega) (by omega) (by omega))
            by_cases hit : takenL zn f k0 zs = runL got (sent - got).toNat
            · rw [decide_eq_true hit] at HNC
              have HE := Lib.hid (show rightC ⟨(zn : Int), cl, (zn : Int), (f : Int), zs, (k0 : Int), sent, got, sends, recvs⟩ = idleC ⟨(zn : Int), cl, (zn : Int), (f : Int), zs, (k0 : Int), sent, got, sends, recvs⟩ by unfold rightC; rw [HNM.out, HRI.out, HIC.out, decide_eq_true hit]; simp only; rw [HW1.out, HW2.out]; rfl)
              have HES := Lib.hid (isEmpty_len HSL.out); have HER := Lib.hid (isEmpty_len HRL.out)
              clear hit HNB
              have hs64 : sn ≤ 64 := by rw [← HSL.out]; exact right_len64 HW1.out
              have hr64 : rn ≤ 64 := by rw [← HRL.out]; exact right_len64 HW2.out
              go_wp2_with fail
              clear p0 p1 p2 p3 p4 p5 p6 p7 p8 p9
              refine (HNC.out).mono ?_
              rintro e w5 ⟨rfl, hb⟩
              have A5 := Lib.hid (A4.out.trans (Below.mono hb A4.out.size)); have K5 := Lib.hid (K4.out.below hb); have H5 := Lib.hid (H4.out.below hb)
              clear hb
              obtain ⟨p0, p1, p2, p3, p4, p5, p6, p7, p8, p9⟩ := K5.out.cells10
              cases cl
              all_goals rcases Nat.eq_zero_or_pos sn with hsn | hsn
              all_goals rcases Nat.eq_zero_or_pos rn with hrn | hrn
              all_goals rcases Nat.eq_zero_or_pos k0 with hk0 | hk0
              all_goals rcases Nat.lt_or_ge k0 zn with hkz | hkz
              all_goals
                have hcn1 : ((zn : Int) == -1) = false := by rw [beq_eq_false_iff_ne]; omega
                first
                | (have hk2 : ((k0 : Int) == (zn : Int)) = false := by rw [beq_eq_false_iff_ne]; omega)
                | (have hk2 : ((k0 : Int) == (zn : Int)) = true := by rw [beq_iff_eq]; omega)
                first
                | (have hk3 : ((k0 : Int) == 0) = false := by rw [beq_eq_false_iff_ne]; omega)
                | (have hk3 : ((k0 : Int) == 0) = true := by rw [beq_iff_eq]; omega)
                first
                | (have hs3 : ((sn : Int) == 0) = false := by rw [beq_eq_false_iff_ne]; omega)
                | (have hs3 : ((sn : Int) == 0) = true := by rw [beq_iff_eq]; omega)
                first
                | (have hr3 : ((rn : Int) == 0) = false := by rw [beq_eq_false_iff_ne]; omega)
                | (have hr3 : ((rn : Int) == 0) = true := by rw [beq_iff_eq]; omega)
                first
                | (have hlb : (0 : Int) < (sn : Int) + (rn : Int) := by omega)
                | (have hlb : ¬ (0 : Int) < (sn : Int) + (rn : Int) := by omega)
                have RF := HE.out
                simp only [idleC, HES.out, HER.out, if_neg (show ¬ (zn : Int) < 0 by omega)] at RF
                first
                | rw [decide_eq_true hsn] at RF
                | rw [show decide (sn = 0) = false from decide_eq_false (by omega)] at RF
                first
                | rw [decide_eq_true hrn] at RF
                | rw [show decide (rn = 0) = false from decide_eq_false (by omega)] at RF
                try first
                | rw [show decide ((zn : Int) ≤ (k0 : Int)) = true from decide_eq_true (by omega)] at RF
                | rw [show decide ((zn : Int) ≤ (k0 : Int)) = false from decide_eq_false (by omega)] at RF
                try rw [hk3] at RF
                have RF := Lib.hid RF
                clear hk0 hkz hsn hrn
                go_wp2_with fail
                go_ret
                exact ⟨ret_bool (by rw [RF.out]; first | rfl | (simp; omega) | simp_all), A5.out⟩
            · rw [decide_eq_false hit] at HNC
              have RF := Lib.hid (show rightC ⟨(zn : Int), cl, (zn : Int), (f : Int), zs, (k0 : Int), sent, got, sends, recvs⟩ = false by exact right_no_items (by rw [HIC.out]; exact hit))
              clear hit HNB
              go_wp2_with fail
              clear p0 p1 p2 p3 p4 p5 p6 p7 p8 p9
              refine (HNC.out).mono ?_
              rintro e w5 ⟨rfl, hb⟩
              have A5 := Lib.hid (A4.out.trans (Below.mono hb A4.out.size)); have K5 := Lib.hid (K4.out.below hb); have H5 := Lib.hid (H4.out.below hb)
              clear hb
              obtain ⟨p0, p1, p2, p3, p4, p5, p6, p7, p8, p9⟩ := K5.out.cells10
              go_wp2_with fail
              go_ret
              exact ⟨ret_bool RF.out.symm, A5.out⟩
    · have RF := Lib.hid (show rightC ⟨cap_, cl, rc, rf, zs, rk, sent, got, sends, recvs⟩ = false by simp only [rightC, numC]; rw [decide_eq_false (by omega)]; rfl)
      have hmb : (rc != max cap_ 0) = true := by rw [bne_iff_ne]; exact hmx
      have hcn : (cap_ < 0 ∧ (rc != 0) = true) ∨ (0 ≤ cap_ ∧ (rc != cap_) = true) := by
        by_cases h : cap_ < 0
        · exact .inl ⟨h, by rw [bne_iff_ne]; omega⟩
        · exact .inr ⟨by omega, by rw [bne_iff_ne]; omega⟩
      clear hmx hmb r1 r2 r3 r4 r5 r6 r7
      rcases hcn with ⟨hcn, hcb⟩ | ⟨hcn, hcb⟩
      all_goals
        go_wp2_with fail
        clear p0 p1 p2 p3 p4 p5 p6 p7 p8 p9
        refine (HRR.out _).mono ?_
        rintro e w2 ⟨rfl, hb⟩
        have A2 := Lib.hid (A1.out.trans (Below.mono hb A1.out.size)); have K2 := Lib.hid (K1.out.below hb); have H2 := Lib.hid (H1.out.below hb)
        clear hb
        obtain ⟨p0, p1, p2, p3, p4, p5, p6, p7, p8, p9⟩ := K2.out.cells10
        go_wp2_with fail
        go_ret
        exact ⟨ret_bool RF.out.symm, A2.out⟩
end Go.Proofs.Ytfolhgpbplfilaa
