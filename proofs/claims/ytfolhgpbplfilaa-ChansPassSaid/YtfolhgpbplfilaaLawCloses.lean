/- ChansCloses: the walk. -/
import Derived.Test.YtfolhgpbplfilaaD9
import Derived.Test.YtfolhgpbplfilaaD6
namespace Go.Proofs.Ytfolhgpbplfilaa
open Go.RowKit
theorem few_cha {w : World} {c : Chn} {q : CAt} (h : Cha w c q) : Cha w (fewC c) (fewAt q) := ⟨h.cap, h.rc, h.rf, h.rk, h.sent, h.got, h.zs.take 12, h.sends.take 70, h.recvs.take 70⟩
/-- a closed channel, with so many taken from it, as the law holds it -/
def CInv (w : World) (b0 b7 : Nat) (c1 : Chn) (q1 : CAt) (j : Nat) (wr : World) : Prop :=
  ∃ a q, Below w.heap.size w wr ∧ Bx wr b0 (chC c1 q1) 27 ∧ Bx wr b7 (chC a q) 27 ∧ Cha wr a q ∧ Ap q b7 ∧ rightC a = true ∧ a.sends = [] ∧ 0 ≤ a.cap ∧ a.cl = true ∧ a.sent = c1.sent ∧ a.got = c1.got + (j : Int)
theorem CInv.below {w wr wr' : World} {b0 b7 : Nat} {c1 : Chn} {q1 : CAt} {j : Nat} (h : CInv w b0 b7 c1 q1 j wr) (hb : Below wr.heap.size wr wr') : CInv w b0 b7 c1 q1 j wr' := by
  obtain ⟨a, q, h1, h2, h3, h4, h5, h6⟩ := h
  exact ⟨a, q, h1.trans (Below.mono hb h1.size), h2.below hb, h3.below hb, h4.below hb, h5, h6⟩
theorem tmod_bd (g m : Int) (hm : 0 < m) : -m < g.tmod m ∧ g.tmod m < m := by
  have h1 := Int.tmod_lt_of_pos g hm
  have h2 := Int.tmod_lt_of_pos (-g) hm
  rw [Int.neg_tmod] at h2
  omega
theorem gm_bd (g : Int) : 0 ≤ (wrap64 (g.tmod 8 + 8)).tmod 8 ∧ (wrap64 (g.tmod 8 + 8)).tmod 8 < 8 := by
  have h := tmod_bd g 8 (by omega)
  have e : wrap64 (g.tmod 8 + 8) = g.tmod 8 + 8 := by unfold wrap64; omega
  rw [e]
  exact ⟨Int.tmod_nonneg 8 (by omega), Int.tmod_lt_of_pos _ (by omega)⟩
theorem mm_bd (g : Int) : 1 ≤ wrap64 (1 + (wrap64 (g.tmod 4 + 4)).tmod 4) ∧ wrap64 (1 + (wrap64 (g.tmod 4 + 4)).tmod 4) ≤ 4 := by
  have h := tmod_bd g 4 (by omega)
  have e : wrap64 (g.tmod 4 + 4) = g.tmod 4 + 4 := by unfold wrap64; omega
  rw [e]
  have h1 : 0 ≤ (g.tmod 4 + 4).tmod 4 := Int.tmod_nonneg 4 (by omega)
  have h2 : (g.tmod 4 + 4).tmod 4 < 4 := Int.tmod_lt_of_pos _ (by omega)
  have e2 : wrap64 (1 + (g.tmod 4 + 4).tmod 4) = 1 + (g.tmod 4 + 4).tmod 4 := by unfold wrap64; omega
  rw [e2]; omega
theorem firstW_nil (g : Int) : firstW [] g = none := rfl
theorem recv_more {a : Chn} {x : Wt} {n f k : Nat} (g : Good a n f (k + 1)) (hs : a.sends = []) (hc : 0 ≤ a.cap) : recvZ a x = (popC a, ⟨1, a.got, ⟨-1, 0, 0⟩, 0⟩, 0) := by
  have hk : 0 < a.rk := by have := g.rkn; omega
  unfold recvZ
  rw [if_neg (by omega), hs, firstW_nil]
  simp only
  rw [if_pos hk]
theorem recv_none {a : Chn} {x : Wt} (hk : a.rk = 0) (hs : a.sends = []) (hc : 0 ≤ a.cap) (hl : a.cl = true) : recvZ a x = (a, ⟨2, 0, ⟨-1, 0, 0⟩, 0⟩, 0) := by
  unfold recvZ
  rw [if_neg (by omega), hs, firstW_nil]
  simp only
  rw [if_neg (by omega), if_pos hl]
  rfl
theorem send_none {a : Chn} {x : Wt} (hc : 0 ≤ a.cap) (hl : a.cl = true) : sendZ a x = (a, ⟨3, 0, ⟨-1, 0, 0⟩, 0⟩, 0) := by
  unfold sendZ
  rw [if_neg (by omega), if_pos hl]
  rfl
set_option maxRecDepth 100000 in
set_option maxHeartbeats 8000000 in
theorem closes_any (c : Chn) (q : CAt) (g more : Int) (w : World) (h : Cha w c q) (_hg : I64 g) (_hm : I64 more) : Calls Try.prog 6 #[chV c q, .int .i64 g, .int .i64 more] w (Says w) := by
  have HFW := Lib.hid (fun W (H : Cha W c q) => few_any c q W H)
  unfold GotC at HFW
  obtain ⟨c1, hc1⟩ : ∃ c1, c1 = fewC c := ⟨_, rfl⟩
  obtain ⟨q1, hq1⟩ : ∃ q1, q1 = fewAt q := ⟨_, rfl⟩
  have AP1 := Lib.hid (show Ap q1 w.heap.size by rw [hq1]; exact (few_cha h).ap (Nat.le_refl _))
  rw [← hc1, ← hq1] at HFW
  have A0 := Lib.hid (below_alloc w (.cells (chC c q) 27)); have K0 := Lib.hid (Bx.new w (chC c q) 27); have C0 := Lib.hid (h.below A0.out)
  clear hc1 hq1 h
  go_enter Try.func6, Try.ntmps6
  go_wp2_with fail
  refine (HFW.out _ C0.out).mono ?_
  rintro e w1 ⟨rfl, hc, hb⟩
  have A1 := Lib.hid (A0.out.trans (Below.mono hb A0.out.size)); have K1 := Lib.hid (K0.out.below hb); have C1 := Lib.hid hc
  clear hc hb A0 K0 C0
  obtain ⟨t0, t1, t2, t3, t4, t5, t6, t7, t8, t9⟩ := K1.out.cells10
  have f0 := K1.out.froz 0; have f1 := K1.out.froz 1; have f2 := K1.out.froz 2; have f3 := K1.out.froz 3; have f4 := K1.out.froz 4; have f5 := K1.out.froz 5; have f6 := K1.out.froz 6; have f7 := K1.out.froz 7; have f8 := K1.out.froz 8; have f9 := K1.out.froz 9; have l0 := K1.out.lt
  go_upto_region 2 with (fail)
  obtain ⟨X, hX⟩ : ∃ X, X = st10 w1 w.heap.size (.int .i64 c1.cap) (.bool c1.cl) (.int .i64 c1.rc) (.int .i64 c1.rf) (.slice q1.za q1.zn q1.zc) (.int .i64 c1.rk) (.int .i64 c1.sent) (.int .i64 c1.got) (.slice q1.sa q1.sn q1.sc) (.slice q1.ra q1.rn q1.rq) := ⟨_, rfl⟩
  have GX := Lib.hid (show w1.grownBy X (some w.heap.size) by rw [hX]; exact grown_st10 (World.grownBy.refl _ _) (.int .i64 c1.cap) (.bool c1.cl) (.int .i64 c1.rc) (.int .i64 c1.rf) (.slice q1.za q1.zn q1.zc) (.int .i64 c1.rk) (.int .i64 c1.sent) (.int .i64 c1.got) (.slice q1.sa q1.sn q1.sc) (.slice q1.ra q1.rn q1.rq))
  have K2 := Lib.hid (show Bx X w.heap.size (chC c1 q1) 27 by rw [hX]; exact K1.out.st10 (.int .i64 c1.cap) (.bool c1.cl) (.int .i64 c1.rc) (.int .i64 c1.rf) (.slice q1.za q1.zn q1.zc) (.int .i64 c1.rk) (.int .i64 c1.sent) (.int .i64 c1.got) (.slice q1.sa q1.sn q1.sc) (.slice q1.ra q1.rn q1.rq))
  have A2 := Lib.hid (show Below w.heap.size w X by rw [hX]; exact below_st10 A1.out (Nat.le_refl _) (.int .i64 c1.cap) (.bool c1.cl) (.int .i64 c1.rc) (.int .i64 c1.rf) (.slice q1.za q1.zn q1.zc) (.int .i64 c1.rk) (.int .i64 c1.sent) (.int .i64 c1.got) (.slice q1.sa q1.sn q1.sc) (.slice q1.ra q1.rn q1.rq))
  have C2 := Lib.hid (C1.out.other AP1.out GX.out)
  have hx := hX.symm
  simp only [st10] at hx
  rw [hx]
  obtain ⟨b0, hb0⟩ : ∃ b, b = w.heap.size := ⟨_, rfl⟩
  have HB0 := Lib.hid (show w.heap.size ≤ b0 by omega)
  rw [← hb0] at K2 ⊢
  clear hx hX hb0 t0 t1 t2 t3 t4 t5 t6 t7 t8 t9 f0 f1 f2 f3 f4 f5 f6 f7 f8 f9 l0 K1 A1 C1 GX
  obtain ⟨t0, t1, t2, t3, t4, t5, t6, t7, t8, t9⟩ := K2.out.cells10
  have l0 := K2.out.lt
  go_wp2_with fail
  cases hr : rightC c1 with
  | false =>
    have HCl := Lib.hid (fun W (H : Cha W c1 q1) => Close_bad c1 q1 W H hr)
    unfold GotX at HCl
    clear hr
    refine (HCl.out _ C2.out).mono ?_
    rintro e w3 ⟨q3, a3, n3, p3, rfl, hc, hl, hfr, hb⟩
    have A3 := Lib.hid (A2.out.trans (Below.mono hb A2.out.size))
    obtain rfl : n3 = 0 := hl.recs.len_eq.symm
    clear hc hl hfr hb t0 t1 t2 t3 t4 t5 t6 t7 t8 t9 l0
    go_wp2_with fail
    refine (alive_any _).mono ?_
    rintro e w4 ⟨rfl, hb⟩
    have A4 := Lib.hid ((A3.out.alloc A3.out.size (.cells (chC zeroC q3) 27)).trans (Below.mono hb (A3.out.alloc A3.out.size (.cells (chC zeroC q3) 27)).size))
    clear hb
    go_wp2_with fail
    go_ret
    exact ⟨rfl, A4.out⟩
  | true =>
    have HCl := Lib.hid (fun W (H : Cha W c1 q1) => Close_ok c1 q1 W H hr)
    unfold GotX at HCl
    have HRT := Lib.hid hr
    clear hr
    cases hp : panicC c1 with
    | true =>
      rw [hp, show toldC c1 = [] from if_pos hp] at HCl
      clear hp
      refine (HCl.out _ C2.out).mono ?_
      rintro e w3 ⟨q3, a3, n3, p3, rfl, hc, hl, hfr, hb⟩
      have A3 := Lib.hid (A2.out.trans (Below.mono hb A2.out.size))
      obtain rfl : n3 = 0 := hl.recs.len_eq.symm
      clear hc hl hfr hb t0 t1 t2 t3 t4 t5 t6 t7 t8 t9 l0
      go_wp2_with fail
      refine (alive_any _).mono ?_
      rintro e w4 ⟨rfl, hb⟩
      have A4 := Lib.hid ((A3.out.alloc A3.out.size (.cells (chC (closedC c1) q3) 27)).trans (Below.mono hb (A3.out.alloc A3.out.size (.cells (chC (closedC c1) q3) 27)).size))
      clear hb
      go_wp2_with fail
      go_ret
      exact ⟨rfl, A4.out⟩
    | false =>
      rw [hp, show toldC c1 = c1.recvs from if_neg (by rw [hp]; decide), show closedC c1 = closeC c1 from if_neg (by rw [hp]; decide)] at HCl
      have HRC := Lib.hid (right_close HRT.out hp)
      clear hp
      refine (HCl.out _ C2.out).mono ?_
      rintro e w3 ⟨q3, a3, n3, p3, rfl, hc, hl, hfr, hb⟩
      have A3 := Lib.hid (A2.out.trans (Below.mono hb A2.out.size)); have K3 := Lib.hid (K2.out.below hb); have C3 := Lib.hid hc
      have HLE := Lib.hid hl.recs.len_eq
      have hn3 := hl.recs.len_le
      have A4 := Lib.hid (A3.out.alloc A3.out.size (.cells (chC (closeC c1) q3) 27)); have K4 := Lib.hid (K3.out.below (below_alloc w3 (.cells (chC (closeC c1) q3) 27))); have C4 := Lib.hid (C3.out.below (below_alloc w3 (.cells (chC (closeC c1) q3) 27))); have Y4 := Lib.hid (Bx.new w3 (chC (closeC c1) q3) 27); have AP4 := Lib.hid (C3.out.ap (Nat.le_refl _))
      have l3 := K3.out.lt
      clear hc hl hfr hb t0 t1 t2 t3 t4 t5 t6 t7 t8 t9 l0 K3 C3
      go_upto_region 5 with (fail)
      obtain ⟨X4, hX4⟩ : ∃ X, X = w3.alloc (.cells (chC (closeC c1) q3) 27) := ⟨_, rfl⟩
      obtain ⟨b7, hb7⟩ : ∃ b, b = w3.heap.size := ⟨_, rfl⟩
      have HB7 := Lib.hid (show w.heap.size ≤ b7 by rw [hb7]; exact A3.out.size)
      rw [← hX4] at A4 K4 C4 Y4 ⊢
      rw [← hb7] at Y4 AP4 l3 ⊢
      have n07 : b0 ≠ b7 := by omega
      have n70 : b7 ≠ b0 := by omega
      clear hX4 hb7 l3 A3
      go_upto_region 6 with (fail)
      obtain ⟨g1, hg1⟩ : ∃ g1, g1 = (wrap64 (g.tmod 8 + 8)).tmod 8 := ⟨_, rfl⟩
      obtain ⟨m1, hm1⟩ : ∃ m1, m1 = wrap64 (1 + (wrap64 (more.tmod 4 + 4)).tmod 4) := ⟨_, rfl⟩
      have hgb := gm_bd g
      have hmb := mm_bd more
      rw [← hg1] at hgb
      rw [← hm1] at hmb
      rw [← hg1, ← hm1]
      obtain ⟨hg0, hg8⟩ := hgb
      obtain ⟨hm0, hm4⟩ := hmb
      clear hg1 hm1
      have Y5 := Lib.hid (show Bx X4 b7 #[.int .i64 c1.cap, .bool true, .int .i64 c1.rc, .int .i64 c1.rf, .slice q3.za q3.zn q3.zc, .int .i64 c1.rk, .int .i64 c1.sent, .int .i64 c1.got, .slice q3.sa q3.sn q3.sc, .slice q3.ra q3.rn q3.rq] 27 from Y4.out)
      obtain ⟨n1, f1, k1, gd⟩ := good_of HRT.out
      have hgi : I64 c1.got := ⟨by have := gd.g0; omega, by have := gd.sg; have := gd.sm; omega⟩
      have hg00 := gd.g0
      have hsm := gd.sm
      have hsg3 : c1.sent ≤ c1.got + 3 := by have := gd.sg; have := gd.kl; have := gd.n3; omega
      have HEM := Lib.hid (show 0 < n3 → c1.sent = c1.got from fun hn => by
        have hne : c1.recvs ≠ [] := fun he => by have := HLE.out; rw [he] at this; simp at this; omega
        have := gd.emp hne; have := gd.sg; omega)
      have INV0 := Lib.hid (show CInv w b0 b7 c1 q1 0 X4 from ⟨closeC c1, q3, A4.out, K4.out, Y4.out, C4.out, AP4.out, HRC.out.1, HRC.out.2.1, HRC.out.2.2.1, rfl, rfl, by show c1.got = _; omega⟩)
      have hss : (c1.sent != c1.sent) = false := by simp
      clear gd
      obtain ⟨t0, t1, t2, t3, t4, t5, t6, t7, t8, t9⟩ := K4.out.cells10
      obtain ⟨y0, y1, y2, y3, y4, y5, y6, y7, y8, y9⟩ := Y5.out.cells10
      have l0 := K4.out.lt; have l7 := Y5.out.lt
      have hjoin : (n3 = 0) ∨ (0 < n3 ∧ (c1.sent != c1.got) = false) := by
        by_cases h0 : n3 = 0
        · exact .inl h0
        · exact .inr ⟨by omega, by rw [bne_eq_false_iff_eq]; exact HEM.out (by omega)⟩
      rcases hjoin with rfl | ⟨hn0, hnb⟩
      all_goals
        go_wp2_with fail
        refine (alive_any _).mono ?_
        rintro e w5 ⟨rfl, hb⟩
        have INV1 := Lib.hid (show CInv w b0 b7 c1 q1 0 w5 from CInv.below INV0.out hb)
        have K5 := Lib.hid (K4.out.below hb)
        clear hb t0 t1 t2 t3 t4 t5 t6 t7 t8 t9 y0 y1 y2 y3 y4 y5 y6 y7 y8 y9 l0 l7 INV0
        obtain ⟨t0, t1, t2, t3, t4, t5, t6, t7, t8, t9⟩ := K5.out.cells10
        have l0 := K5.out.lt
        go_wp2_with fail
        clear t0 t1 t2 t3 t4 t5 t6 t7 t8 t9 l0 K5
        go_loopw [11] (fun n wr => ∃ j : Nat, n = .int .i64 (c1.got + (j : Int)) ∧ CInv w b0 b7 c1 q1 j wr) (fun n _ => (c1.sent - intOf n).toNat)
        case atStart => exact ⟨0, by simp, INV1.out⟩
        case round =>
          obtain ⟨j, rfl, a, qa, hb, k0, k7, hc, hap, hra, hs, hcap, hcl, hse, hgo⟩ := hrel
          have A6 := Lib.hid hb; have K0_6 := Lib.hid k0; have K7_6 := Lib.hid k7; have C6 := Lib.hid hc; have AP6 := Lib.hid hap; have R6 := Lib.hid (And.intro hra (And.intro hs (And.intro hcap (And.intro hcl (And.intro hse hgo)))))
          have HXG := Lib.hid (show WtOk ⟨g1, 0, 0⟩ ∧ mayW ⟨g1, 0, 0⟩ = true from ⟨⟨⟨by simp only; omega, by simp only; omega⟩, ⟨by simp, by simp⟩, ⟨by simp, by simp⟩⟩, by simp [mayW]; omega⟩)
          obtain ⟨na, fa, ka, ga⟩ := good_of hra
          have hsg := ga.sg
          rw [hse, hgo] at hsg
          have hkl := ga.kl
          have hna := ga.n3
          have hj3 : j ≤ 3 := by omega
          clear hb k0 k7 hc hap
          obtain ⟨t0, t1, t2, t3, t4, t5, t6, t7, t8, t9⟩ := K0_6.out.cells10
          obtain ⟨y0, y1, y2, y3, y4, y5, y6, y7, y8, y9⟩ := K7_6.out.cells10
          have l0 := K0_6.out.lt; have l7 := K7_6.out.lt
          by_cases hk : 0 < ka
          · obtain ⟨k2, rfl⟩ : ∃ k2, ka = k2 + 1 := ⟨ka - 1, by omega⟩
            have hlt : c1.got + (j : Int) < c1.sent := by omega
            have hlt8 : c1.got + (j : Int) < c1.got + 8 := by omega
            have HRv := Lib.hid (fun W (H : Cha W a qa) => Recv_any a qa ⟨g1, 0, 0⟩ W H HXG.out.1 hra HXG.out.2)
            rw [recv_more ga hs hcap, hgo] at HRv
            unfold GotP at HRv
            have GP := Lib.hid (good_pop ga hs hcap)
            obtain ⟨a', ha'⟩ : ∃ a', a' = popC a := ⟨_, rfl⟩
            rw [← ha'] at HRv GP
            have R7 := Lib.hid (show rightC a' = true ∧ a'.sends = [] ∧ 0 ≤ a'.cap ∧ a'.cl = true ∧ a'.sent = c1.sent ∧ a'.got = c1.got + ((j + 1 : Nat) : Int) from ⟨of_good GP.out, by rw [ha']; exact hs, by rw [ha']; exact hcap, by rw [ha']; exact hcl, by rw [ha']; exact hse, by rw [ha']; simp only [popC]; omega⟩)
            have hnn : (c1.got + (j : Int) != c1.got + (j : Int)) = false := by simp
            clear ha' hra hs hcap hcl hse hgo ga hsg hkl hna
            go_wp2_with fail
            refine (HRv.out _ C6.out).mono ?_
            rintro e w7 ⟨q7, rfl, hc, hfr, hb⟩
            have A7 := Lib.hid (A6.out.trans (Below.mono hb A6.out.size)); have K0_7 := Lib.hid (K0_6.out.below hb); have K7_7 := Lib.hid (K7_6.out.below hb); have C7 := Lib.hid hc; have AP7 := Lib.hid (hfr b7 K7_6.out.lt)
            clear hc hfr hb t0 t1 t2 t3 t4 t5 t6 t7 t8 t9 y0 y1 y2 y3 y4 y5 y6 y7 y8 y9 l0 l7 A6 K0_6 K7_6 C6
            have AX7 := Lib.hid ((A7.out.alloc A7.out.size (.cells (chC a' q7) 27)).alloc (by have := A7.out.size; simp; omega) (.cells (outC ⟨1, c1.got + (j : Int), ⟨-1, 0, 0⟩, 0⟩) 50))
            have L7 := Lib.hid ((below_alloc w7 (.cells (chC a' q7) 27)).alloc (by simp) (.cells (outC ⟨1, c1.got + (j : Int), ⟨-1, 0, 0⟩, 0⟩) 50))
            have N7 := Lib.hid ((Bx.new w7 (chC a' q7) 27).below (below_alloc _ (.cells (outC ⟨1, c1.got + (j : Int), ⟨-1, 0, 0⟩, 0⟩) 50)))
            have O7 := Lib.hid (Bx.new2 w7 (.cells (chC a' q7) 27) (outC ⟨1, c1.got + (j : Int), ⟨-1, 0, 0⟩, 0⟩) 50)
            go_upto_region 12 with (fail)
            obtain ⟨X7, hX7⟩ : ∃ X, X = (w7.alloc (.cells (chC a' q7) 27)).alloc (.cells (outC ⟨1, c1.got + (j : Int), ⟨-1, 0, 0⟩, 0⟩) 50) := ⟨_, rfl⟩
            obtain ⟨bo7, hbo7⟩ : ∃ b, b = w7.heap.size + 1 := ⟨_, rfl⟩
            obtain ⟨bn7, hbn7⟩ : ∃ b, b = w7.heap.size := ⟨_, rfl⟩
            rw [← hX7] at AX7 L7 N7 O7 ⊢
            rw [← hbo7] at O7 ⊢
            rw [← hbn7] at N7 L7 ⊢
            have lz7 := K7_7.out.lt
            have ly7 := K0_7.out.lt
            have nn7 : bn7 ≠ b7 := by omega
            have no7 : bo7 ≠ b7 := by omega
            have np7 : bn7 ≠ b0 := by omega
            have nq7 : bo7 ≠ b0 := by omega
            have nr7 : bn7 ≠ bo7 := by omega
            have HBN7 := Lib.hid (show bn7 ≤ X7.heap.size by have := N7.out.lt; omega)
            have HSZ7 := Lib.hid hbn7
            clear hX7 hbo7 hbn7 lz7 ly7
            rw [HSZ7.out] at L7
            have K0_8 := Lib.hid (K0_7.out.below L7.out); have K7_8 := Lib.hid (K7_7.out.below L7.out); have C8 := Lib.hid (C7.out.below L7.out)
            obtain ⟨t0, t1, t2, t3, t4, t5, t6, t7, t8, t9⟩ := N7.out.cells10
            obtain ⟨o0, o1, o2, o3, o4, o5⟩ := O7.out.cells6
            obtain ⟨y0, y1, y2, y3, y4, y5, y6, y7, y8, y9⟩ := K7_8.out.cells10
            have f0 := K7_8.out.froz 0; have f1 := K7_8.out.froz 1; have f2 := K7_8.out.froz 2; have f3 := K7_8.out.froz 3; have f4 := K7_8.out.froz 4; have f5 := K7_8.out.froz 5; have f6 := K7_8.out.froz 6; have f7 := K7_8.out.froz 7; have f8 := K7_8.out.froz 8; have f9 := K7_8.out.froz 9; have l7 := K7_8.out.lt; have ln := N7.out.lt; have lo := O7.out.lt
            have FIN := Lib.hid (show CInv w b0 b7 c1 q1 (j + 1) (st10 X7 b7 (.int .i64 a'.cap) (.bool a'.cl) (.int .i64 a'.rc) (.int .i64 a'.rf) (.slice q7.za q7.zn q7.zc) (.int .i64 a'.rk) (.int .i64 a'.sent) (.int .i64 a'.got) (.slice q7.sa q7.sn q7.sc) (.slice q7.ra q7.rn q7.rq)) from
              ⟨a', q7, below_st10 AX7.out HB7.out (.int .i64 a'.cap) (.bool a'.cl) (.int .i64 a'.rc) (.int .i64 a'.rf) (.slice q7.za q7.zn q7.zc) (.int .i64 a'.rk) (.int .i64 a'.sent) (.int .i64 a'.got) (.slice q7.sa q7.sn q7.sc) (.slice q7.ra q7.rn q7.rq), K0_8.out.other (grown_st10 (World.grownBy.refl _ _) (.int .i64 a'.cap) (.bool a'.cl) (.int .i64 a'.rc) (.int .i64 a'.rf) (.slice q7.za q7.zn q7.zc) (.int .i64 a'.rk) (.int .i64 a'.sent) (.int .i64 a'.got) (.slice q7.sa q7.sn q7.sc) (.slice q7.ra q7.rn q7.rq)) (fun e => n07 (by cases e; rfl)), K7_8.out.st10 (.int .i64 a'.cap) (.bool a'.cl) (.int .i64 a'.rc) (.int .i64 a'.rf) (.slice q7.za q7.zn q7.zc) (.int .i64 a'.rk) (.int .i64 a'.sent) (.int .i64 a'.got) (.slice q7.sa q7.sn q7.sc) (.slice q7.ra q7.rn q7.rq), C8.out.other AP7.out (grown_st10 (World.grownBy.refl _ _) (.int .i64 a'.cap) (.bool a'.cl) (.int .i64 a'.rc) (.int .i64 a'.rf) (.slice q7.za q7.zn q7.zc) (.int .i64 a'.rk) (.int .i64 a'.sent) (.int .i64 a'.got) (.slice q7.sa q7.sn q7.sc) (.slice q7.ra q7.rn q7.rq)), AP7.out, R7.out⟩)
            go_wp2_with fail
            go_roundw
            case rel => exact ⟨j + 1, by go_num, FIN.out⟩
            case measure => simp [intOf]; omega
          · have hlt : ¬ c1.got + (j : Int) < c1.sent := by omega
            have hjs : c1.sent = c1.got + (j : Int) := by omega
            have INV2 := Lib.hid (show CInv w b0 b7 c1 q1 j wr from ⟨a, qa, A6.out, K0_6.out, K7_6.out, C6.out, AP6.out, R6.out⟩)
            have HJS := Lib.hid hjs
            clear hra hs hcap hcl hse hgo ga hsg hkl hna hjs
            go_wp2_with fail
            clear t0 t1 t2 t3 t4 t5 t6 t7 t8 t9 y0 y1 y2 y3 y4 y5 y6 y7 y8 y9 l0 l7 A6 K0_6 K7_6 C6 AP6 R6 hlt HXG
            go_loopw [137] (fun i w2 => ∃ k : Nat, (k : Int) ≤ m1 ∧ i = .int .i64 k ∧ CInv w b0 b7 c1 q1 j w2) (fun i _ => (m1 - intOf i).toNat)
            case atStart => exact ⟨0, by omega, rfl, INV2.out⟩
            case round =>
              obtain ⟨k, hkm, rfl, a, qa, hb, k0, k7, hc, hap, hra, hs, hcap, hcl, hse, hgo⟩ := hrel
              have A7 := Lib.hid hb; have K0_7 := Lib.hid k0; have K7_7 := Lib.hid k7; have C7 := Lib.hid hc; have AP7 := Lib.hid hap; have R7 := Lib.hid (And.intro hra (And.intro hs (And.intro hcap (And.intro hcl (And.intro hse hgo)))))
              clear hb k0 k7 hc hap
              by_cases hkl : (k : Int) < m1
              · have HXG := Lib.hid (show WtOk ⟨g1 + (k : Int), 0, 0⟩ ∧ mayW ⟨g1 + (k : Int), 0, 0⟩ = true from ⟨⟨⟨by simp only; omega, by simp only; omega⟩, ⟨by simp, by simp⟩, ⟨by simp, by simp⟩⟩, by simp [mayW]; omega⟩)
                have hrk : a.rk = 0 := by
                  obtain ⟨na, fa, ka, ga⟩ := good_of hra
                  have := ga.sg; have := ga.rkn; have := HJS.out; omega
                have HRv := Lib.hid (fun W q (H : Cha W a q) => Recv_any a q ⟨g1 + (k : Int), 0, 0⟩ W H HXG.out.1 hra HXG.out.2)
                rw [recv_none hrk hs hcap hcl] at HRv
                have HSv := Lib.hid (fun W q (H : Cha W a q) => Send_any a q ⟨g1 + (k : Int), 0, 0⟩ W H HXG.out.1 hra HXG.out.2)
                rw [send_none hcap hcl] at HSv
                unfold GotP at HRv HSv
                have HCv := Lib.hid (fun W q (H : Cha W a q) => Close_ok a q W H hra)
                have hpa : panicC a = true := by simp [panicC, hcl]
                rw [show closedC a = a from if_pos hpa, show toldC a = [] from if_pos hpa, hpa] at HCv
                unfold GotX at HCv
                clear hra hs hcap hcl hse hgo hrk hpa
                obtain ⟨y0, y1, y2, y3, y4, y5, y6, y7, y8, y9⟩ := K7_7.out.cells10
                have l7 := K7_7.out.lt
                go_wp2_with fail
                refine (HRv.out _ _ C7.out).mono ?_
                rintro e w8 ⟨q8, rfl, hc, hfr, hb⟩
                have A8 := Lib.hid (A7.out.trans (Below.mono hb A7.out.size)); have K0_8 := Lib.hid (K0_7.out.below hb); have K7_8 := Lib.hid (K7_7.out.below hb); have C7_8 := Lib.hid (C7.out.below hb); have C8 := Lib.hid hc; have AP8 := Lib.hid (hfr b7 K7_7.out.lt)
                clear hc hfr hb y0 y1 y2 y3 y4 y5 y6 y7 y8 y9 l7
                have AX8 := Lib.hid ((A8.out.alloc A8.out.size (.cells (chC a q8) 27)).alloc (by have := A8.out.size; simp; omega) (.cells (outC ⟨2, 0, ⟨-1, 0, 0⟩, 0⟩) 50))
                have L8 := Lib.hid ((below_alloc w8 (.cells (chC a q8) 27)).alloc (by simp) (.cells (outC ⟨2, 0, ⟨-1, 0, 0⟩, 0⟩) 50))
                have N8 := Lib.hid ((Bx.new w8 (chC a q8) 27).below (below_alloc _ (.cells (outC ⟨2, 0, ⟨-1, 0, 0⟩, 0⟩) 50)))
                have O8 := Lib.hid (Bx.new2 w8 (.cells (chC a q8) 27) (outC ⟨2, 0, ⟨-1, 0, 0⟩, 0⟩) 50)
                go_upto_region 19 with (fail)
                obtain ⟨X8, hX8⟩ : ∃ X, X = (w8.alloc (.cells (chC a q8) 27)).alloc (.cells (outC ⟨2, 0, ⟨-1, 0, 0⟩, 0⟩) 50) := ⟨_, rfl⟩
                obtain ⟨bo8, hbo8⟩ : ∃ b, b = w8.heap.size + 1 := ⟨_, rfl⟩
                obtain ⟨bn8, hbn8⟩ : ∃ b, b = w8.heap.size := ⟨_, rfl⟩
                rw [← hX8] at AX8 L8 N8 O8 ⊢
                rw [← hbo8] at O8 ⊢
                rw [← hbn8] at N8 L8 ⊢
                have lz8 := K7_8.out.lt
                have ly8 := K0_8.out.lt
                have nn8 : bn8 ≠ b7 := by omega
                have no8 : bo8 ≠ b7 := by omega
                have np8 : bn8 ≠ b0 := by omega
                have nq8 : bo8 ≠ b0 := by omega
                have nr8 : bn8 ≠ bo8 := by omega
                have HBN8 := Lib.hid (show bn8 ≤ X8.heap.size by have := N8.out.lt; omega)
                have HSZ8 := Lib.hid hbn8
                clear hX8 hbo8 hbn8 lz8 ly8
                rw [HSZ8.out] at L8
                have K0_9 := Lib.hid (K0_8.out.below L8.out); have K7_9 := Lib.hid (K7_8.out.below L8.out); have C7_9 := Lib.hid (C7_8.out.below L8.out); have C9 := Lib.hid (C8.out.below L8.out)
                obtain ⟨y0, y1, y2, y3, y4, y5, y6, y7, y8, y9⟩ := K7_9.out.cells10
                have l7 := K7_9.out.lt
                go_wp2_with fail
                refine (HSv.out _ _ C7_9.out).mono ?_
                rintro e w9 ⟨q9, rfl, hc, hfr, hb⟩
                have A9 := Lib.hid (AX8.out.trans (Below.mono hb AX8.out.size)); have K0_9b := Lib.hid (K0_9.out.below hb); have K7_9b := Lib.hid (K7_9.out.below hb); have C7_9b := Lib.hid (C7_9.out.below hb); have C9b := Lib.hid (C9.out.below hb); have N8b := Lib.hid (N8.out.below hb); have O8b := Lib.hid (O8.out.below hb)
                clear hc hfr hb y0 y1 y2 y3 y4 y5 y6 y7 y8 y9 l7 K0_9 K7_9 C7_9 C9
                have K0_9 := K0_9b
                have K7_9 := K7_9b
                have AX9 := Lib.hid ((A9.out.alloc A9.out.size (.cells (chC a q9) 27)).alloc (by have := A9.out.size; simp; omega) (.cells (outC ⟨3, 0, ⟨-1, 0, 0⟩, 0⟩) 50))
                have L9 := Lib.hid ((below_alloc w9 (.cells (chC a q9) 27)).alloc (by simp) (.cells (outC ⟨3, 0, ⟨-1, 0, 0⟩, 0⟩) 50))
                have N9 := Lib.hid ((Bx.new w9 (chC a q9) 27).below (below_alloc _ (.cells (outC ⟨3, 0, ⟨-1, 0, 0⟩, 0⟩) 50)))
                have O9 := Lib.hid (Bx.new2 w9 (.cells (chC a q9) 27) (outC ⟨3, 0, ⟨-1, 0, 0⟩, 0⟩) 50)
                go_upto_region 20 with (fail)
                obtain ⟨X9, hX9⟩ : ∃ X, X = (w9.alloc (.cells (chC a q9) 27)).alloc (.cells (outC ⟨3, 0, ⟨-1, 0, 0⟩, 0⟩) 50) := ⟨_, rfl⟩
                obtain ⟨bo9, hbo9⟩ : ∃ b, b = w9.heap.size + 1 := ⟨_, rfl⟩
                obtain ⟨bn9, hbn9⟩ : ∃ b, b = w9.heap.size := ⟨_, rfl⟩
                rw [← hX9] at AX9 L9 N9 O9 ⊢
                rw [← hbo9] at O9 ⊢
                rw [← hbn9] at N9 L9 ⊢
                have lz9 := K7_9.out.lt
                have ly9 := K0_9.out.lt
                have nn9 : bn9 ≠ b7 := by omega
                have no9 : bo9 ≠ b7 := by omega
                have np9 : bn9 ≠ b0 := by omega
                have nq9 : bo9 ≠ b0 := by omega
                have nr9 : bn9 ≠ bo9 := by omega
                have HBN9 := Lib.hid (show bn9 ≤ X9.heap.size by have := N9.out.lt; omega)
                have HSZ9 := Lib.hid hbn9
                clear hX9 hbo9 hbn9 lz9 ly9
                rw [HSZ9.out] at L9
                have K0_a := Lib.hid (K0_9.out.below L9.out); have K7_a := Lib.hid (K7_9.out.below L9.out); have C7_a := Lib.hid (C7_9b.out.below L9.out); have Ca := Lib.hid (C9b.out.below L9.out); have N8c := Lib.hid (N8b.out.below L9.out); have O8c := Lib.hid (O8b.out.below L9.out)
                obtain ⟨y0, y1, y2, y3, y4, y5, y6, y7, y8, y9⟩ := K7_a.out.cells10
                have l7 := K7_a.out.lt
                go_wp2_with fail
                refine (HCv.out _ _ C7_a.out).mono ?_
                rintro e wb ⟨qb, ab, nb, pb, rfl, hc, hl, hfr, hb⟩
                have Ab := Lib.hid (AX9.out.trans (Below.mono hb AX9.out.size)); have K0_b := Lib.hid (K0_a.out.below hb); have K7_b := Lib.hid (K7_a.out.below hb); have Cb := Lib.hid (Ca.out.below hb); have N8d := Lib.hid (N8c.out.below hb); have O8d := Lib.hid (O8c.out.below hb); have O9d := Lib.hid (O9.out.below hb)
                clear hc hl hfr hb y0 y1 y2 y3 y4 y5 y6 y7 y8 y9 l7
                have Ac := Lib.hid (Ab.out.alloc Ab.out.size (.cells (chC a qb) 27)); have K0_c := Lib.hid (K0_b.out.below (below_alloc wb (.cells (chC a qb) 27))); have K7_c := Lib.hid (K7_b.out.below (below_alloc wb (.cells (chC a qb) 27))); have Cc := Lib.hid (Cb.out.below (below_alloc wb (.cells (chC a qb) 27))); have N8e := Lib.hid (N8d.out.below (below_alloc wb (.cells (chC a qb) 27))); have O8e := Lib.hid (O8d.out.below (below_alloc wb (.cells (chC a qb) 27))); have O9e := Lib.hid (O9d.out.below (below_alloc wb (.cells (chC a qb) 27)))
                go_upto_region 21 with (fail)
                obtain ⟨Xc, hXc⟩ : ∃ X, X = wb.alloc (.cells (chC a qb) 27) := ⟨_, rfl⟩
                rw [← hXc] at Ac K0_c K7_c Cc N8e O8e O9e ⊢
                clear hXc
                obtain ⟨t0, t1, t2, t3, t4, t5, t6, t7, t8, t9⟩ := N8e.out.cells10
                obtain ⟨o0, o1, o2, o3, o4, o5⟩ := O8e.out.cells6
                obtain ⟨s0, s1, s2, s3, s4, s5⟩ := O9e.out.cells6
                obtain ⟨y0, y1, y2, y3, y4, y5, y6, y7, y8, y9⟩ := K7_c.out.cells10
                have f0 := K7_c.out.froz 0; have f1 := K7_c.out.froz 1; have f2 := K7_c.out.froz 2; have f3 := K7_c.out.froz 3; have f4 := K7_c.out.froz 4; have f5 := K7_c.out.froz 5; have f6 := K7_c.out.froz 6; have f7 := K7_c.out.froz 7; have f8 := K7_c.out.froz 8; have f9 := K7_c.out.froz 9; have l7 := K7_c.out.lt; have ln := N8e.out.lt; have lo := O8e.out.lt; have ls := O9e.out.lt
                have FIN := Lib.hid (show CInv w b0 b7 c1 q1 j (st10 Xc b7 (.int .i64 a.cap) (.bool a.cl) (.int .i64 a.rc) (.int .i64 a.rf) (.slice q8.za q8.zn q8.zc) (.int .i64 a.rk) (.int .i64 a.sent) (.int .i64 a.got) (.slice q8.sa q8.sn q8.sc) (.slice q8.ra q8.rn q8.rq)) from
                  ⟨a, q8, below_st10 Ac.out HB7.out (.int .i64 a.cap) (.bool a.cl) (.int .i64 a.rc) (.int .i64 a.rf) (.slice q8.za q8.zn q8.zc) (.int .i64 a.rk) (.int .i64 a.sent) (.int .i64 a.got) (.slice q8.sa q8.sn q8.sc) (.slice q8.ra q8.rn q8.rq), K0_c.out.other (grown_st10 (World.grownBy.refl _ _) (.int .i64 a.cap) (.bool a.cl) (.int .i64 a.rc) (.int .i64 a.rf) (.slice q8.za q8.zn q8.zc) (.int .i64 a.rk) (.int .i64 a.sent) (.int .i64 a.got) (.slice q8.sa q8.sn q8.sc) (.slice q8.ra q8.rn q8.rq)) (fun e => n07 (by cases e; rfl)), K7_c.out.st10 (.int .i64 a.cap) (.bool a.cl) (.int .i64 a.rc) (.int .i64 a.rf) (.slice q8.za q8.zn q8.zc) (.int .i64 a.rk) (.int .i64 a.sent) (.int .i64 a.got) (.slice q8.sa q8.sn q8.sc) (.slice q8.ra q8.rn q8.rq), Cc.out.other AP8.out (grown_st10 (World.grownBy.refl _ _) (.int .i64 a.cap) (.bool a.cl) (.int .i64 a.rc) (.int .i64 a.rf) (.slice q8.za q8.zn q8.zc) (.int .i64 a.rk) (.int .i64 a.sent) (.int .i64 a.got) (.slice q8.sa q8.sn q8.sc) (.slice q8.ra q8.rn q8.rq)), AP8.out, R7.out⟩)
                go_wp2_with fail
                go_roundw
                case rel => exact ⟨k + 1, by omega, by go_num, FIN.out⟩
                case measure => simp [intOf]; omega
              · have hkl2 : ¬ (k : Int) < m1 := hkl
                clear hra hs hcap hcl hse hgo hkl
                go_wp2_with fail
                go_ret
                exact ⟨rfl, A7.out⟩
end Go.Proofs.Ytfolhgpbplfilaa
