/- The laws' few. -/
import Derived.Test.YtfolhgpbplfilaaD2
namespace Go.Proofs.Ytfolhgpbplfilaa
open Go.RowKit
def fewC (c : Chn) : Chn := { c with zs := c.zs.take 12, sends := c.sends.take 70, recvs := c.recvs.take 70 }
def fewAt (q : CAt) : CAt := ⟨q.za, min q.zn 12, q.zc, q.sa, min q.sn 70, q.sc, q.ra, min q.rn 70, q.rq⟩
def GotC (w : World) (c : Chn) (q : CAt) (e : Ending) (w' : World) : Prop := e = .returned (chV c q) ∧ Cha w' c q ∧ Below w.heap.size w w'
set_option maxRecDepth 100000 in
set_option maxHeartbeats 4000000 in
theorem few_any (c : Chn) (q : CAt) (w : World) (h : Cha w c q) : Calls Try.prog 7 #[chV c q] w (GotC w (fewC c) (fewAt q)) := by
  have z_lc := h.zs.le_cap; have z_cm := h.zs.cap_le
  have s_lc := h.sends.recs.le_cap; have s_cm := h.sends.recs.cap_le
  have r_lc := h.recvs.recs.le_cap; have r_cm := h.recvs.recs.cap_le
  unfold maxLen at z_cm s_cm r_cm
  obtain ⟨z1, hz1⟩ : ∃ n, n = min q.zn 12 := ⟨_, rfl⟩
  obtain ⟨s1, hs1⟩ : ∃ n, n = min q.sn 70 := ⟨_, rfl⟩
  obtain ⟨r1, hr1⟩ : ∃ n, n = min q.rn 70 := ⟨_, rfl⟩
  have HF := Lib.hid (show ∀ W, Below w.heap.size w W → Cha W (fewC c) ⟨q.za, z1, q.zc, q.sa, s1, q.sc, q.ra, r1, q.rq⟩ from fun W hb => by
    have hW := h.below hb
    rw [hz1, hs1, hr1]
    exact ⟨hW.cap, hW.rc, hW.rf, hW.rk, hW.sent, hW.got, hW.zs.take 12, hW.sends.take 70, hW.recvs.take 70⟩)
  clear h
  have HZ1 := Lib.hid hz1; have HS1 := Lib.hid hs1; have HR1 := Lib.hid hr1
  clear hz1 hs1 hr1
  go_enter Try.func7, Try.ntmps7
  go_upto_region 1 with (fail)
  go_cut [2] (fun p wx => p = .pointer (some ⟨w.heap.size + 1, 0, none⟩) ∧ wx = (w.alloc (.cells #[.int .i64 c.cap, .bool c.cl, .int .i64 c.rc, .int .i64 c.rf, .slice q.za z1 q.zc, .int .i64 c.rk, .int .i64 c.sent, .int .i64 c.got, .slice q.sa q.sn q.sc, .slice q.ra q.rn q.rq] 27)).alloc (.cells zero10 27))
  case first =>
    by_cases h6 : q.zn ≤ 12
    · have h' : (q.zn : Int) ≤ 12 := by omega
      have hcc : z1 = q.zn := by have := HZ1.out; omega
      subst hcc
      clear HZ1
      go_wp2_with fail
      go_meet
      exact ⟨rfl, rfl⟩
    · have h' : (12 : Int) < (q.zn : Int) := by omega
      have hcc : z1 = 12 := by have := HZ1.out; omega
      subst hcc
      clear HZ1
      go_wp2_with fail
      go_meet
      exact ⟨rfl, rfl⟩
  case rest =>
    obtain ⟨rfl, rfl⟩ := hcut
    have K0 := Lib.hid ((Bx.new w #[.int .i64 c.cap, .bool c.cl, .int .i64 c.rc, .int .i64 c.rf, .slice q.za z1 q.zc, .int .i64 c.rk, .int .i64 c.sent, .int .i64 c.got, .slice q.sa q.sn q.sc, .slice q.ra q.rn q.rq] 27).below (below_alloc _ (.cells zero10 27)))
    have K1 := Lib.hid (Bx.new2 w (.cells #[.int .i64 c.cap, .bool c.cl, .int .i64 c.rc, .int .i64 c.rf, .slice q.za z1 q.zc, .int .i64 c.rk, .int .i64 c.sent, .int .i64 c.got, .slice q.sa q.sn q.sc, .slice q.ra q.rn q.rq] 27) zero10 27)
    have AX := Lib.hid ((below_alloc w (.cells #[.int .i64 c.cap, .bool c.cl, .int .i64 c.rc, .int .i64 c.rf, .slice q.za z1 q.zc, .int .i64 c.rk, .int .i64 c.sent, .int .i64 c.got, .slice q.sa q.sn q.sc, .slice q.ra q.rn q.rq] 27)).alloc (by simp) (.cells zero10 27))
    obtain ⟨X, hX⟩ : ∃ X, X = (w.alloc (.cells #[.int .i64 c.cap, .bool c.cl, .int .i64 c.rc, .int .i64 c.rf, .slice q.za z1 q.zc, .int .i64 c.rk, .int .i64 c.sent, .int .i64 c.got, .slice q.sa q.sn q.sc, .slice q.ra q.rn q.rq] 27)).alloc (.cells zero10 27) := ⟨_, rfl⟩
    obtain ⟨b1, h1⟩ : ∃ b, b = w.heap.size + 1 := ⟨_, rfl⟩
    obtain ⟨b0, h0⟩ : ∃ b, b = w.heap.size := ⟨_, rfl⟩
    have HW := Lib.hid (show w.heap.size ≤ b0 ∧ w.heap.size ≤ b1 by omega)
    rw [← hX] at AX K0 K1 ⊢
    rw [← h1] at K1 ⊢
    rw [← h0] at K0 ⊢
    have n01 : b0 ≠ b1 := by omega
    have n10 : b1 ≠ b0 := by omega
    clear hX h1 h0
    have G := Lib.hid (below_st10 ((((AX.out.setCell (p := ⟨b0, 8, none⟩) HW.out.1 (.slice q.sa s1 q.sc)).setCell (p := ⟨b0, 9, none⟩) HW.out.1 (.slice q.ra r1 q.rq))).drew) HW.out.2 (.int .i64 c.cap) (.bool c.cl) (.int .i64 c.rc) (.int .i64 c.rf) (.slice q.za z1 q.zc) (.int .i64 c.rk) (.int .i64 c.sent) (.int .i64 c.got) (.slice q.sa s1 q.sc) (.slice q.ra r1 q.rq))
    have GB := Lib.hid (((grow_set (grow_setCell X b0 8 (.slice q.sa s1 q.sc)) 9 (.slice q.ra r1 q.rq))))
    have E1 := Lib.hid ((((K1.out.other GB.out (fun e => n10 (by cases e; rfl))).below (Below.refl _ _).drew)).st10 (.int .i64 c.cap) (.bool c.cl) (.int .i64 c.rc) (.int .i64 c.rf) (.slice q.za z1 q.zc) (.int .i64 c.rk) (.int .i64 c.sent) (.int .i64 c.got) (.slice q.sa s1 q.sc) (.slice q.ra r1 q.rq))
    have G2 := Lib.hid ((below_st10 ((((AX.out.setCell (p := ⟨b0, 8, none⟩) HW.out.1 (.slice q.sa s1 q.sc)).setCell (p := ⟨b0, 9, none⟩) HW.out.1 (.slice q.ra r1 q.rq)))) HW.out.2 (.int .i64 c.cap) (.bool c.cl) (.int .i64 c.rc) (.int .i64 c.rf) (.slice q.za z1 q.zc) (.int .i64 c.rk) (.int .i64 c.sent) (.int .i64 c.got) (.slice q.sa s1 q.sc) (.slice q.ra r1 q.rq)).drew)
    have E2 := Lib.hid (((((K1.out.other GB.out (fun e => n10 (by cases e; rfl)))).st10 (.int .i64 c.cap) (.bool c.cl) (.int .i64 c.rc) (.int .i64 c.rf) (.slice q.za z1 q.zc) (.int .i64 c.rk) (.int .i64 c.sent) (.int .i64 c.got) (.slice q.sa s1 q.sc) (.slice q.ra r1 q.rq))).below (Below.refl _ _).drew)
    obtain ⟨t0, t1, t2, t3, t4, t5, t6, t7, t8, t9⟩ := K0.out.cells10
    obtain ⟨u0, u1, u2, u3, u4, u5, u6, u7, u8, u9⟩ := K1.out.cells10
    have l0 := K0.out.lt; have l1 := K1.out.lt; have f8 := K0.out.froz 8; have f9 := K0.out.froz 9; have g0 := K1.out.froz 0; have g1 := K1.out.froz 1; have g2 := K1.out.froz 2; have g3 := K1.out.froz 3; have g4 := K1.out.froz 4; have g5 := K1.out.froz 5; have g6 := K1.out.froz 6; have g7 := K1.out.froz 7; have g8 := K1.out.froz 8; have g9 := K1.out.froz 9
    by_cases h7 : q.sn ≤ 70
    · have hs' : (q.sn : Int) ≤ 70 := by omega
      have hss : s1 = q.sn := by have := HS1.out; omega
      have HAT1 := Lib.hid (show min q.sn 70 = q.sn by omega)
      clear HS1
      subst hss
      by_cases h8 : q.rn ≤ 70
      · have hr' : (q.rn : Int) ≤ 70 := by omega
        have hrr : r1 = q.rn := by have := HR1.out; omega
        have HAT2 := Lib.hid (show min q.rn 70 = q.rn by omega)
        have HAT := Lib.hid (show fewAt q = ⟨q.za, z1, q.zc, q.sa, q.sn, q.sc, q.ra, q.rn, q.rq⟩ by unfold fewAt; rw [HAT1.out, HAT2.out, HZ1.out])
        clear HR1
        subst hrr
        go_wp2_with fail
        go_region
        all_goals
          go_wp2_with fail
          rw [HAT.out]
          exact bodyPost_ret (v := chV (fewC c) ⟨q.za, z1, q.zc, q.sa, q.sn, q.sc, q.ra, q.rn, q.rq⟩) (by rw [res1_c Try.results7 _ (by rfl) (E2.out.load Try.underlying27 infC)]; rfl) rfl ⟨rfl, HF.out _ G2.out, G2.out⟩
      · have hr' : (70 : Int) < (q.rn : Int) := by omega
        have hrr : r1 = 70 := by have := HR1.out; omega
        have HAT2 := Lib.hid (show min q.rn 70 = 70 by omega)
        have HAT := Lib.hid (show fewAt q = ⟨q.za, z1, q.zc, q.sa, q.sn, q.sc, q.ra, 70, q.rq⟩ by unfold fewAt; rw [HAT1.out, HAT2.out, HZ1.out])
        clear HR1
        subst hrr
        go_wp2_with fail
        go_region
        all_goals
          go_wp2_with fail
          rw [HAT.out]
          exact bodyPost_ret (v := chV (fewC c) ⟨q.za, z1, q.zc, q.sa, q.sn, q.sc, q.ra, 70, q.rq⟩) (by rw [res1_c Try.results7 _ (by rfl) (E2.out.load Try.underlying27 infC)]; rfl) rfl ⟨rfl, HF.out _ G2.out, G2.out⟩
    · have hs' : (70 : Int) < (q.sn : Int) := by omega
      have hss : s1 = 70 := by have := HS1.out; omega
      have HAT1 := Lib.hid (show min q.sn 70 = 70 by omega)
      clear HS1
      subst hss
      by_cases h8 : q.rn ≤ 70
      · have hr' : (q.rn : Int) ≤ 70 := by omega
        have hrr : r1 = q.rn := by have := HR1.out; omega
        have HAT2 := Lib.hid (show min q.rn 70 = q.rn by omega)
        have HAT := Lib.hid (show fewAt q = ⟨q.za, z1, q.zc, q.sa, 70, q.sc, q.ra, q.rn, q.rq⟩ by unfold fewAt; rw [HAT1.out, HAT2.out, HZ1.out])
        clear HR1
        subst hrr
        go_wp2_with fail
        go_region
        all_goals
          go_wp2_with fail
          rw [HAT.out]
          exact bodyPost_ret (v := chV (fewC c) ⟨q.za, z1, q.zc, q.sa, 70, q.sc, q.ra, q.rn, q.rq⟩) (by rw [res1_c Try.results7 _ (by rfl) (E2.out.load Try.underlying27 infC)]; rfl) rfl ⟨rfl, HF.out _ G2.out, G2.out⟩
      · have hr' : (70 : Int) < (q.rn : Int) := by omega
        have hrr : r1 = 70 := by have := HR1.out; omega
        have HAT2 := Lib.hid (show min q.rn 70 = 70 by omega)
        have HAT := Lib.hid (show fewAt q = ⟨q.za, z1, q.zc, q.sa, 70, q.sc, q.ra, 70, q.rq⟩ by unfold fewAt; rw [HAT1.out, HAT2.out, HZ1.out])
        clear HR1
        subst hrr
        go_wp2_with fail
        go_region
        all_goals
          go_wp2_with fail
          rw [HAT.out]
          exact bodyPost_ret (v := chV (fewC c) ⟨q.za, z1, q.zc, q.sa, 70, q.sc, q.ra, 70, q.rq⟩) (by rw [res1_c Try.results7 _ (by rfl) (E2.out.load Try.underlying27 infC)]; rfl) rfl ⟨rfl, HF.out _ G2.out, G2.out⟩
end Go.Proofs.Ytfolhgpbplfilaa
