/- The reference: Close, Leave, Ready, New. -/
import Derived.Test.YtfolhgpbplfilaaD4
import Derived.Test.YtfolhgpbplfilaaE4
namespace Go.Proofs.Ytfolhgpbplfilaa
open Go.RowKit
def GotRC (w : World) (c : Chn) (e : Ending) (w' : World) : Prop := ∃ q, e = .returned (chV c q) ∧ Cha w' c q ∧ Below w.heap.size w w'
def GotRX (w : World) (c : Chn) (told : List Wt) (panics : Bool) (e : Ending) (w' : World) : Prop := ∃ q a n p, e = .returned (.tuple #[chV c q, .slice a n p, .bool panics]) ∧ Cha w' c q ∧ Wts w' a n p told ∧ Below w.heap.size w w'
set_option maxRecDepth 100000 in
set_option maxHeartbeats 4000000 in
theorem refClose_true (cap_ rc rf : Int) (zs : List Int) (rk sent got : Int) (sends recvs : List Wt) (q : CAt) (w : World) (h : Cha w ⟨cap_, true, rc, rf, zs, rk, sent, got, sends, recvs⟩ q) (hm : -1 ≤ cap_) : Calls Try.prog 18 #[chV ⟨cap_, true, rc, rf, zs, rk, sent, got, sends, recvs⟩ q] w (GotRX w (closedC ⟨cap_, true, rc, rf, zs, rk, sent, got, sends, recvs⟩) (toldC ⟨cap_, true, rc, rf, zs, rk, sent, got, sends, recvs⟩) (panicC ⟨cap_, true, rc, rf, zs, rk, sent, got, sends, recvs⟩)) := by
  have AX := Lib.hid ((below_alloc w (.cells (chC ⟨cap_, true, rc, rf, zs, rk, sent, got, sends, recvs⟩ q) 27)).alloc (by simp) (.cells zero10 27))
  have K0 := Lib.hid ((Bx.new w (chC ⟨cap_, true, rc, rf, zs, rk, sent, got, sends, recvs⟩ q) 27).below (below_alloc _ (.cells zero10 27)))
  have K1 := Lib.hid (Bx.new2 w (.cells (chC ⟨cap_, true, rc, rf, zs, rk, sent, got, sends, recvs⟩ q) 27) zero10 27)
  have HX0 := Lib.hid (h.below AX.out)
  have HSL := Lib.hid h.sends.recs.len_eq
  have hsn := h.sends.recs.len_le
  simp only at HSL hsn
  go_enter Try.func18, Try.ntmps18
  go_upto_region 1 with (fail)
  obtain ⟨X, hX⟩ : ∃ X, X = (w.alloc (.cells (chC ⟨cap_, true, rc, rf, zs, rk, sent, got, sends, recvs⟩ q) 27)).alloc (.cells zero10 27) := ⟨_, rfl⟩
  rw [← hX] at AX K0 K1 HX0 ⊢
  obtain ⟨b1, h1⟩ : ∃ b, b = w.heap.size + 1 := ⟨_, rfl⟩
  obtain ⟨b0, h0⟩ : ∃ b, b = w.heap.size := ⟨_, rfl⟩
  have HBW := Lib.hid (show w.heap.size ≤ b0 ∧ w.heap.size ≤ b1 by omega)
  rw [← h1] at K1 ⊢
  rw [← h0] at K0 ⊢
  have n01 : b0 ≠ b1 := by omega
  have n10 : b1 ≠ b0 := by omega
  have AP0 := Lib.hid (show Ap q b0 by rw [h0]; exact h.ap (Nat.le_refl _))
  have AP1 := Lib.hid (show Ap q b1 by rw [h1]; exact h.ap (Nat.le_succ _))
  clear hX h1 h0 h
  obtain ⟨t0, t1, t2, t3, t4, t5, t6, t7, t8, t9⟩ := K0.out.cells10
  obtain ⟨u0, u1, u2, u3, u4, u5, u6, u7, u8, u9⟩ := K1.out.cells10
  have l0 := K0.out.lt; have l1 := K1.out.lt; have f0 := K1.out.froz 0; have f1 := K1.out.froz 1; have f2 := K1.out.froz 2; have f3 := K1.out.froz 3; have f4 := K1.out.froz 4; have f5 := K1.out.froz 5; have f6 := K1.out.froz 6; have f7 := K1.out.froz 7; have f8 := K1.out.froz 8; have f9 := K1.out.froz 9; have g1 := K0.out.froz 1; have g9 := K0.out.froz 9
  have E1 := Lib.hid (K1.out.st10 (.int .i64 cap_) (.bool true) (.int .i64 rc) (.int .i64 rf) (.slice q.za q.zn q.zc) (.int .i64 rk) (.int .i64 sent) (.int .i64 got) (.slice q.sa q.sn q.sc) (.slice q.ra q.rn q.rq))
  have E3 := Lib.hid (below_st10 AX.out HBW.out.2 (.int .i64 cap_) (.bool true) (.int .i64 rc) (.int .i64 rf) (.slice q.za q.zn q.zc) (.int .i64 rk) (.int .i64 sent) (.int .i64 got) (.slice q.sa q.sn q.sc) (.slice q.ra q.rn q.rq))
  have CE := Lib.hid (HX0.out.other AP1.out (grown_st10 (World.grownBy.refl _ (some b1)) (.int .i64 cap_) (.bool true) (.int .i64 rc) (.int .i64 rf) (.slice q.za q.zn q.zc) (.int .i64 rk) (.int .i64 sent) (.int .i64 got) (.slice q.sa q.sn q.sc) (.slice q.ra q.rn q.rq)))
  have FIN := Lib.hid (fun (hp : panicC ⟨cap_, true, rc, rf, zs, rk, sent, got, sends, recvs⟩ = true) => show GotRX w (closedC ⟨cap_, true, rc, rf, zs, rk, sent, got, sends, recvs⟩) (toldC ⟨cap_, true, rc, rf, zs, rk, sent, got, sends, recvs⟩) (panicC ⟨cap_, true, rc, rf, zs, rk, sent, got, sends, recvs⟩) (.returned (.tuple #[chV ⟨cap_, true, rc, rf, zs, rk, sent, got, sends, recvs⟩ q, .slice none 0 0, .bool true])) (st10 X b1 (.int .i64 cap_) (.bool true) (.int .i64 rc) (.int .i64 rf) (.slice q.za q.zn q.zc) (.int .i64 rk) (.int .i64 sent) (.int .i64 got) (.slice q.sa q.sn q.sc) (.slice q.ra q.rn q.rq)) from ⟨q, none, 0, 0, by rw [show closedC ⟨cap_, true, rc, rf, zs, rk, sent, got, sends, recvs⟩ = ⟨cap_, true, rc, rf, zs, rk, sent, got, sends, recvs⟩ from if_pos hp, hp], by rw [show closedC ⟨cap_, true, rc, rf, zs, rk, sent, got, sends, recvs⟩ = ⟨cap_, true, rc, rf, zs, rk, sent, got, sends, recvs⟩ from if_pos hp]; exact CE.out, by rw [show toldC ⟨cap_, true, rc, rf, zs, rk, sent, got, sends, recvs⟩ = [] from if_pos hp]; exact Wts.nil _, E3.out⟩)
  by_cases hcap : cap_ = -1
  · have HP := Lib.hid (show panicC ⟨cap_, true, rc, rf, zs, rk, sent, got, sends, recvs⟩ = true by simp [panicC, hcap])
    have hcb : (cap_ == -1) = true := by rw [beq_iff_eq]; exact hcap
    clear hcap
    go_wp2_with fail
    exact bodyPost_ret (v := .tuple #[chV ⟨cap_, true, rc, rf, zs, rk, sent, got, sends, recvs⟩ q, .slice none 0 0, .bool true]) (by rw [res_c2 Try.results18 _ (by rfl) (E1.out.load Try.underlying27 infC)]; rfl) rfl (FIN.out HP.out)
  have hcb : (cap_ == -1) = false := by rw [beq_eq_false_iff_ne]; exact hcap
  have HP := Lib.hid (show panicC ⟨cap_, true, rc, rf, zs, rk, sent, got, sends, recvs⟩ = true by simp [panicC])
  clear hcap
  go_wp2_with fail
  exact bodyPost_ret (v := .tuple #[chV ⟨cap_, true, rc, rf, zs, rk, sent, got, sends, recvs⟩ q, .slice none 0 0, .bool true]) (by rw [res_c2 Try.results18 _ (by rfl) (E1.out.load Try.underlying27 infC)]; rfl) rfl (FIN.out HP.out)
set_option maxRecDepth 100000 in
set_option maxHeartbeats 4000000 in
theorem refClose_false (cap_ rc rf : Int) (zs : List Int) (rk sent got : Int) (sends recvs : List Wt) (q : CAt) (w : World) (h : Cha w ⟨cap_, false, rc, rf, zs, rk, sent, got, sends, recvs⟩ q) (hm : -1 ≤ cap_) : Calls Try.prog 18 #[chV ⟨cap_, false, rc, rf, zs, rk, sent, got, sends, recvs⟩ q] w (GotRX w (closedC ⟨cap_, false, rc, rf, zs, rk, sent, got, sends, recvs⟩) (toldC ⟨cap_, false, rc, rf, zs, rk, sent, got, sends, recvs⟩) (panicC ⟨cap_, false, rc, rf, zs, rk, sent, got, sends, recvs⟩)) := by
  have AX := Lib.hid ((below_alloc w (.cells (chC ⟨cap_, false, rc, rf, zs, rk, sent, got, sends, recvs⟩ q) 27)).alloc (by simp) (.cells zero10 27))
  have K0 := Lib.hid ((Bx.new w (chC ⟨cap_, false, rc, rf, zs, rk, sent, got, sends, recvs⟩ q) 27).below (below_alloc _ (.cells zero10 27)))
  have K1 := Lib.hid (Bx.new2 w (.cells (chC ⟨cap_, false, rc, rf, zs, rk, sent, got, sends, recvs⟩ q) 27) zero10 27)
  have HX0 := Lib.hid (h.below AX.out)
  have HSL := Lib.hid h.sends.recs.len_eq
  have hsn := h.sends.recs.len_le
  simp only at HSL hsn
  go_enter Try.func18, Try.ntmps18
  go_upto_region 1 with (fail)
  obtain ⟨X, hX⟩ : ∃ X, X = (w.alloc (.cells (chC ⟨cap_, false, rc, rf, zs, rk, sent, got, sends, recvs⟩ q) 27)).alloc (.cells zero10 27) := ⟨_, rfl⟩
  rw [← hX] at AX K0 K1 HX0 ⊢
  obtain ⟨b1, h1⟩ : ∃ b, b = w.heap.size + 1 := ⟨_, rfl⟩
  obtain ⟨b0, h0⟩ : ∃ b, b = w.heap.size := ⟨_, rfl⟩
  have HBW := Lib.hid (show w.heap.size ≤ b0 ∧ w.heap.size ≤ b1 by omega)
  rw [← h1] at K1 ⊢
  rw [← h0] at K0 ⊢
  have n01 : b0 ≠ b1 := by omega
  have n10 : b1 ≠ b0 := by omega
  have AP0 := Lib.hid (show Ap q b0 by rw [h0]; exact h.ap (Nat.le_refl _))
  have AP1 := Lib.hid (show Ap q b1 by rw [h1]; exact h.ap (Nat.le_succ _))
  clear hX h1 h0 h
  obtain ⟨t0, t1, t2, t3, t4, t5, t6, t7, t8, t9⟩ := K0.out.cells10
  obtain ⟨u0, u1, u2, u3, u4, u5, u6, u7, u8, u9⟩ := K1.out.cells10
  have l0 := K0.out.lt; have l1 := K1.out.lt; have f0 := K1.out.froz 0; have f1 := K1.out.froz 1; have f2 := K1.out.froz 2; have f3 := K1.out.froz 3; have f4 := K1.out.froz 4; have f5 := K1.out.froz 5; have f6 := K1.out.froz 6; have f7 := K1.out.froz 7; have f8 := K1.out.froz 8; have f9 := K1.out.froz 9; have g1 := K0.out.froz 1; have g9 := K0.out.froz 9
  have E1 := Lib.hid (K1.out.st10 (.int .i64 cap_) (.bool false) (.int .i64 rc) (.int .i64 rf) (.slice q.za q.zn q.zc) (.int .i64 rk) (.int .i64 sent) (.int .i64 got) (.slice q.sa q.sn q.sc) (.slice q.ra q.rn q.rq))
  have E3 := Lib.hid (below_st10 AX.out HBW.out.2 (.int .i64 cap_) (.bool false) (.int .i64 rc) (.int .i64 rf) (.slice q.za q.zn q.zc) (.int .i64 rk) (.int .i64 sent) (.int .i64 got) (.slice q.sa q.sn q.sc) (.slice q.ra q.rn q.rq))
  have CE := Lib.hid (HX0.out.other AP1.out (grown_st10 (World.grownBy.refl _ (some b1)) (.int .i64 cap_) (.bool false) (.int .i64 rc) (.int .i64 rf) (.slice q.za q.zn q.zc) (.int .i64 rk) (.int .i64 sent) (.int .i64 got) (.slice q.sa q.sn q.sc) (.slice q.ra q.rn q.rq)))
  have FIN := Lib.hid (fun (hp : panicC ⟨cap_, false, rc, rf, zs, rk, sent, got, sends, recvs⟩ = true) => show GotRX w (closedC ⟨cap_, false, rc, rf, zs, rk, sent, got, sends, recvs⟩) (toldC ⟨cap_, false, rc, rf, zs, rk, sent, got, sends, recvs⟩) (panicC ⟨cap_, false, rc, rf, zs, rk, sent, got, sends, recvs⟩) (.returned (.tuple #[chV ⟨cap_, false, rc, rf, zs, rk, sent, got, sends, recvs⟩ q, .slice none 0 0, .bool true])) (st10 X b1 (.int .i64 cap_) (.bool false) (.int .i64 rc) (.int .i64 rf) (.slice q.za q.zn q.zc) (.int .i64 rk) (.int .i64 sent) (.int .i64 got) (.slice q.sa q.sn q.sc) (.slice q.ra q.rn q.rq)) from ⟨q, none, 0, 0, by rw [show closedC ⟨cap_, false, rc, rf, zs, rk, sent, got, sends, recvs⟩ = ⟨cap_, false, rc, rf, zs, rk, sent, got, sends, recvs⟩ from if_pos hp, hp], by rw [show closedC ⟨cap_, false, rc, rf, zs, rk, sent, got, sends, recvs⟩ = ⟨cap_, false, rc, rf, zs, rk, sent, got, sends, recvs⟩ from if_pos hp]; exact CE.out, by rw [show toldC ⟨cap_, false, rc, rf, zs, rk, sent, got, sends, recvs⟩ = [] from if_pos hp]; exact Wts.nil _, E3.out⟩)
  by_cases hcap : cap_ = -1
  · have HP := Lib.hid (show panicC ⟨cap_, false, rc, rf, zs, rk, sent, got, sends, recvs⟩ = true by simp [panicC, hcap])
    have hcb : (cap_ == -1) = true := by rw [beq_iff_eq]; exact hcap
    clear hcap
    go_wp2_with fail
    exact bodyPost_ret (v := .tuple #[chV ⟨cap_, false, rc, rf, zs, rk, sent, got, sends, recvs⟩ q, .slice none 0 0, .bool true]) (by rw [res_c2 Try.results18 _ (by rfl) (E1.out.load Try.underlying27 infC)]; rfl) rfl (FIN.out HP.out)
  have hcb : (cap_ == -1) = false := by rw [beq_eq_false_iff_ne]; exact hcap
  rcases Nat.eq_zero_or_pos q.sn with hs | hs
  · have HSZ := Lib.hid hs
    have hz1 : decide (0 < q.sn) = false := decide_eq_false (by omega)
    have hz2 : decide ((0 : Int) < (q.sn : Int)) = false := decide_eq_false (by omega)
    have HPF := Lib.hid (show panicC ⟨cap_, false, rc, rf, zs, rk, sent, got, sends, recvs⟩ = false by
      have : sends = [] := List.eq_nil_of_length_eq_zero (by rw [HSL.out]; exact hs)
      simp [panicC, this]; omega)
    clear hs hcap
    have HP1 := Lib.hid (show closedC ⟨cap_, false, rc, rf, zs, rk, sent, got, sends, recvs⟩ = closeC ⟨cap_, false, rc, rf, zs, rk, sent, got, sends, recvs⟩ from if_neg (by rw [HPF.out]; decide))
    have HP2 := Lib.hid (show toldC ⟨cap_, false, rc, rf, zs, rk, sent, got, sends, recvs⟩ = recvs from if_neg (by rw [HPF.out]; decide))
    go_upto_region 5 with (fail)
    clear t0 t1 t2 t3 t4 t5 t6 t7 t8 t9 u0 u1 u2 u3 u4 u5 u6 u7 u8 u9 l0 l1 f0 f1 f2 f3 f4 f5 f6 f7 f8 f9 g1 g9 E1 E3 CE FIN
    have G1 := Lib.hid (grow_setCell X b0 9 (.slice none 0 0))
    have Y1 := Lib.hid (K0.out.set 9 (.slice none 0 0))
    have H1 := Lib.hid (HX0.out.other AP0.out G1.out)
    have K11 := Lib.hid (K1.out.other G1.out (fun e => n10 (by cases e; rfl)))
    have A1 := Lib.hid (AX.out.setCell (p := ⟨b0, 9, none⟩) HBW.out.1 (.slice none 0 0))
    obtain ⟨X1, hX1⟩ : ∃ x, x = X.setCell ⟨b0, 9, none⟩ (.slice none 0 0) := ⟨_, rfl⟩
    rw [← hX1] at Y1 H1 K11 A1 ⊢
    clear hX1 G1
    obtain ⟨t0, t1, t2, t3, t4, t5, t6, t7, t8, t9⟩ := Bx.cells10 Y1.out
    have l0 := Bx.lt Y1.out; have g1 := Bx.froz Y1.out 1
    go_upto_region 6 with (fail)
    clear t0 t1 t2 t3 t4 t5 t6 t7 t8 t9 l0 g1
    have G := Lib.hid (grow_setCell X1 b0 1 (.bool true))
    have YB := Lib.hid (Bx.set Y1.out 1 (.bool true))
    have HYZ := Lib.hid (H1.out.other AP0.out G.out)
    have K1z := Lib.hid (K11.out.other G.out (fun e => n10 (by cases e; rfl)))
    have AZ := Lib.hid (A1.out.setCell (p := ⟨b0, 1, none⟩) HBW.out.1 (.bool true))
    obtain ⟨Y, hY⟩ : ∃ Y, Y = X1.setCell ⟨b0, 1, none⟩ (.bool true) := ⟨_, rfl⟩
    rw [← hY] at YB HYZ K1z AZ ⊢
    clear hY
    have F1 := Lib.hid (K1z.out.st10 (.int .i64 cap_) (.bool true) (.int .i64 rc) (.int .i64 rf) (.slice q.za q.zn q.zc) (.int .i64 rk) (.int .i64 sent) (.int .i64 got) (.slice q.sa q.sn q.sc) (.slice none 0 0))
    have F3 := Lib.hid (below_st10 AZ.out HBW.out.2 (.int .i64 cap_) (.bool true) (.int .i64 rc) (.int .i64 rf) (.slice q.za q.zn q.zc) (.int .i64 rk) (.int .i64 sent) (.int .i64 got) (.slice q.sa q.sn q.sc) (.slice none 0 0))
    have DE := Lib.hid (HYZ.out.other AP1.out (grown_st10 (World.grownBy.refl _ (some b1)) (.int .i64 cap_) (.bool true) (.int .i64 rc) (.int .i64 rf) (.slice q.za q.zn q.zc) (.int .i64 rk) (.int .i64 sent) (.int .i64 got) (.slice q.sa q.sn q.sc) (.slice none 0 0)))
    obtain ⟨t0, t1, t2, t3, t4, t5, t6, t7, t8, t9⟩ := Bx.cells10 YB.out
    obtain ⟨u0, u1, u2, u3, u4, u5, u6, u7, u8, u9⟩ := K1z.out.cells10
    have l1 := K1z.out.lt; have f0 := K1z.out.froz 0; have f1 := K1z.out.froz 1; have f2 := K1z.out.froz 2; have f3 := K1z.out.froz 3; have f4 := K1z.out.froz 4; have f5 := K1z.out.froz 5; have f6 := K1z.out.froz 6; have f7 := K1z.out.froz 7; have f8 := K1z.out.froz 8; have f9 := K1z.out.froz 9
    go_wp2_with fail
    exact bodyPost_ret (v := .tuple #[chV (closeC ⟨cap_, false, rc, rf, zs, rk, sent, got, sends, recvs⟩) ⟨q.za, q.zn, q.zc, q.sa, q.sn, q.sc, none, 0, 0⟩, .slice q.ra q.rn q.rq, .bool false]) (by rw [res_c2 Try.results18 _ (by rfl) (F1.out.load Try.underlying27 infC)]; rfl) rfl ⟨⟨q.za, q.zn, q.zc, q.sa, q.sn, q.sc, none, 0, 0⟩, q.ra, q.rn, q.rq, by rw [HP1.out, HPF.out], by rw [HP1.out]; exact ⟨DE.out.cap, DE.out.rc, DE.out.rf, DE.out.rk, DE.out.sent, DE.out.got, DE.out.zs, DE.out.sends, Wts.nil _⟩, by rw [HP2.out]; exact DE.out.recvs, F3.out⟩
  · have hz1 : decide (0 < q.sn) = true := decide_eq_true hs
    have hz2 : decide ((0 : Int) < (q.sn : Int)) = true := decide_eq_true (by omega)
    have HP := Lib.hid (show panicC ⟨cap_, false, rc, rf, zs, rk, sent, got, sends, recvs⟩ = true by
      cases hss : sends with
      | nil => rw [hss] at HSL; have := HSL.out; simp at this; omega
      | cons a b => simp [panicC])
    clear hs hcap
    go_wp2_with fail
    exact bodyPost_ret (v := .tuple #[chV ⟨cap_, false, rc, rf, zs, rk, sent, got, sends, recvs⟩ q, .slice none 0 0, .bool true]) (by rw [res_c2 Try.results18 _ (by rfl) (E1.out.load Try.underlying27 infC)]; rfl) rfl (FIN.out HP.out)
theorem refClose_any (c : Chn) (q : CAt) (w : World) (h : Cha w c q) (hm : -1 ≤ c.cap) : Calls Try.prog 18 #[chV c q] w (GotRX w (closedC c) (toldC c) (panicC c)) := by
  obtain ⟨cap_, cl, rc, rf, zs, rk, sent, got, sends, recvs⟩ := c
  cases cl with
  | true => exact refClose_true cap_ rc rf zs rk sent got sends recvs q w h hm
  | false => exact refClose_false cap_ rc rf zs rk sent got sends recvs q w h hm
set_option maxRecDepth 100000 in
set_option maxHeartbeats 4000000 in
theorem refLeave_any (c : Chn) (q : CAt) (g : Int) (w : World) (h : Cha w c q) (hs64 : q.sn ≤ 1000) (hr64 : q.rn ≤ 1000) (hgI : I64 g) : Calls Try.prog 21 #[chV c q, .int .i64 g] w (GotRC w (leaveC c g)) := by
  have AX := Lib.hid ((below_alloc w (.cells (chC c q) 27)).alloc (by simp) (.cells zero10 27))
  have K0 := Lib.hid ((Bx.new w (chC c q) 27).below (below_alloc _ (.cells zero10 27)))
  have K1 := Lib.hid (Bx.new2 w (.cells (chC c q) 27) zero10 27)
  have HX0 := Lib.hid (h.below AX.out)
  have HD1 := Lib.hid (fun W (H : Cha W c q) => refDrop_own q.sa q.sn q.sc c.sends g W H.sends hs64 hgI)
  have HD2 := Lib.hid (fun W (H : Wts W q.ra q.rn q.rq c.recvs) => refDrop_own q.ra q.rn q.rq c.recvs g W H hr64 hgI)
  unfold GotO at HD1 HD2
  have HOK1 := Lib.hid h.sends.ok; have HOK2 := Lib.hid h.recvs.ok
  go_enter Try.func21, Try.ntmps21
  go_upto_region 1 with (fail)
  obtain ⟨X, hX⟩ : ∃ X, X = (w.alloc (.cells (chC c q) 27)).alloc (.cells zero10 27) := ⟨_, rfl⟩
  rw [← hX] at AX K0 K1 HX0 ⊢
  obtain ⟨b1, h1⟩ : ∃ b, b = w.heap.size + 1 := ⟨_, rfl⟩
  obtain ⟨b0, h0⟩ : ∃ b, b = w.heap.size := ⟨_, rfl⟩
  have HBW := Lib.hid (show w.heap.size ≤ b0 ∧ w.heap.size ≤ b1 by omega)
  rw [← h1] at K1 ⊢
  rw [← h0] at K0 ⊢
  have n01 : b0 ≠ b1 := by omega
  have n10 : b1 ≠ b0 := by omega
  have AP0 := Lib.hid (show Ap q b0 by rw [h0]; exact h.ap (Nat.le_refl _))
  have AP1 := Lib.hid (show Ap q b1 by rw [h1]; exact h.ap (Nat.le_succ _))
  clear hX h1 h0 h
  obtain ⟨t0, t1, t2, t3, t4, t5, t6, t7, t8, t9⟩ := K0.out.cells10
  go_wp2_with fail
  refine (HD1.out _ HX0.out).mono ?_
  rintro e w2 ⟨v, rfl, ho, hb⟩
  obtain ⟨sa2, sc2, rfl, hrec⟩ := OwnR.recs wcells_len ho
  have S2 := Lib.hid (show Wts w2 sa2 (dropW c.sends g).length sc2 (dropW c.sends g) from ⟨hrec, fun y hy => HOK1.out y (List.mem_filter.1 hy).1⟩)
  have FSh := Lib.hid (show ∀ B, B < X.heap.size → ∀ y, sa2 = some y → 0 < (dropW c.sends g).length → y.block ≠ B from fun B hB y hy _ => by have := OwnR.lt ho y.block (by rw [hy]; rfl); omega)
  have A2 := Lib.hid (AX.out.trans (Below.mono hb AX.out.size)); have K02 := Lib.hid (K0.out.below hb); have K12 := Lib.hid (K1.out.below hb); have H2 := Lib.hid (HX0.out.below hb)
  have HLB := Lib.hid (show b0 < X.heap.size ∧ b1 < X.heap.size from ⟨K0.out.lt, K1.out.lt⟩)
  clear hb ho hrec t0 t1 t2 t3 t4 t5 t6 t7 t8 t9
  obtain ⟨n2, hn2⟩ : ∃ n, n = (dropW c.sends g).length := ⟨_, rfl⟩
  rw [← hn2] at S2 FSh ⊢
  clear hn2
  obtain ⟨t0, t1, t2, t3, t4, t5, t6, t7, t8, t9⟩ := K02.out.cells10
  have l0 := K02.out.lt; have f8 := K02.out.froz 8
  go_upto_region 2 with (fail)
  clear t0 t1 t2 t3 t4 t5 t6 t7 t8 t9 l0 f8
  have A3 := Lib.hid (A2.out.setCell (p := ⟨b0, 8, none⟩) HBW.out.1 (.slice sa2 n2 sc2))
  have K03 := Lib.hid (K02.out.set 8 (.slice sa2 n2 sc2))
  have G3 := Lib.hid (grow_setCell w2 b0 8 (.slice sa2 n2 sc2))
  have K13 := Lib.hid (K12.out.other G3.out (fun e => n10 (by cases e; rfl)))
  have H3 := Lib.hid (H2.out.other AP0.out G3.out)
  have S3 := Lib.hid (S2.out.other (FSh.out b0 HLB.out.1) G3.out)
  obtain ⟨w3, hw3⟩ : ∃ x, x = w2.setCell ⟨b0, 8, none⟩ (.slice sa2 n2 sc2) := ⟨_, rfl⟩
  rw [← hw3] at A3 K03 K13 H3 S3 ⊢
  clear hw3 A2 K02 K12 H2 S2 G3
  obtain ⟨t0, t1, t2, t3, t4, t5, t6, t7, t8, t9⟩ := Bx.cells10 K03.out
  go_wp2_with fail
  refine (HD2.out _ H3.out.recvs).mono ?_
  rintro e w4 ⟨v, rfl, ho, hb⟩
  obtain ⟨ra2, rc2, rfl, hrec⟩ := OwnR.recs wcells_len ho
  have R4 := Lib.hid (show Wts w4 ra2 (dropW c.recvs g).length rc2 (dropW c.recvs g) from ⟨hrec, fun y hy => HOK2.out y (List.mem_filter.1 hy).1⟩)
  have FR := Lib.hid (show ∀ B, B < w3.heap.size → ∀ y, ra2 = some y → 0 < (dropW c.recvs g).length → y.block ≠ B from fun B hB y hy _ => by have := OwnR.lt ho y.block (by rw [hy]; rfl); omega)
  have A4 := Lib.hid (A3.out.trans (Below.mono hb A3.out.size)); have K04 := Lib.hid (K03.out.below hb); have K14 := Lib.hid (K13.out.below hb); have H4 := Lib.hid (H3.out.below hb); have S4 := Lib.hid (S3.out.below hb)
  have HL3 := Lib.hid (show b0 < w3.heap.size ∧ b1 < w3.heap.size from ⟨Bx.lt K03.out, K13.out.lt⟩)
  clear hb ho hrec t0 t1 t2 t3 t4 t5 t6 t7 t8 t9
  obtain ⟨m2, hm2⟩ : ∃ n, n = (dropW c.recvs g).length := ⟨_, rfl⟩
  rw [← hm2] at R4 FR ⊢
  clear hm2
  obtain ⟨t0, t1, t2, t3, t4, t5, t6, t7, t8, t9⟩ := Bx.cells10 K04.out
  have l0 := Bx.lt K04.out; have f9 := Bx.froz K04.out 9
  go_upto_region 3 with (fail)
  clear t0 t1 t2 t3 t4 t5 t6 t7 t8 t9 l0 f9
  have A5 := Lib.hid (A4.out.setCell (p := ⟨b0, 9, none⟩) HBW.out.1 (.slice ra2 m2 rc2))
  have K05 := Lib.hid (Bx.set K04.out 9 (.slice ra2 m2 rc2))
  have G5 := Lib.hid (grow_setCell w4 b0 9 (.slice ra2 m2 rc2))
  have K15 := Lib.hid (K14.out.other G5.out (fun e => n10 (by cases e; rfl)))
  have H5 := Lib.hid (H4.out.other AP0.out G5.out)
  have S5 := Lib.hid (S4.out.other (FSh.out b0 HLB.out.1) G5.out)
  have R5 := Lib.hid (R4.out.other (FR.out b0 HL3.out.1) G5.out)
  obtain ⟨w5, hw5⟩ : ∃ x, x = w4.setCell ⟨b0, 9, none⟩ (.slice ra2 m2 rc2) := ⟨_, rfl⟩
  rw [← hw5] at A5 K05 K15 H5 S5 R5 ⊢
  clear hw5 A4 K04 K14 H4 S4 R4 G5
  obtain ⟨t0, t1, t2, t3, t4, t5, t6, t7, t8, t9⟩ := Bx.cells10 K05.out
  obtain ⟨u0, u1, u2, u3, u4, u5, u6, u7, u8, u9⟩ := K15.out.cells10
  have l1 := K15.out.lt; have f0 := K15.out.froz 0; have f1 := K15.out.froz 1; have f2 := K15.out.froz 2; have f3 := K15.out.froz 3; have f4 := K15.out.froz 4; have f5 := K15.out.froz 5; have f6 := K15.out.froz 6; have f7 := K15.out.froz 7; have f8 := K15.out.froz 8; have f9 := K15.out.froz 9
  have E1 := Lib.hid (K15.out.st10 (.int .i64 c.cap) (.bool c.cl) (.int .i64 c.rc) (.int .i64 c.rf) (.slice q.za q.zn q.zc) (.int .i64 c.rk) (.int .i64 c.sent) (.int .i64 c.got) (.slice sa2 n2 sc2) (.slice ra2 m2 rc2))
  have E3 := Lib.hid (below_st10 A5.out HBW.out.2 (.int .i64 c.cap) (.bool c.cl) (.int .i64 c.rc) (.int .i64 c.rf) (.slice q.za q.zn q.zc) (.int .i64 c.rk) (.int .i64 c.sent) (.int .i64 c.got) (.slice sa2 n2 sc2) (.slice ra2 m2 rc2))
  have GE := Lib.hid (grown_st10 (World.grownBy.refl w5 (some b1)) (.int .i64 c.cap) (.bool c.cl) (.int .i64 c.rc) (.int .i64 c.rf) (.slice q.za q.zn q.zc) (.int .i64 c.rk) (.int .i64 c.sent) (.int .i64 c.got) (.slice sa2 n2 sc2) (.slice ra2 m2 rc2))
  have CE := Lib.hid (H5.out.other AP1.out GE.out)
  have SE := Lib.hid (S5.out.other (FSh.out b1 HLB.out.2) GE.out)
  have RE := Lib.hid (R5.out.other (FR.out b1 HL3.out.2) GE.out)
  go_wp2_with fail
  exact bodyPost_ret (v := chV (leaveC c g) ⟨q.za, q.zn, q.zc, sa2, n2, sc2, ra2, m2, rc2⟩) (by rw [res1_c Try.results21 _ (by rfl) (E1.out.load Try.underlying27 infC)]; rfl) rfl ⟨⟨q.za, q.zn, q.zc, sa2, n2, sc2, ra2, m2, rc2⟩, rfl, ⟨CE.out.cap, CE.out.rc, CE.out.rf, CE.out.rk, CE.out.sent, CE.out.got, CE.out.zs, SE.out, RE.out⟩, E3.out⟩
end Go.Proofs.Ytfolhgpbplfilaa
