/- send: a value for the buffer. -/
import Derived.Test.YtfolhgpbplfilaaC7
namespace Go.Proofs.Ytfolhgpbplfilaa
open Go.RowKit
set_option maxRecDepth 100000 in
set_option maxHeartbeats 1000000 in
theorem send_fill (B : Nat) (c : Chn) (q : CAt) (x : Wt) (w : World) (h : Wk w B c q x) (hc : 0 ≤ c.cap) (hcl : c.cl = false) (hf : firstW c.recvs x.g = none) (hx : 0 ≤ x.g) (hxI : I64 x.g) (hsr : rightW c.sends = true) (hrr : rightW c.recvs = true) (n f k : Nat) (h1 : c.rc = (n : Int)) (h2 : c.rf = (f : Int)) (h3 : c.rk = (k : Int)) (n3 : n ≤ 3) (zl : c.zs.length = n) (fl : f < max n 1) (kl : k < n) (hs0 : 0 ≤ c.sent) (hsm : c.sent < 1048576) :
    Calls Try.prog 43 #[.pointer (some ⟨B, 0, none⟩)] w (Did w B q x (fillC c) (.tuple #[outV ⟨1, c.sent, ⟨-1, 0, 0⟩, 0⟩, .int .i64 0])) := by
  obtain ⟨cap_, cl, rc, rf, zs, rk, sent, got, sends, recvs⟩ := c
  simp only at hc hcl hsr hrr hf h1 h2 h3 zl hs0 hsm
  subst hcl
  have HO := Lib.hid (fun W (H : Wk W B ⟨cap_, false, rc, rf, zs, rk, sent, got, sends, recvs⟩ q x) => isOther_any B _ q x q.ra q.rn q.rq recvs W H H.ch.recvs hrr hx hxI)
  rw [hf] at HO
  have HM := Lib.hid (fun W (H : Wk W B ⟨cap_, false, rc, rf, zs, rk, sent, got, sends, recvs⟩ q x) => hasRoom_any B _ q x W H true (by simp only; exact decide_eq_true (by omega)))
  have HFI := Lib.hid (fun W (H : Wk W B ⟨cap_, false, rc, rf, zs, rk, sent, got, sends, recvs⟩ q x) => fill_ok B _ q x W H n f k h1 h2 h3 n3 zl fl kl hs0 hsm)
  have HSB := Lib.hid (And.intro hs0 hsm)
  clear hf hx hxI hsr hrr h1 h2 h3 n3 zl fl kl hs0 hsm
  unfold Did at HFI
  have A0 := Lib.hid (below_alloc w (.cells zero6 50))
  have HW_0 := Lib.hid (h.below A0.out)
  have B4_0 := Lib.hid (Bx.new w zero6 50)
  have AP_0 := Lib.hid (h.ch.ap (Nat.le_refl _))
  have G_0 := Lib.hid (World.grownBy_alloc w (.cells zero6 50) (some B))
  have KP_0 := Lib.hid (Keeps.refl w q)
  have hlt := h.box.lt
  obtain ⟨R, hR⟩ : ∃ R, R = w.heap.size := ⟨_, rfl⟩
  rw [← hR] at B4_0 AP_0
  have hRB : R ≠ B := by omega
  have HR := Lib.hid hR
  have HRw := Lib.hid (show w.heap.size ≤ R by omega)
  clear hR h A0
  obtain ⟨p0, p1, p2, p3, p4, p5, p6, p7, p8, p9, p10, p11, p12⟩ := HW_0.out.box.cells13
  have lB := HW_0.out.box.lt
  go_enter Try.func43, Try.ntmps43
  go_wp2_with fail
  try rw [← HR.out]
  refine (HO.out _ HW_0.out).mono ?_
  rintro e w1 ⟨rfl, hb⟩
  clear p0 p1 p2 p3 p4 p5 p6 p7 p8 p9 p10 p11 p12 lB
  have HW_1 := Lib.hid (HW_0.out.below hb); have B4_1 := Lib.hid (B4_0.out.below hb); have AP_1 := AP_0; have G_1 := Lib.hid (grow_below G_0.out hb); have KP_1 := KP_0
  clear hb HW_0 B4_0 AP_0 G_0 KP_0
  obtain ⟨p0, p1, p2, p3, p4, p5, p6, p7, p8, p9, p10, p11, p12⟩ := HW_1.out.box.cells13
  have lB := HW_1.out.box.lt
  go_wp2_with fail
  refine (HM.out _ HW_1.out).mono ?_
  rintro e w2 ⟨rfl, hb⟩
  clear p0 p1 p2 p3 p4 p5 p6 p7 p8 p9 p10 p11 p12 lB
  have HW_2 := Lib.hid (HW_1.out.below hb); have B4_2 := Lib.hid (B4_1.out.below hb); have AP_2 := AP_1; have G_2 := Lib.hid (grow_below G_1.out hb); have KP_2 := KP_1
  clear hb HW_1 B4_1 AP_1 G_1 KP_1
  obtain ⟨p0, p1, p2, p3, p4, p5, p6, p7, p8, p9, p10, p11, p12⟩ := HW_2.out.box.cells13
  have lB := HW_2.out.box.lt
  go_wp2_with fail
  refine (alone_any 1 _).mono ?_
  rintro e w3 ⟨rfl, hb⟩
  clear p0 p1 p2 p3 p4 p5 p6 p7 p8 p9 p10 p11 p12 lB
  have HW_3 := Lib.hid (HW_2.out.below hb); have B4_3 := Lib.hid (B4_2.out.below hb); have AP_3 := AP_2; have G_3 := Lib.hid (grow_below G_2.out hb); have KP_3 := KP_2
  clear hb HW_2 B4_2 AP_2 G_2 KP_2
  have hsz := B4_3.out.lt
  have hszB := HW_3.out.box.lt
  have HWa := Lib.hid (HW_3.out.below (below_alloc w3 (.cells (aloneC 1) 50)))
  have B4a := Lib.hid (B4_3.out.below (below_alloc w3 (.cells (aloneC 1) 50)))
  have S_a := Lib.hid (Bx.new w3 (aloneC 1) 50)
  have APS := Lib.hid (HW_3.out.ch.ap (Nat.le_refl _))
  have G_a := Lib.hid (grow_alloc G_3.out (.cells (aloneC 1) 50))
  obtain ⟨p0, p1, p2, p3, p4, p5, p6, p7, p8, p9, p10, p11, p12⟩ := HWa.out.box.cells13
  have lB := HWa.out.box.lt
  go_upto_region 10 with (fail)
  obtain ⟨X2, hX2⟩ : ∃ X, X = w3.alloc (.cells (aloneC 1) 50) := ⟨_, rfl⟩
  obtain ⟨Q, hQe⟩ : ∃ Q, Q = w3.heap.size := ⟨_, rfl⟩
  have HQ := Lib.hid (show w.heap.size ≤ Q by rw [hQe]; exact G_3.out.size)
  rw [← hX2] at HWa B4a S_a G_a p0 p1 p2 p3 p4 p5 p6 p7 p8 p9 p10 p11 p12 lB ⊢
  rw [← hQe] at S_a APS hsz hszB ⊢
  have hQB : Q ≠ B := by omega
  have hQR : Q ≠ R := by omega
  clear hX2 hQe hsz hszB
  obtain ⟨s0, s1, s2, s3, s4, s5⟩ := S_a.out.cells6
  have u1 := S_a.out.froz 1; have lS := S_a.out.lt
  go_wp2_with fail
  obtain ⟨X3, hX3⟩ : ∃ X, X = X2.setCell ⟨Q, 1, none⟩ (.int .i64 sent) := ⟨_, rfl⟩
  have GS := Lib.hid (show X2.grownBy X3 (some Q) by rw [hX3]; exact grow_setCell _ _ _ _)
  have S_b := Lib.hid (show Bx X3 Q (outC ⟨1, sent, ⟨-1, 0, 0⟩, 0⟩) 50 by rw [hX3]; exact S_a.out.set 1 _)
  rw [← hX3]
  clear hX3 p0 p1 p2 p3 p4 p5 p6 p7 p8 p9 p10 p11 p12 lB s0 s1 s2 s3 s4 s5 u1 lS
  have HWb := Lib.hid (show Wk X3 B ⟨cap_, false, rc, rf, zs, rk, sent, got, sends, recvs⟩ q x from ⟨HWa.out.box.other GS.out (fun e => hQB (by cases e; rfl)), HWa.out.ch.other APS.out GS.out, HWa.out.ap⟩)
  have B4b := Lib.hid (B4a.out.other GS.out (fun e => hQR (by cases e; rfl)))
  have G_b := Lib.hid (grow_local G_a.out GS.out HQ.out)
  obtain ⟨s0, s1, s2, s3, s4, s5⟩ := S_b.out.cells6
  have lS := S_b.out.lt
  go_region_with (refine (HFI.out _ (HWb.out.below (Below.refl _ _).drew)).mono ?_; rintro e w9 ⟨q9, rfl, hw9, hg9, hk9⟩; have G9 := Lib.hid (show X3.grownBy w9 (some B) from (grow_drew (World.grownBy.refl X3 (some B))).trans hg9); have HW9 := Lib.hid hw9; have K9 := Lib.hid hk9; clear hw9 hg9 hk9; have S9 := Lib.hid (S_b.out.other G9.out (fun e => hQB (by cases e; rfl))); have B49 := Lib.hid (B4b.out.other G9.out (fun e => hRB (by cases e; rfl))); obtain ⟨m0, m1, m2, m3, m4, m5⟩ := S9.out.cells6; obtain ⟨r0, r1, r2, r3, r4, r5⟩ := B49.out.cells6; have g0 := B49.out.froz 0; have g1 := B49.out.froz 1; have g2 := B49.out.froz 2; have g3 := B49.out.froz 3; have g4 := B49.out.froz 4; have g5 := B49.out.froz 5; have lO4 := S9.out.lt; have lR4 := B49.out.lt)
  all_goals
    go_wp2_with fail
    have ST := Lib.hid (B49.out.st6 (.int .i64 1) (.int .i64 sent) (.int .i64 (-1)) (.int .i64 0) (.int .i64 0) (.int .i64 0))
    refine bodyPost_ret (v := .tuple #[outV ⟨1, sent, ⟨-1, 0, 0⟩, 0⟩, .int .i64 0]) (by rw [res_c1 Try.results43 _ (by rfl) (ST.out.load Try.underlying50 infO)]; rfl) rfl ?_
    have GZ := grown_st6 (World.grownBy.refl w9 (some R)) (.int .i64 1) (.int .i64 sent) (.int .i64 (-1)) (.int .i64 0) (.int .i64 0) (.int .i64 0)
    have AP9 := K9.out R B4b.out.lt AP_3.out
    exact ⟨q9, rfl, ⟨HW9.out.box.other GZ (fun e => hRB (by cases e; rfl)), HW9.out.ch.other AP9 GZ, HW9.out.ap⟩, grow_local (G_b.out.trans G9.out) GZ HRw.out, KP_3.out.trans K9.out G_b.out.size⟩
set_option maxRecDepth 100000 in
set_option maxHeartbeats 1000000 in
theorem send_fmax (B : Nat) (c : Chn) (q : CAt) (x : Wt) (w : World) (h : Wk w B c q x) (hc : 0 ≤ c.cap) (hcl : c.cl = false) (hf : firstW c.recvs x.g = none) (hx : 0 ≤ x.g) (hxI : I64 x.g) (hsr : rightW c.sends = true) (hrr : rightW c.recvs = true) (hkl : c.rk < c.rc) (hm : c.sent = 1048576) :
    Calls Try.prog 43 #[.pointer (some ⟨B, 0, none⟩)] w (Did w B q x c (.tuple #[outV ⟨1, c.sent, ⟨-1, 0, 0⟩, 0⟩, .int .i64 5])) := by
  obtain ⟨cap_, cl, rc, rf, zs, rk, sent, got, sends, recvs⟩ := c
  simp only at hc hcl hsr hrr hf hkl hm
  subst hcl
  have HO := Lib.hid (fun W (H : Wk W B ⟨cap_, false, rc, rf, zs, rk, sent, got, sends, recvs⟩ q x) => isOther_any B _ q x q.ra q.rn q.rq recvs W H H.ch.recvs hrr hx hxI)
  rw [hf] at HO
  have HM := Lib.hid (fun W (H : Wk W B ⟨cap_, false, rc, rf, zs, rk, sent, got, sends, recvs⟩ q x) => hasRoom_any B _ q x W H true (by simp only; exact decide_eq_true (by omega)))
  have HFI := Lib.hid (fun W (H : Wk W B ⟨cap_, false, rc, rf, zs, rk, sent, got, sends, recvs⟩ q x) => fill_max B _ q x W H hm)
  clear hf hx hxI hsr hrr hkl hm
  unfold Did at HFI
  have A0 := Lib.hid (below_alloc w (.cells zero6 50))
  have HW_0 := Lib.hid (h.below A0.out)
  have B4_0 := Lib.hid (Bx.new w zero6 50)
  have AP_0 := Lib.hid (h.ch.ap (Nat.le_refl _))
  have G_0 := Lib.hid (World.grownBy_alloc w (.cells zero6 50) (some B))
  have KP_0 := Lib.hid (Keeps.refl w q)
  have hlt := h.box.lt
  obtain ⟨R, hR⟩ : ∃ R, R = w.heap.size := ⟨_, rfl⟩
  rw [← hR] at B4_0 AP_0
  have hRB : R ≠ B := by omega
  have HR := Lib.hid hR
  have HRw := Lib.hid (show w.heap.size ≤ R by omega)
  clear hR h A0
  obtain ⟨p0, p1, p2, p3, p4, p5, p6, p7, p8, p9, p10, p11, p12⟩ := HW_0.out.box.cells13
  have lB := HW_0.out.box.lt
  go_enter Try.func43, Try.ntmps43
  go_wp2_with fail
  try rw [← HR.out]
  refine (HO.out _ HW_0.out).mono ?_
  rintro e w1 ⟨rfl, hb⟩
  clear p0 p1 p2 p3 p4 p5 p6 p7 p8 p9 p10 p11 p12 lB
  have HW_1 := Lib.hid (HW_0.out.below hb); have B4_1 := Lib.hid (B4_0.out.below hb); have AP_1 := AP_0; have G_1 := Lib.hid (grow_below G_0.out hb); have KP_1 := KP_0
  clear hb HW_0 B4_0 AP_0 G_0 KP_0
  obtain ⟨p0, p1, p2, p3, p4, p5, p6, p7, p8, p9, p10, p11, p12⟩ := HW_1.out.box.cells13
  have lB := HW_1.out.box.lt
  go_wp2_with fail
  refine (HM.out _ HW_1.out).mono ?_
  rintro e w2 ⟨rfl, hb⟩
  clear p0 p1 p2 p3 p4 p5 p6 p7 p8 p9 p10 p11 p12 lB
  have HW_2 := Lib.hid (HW_1.out.below hb); have B4_2 := Lib.hid (B4_1.out.below hb); have AP_2 := AP_1; have G_2 := Lib.hid (grow_below G_1.out hb); have KP_2 := KP_1
  clear hb HW_1 B4_1 AP_1 G_1 KP_1
  obtain ⟨p0, p1, p2, p3, p4, p5, p6, p7, p8, p9, p10, p11, p12⟩ := HW_2.out.box.cells13
  have lB := HW_2.out.box.lt
  go_wp2_with fail
  refine (alone_any 1 _).mono ?_
  rintro e w3 ⟨rfl, hb⟩
  clear p0 p1 p2 p3 p4 p5 p6 p7 p8 p9 p10 p11 p12 lB
  have HW_3 := Lib.hid (HW_2.out.below hb); have B4_3 := Lib.hid (B4_2.out.below hb); have AP_3 := AP_2; have G_3 := Lib.hid (grow_below G_2.out hb); have KP_3 := KP_2
  clear hb HW_2 B4_2 AP_2 G_2 KP_2
  have hsz := B4_3.out.lt
  have hszB := HW_3.out.box.lt
  have HWa := Lib.hid (HW_3.out.below (below_alloc w3 (.cells (aloneC 1) 50)))
  have B4a := Lib.hid (B4_3.out.below (below_alloc w3 (.cells (aloneC 1) 50)))
  have S_a := Lib.hid (Bx.new w3 (aloneC 1) 50)
  have APS := Lib.hid (HW_3.out.ch.ap (Nat.le_refl _))
  have G_a := Lib.hid (grow_alloc G_3.out (.cells (aloneC 1) 50))
  obtain ⟨p0, p1, p2, p3, p4, p5, p6, p7, p8, p9, p10, p11, p12⟩ := HWa.out.box.cells13
  have lB := HWa.out.box.lt
  go_upto_region 10 with (fail)
  obtain ⟨X2, hX2⟩ : ∃ X, X = w3.alloc (.cells (aloneC 1) 50) := ⟨_, rfl⟩
  obtain ⟨Q, hQe⟩ : ∃ Q, Q = w3.heap.size := ⟨_, rfl⟩
  have HQ := Lib.hid (show w.heap.size ≤ Q by rw [hQe]; exact G_3.out.size)
  rw [← hX2] at HWa B4a S_a G_a p0 p1 p2 p3 p4 p5 p6 p7 p8 p9 p10 p11 p12 lB ⊢
  rw [← hQe] at S_a APS hsz hszB ⊢
  have hQB : Q ≠ B := by omega
  have hQR : Q ≠ R := by omega
  clear hX2 hQe hsz hszB
  obtain ⟨s0, s1, s2, s3, s4, s5⟩ := S_a.out.cells6
  have u1 := S_a.out.froz 1; have lS := S_a.out.lt
  go_wp2_with fail
  obtain ⟨X3, hX3⟩ : ∃ X, X = X2.setCell ⟨Q, 1, none⟩ (.int .i64 sent) := ⟨_, rfl⟩
  have GS := Lib.hid (show X2.grownBy X3 (some Q) by rw [hX3]; exact grow_setCell _ _ _ _)
  have S_b := Lib.hid (show Bx X3 Q (outC ⟨1, sent, ⟨-1, 0, 0⟩, 0⟩) 50 by rw [hX3]; exact S_a.out.set 1 _)
  rw [← hX3]
  clear hX3 p0 p1 p2 p3 p4 p5 p6 p7 p8 p9 p10 p11 p12 lB s0 s1 s2 s3 s4 s5 u1 lS
  have HWb := Lib.hid (show Wk X3 B ⟨cap_, false, rc, rf, zs, rk, sent, got, sends, recvs⟩ q x from ⟨HWa.out.box.other GS.out (fun e => hQB (by cases e; rfl)), HWa.out.ch.other APS.out GS.out, HWa.out.ap⟩)
  have B4b := Lib.hid (B4a.out.other GS.out (fun e => hQR (by cases e; rfl)))
  have G_b := Lib.hid (grow_local G_a.out GS.out HQ.out)
  obtain ⟨s0, s1, s2, s3, s4, s5⟩ := S_b.out.cells6
  have lS := S_b.out.lt
  go_region_with (refine (HFI.out _ (HWb.out.below (Below.refl _ _).drew)).mono ?_; rintro e w9 ⟨q9, rfl, hw9, hg9, hk9⟩; have G9 := Lib.hid (show X3.grownBy w9 (some B) from (grow_drew (World.grownBy.refl X3 (some B))).trans hg9); have HW9 := Lib.hid hw9; have K9 := Lib.hid hk9; clear hw9 hg9 hk9; have S9 := Lib.hid (S_b.out.other G9.out (fun e => hQB (by cases e; rfl))); have B49 := Lib.hid (B4b.out.other G9.out (fun e => hRB (by cases e; rfl))); obtain ⟨m0, m1, m2, m3, m4, m5⟩ := S9.out.cells6; obtain ⟨r0, r1, r2, r3, r4, r5⟩ := B49.out.cells6; have g0 := B49.out.froz 0; have g1 := B49.out.froz 1; have g2 := B49.out.froz 2; have g3 := B49.out.froz 3; have g4 := B49.out.froz 4; have g5 := B49.out.froz 5; have lO4 := S9.out.lt; have lR4 := B49.out.lt)
  all_goals
    go_wp2_with fail
    have ST := Lib.hid (B49.out.st6 (.int .i64 1) (.int .i64 sent) (.int .i64 (-1)) (.int .i64 0) (.int .i64 0) (.int .i64 0))
    refine bodyPost_ret (v := .tuple #[outV ⟨1, sent, ⟨-1, 0, 0⟩, 0⟩, .int .i64 5]) (by rw [res_c1 Try.results43 _ (by rfl) (ST.out.load Try.underlying50 infO)]; rfl) rfl ?_
    have GZ := grown_st6 (World.grownBy.refl w9 (some R)) (.int .i64 1) (.int .i64 sent) (.int .i64 (-1)) (.int .i64 0) (.int .i64 0) (.int .i64 0)
    have AP9 := K9.out R B4b.out.lt AP_3.out
    exact ⟨q9, rfl, ⟨HW9.out.box.other GZ (fun e => hRB (by cases e; rfl)), HW9.out.ch.other AP9 GZ, HW9.out.ap⟩, grow_local (G_b.out.trans G9.out) GZ HRw.out, KP_3.out.trans K9.out G_b.out.size⟩
end Go.Proofs.Ytfolhgpbplfilaa
