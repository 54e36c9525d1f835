/- send: all of it but waiting. -/
import Derived.Test.YtfolhgpbplfilaaC3
namespace Go.Proofs.Ytfolhgpbplfilaa
open Go.RowKit
theorem did_mk {w : World} {B : Nat} {q : CAt} {x : Wt} {c c' : Chn} {r r' : Value} (hc : c = c') (hr : r = r') {e : Ending} {w' : World} (h : Did w B q x c r e w') : Did w B q x c' r' e w' := by subst hc; subst hr; exact h
set_option maxRecDepth 100000 in
set_option maxHeartbeats 1000000 in
theorem send_nil (B : Nat) (c : Chn) (q : CAt) (x : Wt) (w : World) (h : Wk w B c q x) (hc : c.cap < 0) :
    Calls Try.prog 43 #[.pointer (some ⟨B, 0, none⟩)] w (Did w B q x c (.tuple #[.agg (aloneC 0), .int .i64 0])) := by
  have A0 := Lib.hid (below_alloc w (.cells zero6 50))
  have HW_0 := Lib.hid (h.below A0.out)
  have B4_0 := Lib.hid (Bx.new w zero6 50)
  have AP_0 := Lib.hid (h.ch.ap (Nat.le_refl _))
  have G_0 := Lib.hid (World.grownBy_alloc w (.cells zero6 50) (some B))
  have KP_0 := Lib.hid (Keeps.refl w q)
  have hlt := h.box.lt
  obtain ⟨R, hR⟩ : ∃ R, R = w.heap.size := ⟨_, rfl⟩
  rw [← hR] at B4_0 AP_0
  have hRB : R ≠ B := by omega
  have HR := Lib.hid hR
  have HRw := Lib.hid (show w.heap.size ≤ R by omega)
  clear hR h A0
  obtain ⟨p0, p1, p2, p3, p4, p5, p6, p7, p8, p9, p10, p11, p12⟩ := HW_0.out.box.cells13
  have lB := HW_0.out.box.lt
  go_enter Try.func43, Try.ntmps43
  go_wp2_with fail
  try rw [← HR.out]
  refine (alone_any 0 _).mono ?_
  rintro e w1 ⟨rfl, hb⟩
  clear p0 p1 p2 p3 p4 p5 p6 p7 p8 p9 p10 p11 p12 lB
  have HW_1 := Lib.hid (HW_0.out.below hb); have B4_1 := Lib.hid (B4_0.out.below hb); have AP_1 := AP_0; have G_1 := Lib.hid (grow_below G_0.out hb); have KP_1 := KP_0
  clear hb HW_0 B4_0 AP_0 G_0 KP_0
  obtain ⟨p0, p1, p2, p3, p4, p5, p6, p7, p8, p9, p10, p11, p12⟩ := HW_1.out.box.cells13
  have lB := HW_1.out.box.lt
  obtain ⟨r0, r1, r2, r3, r4, r5⟩ := B4_1.out.cells6
  have g0 := B4_1.out.froz 0
  have g1 := B4_1.out.froz 1
  have g2 := B4_1.out.froz 2
  have g3 := B4_1.out.froz 3
  have g4 := B4_1.out.froz 4
  have g5 := B4_1.out.froz 5
  have lR := B4_1.out.lt
  go_wp2_with fail
  have ST := Lib.hid (B4_1.out.st6 (.int .i64 0) (.int .i64 0) (.int .i64 (-1)) (.int .i64 0) (.int .i64 0) (.int .i64 0))
  refine bodyPost_ret (v := .tuple #[.agg (aloneC 0), .int .i64 0]) (by rw [res_c1 Try.results43 _ (by rfl) (ST.out.load Try.underlying50 infO)]; rfl) rfl ?_
  have GZ := grown_st6 (World.grownBy.refl w1 (some R)) (.int .i64 0) (.int .i64 0) (.int .i64 (-1)) (.int .i64 0) (.int .i64 0) (.int .i64 0)
  exact ⟨q, rfl, ⟨HW_1.out.box.other GZ (fun e => hRB (by cases e; rfl)), HW_1.out.ch.other AP_1.out GZ, HW_1.out.ap⟩, grow_local G_1.out GZ HRw.out, KP_1.out⟩
set_option maxRecDepth 100000 in
set_option maxHeartbeats 1000000 in
theorem send_closed (B : Nat) (c : Chn) (q : CAt) (x : Wt) (w : World) (h : Wk w B c q x) (hc : 0 ≤ c.cap) (hcl : c.cl = true) :
    Calls Try.prog 43 #[.pointer (some ⟨B, 0, none⟩)] w (Did w B q x c (.tuple #[.agg (aloneC 3), .int .i64 0])) := by
  obtain ⟨cap_, cl, rc, rf, zs, rk, sent, got, sends, recvs⟩ := c
  simp only at hc hcl
  subst hcl
  have A0 := Lib.hid (below_alloc w (.cells zero6 50))
  have HW_0 := Lib.hid (h.below A0.out)
  have B4_0 := Lib.hid (Bx.new w zero6 50)
  have AP_0 := Lib.hid (h.ch.ap (Nat.le_refl _))
  have G_0 := Lib.hid (World.grownBy_alloc w (.cells zero6 50) (some B))
  have KP_0 := Lib.hid (Keeps.refl w q)
  have hlt := h.box.lt
  obtain ⟨R, hR⟩ : ∃ R, R = w.heap.size := ⟨_, rfl⟩
  rw [← hR] at B4_0 AP_0
  have hRB : R ≠ B := by omega
  have HR := Lib.hid hR
  have HRw := Lib.hid (show w.heap.size ≤ R by omega)
  clear hR h A0
  obtain ⟨p0, p1, p2, p3, p4, p5, p6, p7, p8, p9, p10, p11, p12⟩ := HW_0.out.box.cells13
  have lB := HW_0.out.box.lt
  go_enter Try.func43, Try.ntmps43
  go_wp2_with fail
  try rw [← HR.out]
  refine (alone_any 3 _).mono ?_
  rintro e w1 ⟨rfl, hb⟩
  clear p0 p1 p2 p3 p4 p5 p6 p7 p8 p9 p10 p11 p12 lB
  have HW_1 := Lib.hid (HW_0.out.below hb); have B4_1 := Lib.hid (B4_0.out.below hb); have AP_1 := AP_0; have G_1 := Lib.hid (grow_below G_0.out hb); have KP_1 := KP_0
  clear hb HW_0 B4_0 AP_0 G_0 KP_0
  obtain ⟨p0, p1, p2, p3, p4, p5, p6, p7, p8, p9, p10, p11, p12⟩ := HW_1.out.box.cells13
  have lB := HW_1.out.box.lt
  obtain ⟨r0, r1, r2, r3, r4, r5⟩ := B4_1.out.cells6
  have g0 := B4_1.out.froz 0
  have g1 := B4_1.out.froz 1
  have g2 := B4_1.out.froz 2
  have g3 := B4_1.out.froz 3
  have g4 := B4_1.out.froz 4
  have g5 := B4_1.out.froz 5
  have lR := B4_1.out.lt
  go_wp2_with fail
  have ST := Lib.hid (B4_1.out.st6 (.int .i64 3) (.int .i64 0) (.int .i64 (-1)) (.int .i64 0) (.int .i64 0) (.int .i64 0))
  refine bodyPost_ret (v := .tuple #[.agg (aloneC 3), .int .i64 0]) (by rw [res_c1 Try.results43 _ (by rfl) (ST.out.load Try.underlying50 infO)]; rfl) rfl ?_
  have GZ := grown_st6 (World.grownBy.refl w1 (some R)) (.int .i64 3) (.int .i64 0) (.int .i64 (-1)) (.int .i64 0) (.int .i64 0) (.int .i64 0)
  exact ⟨q, rfl, ⟨HW_1.out.box.other GZ (fun e => hRB (by cases e; rfl)), HW_1.out.ch.other AP_1.out GZ, HW_1.out.ap⟩, grow_local G_1.out GZ HRw.out, KP_1.out⟩
set_option maxRecDepth 100000 in
set_option maxHeartbeats 1000000 in
theorem send_hand (B : Nat) (c : Chn) (q : CAt) (x : Wt) (w : World) (h : Wk w B c q x) (y : Wt) (hc : 0 ≤ c.cap) (hcl : c.cl = false) (hf : firstW c.recvs x.g = some y) (hx : 0 ≤ x.g) (hxI : I64 x.g) (hsr : rightW c.sends = true) (hrr : rightW c.recvs = true) (hs0 : 0 ≤ c.sent) (hsm : c.sent < 1048576) (hg0 : 0 ≤ c.got) (hgs : c.got ≤ c.sent) :
    Calls Try.prog 43 #[.pointer (some ⟨B, 0, none⟩)] w (Did w B q x (handC c y.g) (.tuple #[outV ⟨1, c.sent, y, c.sent⟩, .int .i64 0])) := by
  obtain ⟨cap_, cl, rc, rf, zs, rk, sent, got, sends, recvs⟩ := c
  simp only at hc hcl hsr hrr hf hs0 hsm hg0 hgs
  subst hcl
  have HO := Lib.hid (fun W (H : Wk W B ⟨cap_, false, rc, rf, zs, rk, sent, got, sends, recvs⟩ q x) => isOther_any B _ q x q.ra q.rn q.rq recvs W H H.ch.recvs hrr hx hxI)
  rw [hf] at HO
  have HH := Lib.hid (fun W (H : Wk W B ⟨cap_, false, rc, rf, zs, rk, sent, got, sends, recvs⟩ q x) => hand_ok B _ q x y q.ra q.rn q.rq recvs W H H.ch.recvs hrr hf hx hxI hsr hrr hs0 hsm hg0 hgs)
  clear hf hx hxI hsr hrr hs0 hsm hg0 hgs
  unfold Did at HH
  have A0 := Lib.hid (below_alloc w (.cells zero6 50))
  have HW_0 := Lib.hid (h.below A0.out)
  have B4_0 := Lib.hid (Bx.new w zero6 50)
  have AP_0 := Lib.hid (h.ch.ap (Nat.le_refl _))
  have G_0 := Lib.hid (World.grownBy_alloc w (.cells zero6 50) (some B))
  have KP_0 := Lib.hid (Keeps.refl w q)
  have hlt := h.box.lt
  obtain ⟨R, hR⟩ : ∃ R, R = w.heap.size := ⟨_, rfl⟩
  rw [← hR] at B4_0 AP_0
  have hRB : R ≠ B := by omega
  have HR := Lib.hid hR
  have HRw := Lib.hid (show w.heap.size ≤ R by omega)
  clear hR h A0
  obtain ⟨p0, p1, p2, p3, p4, p5, p6, p7, p8, p9, p10, p11, p12⟩ := HW_0.out.box.cells13
  have lB := HW_0.out.box.lt
  go_enter Try.func43, Try.ntmps43
  go_wp2_with fail
  try rw [← HR.out]
  refine (HO.out _ HW_0.out).mono ?_
  rintro e w1 ⟨rfl, hb⟩
  clear p0 p1 p2 p3 p4 p5 p6 p7 p8 p9 p10 p11 p12 lB
  have HW_1 := Lib.hid (HW_0.out.below hb); have B4_1 := Lib.hid (B4_0.out.below hb); have AP_1 := AP_0; have G_1 := Lib.hid (grow_below G_0.out hb); have KP_1 := KP_0
  clear hb HW_0 B4_0 AP_0 G_0 KP_0
  obtain ⟨p0, p1, p2, p3, p4, p5, p6, p7, p8, p9, p10, p11, p12⟩ := HW_1.out.box.cells13
  have lB := HW_1.out.box.lt
  go_wp2_with fail
  refine (HH.out _ HW_1.out).mono ?_
  rintro e w2 ⟨q2, rfl, hw, hg, hk⟩
  clear p0 p1 p2 p3 p4 p5 p6 p7 p8 p9 p10 p11 p12 lB
  have HW_2 := Lib.hid hw; have B4_2 := Lib.hid (B4_1.out.other hg (fun e => hRB (by cases e; rfl))); have AP_2 := Lib.hid (hk R B4_1.out.lt AP_1.out); have G_2 := Lib.hid (G_1.out.trans hg); have KP_2 := Lib.hid (KP_1.out.trans hk G_1.out.size)
  clear hw hg hk HW_1 B4_1 AP_1 G_1 KP_1
  obtain ⟨p0, p1, p2, p3, p4, p5, p6, p7, p8, p9, p10, p11, p12⟩ := HW_2.out.box.cells13
  have lB := HW_2.out.box.lt
  obtain ⟨r0, r1, r2, r3, r4, r5⟩ := B4_2.out.cells6
  have g0 := B4_2.out.froz 0
  have g1 := B4_2.out.froz 1
  have g2 := B4_2.out.froz 2
  have g3 := B4_2.out.froz 3
  have g4 := B4_2.out.froz 4
  have g5 := B4_2.out.froz 5
  have lR := B4_2.out.lt
  go_wp2_with fail
  have ST := Lib.hid (B4_2.out.st6 (.int .i64 1) (.int .i64 sent) (.int .i64 y.g) (.int .i64 y.c) (.int .i64 y.s) (.int .i64 sent))
  refine bodyPost_ret (v := .tuple #[outV ⟨1, sent, y, sent⟩, .int .i64 0]) (by rw [res_c1 Try.results43 _ (by rfl) (ST.out.load Try.underlying50 infO)]; rfl) rfl ?_
  have GZ := grown_st6 (World.grownBy.refl w2 (some R)) (.int .i64 1) (.int .i64 sent) (.int .i64 y.g) (.int .i64 y.c) (.int .i64 y.s) (.int .i64 sent)
  exact ⟨q2, rfl, ⟨HW_2.out.box.other GZ (fun e => hRB (by cases e; rfl)), HW_2.out.ch.other AP_2.out GZ, HW_2.out.ap⟩, grow_local G_2.out GZ HRw.out, KP_2.out⟩
set_option maxRecDepth 100000 in
set_option maxHeartbeats 1000000 in
theorem send_hmax (B : Nat) (c : Chn) (q : CAt) (x : Wt) (w : World) (h : Wk w B c q x) (y : Wt) (hc : 0 ≤ c.cap) (hcl : c.cl = false) (hf : firstW c.recvs x.g = some y) (hx : 0 ≤ x.g) (hxI : I64 x.g) (hsr : rightW c.sends = true) (hrr : rightW c.recvs = true) (hm : c.sent = 1048576) :
    Calls Try.prog 43 #[.pointer (some ⟨B, 0, none⟩)] w (Did w B q x c (.tuple #[.agg zero6, .int .i64 5])) := by
  obtain ⟨cap_, cl, rc, rf, zs, rk, sent, got, sends, recvs⟩ := c
  simp only at hc hcl hsr hrr hf hm
  subst hcl
  have HO := Lib.hid (fun W (H : Wk W B ⟨cap_, false, rc, rf, zs, rk, sent, got, sends, recvs⟩ q x) => isOther_any B _ q x q.ra q.rn q.rq recvs W H H.ch.recvs hrr hx hxI)
  rw [hf] at HO
  have HH := Lib.hid (fun W (H : Wk W B ⟨cap_, false, rc, rf, zs, rk, sent, got, sends, recvs⟩ q x) => hand_max B _ q x (.slice q.ra q.rn q.rq) W H hm)
  clear hf hx hxI hsr hrr hm
  unfold Did at HH
  have A0 := Lib.hid (below_alloc w (.cells zero6 50))
  have HW_0 := Lib.hid (h.below A0.out)
  have B4_0 := Lib.hid (Bx.new w zero6 50)
  have AP_0 := Lib.hid (h.ch.ap (Nat.le_refl _))
  have G_0 := Lib.hid (World.grownBy_alloc w (.cells zero6 50) (some B))
  have KP_0 := Lib.hid (Keeps.refl w q)
  have hlt := h.box.lt
  obtain ⟨R, hR⟩ : ∃ R, R = w.heap.size := ⟨_, rfl⟩
  rw [← hR] at B4_0 AP_0
  have hRB : R ≠ B := by omega
  have HR := Lib.hid hR
  have HRw := Lib.hid (show w.heap.size ≤ R by omega)
  clear hR h A0
  obtain ⟨p0, p1, p2, p3, p4, p5, p6, p7, p8, p9, p10, p11, p12⟩ := HW_0.out.box.cells13
  have lB := HW_0.out.box.lt
  go_enter Try.func43, Try.ntmps43
  go_wp2_with fail
  try rw [← HR.out]
  refine (HO.out _ HW_0.out).mono ?_
  rintro e w1 ⟨rfl, hb⟩
  clear p0 p1 p2 p3 p4 p5 p6 p7 p8 p9 p10 p11 p12 lB
  have HW_1 := Lib.hid (HW_0.out.below hb); have B4_1 := Lib.hid (B4_0.out.below hb); have AP_1 := AP_0; have G_1 := Lib.hid (grow_below G_0.out hb); have KP_1 := KP_0
  clear hb HW_0 B4_0 AP_0 G_0 KP_0
  obtain ⟨p0, p1, p2, p3, p4, p5, p6, p7, p8, p9, p10, p11, p12⟩ := HW_1.out.box.cells13
  have lB := HW_1.out.box.lt
  go_wp2_with fail
  refine (HH.out _ HW_1.out).mono ?_
  rintro e w2 ⟨q2, rfl, hw, hg, hk⟩
  clear p0 p1 p2 p3 p4 p5 p6 p7 p8 p9 p10 p11 p12 lB
  have HW_2 := Lib.hid hw; have B4_2 := Lib.hid (B4_1.out.other hg (fun e => hRB (by cases e; rfl))); have AP_2 := Lib.hid (hk R B4_1.out.lt AP_1.out); have G_2 := Lib.hid (G_1.out.trans hg); have KP_2 := Lib.hid (KP_1.out.trans hk G_1.out.size)
  clear hw hg hk HW_1 B4_1 AP_1 G_1 KP_1
  obtain ⟨p0, p1, p2, p3, p4, p5, p6, p7, p8, p9, p10, p11, p12⟩ := HW_2.out.box.cells13
  have lB := HW_2.out.box.lt
  obtain ⟨r0, r1, r2, r3, r4, r5⟩ := B4_2.out.cells6
  have g0 := B4_2.out.froz 0
  have g1 := B4_2.out.froz 1
  have g2 := B4_2.out.froz 2
  have g3 := B4_2.out.froz 3
  have g4 := B4_2.out.froz 4
  have g5 := B4_2.out.froz 5
  have lR := B4_2.out.lt
  go_wp2_with fail
  have ST := Lib.hid (B4_2.out.st6 (.int .i64 0) (.int .i64 0) (.int .i64 0) (.int .i64 0) (.int .i64 0) (.int .i64 0))
  refine bodyPost_ret (v := .tuple #[.agg zero6, .int .i64 5]) (by rw [res_c1 Try.results43 _ (by rfl) (ST.out.load Try.underlying50 infO)]; rfl) rfl ?_
  have GZ := grown_st6 (World.grownBy.refl w2 (some R)) (.int .i64 0) (.int .i64 0) (.int .i64 0) (.int .i64 0) (.int .i64 0) (.int .i64 0)
  exact ⟨q2, rfl, ⟨HW_2.out.box.other GZ (fun e => hRB (by cases e; rfl)), HW_2.out.ch.other AP_2.out GZ, HW_2.out.ap⟩, grow_local G_2.out GZ HRw.out, KP_2.out⟩
set_option maxRecDepth 100000 in
set_option maxHeartbeats 1000000 in
theorem send_full (B : Nat) (c : Chn) (q : CAt) (x : Wt) (w : World) (h : Wk w B c q x) (hc : 0 ≤ c.cap) (hcl : c.cl = false) (hf : firstW c.recvs x.g = none) (hx : 0 ≤ x.g) (hxI : I64 x.g) (hsr : rightW c.sends = true) (hrr : rightW c.recvs = true) (hk : c.rc ≤ c.rk) :
    Calls Try.prog 43 #[.pointer (some ⟨B, 0, none⟩)] w (Did w B q x c (.tuple #[.agg (aloneC 0), .int .i64 0])) := by
  obtain ⟨cap_, cl, rc, rf, zs, rk, sent, got, sends, recvs⟩ := c
  simp only at hc hcl hsr hrr hf hk
  subst hcl
  have HO := Lib.hid (fun W (H : Wk W B ⟨cap_, false, rc, rf, zs, rk, sent, got, sends, recvs⟩ q x) => isOther_any B _ q x q.ra q.rn q.rq recvs W H H.ch.recvs hrr hx hxI)
  rw [hf] at HO
  have HM := Lib.hid (fun W (H : Wk W B ⟨cap_, false, rc, rf, zs, rk, sent, got, sends, recvs⟩ q x) => hasRoom_any B _ q x W H false (by simp only; exact decide_eq_false (by omega)))
  clear hf hx hxI hsr hrr hk
  have A0 := Lib.hid (below_alloc w (.cells zero6 50))
  have HW_0 := Lib.hid (h.below A0.out)
  have B4_0 := Lib.hid (Bx.new w zero6 50)
  have AP_0 := Lib.hid (h.ch.ap (Nat.le_refl _))
  have G_0 := Lib.hid (World.grownBy_alloc w (.cells zero6 50) (some B))
  have KP_0 := Lib.hid (Keeps.refl w q)
  have hlt := h.box.lt
  obtain ⟨R, hR⟩ : ∃ R, R = w.heap.size := ⟨_, rfl⟩
  rw [← hR] at B4_0 AP_0
  have hRB : R ≠ B := by omega
  have HR := Lib.hid hR
  have HRw := Lib.hid (show w.heap.size ≤ R by omega)
  clear hR h A0
  obtain ⟨p0, p1, p2, p3, p4, p5, p6, p7, p8, p9, p10, p11, p12⟩ := HW_0.out.box.cells13
  have lB := HW_0.out.box.lt
  go_enter Try.func43, Try.ntmps43
  go_wp2_with fail
  try rw [← HR.out]
  refine (HO.out _ HW_0.out).mono ?_
  rintro e w1 ⟨rfl, hb⟩
  clear p0 p1 p2 p3 p4 p5 p6 p7 p8 p9 p10 p11 p12 lB
  have HW_1 := Lib.hid (HW_0.out.below hb); have B4_1 := Lib.hid (B4_0.out.below hb); have AP_1 := AP_0; have G_1 := Lib.hid (grow_below G_0.out hb); have KP_1 := KP_0
  clear hb HW_0 B4_0 AP_0 G_0 KP_0
  obtain ⟨p0, p1, p2, p3, p4, p5, p6, p7, p8, p9, p10, p11, p12⟩ := HW_1.out.box.cells13
  have lB := HW_1.out.box.lt
  go_wp2_with fail
  refine (HM.out _ HW_1.out).mono ?_
  rintro e w2 ⟨rfl, hb⟩
  clear p0 p1 p2 p3 p4 p5 p6 p7 p8 p9 p10 p11 p12 lB
  have HW_2 := Lib.hid (HW_1.out.below hb); have B4_2 := Lib.hid (B4_1.out.below hb); have AP_2 := AP_1; have G_2 := Lib.hid (grow_below G_1.out hb); have KP_2 := KP_1
  clear hb HW_1 B4_1 AP_1 G_1 KP_1
  obtain ⟨p0, p1, p2, p3, p4, p5, p6, p7, p8, p9, p10, p11, p12⟩ := HW_2.out.box.cells13
  have lB := HW_2.out.box.lt
  go_wp2_with fail
  refine (alone_any 0 _).mono ?_
  rintro e w3 ⟨rfl, hb⟩
  clear p0 p1 p2 p3 p4 p5 p6 p7 p8 p9 p10 p11 p12 lB
  have HW_3 := Lib.hid (HW_2.out.below hb); have B4_3 := Lib.hid (B4_2.out.below hb); have AP_3 := AP_2; have G_3 := Lib.hid (grow_below G_2.out hb); have KP_3 := KP_2
  clear hb HW_2 B4_2 AP_2 G_2 KP_2
  obtain ⟨p0, p1, p2, p3, p4, p5, p6, p7, p8, p9, p10, p11, p12⟩ := HW_3.out.box.cells13
  have lB := HW_3.out.box.lt
  obtain ⟨r0, r1, r2, r3, r4, r5⟩ := B4_3.out.cells6
  have g0 := B4_3.out.froz 0
  have g1 := B4_3.out.froz 1
  have g2 := B4_3.out.froz 2
  have g3 := B4_3.out.froz 3
  have g4 := B4_3.out.froz 4
  have g5 := B4_3.out.froz 5
  have lR := B4_3.out.lt
  go_wp2_with fail
  have ST := Lib.hid (B4_3.out.st6 (.int .i64 0) (.int .i64 0) (.int .i64 (-1)) (.int .i64 0) (.int .i64 0) (.int .i64 0))
  refine bodyPost_ret (v := .tuple #[.agg (aloneC 0), .int .i64 0]) (by rw [res_c1 Try.results43 _ (by rfl) (ST.out.load Try.underlying50 infO)]; rfl) rfl ?_
  have GZ := grown_st6 (World.grownBy.refl w3 (some R)) (.int .i64 0) (.int .i64 0) (.int .i64 (-1)) (.int .i64 0) (.int .i64 0) (.int .i64 0)
  exact ⟨q, rfl, ⟨HW_3.out.box.other GZ (fun e => hRB (by cases e; rfl)), HW_3.out.ch.other AP_3.out GZ, HW_3.out.ap⟩, grow_local G_3.out GZ HRw.out, KP_3.out⟩
end Go.Proofs.Ytfolhgpbplfilaa
