/- hand: a value past the buffer. -/
import Derived.Test.YtfolhgpbplfilaaC1
import Derived.StillTailTactics
namespace Go.Proofs.Ytfolhgpbplfilaa
open Go.RowKit
set_option maxRecDepth 100000 in
set_option maxHeartbeats 4000000 in
theorem fill_max (B : Nat) (c : Chn) (q : CAt) (x : Wt) (w : World) (h : Wk w B c q x) (hm : c.sent = 1048576) :
    Calls Try.prog 62 #[.pointer (some ⟨B, 0, none⟩)] w (Did w B q x c (.int .i64 5)) := by
  have HW := Lib.hid h
  obtain ⟨p0, p1, p2, p3, p4, p5, p6, p7, p8, p9, p10, p11, p12⟩ := h.box.cells13
  rw [hm] at p6
  clear h hm
  go_enter Try.func62, Try.ntmps62
  go_wp2_with fail
  go_ret
  exact ⟨q, rfl, HW.out, World.grownBy.refl _ _, Keeps.refl _ _⟩
/-- a channel with its next value laid in -/
def fillC (c : Chn) : Chn := { c with zs := c.zs.set ((c.rf.toNat + c.rk.toNat) % c.rc.toNat) c.sent, rk := c.rk + 1, sent := c.sent + 1 }
set_option maxRecDepth 100000 in
set_option maxHeartbeats 4000000 in
theorem fill_ok (B : Nat) (c : Chn) (q : CAt) (x : Wt) (w : World) (h : Wk w B c q x) (n f k : Nat) (h1 : c.rc = (n : Int)) (h2 : c.rf = (f : Int)) (h3 : c.rk = (k : Int)) (n3 : n ≤ 3) (zl : c.zs.length = n) (fl : f < max n 1) (kl : k < n) (hs0 : 0 ≤ c.sent) (hsm : c.sent < 1048576) :
    Calls Try.prog 62 #[.pointer (some ⟨B, 0, none⟩)] w (Did w B q x (fillC c) (.int .i64 0)) := by
  obtain ⟨cap, cl, rc, rf, zs, rk, sent, got, sends, recvs⟩ := c
  obtain ⟨za, zn, zc, sa, sn, sc, ra, rn, rq⟩ := q
  simp only at h1 h2 h3 zl hs0 hsm
  subst h1; subst h2; subst h3
  obtain rfl : zn = n := by rw [← zl]; exact h.ch.zs.len_eq.symm
  have HP := Lib.hid (fun W (H : Ints W za zn zc zs) => r_Push_ok zn f k za zc zs sent W H (by omega) fl kl h.ch.sent)
  unfold GotRing ringV at HP
  have hb2 : (sent == 1048576) = false := by rw [beq_eq_false_iff_ne]; omega
  have HW := Lib.hid h
  obtain ⟨p0, p1, p2, p3, p4, p5, p6, p7, p8, p9, p10, p11, p12⟩ := h.box.cells13
  have HKL := Lib.hid kl
  clear h zl fl kl
  go_enter Try.func62, Try.ntmps62
  go_wp2_with fail
  go_region_with (refine (HP.out _ (HW.out.ch.zs.below (Below.refl _ _).drew)).mono ?_; rintro e w1 ⟨a1, c1, rfl, hz1, hb1, hf1⟩; have HB1 := Lib.hid (show Below w.heap.size w w1 from ((Below.refl _ _).drew).trans hb1); have HZ1 := Lib.hid hz1; have HF1 := Lib.hid (show ∀ x, a1 = some x → w.heap.size ≤ x.block from hf1); clear hb1 hz1 hf1; have HW1 := Lib.hid (HW.out.below HB1.out); have f2 := HW1.out.box.froz 2; have f3 := HW1.out.box.froz 3; have f4 := HW1.out.box.froz 4; have f5 := HW1.out.box.froz 5; have f6 := HW1.out.box.froz 6; have l1 := HW1.out.box.lt; obtain ⟨r0, r1, r2, r3, r4, r5, r6, r7, r8, r9, r10, r11, r12⟩ := HW1.out.box.cells13)
  all_goals
    go_wp2_with fail
    go_ret
    have G := World.grownBy.trans (grown_rg4 (World.grownBy.refl w1 (some B)) (.int .i64 zn) (.int .i64 f) (.slice a1 zn c1) (.int .i64 (k + 1))) (grow_setCell _ B 6 (.int .i64 (sent + 1)))
    have hl := HW.out.box.lt
    refine ⟨⟨a1, zn, c1, sa, sn, sc, ra, rn, rq⟩, rfl, ⟨(HW1.out.box.rg4 _ _ _ _).set 6 _, ⟨HW.out.ch.cap, HW.out.ch.rc, HW.out.ch.rf, ⟨by have := HKL.out; simp only [fillC]; omega, by have := HKL.out; simp only [fillC]; omega⟩, ⟨by simp only [fillC]; omega, by simp only [fillC]; omega⟩, HW.out.ch.got, HZ1.out.other (fun y hy _ he => by have := HF1.out y hy; omega) G, HW1.out.ch.sends.other HW.out.ap.asn G, HW1.out.ch.recvs.other HW.out.ap.ar G⟩, ⟨fun y hy _ he => by have := HF1.out y hy; omega, HW.out.ap.asn, HW.out.ap.ar⟩⟩, (grow_below (World.grownBy.refl _ _) HB1.out).trans G, fun Bo hBo hA => ⟨fun y hy _ he => by have := HF1.out y hy; omega, hA.asn, hA.ar⟩⟩
end Go.Proofs.Ytfolhgpbplfilaa
namespace Go.Proofs.Ytfolhgpbplfilaa
open Go.RowKit
theorem grow_drew {a w : World} {row : Option Nat} (h : a.grownBy w row) : a.grownBy w.drew row := ⟨h.os, h.tape, h.output, h.size, h.block⟩
abbrev zero6 : Array Value := #[.int .i64 0, .int .i64 0, .int .i64 0, .int .i64 0, .int .i64 0, .int .i64 0]
set_option maxRecDepth 100000 in
set_option maxHeartbeats 1000000 in
theorem hand_max (B : Nat) (c : Chn) (q : CAt) (x : Wt) (v : Value) (w : World) (h : Wk w B c q x) (hm : c.sent = 1048576) :
    Calls Try.prog 61 #[.pointer (some ⟨B, 0, none⟩), v] w (Did w B q x c (.tuple #[.agg zero6, .int .i64 5])) := by
  have HW := Lib.hid (h.below (below_alloc w (.cells zero6 50)))
  have GG := Lib.hid (World.grownBy_alloc w (.cells zero6 50) (some B))
  have KK := Lib.hid (h.ch)
  have hlt := h.box.lt
  have hne : B ≠ w.heap.size := by omega
  obtain ⟨p0, p1, p2, p3, p4, p5, p6, p7, p8, p9, p10, p11, p12⟩ := h.box.cells13
  rw [hm] at p6
  have HL := Lib.hid hlt
  clear h hm
  go_enter Try.func61, Try.ntmps61
  go_wp2_with fail
  refine bodyPost_ret (v := .tuple #[.agg zero6, .int .i64 5]) (by rw [res_c1 Try.results61 _ (by rfl) ((Bx.new w zero6 50).load Try.underlying50 infO)]; rfl) rfl ?_
  exact ⟨q, rfl, HW.out, GG.out, Keeps.refl _ _⟩
/-- a channel behind a value that was handed on to (or from) one who waited -/
def handC (c : Chn) (g : Int) : Chn := { c with sent := c.sent + 1, got := c.got + 1, sends := dropW c.sends g, recvs := dropW c.recvs g }
set_option maxRecDepth 100000 in
set_option maxHeartbeats 1000000 in
theorem hand_ok (B : Nat) (c : Chn) (q : CAt) (x y : Wt) (a : Option Addr) (len cap : Nat) (L : List Wt) (w : World) (h : Wk w B c q x) (hL : Wts w a len cap L) (hLr : rightW L = true) (hf : firstW L x.g = some y) (hx : 0 ≤ x.g) (hxI : I64 x.g)
    (hsr : rightW c.sends = true) (hrr : rightW c.recvs = true) (hs0 : 0 ≤ c.sent) (hsm : c.sent < 1048576) (hg0 : 0 ≤ c.got) (hgs : c.got ≤ c.sent) :
    Calls Try.prog 61 #[.pointer (some ⟨B, 0, none⟩), .slice a len cap] w (Did w B q x (handC c y.g) (.tuple #[outV ⟨1, c.sent, y, c.sent⟩, .int .i64 0])) := by
  have HF := Lib.hid (fun W (H : Wts W a len cap L) => First_go a len cap L x.g W H hLr hx hxI)
  rw [hf] at HF
  unfold GotFirst at HF
  simp only at HF
  unfold GotWait at HF
  have hyL : y ∈ L := List.mem_of_find?_eq_some hf
  have HYO := Lib.hid (hL.ok y hyL)
  have hyg : 0 ≤ y.g := by have := (right_pair.1 hLr).2.1 y hyL; simp [mayW] at this; exact this.1
  obtain ⟨cap_, cl, rc, rf, zs, rk, sent, got, sends, recvs⟩ := c
  simp only at hsr hrr hs0 hsm hg0 hgs
  have hb2 : (sent == 1048576) = false := by rw [beq_eq_false_iff_ne]; omega
  have HLV := Lib.hid (fun W (c' : Chn) (H : Wk W B c' q x) (e1 : c'.sends = sends) (e2 : c'.recvs = recvs) => leave_any B c' q x y.g W H (by rw [e1]; exact hsr) (by rw [e2]; exact hrr) hyg HYO.out.1)
  unfold Did at HLV
  have A0 := Lib.hid (below_alloc w (.cells zero6 50))
  have HW := Lib.hid (h.below A0.out)
  have HLL := Lib.hid (hL.below A0.out)
  have B4 := Lib.hid (Bx.new w zero6 50)
  have AP4 := Lib.hid (h.ch.ap (Nat.le_refl _))
  have hlt := h.box.lt
  clear hL hLr hf hx hxI hsr hrr h hyL
  obtain ⟨R, hR⟩ : ∃ R, R = w.heap.size := ⟨_, rfl⟩
  rw [← hR] at B4 AP4
  have hRB : R ≠ B := by omega
  obtain ⟨p0, p1, p2, p3, p4, p5, p6, p7, p8, p9, p10, p11, p12⟩ := HW.out.box.cells13
  have HR := Lib.hid hR
  clear hR
  go_enter Try.func61, Try.ntmps61
  go_wp2_with fail
  rw [← HR.out]
  refine (HF.out _ HLL.out).mono ?_
  rintro e w1 ⟨rfl, hb⟩
  have HW1 := Lib.hid (HW.out.below hb); have B41 := Lib.hid (B4.out.below hb); have A1 := Lib.hid (A0.out.trans (Below.mono hb A0.out.size))
  clear hb p0 p1 p2 p3 p4 p5 p6 p7 p8 p9 p10 p11 p12
  have Y1 := Lib.hid (Box3.new w1 y)
  have hY := HW1.out.box.lt
  have hY4 := B41.out.lt
  have HW2 := Lib.hid (HW1.out.below (below_alloc w1 (.cells #[.int .i64 y.g, .int .i64 y.c, .int .i64 y.s] 48)))
  have B42 := Lib.hid (B41.out.below (below_alloc w1 (.cells #[.int .i64 y.g, .int .i64 y.c, .int .i64 y.s] 48)))
  have A2 := Lib.hid (A1.out.alloc A1.out.size (.cells #[.int .i64 y.g, .int .i64 y.c, .int .i64 y.s] 48))
  go_wp2_with fail
  obtain ⟨X2, hX2⟩ : ∃ X, X = w1.alloc (.cells #[.int .i64 y.g, .int .i64 y.c, .int .i64 y.s] 48) := ⟨_, rfl⟩
  obtain ⟨Y, hYe⟩ : ∃ Y, Y = w1.heap.size := ⟨_, rfl⟩
  rw [← hX2] at Y1 HW2 B42 A2 ⊢
  rw [← hYe] at Y1 hY hY4 ⊢
  clear hX2 hYe
  have hYB : Y ≠ B := by omega
  have hYR : Y ≠ R := by omega
  obtain ⟨p0, p1, p2, p3, p4, p5, p6, p7, p8, p9, p10, p11, p12⟩ := HW2.out.box.cells13
  obtain ⟨y0, y1, y2⟩ := Y1.out.cells
  have f6 := HW2.out.box.froz 6; have f7 := HW2.out.box.froz 7; have lB := HW2.out.box.lt; have lY := Y1.out.lt
  go_region
  go_wp2_with fail
  obtain ⟨X3, hX3⟩ : ∃ X, X = (((X2.setCell ⟨B, 6, none⟩ (.int .i64 (sent + 1))).setCell ⟨B, 7, none⟩ (.int .i64 (got + 1))).alloc (.cells (outC ⟨1, sent, y, sent⟩) 50)).drew := ⟨_, rfl⟩
  obtain ⟨Q, hQe⟩ : ∃ Q, Q = X2.heap.size := ⟨_, rfl⟩
  have G23 := Lib.hid (show X2.grownBy X3 (some B) by rw [hX3]; exact grow_drew (grow_alloc (grow_set (grow_setCell X2 B 6 _) 7 _) _))
  have BB3 := Lib.hid (show Bx X3 B (wkC { cap := cap_, cl := cl, rc := rc, rf := rf, zs := zs, rk := rk, sent := sent + 1, got := got + 1, sends := sends, recvs := recvs } q x) 61 by
    rw [hX3]; exact (((HW2.out.box.set 6 _).set 7 _).below (below_alloc _ _)).below (Below.refl _ _).drew)
  have O3 := Lib.hid (show Bx X3 Q (outC ⟨1, sent, y, sent⟩) 50 by
    have := (Bx.new ((X2.setCell ⟨B, 6, none⟩ (.int .i64 (sent + 1))).setCell ⟨B, 7, none⟩ (.int .i64 (got + 1))) (outC ⟨1, sent, y, sent⟩) 50).below (Below.refl _ _).drew
    rw [hX3, hQe]; simpa using this)
  rw [← hX3, ← hQe]
  have lR := B42.out.lt
  rw [← hQe] at lB lY lR
  clear hX3 hQe p0 p1 p2 p3 p4 p5 p6 p7 p8 p9 p10 p11 p12 y0 y1 y2 f6 f7
  have hQB : Q ≠ B := by omega
  have hQR : Q ≠ R := by omega
  have hQY : Q ≠ Y := by omega
  have HW3 := Lib.hid (show Wk X3 B { cap := cap_, cl := cl, rc := rc, rf := rf, zs := zs, rk := rk, sent := sent + 1, got := got + 1, sends := sends, recvs := recvs } q x from
    ⟨BB3.out, (show Cha X3 _ q from ⟨HW2.out.ch.cap, HW2.out.ch.rc, HW2.out.ch.rf, HW2.out.ch.rk, ⟨by simp only; omega, by simp only; omega⟩, ⟨by simp only; omega, by simp only; omega⟩, (HW2.out.ch.other HW2.out.ap G23.out).zs, (HW2.out.ch.other HW2.out.ap G23.out).sends, (HW2.out.ch.other HW2.out.ap G23.out).recvs⟩), HW2.out.ap⟩)
  have Y3 := Lib.hid (show Box3 X3 Y y from (G23.out.block Y Y1.out.lt (fun e => hYB (by cases e; rfl))).trans Y1.out)
  have B43 := Lib.hid (B42.out.other G23.out (fun e => hRB (by cases e; rfl)))
  have A3 := Lib.hid (show w.grownBy X3 (some B) from (grow_below (World.grownBy.refl _ _) A2.out).trans G23.out)
  obtain ⟨o0, o1, o2, o3, o4, o5⟩ := O3.out.cells6
  obtain ⟨y0, y1, y2⟩ := Y3.out.cells
  have lO := O3.out.lt; have lY3 := Y3.out.lt
  go_region_with (refine (HLV.out _ _ (HW3.out.below (Below.refl _ _).drew) rfl rfl).mono ?_; rintro e w4 ⟨q4, rfl, hw4, hg4, hk4⟩; have G34 := Lib.hid (show X3.grownBy w4 (some B) from (grow_drew (World.grownBy.refl X3 (some B))).trans hg4); have HW4 := Lib.hid hw4; have K4 := Lib.hid hk4; clear hw4 hg4 hk4; have O4 := Lib.hid (O3.out.other G34.out (fun e => hQB (by cases e; rfl))); have B44 := Lib.hid (B43.out.other G34.out (fun e => hRB (by cases e; rfl))); obtain ⟨m0, m1, m2, m3, m4, m5⟩ := O4.out.cells6; obtain ⟨r0, r1, r2, r3, r4, r5⟩ := B44.out.cells6; have g0 := B44.out.froz 0; have g1 := B44.out.froz 1; have g2 := B44.out.froz 2; have g3 := B44.out.froz 3; have g4 := B44.out.froz 4; have g5 := B44.out.froz 5; have lO4 := O4.out.lt; have lR4 := B44.out.lt)
  all_goals
    go_wp2_with fail
    have ST := Lib.hid (B44.out.st6 (.int .i64 1) (.int .i64 sent) (.int .i64 y.g) (.int .i64 y.c) (.int .i64 y.s) (.int .i64 sent))
    refine bodyPost_ret (v := .tuple #[outV ⟨1, sent, y, sent⟩, .int .i64 0]) (by rw [res_c1 Try.results61 _ (by rfl) (ST.out.load Try.underlying50 infO)]; rfl) rfl ?_
    have hRw : w.heap.size ≤ R := by rw [HR.out]; exact Nat.le_refl _
    have G5 := grown_st6 (World.grownBy.refl w4 (some R)) (.int .i64 1) (.int .i64 sent) (.int .i64 y.g) (.int .i64 y.c) (.int .i64 y.s) (.int .i64 sent)
    have AP := K4.out R B43.out.lt AP4.out
    exact ⟨q4, rfl, ⟨HW4.out.box.other G5 (fun e => hRB (by cases e; rfl)), HW4.out.ch.other AP G5, HW4.out.ap⟩, grow_local (A3.out.trans G34.out) G5 hRw, fun Bo hBo hA => K4.out Bo (Nat.lt_of_lt_of_le hBo A3.out.size) hA⟩
end Go.Proofs.Ytfolhgpbplfilaa
