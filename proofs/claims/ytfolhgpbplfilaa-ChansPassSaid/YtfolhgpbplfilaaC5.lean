/- take: the buffer's first value, and the first sender's in its place. -/
import Derived.Test.YtfolhgpbplfilaaC4
namespace Go.Proofs.Ytfolhgpbplfilaa
open Go.RowKit
set_option maxRecDepth 100000 in
set_option maxHeartbeats 2000000 in
theorem take_max (B : Nat) (c : Chn) (q : CAt) (x : Wt) (w : World) (h : Wk w B c q x) (n f k : Nat) (h1 : c.rc = (n : Int)) (h2 : c.rf = (f : Int)) (h3 : c.rk = ((k + 1 : Nat) : Int)) (n3 : n ≤ 3) (zl : c.zs.length = n) (fl : f < n) (kl : k + 1 ≤ n) (hg0 : 0 ≤ c.got) (hg1 : c.got < 1048576) (y : Wt) (hf : firstW c.sends x.g = some y) (hx : 0 ≤ x.g) (hxI : I64 x.g) (hsr : rightW c.sends = true) (hrr : rightW c.recvs = true) (hm : c.sent = 1048576) :
    Calls Try.prog 65 #[.pointer (some ⟨B, 0, none⟩), .bool true] w (Did w B q x (popC c) (.tuple #[.agg zero6, .int .i64 5])) := by
  obtain ⟨cap_, cl, rc, rf, zs, rk, sent, got, sends, recvs⟩ := c
  obtain ⟨za, zn, zc, sa, sn, sc, ra, rn, rq⟩ := q
  simp only at h1 h2 h3 zl hg0 hg1 hf hsr hrr hm
  subst h1; subst h2; subst h3
  obtain rfl : zn = n := by rw [← zl]; exact h.ch.zs.len_eq.symm
  have HP := Lib.hid (fun W (H : Ints W za zn zc zs) => Pop_ok zn f k (k + 1) rfl za zc zs W H (by omega) fl kl (by omega))
  unfold PopRing ringV at HP
  have HE := Lib.hid (show popC ⟨cap_, cl, ((zn : Nat) : Int), (f : Int), zs, ((k + 1 : Nat) : Int), sent, got, sends, recvs⟩ = { cap := cap_, cl := cl, rc := ((zn : Nat) : Int), rf := (((f + 1) % zn : Nat) : Int), zs := zs.set f 0, rk := ((k : Nat) : Int), sent := sent, got := got + 1, sends := sends, recvs := recvs } from rfl)
  obtain ⟨f', hf'⟩ : ∃ f', f' = (f + 1) % zn := ⟨_, rfl⟩
  rw [← hf'] at HP HE
  have HFB := Lib.hid (show f' < zn by rw [hf']; exact Nat.mod_lt _ (by omega))
  clear hf'
  obtain ⟨v, hv⟩ : ∃ v, v = en zs f := ⟨_, rfl⟩
  rw [← hv] at HP
  try rw [← hv]
  clear hv
  have HFi := Lib.hid (fun W (H : Wts W sa sn sc sends) => First_go sa sn sc sends x.g W H hsr hx hxI)
  rw [hf] at HFi
  unfold GotFirst at HFi
  simp only at HFi
  unfold GotWait at HFi
  have hyL : y ∈ sends := List.mem_of_find?_eq_some hf
  have HYO := Lib.hid (h.ch.sends.ok y hyL)
  have hyg : 0 ≤ y.g := by have := (right_pair.1 hsr).2.1 y hyL; simp [mayW] at this; exact this.1
  have HYG := Lib.hid hyg
  have HRR := Lib.hid (And.intro hsr hrr)
  clear hf hx hxI hsr hrr hyL hyg
  have HM := Lib.hid hm
  clear hm
  have A0 := Lib.hid (below_alloc w (.cells zero6 50))
  have HW := Lib.hid (h.below A0.out)
  have B4 := Lib.hid (Bx.new w zero6 50)
  have AP4 := Lib.hid (h.ch.ap (Nat.le_refl _))
  have hlt := h.box.lt
  have HKL := Lib.hid (And.intro kl fl)
  have HGB := Lib.hid (And.intro hg0 hg1)
  clear h zl fl kl hg0 hg1
  obtain ⟨R, hR⟩ : ∃ R, R = w.heap.size := ⟨_, rfl⟩
  rw [← hR] at B4 AP4
  have hRB : R ≠ B := by omega
  have HR := Lib.hid hR
  clear hR
  rw [HE.out]
  go_enter Try.func65, Try.ntmps65
  go_wp2_with fail
  rw [← HR.out]
  refine (alone_any 1 _).mono ?_
  rintro e w1 ⟨rfl, hb⟩
  have HW1 := Lib.hid (HW.out.below hb); have B41 := Lib.hid (B4.out.below hb); have A1 := Lib.hid (A0.out.trans (Below.mono hb A0.out.size))
  clear hb
  have lR := B41.out.lt
  have lB := HW1.out.box.lt
  have A2 := Lib.hid (A1.out.alloc A1.out.size (.cells (aloneC 1) 50))
  have HW2 := Lib.hid (HW1.out.below (below_alloc w1 (.cells (aloneC 1) 50)))
  have B42 := Lib.hid (B41.out.below (below_alloc w1 (.cells (aloneC 1) 50)))
  have S2 := Lib.hid (Bx.new w1 (aloneC 1) 50)
  have APS := Lib.hid (HW1.out.ch.ap (Nat.le_refl _))
  obtain ⟨p0, p1, p2, p3, p4, p5, p6, p7, p8, p9, p10, p11, p12⟩ := HW2.out.box.cells13
  go_wp2_with fail
  obtain ⟨X2, hX2⟩ : ∃ X, X = w1.alloc (.cells (aloneC 1) 50) := ⟨_, rfl⟩
  obtain ⟨Q, hQe⟩ : ∃ Q, Q = w1.heap.size := ⟨_, rfl⟩
  have HQ := Lib.hid (show w.heap.size ≤ Q by rw [hQe]; exact A1.out.size)
  rw [← hX2] at HW2 B42 A2 S2
  rw [← hQe] at S2 APS lR lB
  try rw [← hX2]
  try rw [← hQe]
  have hQB : Q ≠ B := by omega
  have hQR : Q ≠ R := by omega
  refine (HP.out _ (by first | exact HW2.out.ch.zs | (rw [hX2] at HW2; exact HW2.out.ch.zs))).mono ?_
  rintro e w3 ⟨a1, c1, rfl, hz1, hb1, hf1⟩
  clear hX2 hQe p0 p1 p2 p3 p4 p5 p6 p7 p8 p9 p10 p11 p12
  have HW3 := Lib.hid (HW2.out.below hb1); have B43 := Lib.hid (B42.out.below hb1); have S3 := Lib.hid (S2.out.below hb1); have A3 := Lib.hid (A2.out.trans (Below.mono hb1 A2.out.size))
  have HZ3 := Lib.hid hz1
  have lQ2 := S2.out.lt; have lB2 := HW2.out.box.lt; have lR2 := B42.out.lt
  have HF3 := Lib.hid (show ∀ y, a1 = some y → y.block ≠ B ∧ y.block ≠ Q ∧ y.block ≠ R ∧ w.heap.size ≤ y.block from fun y hy => by have := hf1 y hy; have := A2.out.size; omega)
  clear hz1 hb1 hf1 lQ2 lB2 lR2 lR lB
  obtain ⟨p0, p1, p2, p3, p4, p5, p6, p7, p8, p9, p10, p11, p12⟩ := HW3.out.box.cells13
  obtain ⟨s0, s1, s2, s3, s4, s5⟩ := S3.out.cells6
  have f2 := HW3.out.box.froz 2; have f3 := HW3.out.box.froz 3; have f4 := HW3.out.box.froz 4; have f5 := HW3.out.box.froz 5; have f7 := HW3.out.box.froz 7
  have u1 := S3.out.froz 1; have lB := HW3.out.box.lt; have lS := S3.out.lt
  go_upto_region 6 with (fail)
  obtain ⟨Xa, hXa⟩ : ∃ X, X = rg4 w3 B (.int .i64 zn) (.int .i64 f') (.slice a1 zn c1) (.int .i64 k) := ⟨_, rfl⟩
  obtain ⟨X4, hX4⟩ : ∃ X, X = Xa.setCell ⟨Q, 1, none⟩ (.int .i64 v) := ⟨_, rfl⟩
  have Ga := Lib.hid (show w3.grownBy Xa (some B) by rw [hXa]; exact grown_rg4 (World.grownBy.refl _ _) _ _ _ _)
  have G4 := Lib.hid (show Xa.grownBy X4 (some Q) by rw [hX4]; exact grow_setCell _ _ _ _)
  have A4 := Lib.hid (show w.grownBy X4 (some B) from grow_local ((grow_below (World.grownBy.refl _ _) A3.out).trans Ga.out) G4.out HQ.out)
  have BBa := Lib.hid (show Bx Xa B (wkC { cap := cap_, cl := cl, rc := ((zn : Nat) : Int), rf := ((f' : Nat) : Int), zs := zs.set f 0, rk := ((k : Nat) : Int), sent := sent, got := got, sends := sends, recvs := recvs } ⟨a1, zn, c1, sa, sn, sc, ra, rn, rq⟩ x) 61 by rw [hXa]; exact HW3.out.box.rg4 _ _ _ _)
  have BB4 := Lib.hid (BBa.out.other G4.out (fun e => hQB (by cases e; rfl)))
  have S4 := Lib.hid (show Bx X4 Q (outC ⟨1, v, ⟨-1, 0, 0⟩, 0⟩) 50 by rw [hX4]; exact (S3.out.other Ga.out (fun e => hQB (by cases e; rfl))).set 1 _)
  have B44 := Lib.hid ((B43.out.other Ga.out (fun e => hRB (by cases e; rfl))).other G4.out (fun e => hQR (by cases e; rfl)))
  have AP4' := Lib.hid (show Ap ⟨a1, zn, c1, sa, sn, sc, ra, rn, rq⟩ R from ⟨fun y hy _ => (HF3.out y hy).2.2.1, AP4.out.asn, AP4.out.ar⟩)
  have APS' := Lib.hid (show Ap ⟨a1, zn, c1, sa, sn, sc, ra, rn, rq⟩ Q from ⟨fun y hy _ => (HF3.out y hy).2.1, APS.out.asn, APS.out.ar⟩)
  have APB := Lib.hid (show Ap ⟨a1, zn, c1, sa, sn, sc, ra, rn, rq⟩ B from ⟨fun y hy _ => (HF3.out y hy).1, HW3.out.ap.asn, HW3.out.ap.ar⟩)
  have CH4 := Lib.hid (show Cha X4 { cap := cap_, cl := cl, rc := ((zn : Nat) : Int), rf := ((f' : Nat) : Int), zs := zs.set f 0, rk := ((k : Nat) : Int), sent := sent, got := got, sends := sends, recvs := recvs } ⟨a1, zn, c1, sa, sn, sc, ra, rn, rq⟩ from ⟨HW3.out.ch.cap, HW3.out.ch.rc, ⟨by have := HFB.out; simp only; omega, by have := HFB.out; simp only; omega⟩, ⟨by have := HKL.out; simp only; omega, by have := HKL.out; simp only; omega⟩, HW3.out.ch.sent, HW3.out.ch.got, (HZ3.out.other APB.out.az Ga.out).other APS'.out.az G4.out, (HW3.out.ch.sends.other APB.out.asn Ga.out).other APS'.out.asn G4.out, (HW3.out.ch.recvs.other APB.out.ar Ga.out).other APS'.out.ar G4.out⟩)
  have KP := Lib.hid (show Keeps w ⟨za, zn, zc, sa, sn, sc, ra, rn, rq⟩ ⟨a1, zn, c1, sa, sn, sc, ra, rn, rq⟩ from fun Bo hBo hA => ⟨fun y hy _ he => by have := (HF3.out y hy).2.2.2; omega, hA.asn, hA.ar⟩)
  rw [hXa] at hX4
  unfold rg4 at hX4
  rw [← hX4]
  clear hXa hX4 p0 p1 p2 p3 p4 p5 p6 p7 p8 p9 p10 p11 p12 s0 s1 s2 s3 s4 s5 f2 f3 f4 f5 f7 u1 lB lS
  obtain ⟨p0, p1, p2, p3, p4, p5, p6, p7, p8, p9, p10, p11, p12⟩ := BB4.out.cells13
  obtain ⟨s0, s1, s2, s3, s4, s5⟩ := S4.out.cells6
  have f7 := BB4.out.froz 7; have lB := BB4.out.lt; have lS := S4.out.lt; have lR := B44.out.lt
  have hgot := HGB.out
  go_upto_region 9 with (fail)
  have G7 := Lib.hid (grow_setCell X4 B 7 (.int .i64 (got + 1)))
  obtain ⟨X5, hX5⟩ : ∃ X, X = X4.setCell ⟨B, 7, none⟩ (.int .i64 (got + 1)) := ⟨_, rfl⟩
  have BB5 := Lib.hid (show Bx X5 B (wkC { cap := cap_, cl := cl, rc := ((zn : Nat) : Int), rf := ((f' : Nat) : Int), zs := zs.set f 0, rk := ((k : Nat) : Int), sent := sent, got := got + 1, sends := sends, recvs := recvs } ⟨a1, zn, c1, sa, sn, sc, ra, rn, rq⟩ x) 61 by rw [hX5]; exact BB4.out.set 7 _)
  rw [← hX5] at G7 ⊢
  clear hX5 p0 p1 p2 p3 p4 p5 p6 p7 p8 p9 p10 p11 p12 s0 s1 s2 s3 s4 s5 f7 lB lS lR
  have CH5 := Lib.hid (CH4.out.other APB.out G7.out)
  have HW5 := Lib.hid (show Wk X5 B { cap := cap_, cl := cl, rc := ((zn : Nat) : Int), rf := ((f' : Nat) : Int), zs := zs.set f 0, rk := ((k : Nat) : Int), sent := sent, got := got + 1, sends := sends, recvs := recvs } ⟨a1, zn, c1, sa, sn, sc, ra, rn, rq⟩ x from ⟨BB5.out, ⟨CH5.out.cap, CH5.out.rc, CH5.out.rf, CH5.out.rk, CH5.out.sent, ⟨by simp only; omega, by simp only; omega⟩, CH5.out.zs, CH5.out.sends, CH5.out.recvs⟩, APB.out⟩)
  have S5 := Lib.hid (S4.out.other G7.out (fun e => hQB (by cases e; rfl)))
  have B45 := Lib.hid (B44.out.other G7.out (fun e => hRB (by cases e; rfl)))
  have A5 := Lib.hid (A4.out.trans G7.out)
  obtain ⟨p0, p1, p2, p3, p4, p5, p6, p7, p8, p9, p10, p11, p12⟩ := HW5.out.box.cells13
  have lB := HW5.out.box.lt; have lS := S5.out.lt
  go_region_with (refine (HFi.out _ (HW5.out.ch.sends.below (Below.refl _ _).drew)).mono ?_; rintro e w6 ⟨rfl, hb6⟩; have HB6 := Lib.hid (show Below X5.heap.size X5 w6 from ((Below.refl _ _).drew).trans hb6); clear hb6; have HW6 := Lib.hid (HW5.out.below HB6.out); have S6 := Lib.hid (S5.out.below HB6.out); have B46 := Lib.hid (B45.out.below HB6.out); have A6 := Lib.hid (grow_below A5.out HB6.out); obtain ⟨s0, s1, s2, s3, s4, s5⟩ := S6.out.cells6; have u2 := S6.out.froz 2; have u3 := S6.out.froz 3; have u4 := S6.out.froz 4; have u5 := S6.out.froz 5; have lS6 := S6.out.lt; obtain ⟨m0, m1, m2, m3, m4, m5, m6, m7, m8, m9, m10, m11, m12⟩ := HW6.out.box.cells13; have lB6 := HW6.out.box.lt)
  all_goals
    go_wp2_with fail
    obtain ⟨X7, hX7⟩ : ∃ X, X = (wh3 w6 Q (.int .i64 y.g) (.int .i64 y.c) (.int .i64 y.s)).setCell ⟨Q, 5, none⟩ (.int .i64 sent) := ⟨_, rfl⟩
    have G67 := Lib.hid (show w6.grownBy X7 (some Q) by rw [hX7]; exact (grown_wh3 (World.grownBy.refl _ _) _ _ _).trans (grow_setCell _ _ _ _))
    have S7 := Lib.hid (show Bx X7 Q (outC ⟨1, v, y, sent⟩) 50 by rw [hX7]; exact (S6.out.wh3 _ _ _).set 5 _)
    rw [show ((((w6.setCell ⟨Q, 2, none⟩ (.int .i64 y.g)).setCell ⟨Q, 3, none⟩ (.int .i64 y.c)).setCell ⟨Q, 4, none⟩ (.int .i64 y.s)).setCell ⟨Q, 5, none⟩ (.int .i64 sent)) = X7 from hX7.symm]
    clear hX7 s0 s1 s2 s3 s4 s5 u2 u3 u4 u5 lS6 m0 m1 m2 m3 m4 m5 m6 m7 m8 m9 m10 m11 m12 lB6 p0 p1 p2 p3 p4 p5 p6 p7 p8 p9 p10 p11 p12 lB lS
    have HW7 := Lib.hid (show Wk X7 B { cap := cap_, cl := cl, rc := ((zn : Nat) : Int), rf := ((f' : Nat) : Int), zs := zs.set f 0, rk := ((k : Nat) : Int), sent := sent, got := got + 1, sends := sends, recvs := recvs } ⟨a1, zn, c1, sa, sn, sc, ra, rn, rq⟩ x from ⟨HW6.out.box.other G67.out (fun e => hQB (by cases e; rfl)), HW6.out.ch.other APS'.out G67.out, APB.out⟩)
    have B47 := Lib.hid (B46.out.other G67.out (fun e => hQR (by cases e; rfl)))
    have A7 := Lib.hid (grow_local A6.out G67.out HQ.out)
    have HRw := Lib.hid (show w.heap.size ≤ R by rw [HR.out]; exact Nat.le_refl _)
    have HFM := Lib.hid (fill_max B _ _ x X7 HW7.out HM.out)
    unfold Did at HFM
    refine HFM.out.mono ?_
    rintro e w8 ⟨q8, rfl, hw8, hg8, hk8⟩
    have HW8 := Lib.hid hw8; have G8 := Lib.hid hg8; have K8 := Lib.hid hk8
    clear hw8 hg8 hk8
    have B48 := Lib.hid (B47.out.other G8.out (fun e => hRB (by cases e; rfl)))
    obtain ⟨r0, r1, r2, r3, r4, r5⟩ := B48.out.cells6; have g0 := B48.out.froz 0; have g1 := B48.out.froz 1; have g2 := B48.out.froz 2; have g3 := B48.out.froz 3; have g4 := B48.out.froz 4; have g5 := B48.out.froz 5; have lR := B48.out.lt
    go_wp2_with fail
    have ST := Lib.hid (B48.out.st6 (.int .i64 0) (.int .i64 0) (.int .i64 0) (.int .i64 0) (.int .i64 0) (.int .i64 0))
    refine bodyPost_ret (v := .tuple #[.agg zero6, .int .i64 5]) (by rw [res_c1 Try.results65 _ (by rfl) (ST.out.load Try.underlying50 infO)]; rfl) rfl ?_
    have G9 := grown_st6 (World.grownBy.refl w8 (some R)) (.int .i64 0) (.int .i64 0) (.int .i64 0) (.int .i64 0) (.int .i64 0) (.int .i64 0)
    have AP8 := K8.out R B47.out.lt AP4'.out
    exact ⟨q8, rfl, ⟨HW8.out.box.other G9 (fun e => hRB (by cases e; rfl)), HW8.out.ch.other AP8 G9, HW8.out.ap⟩, grow_local (A7.out.trans G8.out) G9 HRw.out, fun Bo hBo hA => K8.out Bo (Nat.lt_of_lt_of_le hBo A7.out.size) (KP.out Bo hBo hA)⟩
set_option maxRecDepth 100000 in
set_option maxHeartbeats 2000000 in
theorem take_ok (B : Nat) (c : Chn) (q : CAt) (x : Wt) (w : World) (h : Wk w B c q x) (n f k : Nat) (h1 : c.rc = (n : Int)) (h2 : c.rf = (f : Int)) (h3 : c.rk = ((k + 1 : Nat) : Int)) (n3 : n ≤ 3) (zl : c.zs.length = n) (fl : f < n) (kl : k + 1 ≤ n) (hg0 : 0 ≤ c.got) (hg1 : c.got < 1048576) (y : Wt) (hf : firstW c.sends x.g = some y) (hx : 0 ≤ x.g) (hxI : I64 x.g) (hsr : rightW c.sends = true) (hrr : rightW c.recvs = true) (hs0 : 0 ≤ c.sent) (hsm : c.sent < 1048576) :
    Calls Try.prog 65 #[.pointer (some ⟨B, 0, none⟩), .bool true] w (Did w B q x (leaveC (fillC (popC c)) y.g) (.tuple #[outV ⟨1, en c.zs f, y, c.sent⟩, .int .i64 0])) := by
  obtain ⟨cap_, cl, rc, rf, zs, rk, sent, got, sends, recvs⟩ := c
  obtain ⟨za, zn, zc, sa, sn, sc, ra, rn, rq⟩ := q
  simp only at h1 h2 h3 zl hg0 hg1 hf hsr hrr hs0 hsm
  subst h1; subst h2; subst h3
  obtain rfl : zn = n := by rw [← zl]; exact h.ch.zs.len_eq.symm
  have HP := Lib.hid (fun W (H : Ints W za zn zc zs) => Pop_ok zn f k (k + 1) rfl za zc zs W H (by omega) fl kl (by omega))
  unfold PopRing ringV at HP
  have HE := Lib.hid (show popC ⟨cap_, cl, ((zn : Nat) : Int), (f : Int), zs, ((k + 1 : Nat) : Int), sent, got, sends, recvs⟩ = { cap := cap_, cl := cl, rc := ((zn : Nat) : Int), rf := (((f + 1) % zn : Nat) : Int), zs := zs.set f 0, rk := ((k : Nat) : Int), sent := sent, got := got + 1, sends := sends, recvs := recvs } from rfl)
  obtain ⟨f', hf'⟩ : ∃ f', f' = (f + 1) % zn := ⟨_, rfl⟩
  rw [← hf'] at HP HE
  have HFB := Lib.hid (show f' < zn by rw [hf']; exact Nat.mod_lt _ (by omega))
  clear hf'
  obtain ⟨v, hv⟩ : ∃ v, v = en zs f := ⟨_, rfl⟩
  rw [← hv] at HP
  try rw [← hv]
  clear hv
  have HFi := Lib.hid (fun W (H : Wts W sa sn sc sends) => First_go sa sn sc sends x.g W H hsr hx hxI)
  rw [hf] at HFi
  unfold GotFirst at HFi
  simp only at HFi
  unfold GotWait at HFi
  have hyL : y ∈ sends := List.mem_of_find?_eq_some hf
  have HYO := Lib.hid (h.ch.sends.ok y hyL)
  have hyg : 0 ≤ y.g := by have := (right_pair.1 hsr).2.1 y hyL; simp [mayW] at this; exact this.1
  have HYG := Lib.hid hyg
  have HRR := Lib.hid (And.intro hsr hrr)
  clear hf hx hxI hsr hrr hyL hyg
  have HM := Lib.hid (And.intro hs0 hsm)
  clear hs0 hsm
  have A0 := Lib.hid (below_alloc w (.cells zero6 50))
  have HW := Lib.hid (h.below A0.out)
  have B4 := Lib.hid (Bx.new w zero6 50)
  have AP4 := Lib.hid (h.ch.ap (Nat.le_refl _))
  have hlt := h.box.lt
  have HKL := Lib.hid (And.intro kl fl)
  have HGB := Lib.hid (And.intro hg0 hg1)
  clear h zl fl kl hg0 hg1
  obtain ⟨R, hR⟩ : ∃ R, R = w.heap.size := ⟨_, rfl⟩
  rw [← hR] at B4 AP4
  have hRB : R ≠ B := by omega
  have HR := Lib.hid hR
  clear hR
  rw [HE.out]
  go_enter Try.func65, Try.ntmps65
  go_wp2_with fail
  rw [← HR.out]
  refine (alone_any 1 _).mono ?_
  rintro e w1 ⟨rfl, hb⟩
  have HW1 := Lib.hid (HW.out.below hb); have B41 := Lib.hid (B4.out.below hb); have A1 := Lib.hid (A0.out.trans (Below.mono hb A0.out.size))
  clear hb
  have lR := B41.out.lt
  have lB := HW1.out.box.lt
  have A2 := Lib.hid (A1.out.alloc A1.out.size (.cells (aloneC 1) 50))
  have HW2 := Lib.hid (HW1.out.below (below_alloc w1 (.cells (aloneC 1) 50)))
  have B42 := Lib.hid (B41.out.below (below_alloc w1 (.cells (aloneC 1) 50)))
  have S2 := Lib.hid (Bx.new w1 (aloneC 1) 50)
  have APS := Lib.hid (HW1.out.ch.ap (Nat.le_refl _))
  obtain ⟨p0, p1, p2, p3, p4, p5, p6, p7, p8, p9, p10, p11, p12⟩ := HW2.out.box.cells13
  go_wp2_with fail
  obtain ⟨X2, hX2⟩ : ∃ X, X = w1.alloc (.cells (aloneC 1) 50) := ⟨_, rfl⟩
  obtain ⟨Q, hQe⟩ : ∃ Q, Q = w1.heap.size := ⟨_, rfl⟩
  have HQ := Lib.hid (show w.heap.size ≤ Q by rw [hQe]; exact A1.out.size)
  rw [← hX2] at HW2 B42 A2 S2
  rw [← hQe] at S2 APS lR lB
  try rw [← hX2]
  try rw [← hQe]
  have hQB : Q ≠ B := by omega
  have hQR : Q ≠ R := by omega
  refine (HP.out _ (by first | exact HW2.out.ch.zs | (rw [hX2] at HW2; exact HW2.out.ch.zs))).mono ?_
  rintro e w3 ⟨a1, c1, rfl, hz1, hb1, hf1⟩
  clear hX2 hQe p0 p1 p2 p3 p4 p5 p6 p7 p8 p9 p10 p11 p12
  have HW3 := Lib.hid (HW2.out.below hb1); have B43 := Lib.hid (B42.out.below hb1); have S3 := Lib.hid (S2.out.below hb1); have A3 := Lib.hid (A2.out.trans (Below.mono hb1 A2.out.size))
  have HZ3 := Lib.hid hz1
  have lQ2 := S2.out.lt; have lB2 := HW2.out.box.lt; have lR2 := B42.out.lt
  have HF3 := Lib.hid (show ∀ y, a1 = some y → y.block ≠ B ∧ y.block ≠ Q ∧ y.block ≠ R ∧ w.heap.size ≤ y.block from fun y hy => by have := hf1 y hy; have := A2.out.size; omega)
  clear hz1 hb1 hf1 lQ2 lB2 lR2 lR lB
  obtain ⟨p0, p1, p2, p3, p4, p5, p6, p7, p8, p9, p10, p11, p12⟩ := HW3.out.box.cells13
  obtain ⟨s0, s1, s2, s3, s4, s5⟩ := S3.out.cells6
  have f2 := HW3.out.box.froz 2; have f3 := HW3.out.box.froz 3; have f4 := HW3.out.box.froz 4; have f5 := HW3.out.box.froz 5; have f7 := HW3.out.box.froz 7
  have u1 := S3.out.froz 1; have lB := HW3.out.box.lt; have lS := S3.out.lt
  go_upto_region 6 with (fail)
  obtain ⟨Xa, hXa⟩ : ∃ X, X = rg4 w3 B (.int .i64 zn) (.int .i64 f') (.slice a1 zn c1) (.int .i64 k) := ⟨_, rfl⟩
  obtain ⟨X4, hX4⟩ : ∃ X, X = Xa.setCell ⟨Q, 1, none⟩ (.int .i64 v) := ⟨_, rfl⟩
  have Ga := Lib.hid (show w3.grownBy Xa (some B) by rw [hXa]; exact grown_rg4 (World.grownBy.refl _ _) _ _ _ _)
  have G4 := Lib.hid (show Xa.grownBy X4 (some Q) by rw [hX4]; exact grow_setCell _ _ _ _)
  have A4 := Lib.hid (show w.grownBy X4 (some B) from grow_local ((grow_below (World.grownBy.refl _ _) A3.out).trans Ga.out) G4.out HQ.out)
  have BBa := Lib.hid (show Bx Xa B (wkC { cap := cap_, cl := cl, rc := ((zn : Nat) : Int), rf := ((f' : Nat) : Int), zs := zs.set f 0, rk := ((k : Nat) : Int), sent := sent, got := got, sends := sends, recvs := recvs } ⟨a1, zn, c1, sa, sn, sc, ra, rn, rq⟩ x) 61 by rw [hXa]; exact HW3.out.box.rg4 _ _ _ _)
  have BB4 := Lib.hid (BBa.out.other G4.out (fun e => hQB (by cases e; rfl)))
  have S4 := Lib.hid (show Bx X4 Q (outC ⟨1, v, ⟨-1, 0, 0⟩, 0⟩) 50 by rw [hX4]; exact (S3.out.other Ga.out (fun e => hQB (by cases e; rfl))).set 1 _)
  have B44 := Lib.hid ((B43.out.other Ga.out (fun e => hRB (by cases e; rfl))).other G4.out (fun e => hQR (by cases e; rfl)))
  have AP4' := Lib.hid (show Ap ⟨a1, zn, c1, sa, sn, sc, ra, rn, rq⟩ R from ⟨fun y hy _ => (HF3.out y hy).2.2.1, AP4.out.asn, AP4.out.ar⟩)
  have APS' := Lib.hid (show Ap ⟨a1, zn, c1, sa, sn, sc, ra, rn, rq⟩ Q from ⟨fun y hy _ => (HF3.out y hy).2.1, APS.out.asn, APS.out.ar⟩)
  have APB := Lib.hid (show Ap ⟨a1, zn, c1, sa, sn, sc, ra, rn, rq⟩ B from ⟨fun y hy _ => (HF3.out y hy).1, HW3.out.ap.asn, HW3.out.ap.ar⟩)
  have CH4 := Lib.hid (show Cha X4 { cap := cap_, cl := cl, rc := ((zn : Nat) : Int), rf := ((f' : Nat) : Int), zs := zs.set f 0, rk := ((k : Nat) : Int), sent := sent, got := got, sends := sends, recvs := recvs } ⟨a1, zn, c1, sa, sn, sc, ra, rn, rq⟩ from ⟨HW3.out.ch.cap, HW3.out.ch.rc, ⟨by have := HFB.out; simp only; omega, by have := HFB.out; simp only; omega⟩, ⟨by have := HKL.out; simp only; omega, by have := HKL.out; simp only; omega⟩, HW3.out.ch.sent, HW3.out.ch.got, (HZ3.out.other APB.out.az Ga.out).other APS'.out.az G4.out, (HW3.out.ch.sends.other APB.out.asn Ga.out).other APS'.out.asn G4.out, (HW3.out.ch.recvs.other APB.out.ar Ga.out).other APS'.out.ar G4.out⟩)
  have KP := Lib.hid (show Keeps w ⟨za, zn, zc, sa, sn, sc, ra, rn, rq⟩ ⟨a1, zn, c1, sa, sn, sc, ra, rn, rq⟩ from fun Bo hBo hA => ⟨fun y hy _ he => by have := (HF3.out y hy).2.2.2; omega, hA.asn, hA.ar⟩)
  rw [hXa] at hX4
  unfold rg4 at hX4
  rw [← hX4]
  clear hXa hX4 p0 p1 p2 p3 p4 p5 p6 p7 p8 p9 p10 p11 p12 s0 s1 s2 s3 s4 s5 f2 f3 f4 f5 f7 u1 lB lS
  obtain ⟨p0, p1, p2, p3, p4, p5, p6, p7, p8, p9, p10, p11, p12⟩ := BB4.out.cells13
  obtain ⟨s0, s1, s2, s3, s4, s5⟩ := S4.out.cells6
  have f7 := BB4.out.froz 7; have lB := BB4.out.lt; have lS := S4.out.lt; have lR := B44.out.lt
  have hgot := HGB.out
  go_upto_region 9 with (fail)
  have G7 := Lib.hid (grow_setCell X4 B 7 (.int .i64 (got + 1)))
  obtain ⟨X5, hX5⟩ : ∃ X, X = X4.setCell ⟨B, 7, none⟩ (.int .i64 (got + 1)) := ⟨_, rfl⟩
  have BB5 := Lib.hid (show Bx X5 B (wkC { cap := cap_, cl := cl, rc := ((zn : Nat) : Int), rf := ((f' : Nat) : Int), zs := zs.set f 0, rk := ((k : Nat) : Int), sent := sent, got := got + 1, sends := sends, recvs := recvs } ⟨a1, zn, c1, sa, sn, sc, ra, rn, rq⟩ x) 61 by rw [hX5]; exact BB4.out.set 7 _)
  rw [← hX5] at G7 ⊢
  clear hX5 p0 p1 p2 p3 p4 p5 p6 p7 p8 p9 p10 p11 p12 s0 s1 s2 s3 s4 s5 f7 lB lS lR
  have CH5 := Lib.hid (CH4.out.other APB.out G7.out)
  have HW5 := Lib.hid (show Wk X5 B { cap := cap_, cl := cl, rc := ((zn : Nat) : Int), rf := ((f' : Nat) : Int), zs := zs.set f 0, rk := ((k : Nat) : Int), sent := sent, got := got + 1, sends := sends, recvs := recvs } ⟨a1, zn, c1, sa, sn, sc, ra, rn, rq⟩ x from ⟨BB5.out, ⟨CH5.out.cap, CH5.out.rc, CH5.out.rf, CH5.out.rk, CH5.out.sent, ⟨by simp only; omega, by simp only; omega⟩, CH5.out.zs, CH5.out.sends, CH5.out.recvs⟩, APB.out⟩)
  have S5 := Lib.hid (S4.out.other G7.out (fun e => hQB (by cases e; rfl)))
  have B45 := Lib.hid (B44.out.other G7.out (fun e => hRB (by cases e; rfl)))
  have A5 := Lib.hid (A4.out.trans G7.out)
  obtain ⟨p0, p1, p2, p3, p4, p5, p6, p7, p8, p9, p10, p11, p12⟩ := HW5.out.box.cells13
  have lB := HW5.out.box.lt; have lS := S5.out.lt
  go_region_with (refine (HFi.out _ (HW5.out.ch.sends.below (Below.refl _ _).drew)).mono ?_; rintro e w6 ⟨rfl, hb6⟩; have HB6 := Lib.hid (show Below X5.heap.size X5 w6 from ((Below.refl _ _).drew).trans hb6); clear hb6; have HW6 := Lib.hid (HW5.out.below HB6.out); have S6 := Lib.hid (S5.out.below HB6.out); have B46 := Lib.hid (B45.out.below HB6.out); have A6 := Lib.hid (grow_below A5.out HB6.out); obtain ⟨s0, s1, s2, s3, s4, s5⟩ := S6.out.cells6; have u2 := S6.out.froz 2; have u3 := S6.out.froz 3; have u4 := S6.out.froz 4; have u5 := S6.out.froz 5; have lS6 := S6.out.lt; obtain ⟨m0, m1, m2, m3, m4, m5, m6, m7, m8, m9, m10, m11, m12⟩ := HW6.out.box.cells13; have lB6 := HW6.out.box.lt)
  all_goals
    go_wp2_with fail
    obtain ⟨X7, hX7⟩ : ∃ X, X = (wh3 w6 Q (.int .i64 y.g) (.int .i64 y.c) (.int .i64 y.s)).setCell ⟨Q, 5, none⟩ (.int .i64 sent) := ⟨_, rfl⟩
    have G67 := Lib.hid (show w6.grownBy X7 (some Q) by rw [hX7]; exact (grown_wh3 (World.grownBy.refl _ _) _ _ _).trans (grow_setCell _ _ _ _))
    have S7 := Lib.hid (show Bx X7 Q (outC ⟨1, v, y, sent⟩) 50 by rw [hX7]; exact (S6.out.wh3 _ _ _).set 5 _)
    rw [show ((((w6.setCell ⟨Q, 2, none⟩ (.int .i64 y.g)).setCell ⟨Q, 3, none⟩ (.int .i64 y.c)).setCell ⟨Q, 4, none⟩ (.int .i64 y.s)).setCell ⟨Q, 5, none⟩ (.int .i64 sent)) = X7 from hX7.symm]
    clear hX7 s0 s1 s2 s3 s4 s5 u2 u3 u4 u5 lS6 m0 m1 m2 m3 m4 m5 m6 m7 m8 m9 m10 m11 m12 lB6 p0 p1 p2 p3 p4 p5 p6 p7 p8 p9 p10 p11 p12 lB lS
    have HW7 := Lib.hid (show Wk X7 B { cap := cap_, cl := cl, rc := ((zn : Nat) : Int), rf := ((f' : Nat) : Int), zs := zs.set f 0, rk := ((k : Nat) : Int), sent := sent, got := got + 1, sends := sends, recvs := recvs } ⟨a1, zn, c1, sa, sn, sc, ra, rn, rq⟩ x from ⟨HW6.out.box.other G67.out (fun e => hQB (by cases e; rfl)), HW6.out.ch.other APS'.out G67.out, APB.out⟩)
    have B47 := Lib.hid (B46.out.other G67.out (fun e => hQR (by cases e; rfl)))
    have A7 := Lib.hid (grow_local A6.out G67.out HQ.out)
    have HRw := Lib.hid (show w.heap.size ≤ R by rw [HR.out]; exact Nat.le_refl _)
    have HFM := Lib.hid (fill_ok B _ _ x X7 HW7.out zn f' k rfl rfl rfl n3 HZ3.out.len_eq (by have := HFB.out; omega) (by have := HKL.out; omega) HM.out.1 HM.out.2)
    unfold Did at HFM
    refine HFM.out.mono ?_
    rintro e w8 ⟨q8, rfl, hw8, hg8, hk8⟩
    have HW8 := Lib.hid hw8; have G8 := Lib.hid hg8; have K8 := Lib.hid hk8
    clear hw8 hg8 hk8
    have S8 := Lib.hid (S7.out.other G8.out (fun e => hQB (by cases e; rfl)))
    have B48 := Lib.hid (B47.out.other G8.out (fun e => hRB (by cases e; rfl)))
    have HLV := Lib.hid (fun W (H : Wk W B (fillC { cap := cap_, cl := cl, rc := ((zn : Nat) : Int), rf := ((f' : Nat) : Int), zs := zs.set f 0, rk := ((k : Nat) : Int), sent := sent, got := got + 1, sends := sends, recvs := recvs }) q8 x) => leave_any B (fillC { cap := cap_, cl := cl, rc := ((zn : Nat) : Int), rf := ((f' : Nat) : Int), zs := zs.set f 0, rk := ((k : Nat) : Int), sent := sent, got := got + 1, sends := sends, recvs := recvs }) q8 x y.g W H HRR.out.1 HRR.out.2 HYG.out HYO.out.1)
    unfold Did at HLV
    obtain ⟨s0, s1, s2, s3, s4, s5⟩ := S8.out.cells6
    have lS := S8.out.lt
    go_wp2_with fail
    go_region_with (refine (HLV.out _ (HW8.out.below (Below.refl _ _).drew)).mono ?_; rintro e w9 ⟨q9, rfl, hw9, hg9, hk9⟩; have G9 := Lib.hid (show w8.grownBy w9 (some B) from (grow_drew (World.grownBy.refl w8 (some B))).trans hg9); have HW9 := Lib.hid hw9; have K9 := Lib.hid hk9; clear hw9 hg9 hk9; have S9 := Lib.hid (S8.out.other G9.out (fun e => hQB (by cases e; rfl))); have B49 := Lib.hid (B48.out.other G9.out (fun e => hRB (by cases e; rfl))); obtain ⟨m0, m1, m2, m3, m4, m5⟩ := S9.out.cells6; obtain ⟨r0, r1, r2, r3, r4, r5⟩ := B49.out.cells6; have g0 := B49.out.froz 0; have g1 := B49.out.froz 1; have g2 := B49.out.froz 2; have g3 := B49.out.froz 3; have g4 := B49.out.froz 4; have g5 := B49.out.froz 5; have lO4 := S9.out.lt; have lR4 := B49.out.lt)
    all_goals
      go_wp2_with fail
      have ST := Lib.hid (B49.out.st6 (.int .i64 1) (.int .i64 v) (.int .i64 y.g) (.int .i64 y.c) (.int .i64 y.s) (.int .i64 sent))
      refine bodyPost_ret (v := .tuple #[outV ⟨1, v, y, sent⟩, .int .i64 0]) (by rw [res_c1 Try.results65 _ (by rfl) (ST.out.load Try.underlying50 infO)]; rfl) rfl ?_
      have G10 := grown_st6 (World.grownBy.refl w9 (some R)) (.int .i64 1) (.int .i64 v) (.int .i64 y.g) (.int .i64 y.c) (.int .i64 y.s) (.int .i64 sent)
      have AP8 := K8.out R B47.out.lt AP4'.out
      have AP9 := K9.out R B48.out.lt AP8
      exact ⟨q9, rfl, ⟨HW9.out.box.other G10 (fun e => hRB (by cases e; rfl)), HW9.out.ch.other AP9 G10, HW9.out.ap⟩, grow_local ((A7.out.trans G8.out).trans G9.out) G10 HRw.out, fun Bo hBo hA => K9.out Bo (Nat.lt_of_lt_of_le hBo (A7.out.trans G8.out).size) (K8.out Bo (Nat.lt_of_lt_of_le hBo A7.out.size) (KP.out Bo hBo hA))⟩
end Go.Proofs.Ytfolhgpbplfilaa
