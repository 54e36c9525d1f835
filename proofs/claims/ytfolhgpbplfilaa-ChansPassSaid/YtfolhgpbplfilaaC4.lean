/- take: the buffer's first value. -/
import Derived.Test.YtfolhgpbplfilaaC3
namespace Go.Proofs.Ytfolhgpbplfilaa
open Go.RowKit
/-- a channel without its buffer's first value -/
def popC (c : Chn) : Chn := { c with rf := (((c.rf.toNat + 1) % c.rc.toNat : Nat) : Int), zs := c.zs.set c.rf.toNat 0, rk := ((c.rk.toNat - 1 : Nat) : Int), got := c.got + 1 }
/-- a channel that one has left -/
def leaveC (c : Chn) (g : Int) : Chn := { c with sends := dropW c.sends g, recvs := dropW c.recvs g }
set_option maxRecDepth 100000 in
set_option maxHeartbeats 800000 in
theorem take_no (B : Nat) (c : Chn) (q : CAt) (x : Wt) (w : World) (h : Wk w B c q x) (n f k : Nat) (h1 : c.rc = (n : Int)) (h2 : c.rf = (f : Int)) (h3 : c.rk = ((k + 1 : Nat) : Int)) (n3 : n ≤ 3) (zl : c.zs.length = n) (fl : f < n) (kl : k + 1 ≤ n) (hg0 : 0 ≤ c.got) (hg1 : c.got < 1048576) :
    Calls Try.prog 65 #[.pointer (some ⟨B, 0, none⟩), .bool false] w (Did w B q x (popC c) (.tuple #[outV ⟨1, en c.zs f, ⟨-1, 0, 0⟩, 0⟩, .int .i64 0])) := by
  obtain ⟨cap_, cl, rc, rf, zs, rk, sent, got, sends, recvs⟩ := c
  obtain ⟨za, zn, zc, sa, sn, sc, ra, rn, rq⟩ := q
  simp only at h1 h2 h3 zl hg0 hg1
  subst h1; subst h2; subst h3
  obtain rfl : zn = n := by rw [← zl]; exact h.ch.zs.len_eq.symm
  have HP := Lib.hid (fun W (H : Ints W za zn zc zs) => Pop_ok zn f k (k + 1) rfl za zc zs W H (by omega) fl kl (by omega))
  unfold PopRing ringV at HP
  have HE := Lib.hid (show popC ⟨cap_, cl, ((zn : Nat) : Int), (f : Int), zs, ((k + 1 : Nat) : Int), sent, got, sends, recvs⟩ = { cap := cap_, cl := cl, rc := ((zn : Nat) : Int), rf := (((f + 1) % zn : Nat) : Int), zs := zs.set f 0, rk := ((k : Nat) : Int), sent := sent, got := got + 1, sends := sends, recvs := recvs } from rfl)
  obtain ⟨f', hf'⟩ : ∃ f', f' = (f + 1) % zn := ⟨_, rfl⟩
  rw [← hf'] at HP HE
  have HFB := Lib.hid (show f' < zn by rw [hf']; exact Nat.mod_lt _ (by omega))
  clear hf'
  obtain ⟨v, hv⟩ : ∃ v, v = en zs f := ⟨_, rfl⟩
  rw [← hv] at HP
  try rw [← hv]
  clear hv
  have A0 := Lib.hid (below_alloc w (.cells zero6 50))
  have HW := Lib.hid (h.below A0.out)
  have B4 := Lib.hid (Bx.new w zero6 50)
  have AP4 := Lib.hid (h.ch.ap (Nat.le_refl _))
  have hlt := h.box.lt
  have HKL := Lib.hid (And.intro kl fl)
  have HGB := Lib.hid (And.intro hg0 hg1)
  clear h zl fl kl hg0 hg1
  obtain ⟨R, hR⟩ : ∃ R, R = w.heap.size := ⟨_, rfl⟩
  rw [← hR] at B4 AP4
  have hRB : R ≠ B := by omega
  have HR := Lib.hid hR
  clear hR
  rw [HE.out]
  go_enter Try.func65, Try.ntmps65
  go_wp2_with fail
  rw [← HR.out]
  refine (alone_any 1 _).mono ?_
  rintro e w1 ⟨rfl, hb⟩
  have HW1 := Lib.hid (HW.out.below hb); have B41 := Lib.hid (B4.out.below hb); have A1 := Lib.hid (A0.out.trans (Below.mono hb A0.out.size))
  clear hb
  have lR := B41.out.lt
  have lB := HW1.out.box.lt
  have A2 := Lib.hid (A1.out.alloc A1.out.size (.cells (aloneC 1) 50))
  have HW2 := Lib.hid (HW1.out.below (below_alloc w1 (.cells (aloneC 1) 50)))
  have B42 := Lib.hid (B41.out.below (below_alloc w1 (.cells (aloneC 1) 50)))
  have S2 := Lib.hid (Bx.new w1 (aloneC 1) 50)
  have APS := Lib.hid (HW1.out.ch.ap (Nat.le_refl _))
  obtain ⟨p0, p1, p2, p3, p4, p5, p6, p7, p8, p9, p10, p11, p12⟩ := HW2.out.box.cells13
  go_wp2_with fail
  obtain ⟨X2, hX2⟩ : ∃ X, X = w1.alloc (.cells (aloneC 1) 50) := ⟨_, rfl⟩
  obtain ⟨Q, hQe⟩ : ∃ Q, Q = w1.heap.size := ⟨_, rfl⟩
  have HQ := Lib.hid (show w.heap.size ≤ Q by rw [hQe]; exact A1.out.size)
  rw [← hX2] at HW2 B42 A2 S2
  rw [← hQe] at S2 APS lR lB
  try rw [← hX2]
  try rw [← hQe]
  have hQB : Q ≠ B := by omega
  have hQR : Q ≠ R := by omega
  refine (HP.out _ (by first | exact HW2.out.ch.zs | (rw [hX2] at HW2; exact HW2.out.ch.zs))).mono ?_
  rintro e w3 ⟨a1, c1, rfl, hz1, hb1, hf1⟩
  clear hX2 hQe p0 p1 p2 p3 p4 p5 p6 p7 p8 p9 p10 p11 p12
  have HW3 := Lib.hid (HW2.out.below hb1); have B43 := Lib.hid (B42.out.below hb1); have S3 := Lib.hid (S2.out.below hb1); have A3 := Lib.hid (A2.out.trans (Below.mono hb1 A2.out.size))
  have HZ3 := Lib.hid hz1
  have lQ2 := S2.out.lt; have lB2 := HW2.out.box.lt; have lR2 := B42.out.lt
  have HF3 := Lib.hid (show ∀ y, a1 = some y → y.block ≠ B ∧ y.block ≠ Q ∧ y.block ≠ R ∧ w.heap.size ≤ y.block from fun y hy => by have := hf1 y hy; have := A2.out.size; omega)
  clear hz1 hb1 hf1 lQ2 lB2 lR2 lR lB
  obtain ⟨p0, p1, p2, p3, p4, p5, p6, p7, p8, p9, p10, p11, p12⟩ := HW3.out.box.cells13
  obtain ⟨s0, s1, s2, s3, s4, s5⟩ := S3.out.cells6
  have f2 := HW3.out.box.froz 2; have f3 := HW3.out.box.froz 3; have f4 := HW3.out.box.froz 4; have f5 := HW3.out.box.froz 5; have f7 := HW3.out.box.froz 7
  have u1 := S3.out.froz 1; have lB := HW3.out.box.lt; have lS := S3.out.lt
  go_upto_region 6 with (fail)
  obtain ⟨Xa, hXa⟩ : ∃ X, X = rg4 w3 B (.int .i64 zn) (.int .i64 f') (.slice a1 zn c1) (.int .i64 k) := ⟨_, rfl⟩
  obtain ⟨X4, hX4⟩ : ∃ X, X = Xa.setCell ⟨Q, 1, none⟩ (.int .i64 v) := ⟨_, rfl⟩
  have Ga := Lib.hid (show w3.grownBy Xa (some B) by rw [hXa]; exact grown_rg4 (World.grownBy.refl _ _) _ _ _ _)
  have G4 := Lib.hid (show Xa.grownBy X4 (some Q) by rw [hX4]; exact grow_setCell _ _ _ _)
  have A4 := Lib.hid (show w.grownBy X4 (some B) from grow_local ((grow_below (World.grownBy.refl _ _) A3.out).trans Ga.out) G4.out HQ.out)
  have BBa := Lib.hid (show Bx Xa B (wkC { cap := cap_, cl := cl, rc := ((zn : Nat) : Int), rf := ((f' : Nat) : Int), zs := zs.set f 0, rk := ((k : Nat) : Int), sent := sent, got := got, sends := sends, recvs := recvs } ⟨a1, zn, c1, sa, sn, sc, ra, rn, rq⟩ x) 61 by rw [hXa]; exact HW3.out.box.rg4 _ _ _ _)
  have BB4 := Lib.hid (BBa.out.other G4.out (fun e => hQB (by cases e; rfl)))
  have S4 := Lib.hid (show Bx X4 Q (outC ⟨1, v, ⟨-1, 0, 0⟩, 0⟩) 50 by rw [hX4]; exact (S3.out.other Ga.out (fun e => hQB (by cases e; rfl))).set 1 _)
  have B44 := Lib.hid ((B43.out.other Ga.out (fun e => hRB (by cases e; rfl))).other G4.out (fun e => hQR (by cases e; rfl)))
  have AP4' := Lib.hid (show Ap ⟨a1, zn, c1, sa, sn, sc, ra, rn, rq⟩ R from ⟨fun y hy _ => (HF3.out y hy).2.2.1, AP4.out.asn, AP4.out.ar⟩)
  have APS' := Lib.hid (show Ap ⟨a1, zn, c1, sa, sn, sc, ra, rn, rq⟩ Q from ⟨fun y hy _ => (HF3.out y hy).2.1, APS.out.asn, APS.out.ar⟩)
  have APB := Lib.hid (show Ap ⟨a1, zn, c1, sa, sn, sc, ra, rn, rq⟩ B from ⟨fun y hy _ => (HF3.out y hy).1, HW3.out.ap.asn, HW3.out.ap.ar⟩)
  have CH4 := Lib.hid (show Cha X4 { cap := cap_, cl := cl, rc := ((zn : Nat) : Int), rf := ((f' : Nat) : Int), zs := zs.set f 0, rk := ((k : Nat) : Int), sent := sent, got := got, sends := sends, recvs := recvs } ⟨a1, zn, c1, sa, sn, sc, ra, rn, rq⟩ from ⟨HW3.out.ch.cap, HW3.out.ch.rc, ⟨by have := HFB.out; simp only; omega, by have := HFB.out; simp only; omega⟩, ⟨by have := HKL.out; simp only; omega, by have := HKL.out; simp only; omega⟩, HW3.out.ch.sent, HW3.out.ch.got, (HZ3.out.other APB.out.az Ga.out).other APS'.out.az G4.out, (HW3.out.ch.sends.other APB.out.asn Ga.out).other APS'.out.asn G4.out, (HW3.out.ch.recvs.other APB.out.ar Ga.out).other APS'.out.ar G4.out⟩)
  have KP := Lib.hid (show Keeps w ⟨za, zn, zc, sa, sn, sc, ra, rn, rq⟩ ⟨a1, zn, c1, sa, sn, sc, ra, rn, rq⟩ from fun Bo hBo hA => ⟨fun y hy _ he => by have := (HF3.out y hy).2.2.2; omega, hA.asn, hA.ar⟩)
  rw [hXa] at hX4
  unfold rg4 at hX4
  rw [← hX4]
  clear hXa hX4 p0 p1 p2 p3 p4 p5 p6 p7 p8 p9 p10 p11 p12 s0 s1 s2 s3 s4 s5 f2 f3 f4 f5 f7 u1 lB lS
  obtain ⟨p0, p1, p2, p3, p4, p5, p6, p7, p8, p9, p10, p11, p12⟩ := BB4.out.cells13
  obtain ⟨s0, s1, s2, s3, s4, s5⟩ := S4.out.cells6
  have f7 := BB4.out.froz 7; have lB := BB4.out.lt; have lS := S4.out.lt; have lR := B44.out.lt
  have hgot := HGB.out
  obtain ⟨r0, r1, r2, r3, r4, r5⟩ := B44.out.cells6; have g0 := B44.out.froz 0; have g1 := B44.out.froz 1; have g2 := B44.out.froz 2; have g3 := B44.out.froz 3; have g4 := B44.out.froz 4; have g5 := B44.out.froz 5
  go_wp2_with fail
  have G7 := grow_setCell X4 B 7 (.int .i64 (got + 1))
  have BB5 := BB4.out.set 7 (.int .i64 (got + 1))
  have B45 := B44.out.other G7 (fun e => hRB (by cases e; rfl))
  have CH5 := CH4.out.other APB.out G7
  have ST := Lib.hid (B45.st6 (.int .i64 1) (.int .i64 v) (.int .i64 (-1)) (.int .i64 0) (.int .i64 0) (.int .i64 0))
  refine bodyPost_ret (v := .tuple #[outV ⟨1, v, ⟨-1, 0, 0⟩, 0⟩, .int .i64 0]) (by rw [res_c1 Try.results65 _ (by rfl) (ST.out.load Try.underlying50 infO)]; rfl) rfl ?_
  have G8 := grown_st6 (World.grownBy.refl (X4.setCell ⟨B, 7, none⟩ (.int .i64 (got + 1))) (some R)) (.int .i64 1) (.int .i64 v) (.int .i64 (-1)) (.int .i64 0) (.int .i64 0) (.int .i64 0)
  have CH6 := CH5.other AP4'.out G8
  exact ⟨⟨a1, zn, c1, sa, sn, sc, ra, rn, rq⟩, rfl, ⟨BB5.other G8 (fun e => hRB (by cases e; rfl)), ⟨CH6.cap, CH6.rc, CH6.rf, CH6.rk, CH6.sent, ⟨by simp only; omega, by simp only; omega⟩, CH6.zs, CH6.sends, CH6.recvs⟩, APB.out⟩, grow_local (A4.out.trans G7) G8 (by rw [HR.out]; exact Nat.le_refl _), KP.out⟩
end Go.Proofs.Ytfolhgpbplfilaa
