/- fill: the next value in the buffer. -/
import Derived.Test.YtfolhgpbplfilaaC1
import Derived.StillTailTactics
namespace Go.Proofs.Ytfolhgpbplfilaa
open Go.RowKit
set_option maxRecDepth 100000 in
set_option maxHeartbeats 4000000 in
theorem fill_max (B : Nat) (c : Chn) (q : CAt) (x : Wt) (w : World) (h : Wk w B c q x) (hm : c.sent = 1048576) :
    Calls Try.prog 62 #[.pointer (some ⟨B, 0, none⟩)] w (Did w B q x c (.int .i64 5)) := by
  have HW := Lib.hid h
  obtain ⟨p0, p1, p2, p3, p4, p5, p6, p7, p8, p9, p10, p11, p12⟩ := h.box.cells13
  rw [hm] at p6
  clear h hm
  go_enter Try.func62, Try.ntmps62
  go_wp2_with fail
  go_ret
  exact ⟨q, rfl, HW.out, World.grownBy.refl _ _, Keeps.refl _ _⟩
/-- a channel with its next value laid in -/
def fillC (c : Chn) : Chn := { c with zs := c.zs.set ((c.rf.toNat + c.rk.toNat) % c.rc.toNat) c.sent, rk := c.rk + 1, sent := c.sent + 1 }
set_option maxRecDepth 100000 in
set_option maxHeartbeats 4000000 in
theorem fill_ok (B : Nat) (c : Chn) (q : CAt) (x : Wt) (w : World) (h : Wk w B c q x) (n f k : Nat) (h1 : c.rc = (n : Int)) (h2 : c.rf = (f : Int)) (h3 : c.rk = (k : Int)) (n3 : n ≤ 3) (zl : c.zs.length = n) (fl : f < max n 1) (kl : k < n) (hs0 : 0 ≤ c.sent) (hsm : c.sent < 1048576) :
    Calls Try.prog 62 #[.pointer (some ⟨B, 0, none⟩)] w (Did w B q x (fillC c) (.int .i64 0)) := by
  obtain ⟨cap, cl, rc, rf, zs, rk, sent, got, sends, recvs⟩ := c
  obtain ⟨za, zn, zc, sa, sn, sc, ra, rn, rq⟩ := q
  simp only at h1 h2 h3 zl hs0 hsm
  subst h1; subst h2; subst h3
  obtain rfl : zn = n := by rw [← zl]; exact h.ch.zs.len_eq.symm
  have HP := Lib.hid (fun W (H : Ints W za zn zc zs) => r_Push_ok zn f k za zc zs sent W H (by omega) fl kl h.ch.sent)
  unfold GotRing ringV at HP
  have hb2 : (sent == 1048576) = false := by rw [beq_eq_false_iff_ne]; omega
  have HW := Lib.hid h
  obtain ⟨p0, p1, p2, p3, p4, p5, p6, p7, p8, p9, p10, p11, p12⟩ := h.box.cells13
  have HKL := Lib.hid kl
  clear h zl fl kl
  go_enter Try.func62, Try.ntmps62
  go_wp2_with fail
  go_region_with (refine (HP.out _ (HW.out.ch.zs.below (Below.refl _ _).drew)).mono ?_; rintro e w1 ⟨a1, c1, rfl, hz1, hb1, hf1⟩; have HB1 := Lib.hid (show Below w.heap.size w w1 from ((Below.refl _ _).drew).trans hb1); have HZ1 := Lib.hid hz1; have HF1 := Lib.hid (show ∀ x, a1 = some x → w.heap.size ≤ x.block from hf1); clear hb1 hz1 hf1; have HW1 := Lib.hid (HW.out.below HB1.out); have f2 := HW1.out.box.froz 2; have f3 := HW1.out.box.froz 3; have f4 := HW1.out.box.froz 4; have f5 := HW1.out.box.froz 5; have f6 := HW1.out.box.froz 6; have l1 := HW1.out.box.lt; obtain ⟨r0, r1, r2, r3, r4, r5, r6, r7, r8, r9, r10, r11, r12⟩ := HW1.out.box.cells13)
  all_goals
    go_wp2_with fail
    go_ret
    have G := World.grownBy.trans (grown_rg4 (World.grownBy.refl w1 (some B)) (.int .i64 zn) (.int .i64 f) (.slice a1 zn c1) (.int .i64 (k + 1))) (grow_setCell _ B 6 (.int .i64 (sent + 1)))
    have hl := HW.out.box.lt
    refine ⟨⟨a1, zn, c1, sa, sn, sc, ra, rn, rq⟩, rfl, ⟨(HW1.out.box.rg4 _ _ _ _).set 6 _, ⟨HW.out.ch.cap, HW.out.ch.rc, HW.out.ch.rf, ⟨by have := HKL.out; simp only [fillC]; omega, by have := HKL.out; simp only [fillC]; omega⟩, ⟨by simp only [fillC]; omega, by simp only [fillC]; omega⟩, HW.out.ch.got, HZ1.out.other (fun y hy _ he => by have := HF1.out y hy; omega) G, HW1.out.ch.sends.other HW.out.ap.asn G, HW1.out.ch.recvs.other HW.out.ap.ar G⟩, ⟨fun y hy _ he => by have := HF1.out y hy; omega, HW.out.ap.asn, HW.out.ap.ar⟩⟩, (grow_below (World.grownBy.refl _ _) HB1.out).trans G, fun Bo hBo hA => ⟨fun y hy _ he => by have := HF1.out y hy; omega, hA.asn, hA.ar⟩⟩
end Go.Proofs.Ytfolhgpbplfilaa
