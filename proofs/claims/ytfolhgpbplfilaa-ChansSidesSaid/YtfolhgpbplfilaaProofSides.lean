import Derived.Test.YtfolhgpbplfilaaD5
import Derived.Test.YtfolhgpbplfilaaC4
import Derived.Test.YtfolhgpbplfilaaRIs
import Derived.Test.YtfolhgpbplfilaaLawCloses
import Derived.Test.YtfolhgpbplfilaaRows
import Derived.WalkKit
import Derived.ProofKit
import Derived.OpenShut
import Derived.ShutString
import Derived.ChangeOld
import Derived.Below
import Derived.Test.YtfolhgpbplfilaaOpen
/- Leave, and Ready. -/
namespace Go.Proofs.Ytfolhgpbplfilaa
open Go.RowKit
set_option maxRecDepth 100000 in
set_option maxHeartbeats 4000000 in
theorem Leave_bad (c : Chn) (q : CAt) (g : Int) (w : World) (h : Cha w c q) (hbad : rightC c = false ∨ g < 0) : Calls Try.prog 11 #[chV c q, .int .i64 g] w (GotN w zeroC 1) := by
  have AX := Lib.hid ((below_alloc w (.cells (chC c q) 27)).alloc (by simp) (.cells zero10 27))
  have K0 := Lib.hid ((Bx.new w (chC c q) 27).below (below_alloc _ (.cells zero10 27)))
  have K1 := Lib.hid (Bx.new2 w (.cells (chC c q) 27) zero10 27)
  have HX0 := Lib.hid (h.below AX.out)
  have HRC := Lib.hid (fun W (H : Cha W c q) => Right_c c q W H)
  clear h
  have hcs : rightC c = false ∨ (rightC c = true ∧ g < 0) := by
    cases hr : rightC c
    · exact .inl rfl
    · exact .inr ⟨rfl, hbad.resolve_left (by rw [hr]; decide)⟩
  clear hbad
  rcases hcs with hr | ⟨hr, hg⟩
  all_goals
    rw [hr] at HRC
    clear hr
    go_enter Try.func11, Try.ntmps11
    go_wp2_with fail
    obtain ⟨X, hX⟩ : ∃ X, X = (w.alloc (.cells (chC c q) 27)).alloc (.cells zero10 27) := ⟨_, rfl⟩
    rw [← hX] at AX K0 K1 HX0 ⊢
    obtain ⟨b1, h1⟩ : ∃ b, b = w.heap.size + 1 := ⟨_, rfl⟩
    obtain ⟨b0, h0⟩ : ∃ b, b = w.heap.size := ⟨_, rfl⟩
    have HBW := Lib.hid (show w.heap.size ≤ b1 by omega)
    rw [← h1] at K1 ⊢
    rw [← h0] at K0 ⊢
    have n01 : b0 ≠ b1 := by omega
    clear hX h1 h0
    refine (HRC.out _ HX0.out).mono ?_
    rintro e wa ⟨rfl, hb⟩
    have AXa := Lib.hid (AX.out.trans (Below.mono hb AX.out.size)); have K0a := Lib.hid (K0.out.below hb); have K1a := Lib.hid (K1.out.below hb); have HXa := Lib.hid (HX0.out.below hb)
    clear hb AX K0 K1 HX0
    obtain ⟨t0, t1, t2, t3, t4, t5, t6, t7, t8, t9⟩ := K1a.out.cells10
    have l1 := K1a.out.lt; have f0 := K1a.out.froz 0; have f1 := K1a.out.froz 1; have f2 := K1a.out.froz 2; have f3 := K1a.out.froz 3; have f4 := K1a.out.froz 4; have f5 := K1a.out.froz 5; have f6 := K1a.out.froz 6; have f7 := K1a.out.froz 7; have f8 := K1a.out.froz 8; have f9 := K1a.out.froz 9
    have E1 := Lib.hid (K1a.out.st10 (.int .i64 0) (.bool false) (.int .i64 0) (.int .i64 0) (.slice none 0 0) (.int .i64 0) (.int .i64 0) (.int .i64 0) (.slice none 0 0) (.slice none 0 0))
    have E3 := Lib.hid (below_st10 AXa.out HBW.out (.int .i64 0) (.bool false) (.int .i64 0) (.int .i64 0) (.slice none 0 0) (.int .i64 0) (.int .i64 0) (.int .i64 0) (.slice none 0 0) (.slice none 0 0))
    go_wp2_with fail
    exact bodyPost_ret (v := .tuple #[.agg zero10, .int .i64 1]) (by rw [res_c1 Try.results11 _ (by rfl) (E1.out.load Try.underlying27 infC)]; rfl) rfl ⟨zeroA, rfl, Cha.zero _, fun _ _ => ⟨(fun y h => by cases h), (fun y h => by cases h), (fun y h => by cases h)⟩, E3.out⟩
set_option maxRecDepth 100000 in
set_option maxHeartbeats 4000000 in
theorem Leave_ok (c : Chn) (q : CAt) (g : Int) (w : World) (h : Cha w c q) (hr : rightC c = true) (hg : 0 ≤ g) (hgI : I64 g) : Calls Try.prog 11 #[chV c q, .int .i64 g] w (GotN w (leaveC c g) 0) := by
  have h1 := Lib.hid (right_small h hr)
  have HCP := Lib.hid (fun W (H : Cha W c q) => copied_any c q W H h1.out.1 h1.out.2.1 h1.out.2.2)
  obtain ⟨n, f, k, gd⟩ := good_of hr
  have HLV := Lib.hid (fun W B q (H : Wk W B c q ⟨0, 0, 0⟩) => leave_any B c q ⟨0, 0, 0⟩ g W H gd.sends gd.recvs hg hgI)
  unfold Did at HLV
  have AX := Lib.hid ((below_alloc w (.cells (chC c q) 27)).alloc (by simp) (.cells zero10 27))
  have K0 := Lib.hid ((Bx.new w (chC c q) 27).below (below_alloc _ (.cells zero10 27)))
  have K1 := Lib.hid (Bx.new2 w (.cells (chC c q) 27) zero10 27)
  have HX0 := Lib.hid (h.below AX.out)
  have HRC := Lib.hid (fun W (H : Cha W c q) => Right_c c q W H)
  rw [hr] at HRC
  clear h hr hgI gd
  go_enter Try.func11, Try.ntmps11
  go_wp2_with fail
  obtain ⟨X, hX⟩ : ∃ X, X = (w.alloc (.cells (chC c q) 27)).alloc (.cells zero10 27) := ⟨_, rfl⟩
  rw [← hX] at AX K0 K1 HX0 ⊢
  obtain ⟨b1, h1⟩ : ∃ b, b = w.heap.size + 1 := ⟨_, rfl⟩
  obtain ⟨b0, h0⟩ : ∃ b, b = w.heap.size := ⟨_, rfl⟩
  have HBW := Lib.hid (show w.heap.size ≤ b1 by omega)
  rw [← h1] at K1 ⊢
  rw [← h0] at K0 ⊢
  have n01 : b0 ≠ b1 := by omega
  clear hX h1 h0
  refine (HRC.out _ HX0.out).mono ?_
  rintro e wa ⟨rfl, hb⟩
  have AXa := Lib.hid (AX.out.trans (Below.mono hb AX.out.size)); have K0a := Lib.hid (K0.out.below hb); have K1a := Lib.hid (K1.out.below hb); have HXa := Lib.hid (HX0.out.below hb)
  clear hb AX K0 K1 HX0
  obtain ⟨t0, t1, t2, t3, t4, t5, t6, t7, t8, t9⟩ := K0a.out.cells10
  have l0 := K0a.out.lt
  go_wp2_with fail
  refine (HCP.out _ HXa.out).mono ?_
  rintro e wb ⟨q', rfl, hc, hb, hf⟩
  have AXb := Lib.hid (AXa.out.trans (Below.mono hb AXa.out.size)); have K1b := Lib.hid (K1a.out.below hb); have HC := Lib.hid hc; have AP1 := Lib.hid (hf b1 K1a.out.lt)
  have FR := Lib.hid (show ∀ B, B < w.heap.size → Ap q' B from fun B hB => hf B (Nat.lt_of_lt_of_le hB AXa.out.size))
  clear hc hb hf t0 t1 t2 t3 t4 t5 t6 t7 t8 t9 l0 AXa K0a K1a HXa
  have AY := Lib.hid (AXb.out.alloc AXb.out.size (.cells (wkC c q' ⟨0, 0, 0⟩) 61)); have K1y := Lib.hid (K1b.out.below (below_alloc wb (.cells (wkC c q' ⟨0, 0, 0⟩) 61))); have WY := Lib.hid (show Wk (wb.alloc (.cells (wkC c q' ⟨0, 0, 0⟩) 61)) wb.heap.size c q' ⟨0, 0, 0⟩ from ⟨Bx.new wb _ 61, HC.out.below (below_alloc wb _), HC.out.ap (Nat.le_refl _)⟩)
  have m1 := K1b.out.lt
  go_upto_region 4 with (fail)
  obtain ⟨Y, hYe⟩ : ∃ Y, Y = wb.alloc (.cells (wkC c q' ⟨0, 0, 0⟩) 61) := ⟨_, rfl⟩
  obtain ⟨B, hB⟩ : ∃ b, b = wb.heap.size := ⟨_, rfl⟩
  rw [← hYe] at AY K1y WY ⊢
  rw [← hB] at WY m1 ⊢
  have HBB := Lib.hid (show w.heap.size ≤ B by rw [hB]; exact AXb.out.size)
  have nB1 : b1 ≠ B := by omega
  clear hYe hB m1 AXb K1b HC
  go_wp2_with fail
  refine (HLV.out _ _ _ WY.out).mono ?_
  rintro e wd ⟨qd, rfl, hw, hgr, hk⟩
  have WD := Lib.hid hw; have K1d := Lib.hid (K1y.out.other hgr (fun e => nB1 (by cases e; rfl))); have APd := Lib.hid (hk b1 K1y.out.lt AP1.out); have AD := Lib.hid (show Below w.heap.size w wd from AY.out.grown hgr AY.out.size (fun k hk => by cases hk; exact HBB.out))
  have FRd := Lib.hid (show ∀ B', B' < w.heap.size → Ap qd B' from fun B' hB' => hk B' (Nat.lt_of_lt_of_le hB' AY.out.size) (FR.out B' hB'))
  clear hw hgr hk
  obtain ⟨c2, hc2⟩ : ∃ c2, c2 = leaveC c g := ⟨_, rfl⟩
  have WD2 := Lib.hid (show Wk wd B (leaveC c g) qd ⟨0, 0, 0⟩ from WD.out)
  rw [← hc2] at WD2
  clear WD
  obtain ⟨y0, y1, y2, y3, y4, y5, y6, y7, y8, y9, y10, y11, y12⟩ := WD2.out.box.cells13
  obtain ⟨t0, t1, t2, t3, t4, t5, t6, t7, t8, t9⟩ := K1d.out.cells10
  have l1 := K1d.out.lt; have lB := WD2.out.box.lt; have f0 := K1d.out.froz 0; have f1 := K1d.out.froz 1; have f2 := K1d.out.froz 2; have f3 := K1d.out.froz 3; have f4 := K1d.out.froz 4; have f5 := K1d.out.froz 5; have f6 := K1d.out.froz 6; have f7 := K1d.out.froz 7; have f8 := K1d.out.froz 8; have f9 := K1d.out.froz 9
  have E1 := Lib.hid (K1d.out.st10 (.int .i64 c2.cap) (.bool c2.cl) (.int .i64 c2.rc) (.int .i64 c2.rf) (.slice qd.za qd.zn qd.zc) (.int .i64 c2.rk) (.int .i64 c2.sent) (.int .i64 c2.got) (.slice qd.sa qd.sn qd.sc) (.slice qd.ra qd.rn qd.rq))
  have E3 := Lib.hid (below_st10 AD.out HBW.out (.int .i64 c2.cap) (.bool c2.cl) (.int .i64 c2.rc) (.int .i64 c2.rf) (.slice qd.za qd.zn qd.zc) (.int .i64 c2.rk) (.int .i64 c2.sent) (.int .i64 c2.got) (.slice qd.sa qd.sn qd.sc) (.slice qd.ra qd.rn qd.rq))
  have E4 := Lib.hid (WD2.out.ch.other APd.out (grown_st10 (World.grownBy.refl _ _) (.int .i64 c2.cap) (.bool c2.cl) (.int .i64 c2.rc) (.int .i64 c2.rf) (.slice qd.za qd.zn qd.zc) (.int .i64 c2.rk) (.int .i64 c2.sent) (.int .i64 c2.got) (.slice qd.sa qd.sn qd.sc) (.slice qd.ra qd.rn qd.rq)))
  go_wp2_with fail
  rw [← hc2]
  exact bodyPost_ret (v := .tuple #[chV c2 qd, .int .i64 0]) (by rw [res_c1 Try.results11 _ (by rfl) (E1.out.load Try.underlying27 infC)]; rfl) rfl ⟨qd, rfl, E4.out, FRd.out, E3.out⟩
end Go.Proofs.Ytfolhgpbplfilaa

/- Ready. -/
namespace Go.Proofs.Ytfolhgpbplfilaa
open Go.RowKit
def GotB (w : World) (r : Bool) (why : Int) (e : Ending) (w' : World) : Prop := e = .returned (.tuple #[.bool r, .int .i64 why]) ∧ Below w.heap.size w w'
/-- would a send, or a receive, of g not wait? -/
def readyZ (c : Chn) (send : Bool) (g : Int) : Bool :=
  if c.cap < 0 then false else if c.cl = true then true
  else if send = true then decide (c.rk < c.rc) || someB (firstW c.recvs g) else decide (0 < c.rk) || someB (firstW c.sends g)
set_option maxRecDepth 100000 in
set_option maxHeartbeats 4000000 in
theorem Ready_bad (c : Chn) (q : CAt) (send : Bool) (g : Int) (w : World) (h : Cha w c q) (hbad : rightC c = false ∨ g < 0) : Calls Try.prog 9 #[chV c q, .bool send, .int .i64 g] w (GotB w false 1) := by
  have AX := Lib.hid (below_alloc w (.cells (chC c q) 27))
  have K0 := Lib.hid (Bx.new w (chC c q) 27)
  have HX0 := Lib.hid (h.below AX.out)
  have HRC := Lib.hid (fun W (H : Cha W c q) => Right_c c q W H)
  clear h
  have hcs : rightC c = false ∨ (rightC c = true ∧ g < 0) := by
    cases hr : rightC c
    · exact .inl rfl
    · exact .inr ⟨rfl, hbad.resolve_left (by rw [hr]; decide)⟩
  clear hbad
  rcases hcs with hr | ⟨hr, hg⟩
  all_goals
    rw [hr] at HRC
    clear hr
    go_enter Try.func9, Try.ntmps9
    go_wp2_with fail
    refine (HRC.out _ HX0.out).mono ?_
    rintro e wa ⟨rfl, hb⟩
    have AXa := Lib.hid (AX.out.trans (Below.mono hb AX.out.size)); have K0a := Lib.hid (K0.out.below hb); have HXa := Lib.hid (HX0.out.below hb)
    have LB0 := Lib.hid K0.out.lt
    clear hb AX K0 HX0
    go_wp2_with fail
    go_ret2
    exact ⟨rfl, AXa.out⟩
set_option maxRecDepth 100000 in
set_option maxHeartbeats 4000000 in
theorem Ready_ok (c : Chn) (q : CAt) (send : Bool) (g : Int) (w : World) (h : Cha w c q) (hr : rightC c = true) (hg : 0 ≤ g) (hgI : I64 g) : Calls Try.prog 9 #[chV c q, .bool send, .int .i64 g] w (GotB w (readyZ c send g) 0) := by
  obtain ⟨n, f, k, gd⟩ := good_of hr
  have HOR := Lib.hid (fun W B (H : Wk W B c q ⟨g, 0, 0⟩) => isOther_any B c q ⟨g, 0, 0⟩ q.ra q.rn q.rq c.recvs W H H.ch.recvs gd.recvs hg hgI)
  have HOS := Lib.hid (fun W B (H : Wk W B c q ⟨g, 0, 0⟩) => isOther_any B c q ⟨g, 0, 0⟩ q.sa q.sn q.sc c.sends W H H.ch.sends gd.sends hg hgI)
  have HRM := Lib.hid (fun W B (H : Wk W B c q ⟨g, 0, 0⟩) r (hr : decide (c.rk < c.rc) = r) => hasRoom_any B c q ⟨g, 0, 0⟩ W H r hr)
  simp only at HOR HOS
  obtain ⟨orr, horr⟩ : ∃ b, b = someB (firstW c.recvs g) := ⟨_, rfl⟩
  obtain ⟨oss, hoss⟩ : ∃ b, b = someB (firstW c.sends g) := ⟨_, rfl⟩
  rw [← horr] at HOR
  rw [← hoss] at HOS
  have HZ := Lib.hid (show readyZ c send g = if c.cap < 0 then false else if c.cl = true then true else if send = true then decide (c.rk < c.rc) || orr else decide (0 < c.rk) || oss by rw [horr, hoss]; rfl)
  clear horr hoss
  obtain ⟨z, hz⟩ : ∃ z, z = readyZ c send g := ⟨_, rfl⟩
  rw [← hz] at HZ ⊢
  clear hz
  have AX := Lib.hid (below_alloc w (.cells (chC c q) 27))
  have K0 := Lib.hid (Bx.new w (chC c q) 27)
  have HX0 := Lib.hid (h.below AX.out)
  have HRC := Lib.hid (fun W (H : Cha W c q) => Right_c c q W H)
  rw [hr] at HRC
  clear h hr hgI gd
  go_enter Try.func9, Try.ntmps9
  go_wp2_with fail
  refine (HRC.out _ HX0.out).mono ?_
  rintro e wa ⟨rfl, hb⟩
  have AXa := Lib.hid (AX.out.trans (Below.mono hb AX.out.size)); have K0a := Lib.hid (K0.out.below hb); have HXa := Lib.hid (HX0.out.below hb)
  have LB0 := Lib.hid K0.out.lt
  clear hb AX K0 HX0
  obtain ⟨t0, t1, t2, t3, t4, t5, t6, t7, t8, t9⟩ := K0a.out.cells10
  have l0 := K0a.out.lt
  by_cases hcap : c.cap < 0
  · have HZ1 := Lib.hid (show z = false by rw [HZ.out, if_pos hcap])
    go_wp2_with fail
    go_ret2
    exact ⟨by have hz := HZ1.out; subst hz; rfl, AXa.out⟩
  · have AY := Lib.hid (AXa.out.alloc AXa.out.size (.cells (wkC c q ⟨g, 0, 0⟩) 61)); have WY := Lib.hid (show Wk (wa.alloc (.cells (wkC c q ⟨g, 0, 0⟩) 61)) wa.heap.size c q ⟨g, 0, 0⟩ from ⟨Bx.new wa _ 61, HXa.out.below (below_alloc wa _), HXa.out.ap (Nat.le_refl _)⟩)
    go_upto_region 6 with (fail)
    obtain ⟨Y, hYe⟩ : ∃ Y, Y = wa.alloc (.cells (wkC c q ⟨g, 0, 0⟩) 61) := ⟨_, rfl⟩
    obtain ⟨B, hB⟩ : ∃ b, b = wa.heap.size := ⟨_, rfl⟩
    rw [← hYe] at AY WY ⊢
    rw [← hB] at WY ⊢
    clear hYe hB t0 t1 t2 t3 t4 t5 t6 t7 t8 t9 l0
    obtain ⟨y0, y1, y2, y3, y4, y5, y6, y7, y8, y9, y10, y11, y12⟩ := WY.out.box.cells13
    cases hcl : c.cl with
    | true =>
      have HZ1 := Lib.hid (show z = true by rw [HZ.out, if_neg (by omega), if_pos hcl])
      rw [hcl] at y1
      clear hcl
      cases send
      all_goals
        go_wp2_with fail
        go_ret2
        exact ⟨by have hz := HZ1.out; subst hz; rfl, AY.out⟩
    | false =>
      rw [hcl] at y1
      have HCL := Lib.hid hcl
      clear hcl
      cases send with
      | true =>
        cases hrm : decide (c.rk < c.rc) with
        | true =>
          have HZ1 := Lib.hid (show z = true by rw [HZ.out, if_neg (by omega), if_neg (by rw [HCL.out]; decide), if_pos rfl, hrm]; rfl)
          have HR1 := Lib.hid (fun W B H => HRM.out W B H true hrm)
          clear hrm
          go_wp2_with fail
          refine (HR1.out _ _ WY.out).mono ?_
          rintro e wb ⟨rfl, hb⟩
          have AZ := Lib.hid (AY.out.trans (Below.mono hb AY.out.size))
          clear hb y0 y1 y2 y3 y4 y5 y6 y7 y8 y9 y10 y11 y12
          go_wp2_with fail
          go_ret2
          exact ⟨by have hz := HZ1.out; subst hz; rfl, AZ.out⟩
        | false =>
          have HZ1 := Lib.hid (show z = orr by rw [HZ.out, if_neg (by omega), if_neg (by rw [HCL.out]; decide), if_pos rfl, hrm]; rfl)
          have HR1 := Lib.hid (fun W B H => HRM.out W B H false hrm)
          clear hrm
          go_wp2_with fail
          refine (HR1.out _ _ WY.out).mono ?_
          rintro e wb ⟨rfl, hb⟩
          have AZ := Lib.hid (AY.out.trans (Below.mono hb AY.out.size)); have WZ := Lib.hid (WY.out.below hb)
          clear hb y0 y1 y2 y3 y4 y5 y6 y7 y8 y9 y10 y11 y12
          obtain ⟨y0, y1, y2, y3, y4, y5, y6, y7, y8, y9, y10, y11, y12⟩ := WZ.out.box.cells13
          go_wp2_with fail
          refine (HOR.out _ _ WZ.out).mono ?_
          rintro e wc ⟨rfl, hb⟩
          have AV := Lib.hid (AZ.out.trans (Below.mono hb AZ.out.size))
          clear hb y0 y1 y2 y3 y4 y5 y6 y7 y8 y9 y10 y11 y12
          go_wp2_with fail
          go_ret2
          exact ⟨by have hz := HZ1.out; subst hz; rfl, AV.out⟩
      | false =>
        by_cases hk : 0 < c.rk
        · have HZ1 := Lib.hid (show z = true by rw [HZ.out, if_neg (by omega), if_neg (by rw [HCL.out]; decide), if_neg (by decide), decide_eq_true hk]; rfl)
          go_wp2_with fail
          go_ret2
          exact ⟨by have hz := HZ1.out; subst hz; rfl, AY.out⟩
        · have HZ1 := Lib.hid (show z = oss by rw [HZ.out, if_neg (by omega), if_neg (by rw [HCL.out]; decide), if_neg (by decide), decide_eq_false hk]; rfl)
          go_wp2_with fail
          refine (HOS.out _ _ WY.out).mono ?_
          rintro e wc ⟨rfl, hb⟩
          have AV := Lib.hid (AY.out.trans (Below.mono hb AY.out.size))
          clear hb y0 y1 y2 y3 y4 y5 y6 y7 y8 y9 y10 y11 y12
          go_wp2_with fail
          go_ret2
          exact ⟨by have hz := HZ1.out; subst hz; rfl, AV.out⟩
end Go.Proofs.Ytfolhgpbplfilaa

/- Same: are two channels? -/
namespace Go.Proofs.Ytfolhgpbplfilaa
open Go.RowKit
/-- a channel's ring may be: so many places, from there on, so many taken -/
structure Rg (c : Chn) (n f k : Nat) : Prop where
  rc : c.rc = (n : Int)
  rf : c.rf = (f : Int)
  rk : c.rk = (k : Int)
  zl : c.zs.length = n
  n8 : n ≤ 8
  fl : f < max n 1
  kl : k ≤ n
theorem Good.rg {c : Chn} {n f k : Nat} (g : Good c n f k) : Rg c n f k := ⟨g.rcn, g.rfn, g.rkn, g.zl, by have := g.n3; omega, g.fl, g.kl⟩
/-- the same, whatever the rings' places are -/
structure SameC (a b : Chn) : Prop where
  cap : a.cap = b.cap
  cl : a.cl = b.cl
  sent : a.sent = b.sent
  got : a.got = b.got
  sends : a.sends = b.sends
  recvs : a.recvs = b.recvs
  ring : ∃ n fa fb k, Rg a n fa k ∧ Rg b n fb k ∧ takenL n fa k a.zs = takenL n fb k b.zs
set_option maxRecDepth 100000 in
set_option maxHeartbeats 4000000 in
theorem CSame_yes (a b : Chn) (qa qb : CAt) (w : World) (ha : Cha w a qa) (hb : Cha w b qb) (hs : SameC a b) : Calls Try.prog 16 #[chV a qa, chV b qb] w fun e w' => e = .returned (.bool true) ∧ Below w.heap.size w w' := by
  obtain ⟨n, fa, fb, k, ra, rb, hit⟩ := hs.ring
  have e1 := hs.cap; have e2 := hs.cl; have e3 := hs.sent; have e4 := hs.got; have e5 := hs.sends; have e6 := hs.recvs
  obtain ⟨acap, acl, arc, arf, azs, ark, asent, agot, asends, arecvs⟩ := a
  obtain ⟨bcap, bcl, brc, brf, bzs, brk, bsent, bgot, bsends, brecvs⟩ := b
  obtain ⟨r1, r2, r3, r4, r5, r6, r7⟩ := ra
  obtain ⟨u1, u2, u3, u4, u5, u6, u7⟩ := rb
  simp only at e1 e2 e3 e4 e5 e6 hit r1 r2 r3 r4 u1 u2 u3 u4
  subst e1; subst e2; subst e3; subst e4; subst e5; subst e6; subst r1; subst r2; subst r3; subst u1; subst u2; subst u3
  have hzna : qa.zn = n := by rw [← r4]; exact ha.zs.len_eq.symm
  have hznb : qb.zn = n := by rw [← u4]; exact hb.zs.len_eq.symm
  have HSS1 := Lib.hid (fun W a1 n1 c1 a2 n2 c2 L (h1 : Wts W a1 n1 c1 L) (h2 : Wts W a2 n2 c2 L) => Same_any a1 n1 c1 L a2 n2 c2 L W h1 h2)
  simp only [decide_true] at HSS1
  have HRR := Lib.hid (show ∀ W, Calls Try.prog 27 #[.agg #[.int .i64 (n : Int), .int .i64 (fb : Int), .slice qb.za qb.zn qb.zc, .int .i64 (k : Int)]] W (fun e w' => e = .returned (.bool true) ∧ Below W.heap.size W w') from fun W => by
    have := r_refRight_any (n : Int) (fb : Int) (k : Int) qb.za qb.zn qb.zc W ⟨by omega, by omega⟩ ⟨by omega, by omega⟩ ⟨by omega, by omega⟩ (by omega)
    rw [show rightZ (n : Int) (fb : Int) qb.zn (k : Int) = true by rw [rightZ, decide_eq_true_eq]; omega] at this
    exact this)
  have HIT := Lib.hid (show ∀ W, Ints W qb.za qb.zn qb.zc bzs → Calls Try.prog 39 #[.agg #[.int .i64 (n : Int), .int .i64 (fb : Int), .slice qb.za qb.zn qb.zc, .int .i64 (k : Int)]] W (GotInts W (takenL n fb k bzs)) from fun W hI => by
    have := refItems_ok n fb k qb.za qb.zc bzs W (by rw [← hznb]; exact hI) u5 u6 u7
    rw [hznb]; exact this)
  unfold GotInts at HIT
  have HIS := Lib.hid (show ∀ W la lc, Ints W qa.za qa.zn qa.zc azs → Ints W la k lc (takenL n fb k bzs) → Calls Try.prog 38 #[.agg #[.int .i64 (n : Int), .int .i64 (fa : Int), .slice qa.za qa.zn qa.zc, .int .i64 (k : Int)], .int .i64 (n : Int), .slice la k lc] W (fun e w' => e = .returned (.bool true) ∧ Below W.heap.size W w') from fun W la lc hI hL => by
    have := Is_yes n fa k qa.za qa.zc azs la lc W (by rw [← hzna]; exact hI) r5 r6 r7 (by rw [hit]; exact hL)
    rw [hzna]; exact this)
  have AX := Lib.hid ((below_alloc w (.cells (chC ⟨acap, acl, n, fa, azs, k, asent, agot, asends, arecvs⟩ qa) 27)).alloc (by simp) (.cells (chC ⟨acap, acl, n, fb, bzs, k, asent, agot, asends, arecvs⟩ qb) 27))
  have KA := Lib.hid ((Bx.new w (chC ⟨acap, acl, n, fa, azs, k, asent, agot, asends, arecvs⟩ qa) 27).below (below_alloc _ (.cells (chC ⟨acap, acl, n, fb, bzs, k, asent, agot, asends, arecvs⟩ qb) 27)))
  have KB := Lib.hid (Bx.new2 w (.cells (chC ⟨acap, acl, n, fa, azs, k, asent, agot, asends, arecvs⟩ qa) 27) (chC ⟨acap, acl, n, fb, bzs, k, asent, agot, asends, arecvs⟩ qb) 27)
  have CA0 := Lib.hid (ha.below AX.out); have CB0 := Lib.hid (hb.below AX.out)
  have hcl0 : (acl != acl) = false := by simp
  have hn1 : (acap != acap) = false := by simp
  have hn2 : (asent != asent) = false := by simp
  have hn3 : (agot != agot) = false := by simp
  clear ha hb hs hit r4 r5 r6 r7 u4 u5 u6 u7 hzna hznb
  go_enter Try.func16, Try.ntmps16
  go_upto_region 1 with (fail)
  obtain ⟨X, hX⟩ : ∃ X, X = (w.alloc (.cells (chC ⟨acap, acl, n, fa, azs, k, asent, agot, asends, arecvs⟩ qa) 27)).alloc (.cells (chC ⟨acap, acl, n, fb, bzs, k, asent, agot, asends, arecvs⟩ qb) 27) := ⟨_, rfl⟩
  obtain ⟨bb, hbb⟩ : ∃ b, b = w.heap.size + 1 := ⟨_, rfl⟩
  obtain ⟨ba, hba⟩ : ∃ b, b = w.heap.size := ⟨_, rfl⟩
  rw [← hX] at AX KA KB CA0 CB0 ⊢
  rw [← hbb] at KB ⊢
  rw [← hba] at KA ⊢
  clear hX hbb hba
  obtain ⟨s0, s1, s2, s3, s4, s5, s6, s7, s8, s9⟩ := KA.out.cells10
  obtain ⟨t0, t1, t2, t3, t4, t5, t6, t7, t8, t9⟩ := KB.out.cells10
  go_wp2_with fail
  refine (HSS1.out _ _ _ _ _ _ _ _ CA0.out.sends CB0.out.sends).mono ?_
  rintro e w2 ⟨rfl, hb⟩
  have A2 := Lib.hid (AX.out.trans (Below.mono hb AX.out.size)); have KA2 := Lib.hid (KA.out.below hb); have KB2 := Lib.hid (KB.out.below hb); have CA2 := Lib.hid (CA0.out.below hb); have CB2 := Lib.hid (CB0.out.below hb)
  clear hb s0 s1 s2 s3 s4 s5 s6 s7 s8 s9 t0 t1 t2 t3 t4 t5 t6 t7 t8 t9
  obtain ⟨s0, s1, s2, s3, s4, s5, s6, s7, s8, s9⟩ := KA2.out.cells10
  obtain ⟨t0, t1, t2, t3, t4, t5, t6, t7, t8, t9⟩ := KB2.out.cells10
  go_wp2_with fail
  refine (HSS1.out _ _ _ _ _ _ _ _ CA2.out.recvs CB2.out.recvs).mono ?_
  rintro e W3 ⟨rfl, hb⟩
  have A3 := Lib.hid (A2.out.trans (Below.mono hb A2.out.size)); have KA3 := Lib.hid (KA2.out.below hb); have KB3 := Lib.hid (KB2.out.below hb); have CA := Lib.hid (CA2.out.below hb); have CB := Lib.hid (CB2.out.below hb)
  clear hb s0 s1 s2 s3 s4 s5 s6 s7 s8 s9 t0 t1 t2 t3 t4 t5 t6 t7 t8 t9
  go_wp2_with fail
  have HSS : Hid (∀ W, Below W3.heap.size W3 W → W.cell? ⟨ba, 2, none⟩ = some (.int .i64 (n : Int)) ∧ W.cell? ⟨ba, 3, none⟩ = some (.int .i64 (fa : Int)) ∧ W.cell? ⟨ba, 4, none⟩ = some (.slice qa.za qa.zn qa.zc) ∧ W.cell? ⟨ba, 5, none⟩ = some (.int .i64 (k : Int)) ∧ W.cell? ⟨bb, 2, none⟩ = some (.int .i64 (n : Int)) ∧ W.cell? ⟨bb, 3, none⟩ = some (.int .i64 (fb : Int)) ∧ W.cell? ⟨bb, 4, none⟩ = some (.slice qb.za qb.zn qb.zc) ∧ W.cell? ⟨bb, 5, none⟩ = some (.int .i64 (k : Int))) := Lib.hid (fun W hb => by
    obtain ⟨s0, s1, s2, s3, s4, s5, s6, s7, s8, s9⟩ := (KA3.out.below hb).cells10
    obtain ⟨t0, t1, t2, t3, t4, t5, t6, t7, t8, t9⟩ := (KB3.out.below hb).cells10
    exact ⟨s2, s3, s4, s5, t2, t3, t4, t5⟩)
  refine wp_region_held_drew (S := (fun W => W.cell? ⟨ba, 2, none⟩ = some (.int .i64 (n : Int)) ∧ W.cell? ⟨ba, 3, none⟩ = some (.int .i64 (fa : Int)) ∧ W.cell? ⟨ba, 4, none⟩ = some (.slice qa.za qa.zn qa.zc) ∧ W.cell? ⟨ba, 5, none⟩ = some (.int .i64 (k : Int)) ∧ W.cell? ⟨bb, 2, none⟩ = some (.int .i64 (n : Int)) ∧ W.cell? ⟨bb, 3, none⟩ = some (.int .i64 (fb : Int)) ∧ W.cell? ⟨bb, 4, none⟩ = some (.slice qb.za qb.zn qb.zc) ∧ W.cell? ⟨bb, 5, none⟩ = some (.int .i64 (k : Int)))) (by kernel_rfl) ?_ (fun hHeld => ?_)
  · exact HSS.out _ ((Below.refl _ _).drew)
  refine wpAnyH_take (i := 0) (v := ?_) rfl (by kernel_rfl) (by kernel_rfl) (by kernel_rfl) (fun _ _ _ h => h) (Or.inl ⟨by rfl, ?_⟩) (by assumption) ?_
  rotate_left
  · (intro w hSw; (try dsimp only at hSw); go_simp; try with_reducible rfl)
  (try simp only [Act.put, List.getElem_toArray, List.getElem_cons_zero, List.setIfInBounds_toArray, List.set_cons_zero, List.set_cons_succ])
  refine wpAnyH_take (i := 1) (v := ?_) rfl (by kernel_rfl) (by kernel_rfl) (by kernel_rfl) (fun _ _ _ h => h) (Or.inl ⟨by rfl, ?_⟩) (by assumption) ?_
  rotate_left
  · (intro w hSw; (try dsimp only at hSw); go_simp; try with_reducible rfl)
  (try simp only [Act.put, List.getElem_toArray, List.getElem_cons_zero, List.getElem_cons_succ, List.setIfInBounds_toArray, List.set_cons_zero, List.set_cons_succ])
  refine wpAnyH_ready (rs := [2]) (by kernel_rfl) (by simp) ?_
  refine AllReadyH.cons (o := _) rfl (fun K hK => ?_) AllReadyH.nil
  go_simp
  refine (HRR.out _).mono ?_
  rintro e we ⟨rfl, hbe⟩
  have BE := Lib.hid (show Below W3.heap.size W3 we from ((Below.refl _ _).drew).trans hbe)
  clear hbe
  refine hK.out _ _ ?_ (fun hHeld => ?_)
  · exact HSS.out _ BE.out
  clear hK K
  (try simp only [Act.put, List.getElem_toArray, List.getElem_cons_zero, List.getElem_cons_succ, List.setIfInBounds_toArray, List.set_cons_zero, List.set_cons_succ])
  refine wpAnyH_take (i := 3) (v := ?_) rfl (by kernel_rfl) (by kernel_rfl) (by kernel_rfl) (fun _ _ _ h => h) (Or.inl ⟨by rfl, ?_⟩) (by assumption) ?_
  rotate_left
  · (intro w hSw; (try dsimp only at hSw); go_simp; try with_reducible rfl)
  (try simp only [Act.put, List.getElem_toArray, List.getElem_cons_zero, List.getElem_cons_succ, List.setIfInBounds_toArray, List.set_cons_zero, List.set_cons_succ])
  refine wpAnyH_take (i := 4) (v := ?_) rfl (by kernel_rfl) (by kernel_rfl) (by kernel_rfl) (fun _ _ _ h => h) (Or.inl ⟨by rfl, ?_⟩) (by assumption) ?_
  rotate_left
  · (intro w hSw; (try dsimp only at hSw); go_simp; try with_reducible rfl)
  (try simp only [Act.put, List.getElem_toArray, List.getElem_cons_zero, List.getElem_cons_succ, List.setIfInBounds_toArray, List.set_cons_zero, List.set_cons_succ])
  refine wpAnyH_take (i := 5) (v := ?_) rfl (by kernel_rfl) (by kernel_rfl) (by kernel_rfl) (fun _ _ _ h => h) (Or.inl ⟨by rfl, ?_⟩) (by assumption) ?_
  rotate_left
  · (intro w hSw; (try dsimp only at hSw); go_simp; try with_reducible rfl)
  (try simp only [Act.put, List.getElem_toArray, List.getElem_cons_zero, List.getElem_cons_succ, List.setIfInBounds_toArray, List.set_cons_zero, List.set_cons_succ])
  refine wpAnyH_take (i := 6) (v := ?_) rfl (by kernel_rfl) (by kernel_rfl) (by kernel_rfl) (fun _ _ _ h => h) (Or.inl ⟨by rfl, ?_⟩) (by assumption) ?_
  rotate_left
  · (intro w hSw; (try dsimp only at hSw); go_simp; try with_reducible rfl)
  (try simp only [Act.put, List.getElem_toArray, List.getElem_cons_zero, List.getElem_cons_succ, List.setIfInBounds_toArray, List.set_cons_zero, List.set_cons_succ])
  refine wpAnyH_take (i := 7) (v := ?_) rfl (by kernel_rfl) (by kernel_rfl) (by kernel_rfl) (fun _ _ _ h => h) (Or.inl ⟨by rfl, ?_⟩) (by assumption) ?_
  rotate_left
  · (intro w hSw; (try dsimp only at hSw); go_simp; try with_reducible rfl)
  (try simp only [Act.put, List.getElem_toArray, List.getElem_cons_zero, List.getElem_cons_succ, List.setIfInBounds_toArray, List.set_cons_zero, List.set_cons_succ])
  refine wpAnyH_take (i := 8) (v := ?_) rfl (by kernel_rfl) (by kernel_rfl) (by kernel_rfl) (fun _ _ _ h => h) (Or.inl ⟨by rfl, ?_⟩) (by assumption) ?_
  rotate_left
  · (intro w hSw; (try dsimp only at hSw); go_simp; try with_reducible rfl)
  (try simp only [Act.put, List.getElem_toArray, List.getElem_cons_zero, List.getElem_cons_succ, List.setIfInBounds_toArray, List.set_cons_zero, List.set_cons_succ])
  refine wpAnyH_take (i := 9) (v := ?_) rfl (by kernel_rfl) (by kernel_rfl) (by kernel_rfl) (fun _ _ _ h => h) (Or.inl ⟨by rfl, ?_⟩) (by assumption) ?_
  rotate_left
  · (intro w hSw; (try dsimp only at hSw); go_simp; try with_reducible rfl)
  (try simp only [Act.put, List.getElem_toArray, List.getElem_cons_zero, List.getElem_cons_succ, List.setIfInBounds_toArray, List.set_cons_zero, List.set_cons_succ])
  refine wpAnyH_take (i := 10) (v := ?_) rfl (by kernel_rfl) (by kernel_rfl) (by kernel_rfl) (fun _ _ _ h => h) (Or.inl ⟨by rfl, ?_⟩) (by assumption) ?_
  rotate_left
  · (intro w hSw; (try dsimp only at hSw); go_simp; try with_reducible rfl)
  (try simp only [Act.put, List.getElem_toArray, List.getElem_cons_zero, List.getElem_cons_succ, List.setIfInBounds_toArray, List.set_cons_zero, List.set_cons_succ])
  refine wpAnyH_ready (rs := [11]) (by kernel_rfl) (by simp) ?_
  refine AllReadyH.cons (o := _) rfl (fun K hK => ?_) AllReadyH.nil
  go_simp
  refine (HIT.out _ (CB.out.zs.below BE.out)).mono ?_
  rintro e wf ⟨la, ln, lc, rfl, hli, hbf⟩
  obtain rfl : ln = k := by have h1 := hli.len_eq; rw [taken_len] at h1; exact h1.symm
  have BF := Lib.hid (show Below W3.heap.size W3 wf from BE.out.trans (Below.mono hbf BE.out.size))
  have HLI := Lib.hid hli
  clear hbf hli
  refine hK.out _ _ ?_ (fun hHeld => ?_)
  · exact HSS.out _ BF.out
  clear hK K
  (try simp only [Act.put, List.getElem_toArray, List.getElem_cons_zero, List.getElem_cons_succ, List.setIfInBounds_toArray, List.set_cons_zero, List.set_cons_succ])
  refine wpAnyH_ready (rs := [12]) (by kernel_rfl) (by simp) ?_
  refine AllReadyH.cons (o := _) rfl (fun K hK => ?_) AllReadyH.nil
  go_simp
  refine (HIS.out _ la lc (CA.out.zs.below BF.out) HLI.out).mono ?_
  rintro e wg ⟨rfl, hbg⟩
  have BG := Lib.hid (show Below W3.heap.size W3 wg from BF.out.trans (Below.mono hbg BF.out.size))
  clear hbg
  refine hK.out _ _ ?_ (fun hHeld => ?_)
  · exact HSS.out _ BG.out
  clear hK K
  (try simp only [Act.put, List.getElem_toArray, List.getElem_cons_zero, List.getElem_cons_succ, List.setIfInBounds_toArray, List.set_cons_zero, List.set_cons_succ])
  refine wpAnyH_take (i := 13) (v := ?_) rfl (by kernel_rfl) (by kernel_rfl) (by kernel_rfl) (fun _ _ _ h => h) (Or.inl ⟨by rfl, ?_⟩) (by assumption) ?_
  rotate_left
  · (intro w hSw; (try dsimp only at hSw); go_simp; try with_reducible rfl)
  (try simp only [Act.put, List.getElem_toArray, List.getElem_cons_zero, List.getElem_cons_succ, List.setIfInBounds_toArray, List.set_cons_zero, List.set_cons_succ])
  refine wpAnyH_take (i := 14) (v := ?_) rfl (by kernel_rfl) (by kernel_rfl) (by kernel_rfl) (fun _ _ _ h => h) (Or.inl ⟨by rfl, ?_⟩) (by assumption) ?_
  rotate_left
  · (intro w hSw; (try dsimp only at hSw); go_simp; try with_reducible rfl)
  (try simp only [Act.put, List.getElem_toArray, List.getElem_cons_zero, List.getElem_cons_succ, List.setIfInBounds_toArray, List.set_cons_zero, List.set_cons_succ])
  refine wpAnyH_done (by kernel_rfl) ?_ _
  go_wp2_with fail
  go_ret
  exact ⟨rfl, A3.out.trans (Below.mono BG.out A3.out.size)⟩
end Go.Proofs.Ytfolhgpbplfilaa

/- Leaving, in plain words; what refusals leave. -/
namespace Go.Proofs.Ytfolhgpbplfilaa
open Go.RowKit
theorem good_leave {c : Chn} {n f k : Nat} (g : Good c n f k) (x : Int) : Good (leaveC c x) n f k :=
  ⟨g.cap0, g.cap3, g.rcn, g.rcm, g.rfn, g.rkn, g.n3, g.zl, g.fl, g.kl, g.s0, g.sm, g.g0, g.sg, g.items, right_drop g.sends x, right_drop g.recvs x,
    fun h => by obtain ⟨a, b, d, e⟩ := g.nil_ h; exact ⟨a, b, by simp only [leaveC]; rw [d]; rfl, by simp only [leaveC]; rw [e]; rfl⟩,
    fun h => by obtain ⟨a, b⟩ := g.clo h; exact ⟨by simp only [leaveC]; rw [a]; rfl, by simp only [leaveC]; rw [b]; rfl⟩,
    fun h => g.ful (fun he => h (by simp only [leaveC]; rw [he]; rfl)), fun h => g.emp (fun he => h (by simp only [leaveC]; rw [he]; rfl))⟩
theorem right_leave {c : Chn} (h : rightC c = true) (x : Int) : rightC (leaveC c x) = true := by
  obtain ⟨n, f, k, g⟩ := good_of h
  exact of_good (good_leave g x)
theorem same_refl {c : Chn} (h : rightC c = true) : SameC c c := by
  obtain ⟨n, f, k, g⟩ := good_of h
  exact ⟨rfl, rfl, rfl, rfl, rfl, rfl, n, f, f, k, g.rg, g.rg, rfl⟩
theorem drop_drop (L : List Wt) (x : Int) : dropW (dropW L x) x = dropW L x := by
  unfold dropW; rw [List.filter_filter]; simp
theorem drop_comm (L : List Wt) (x y : Int) : dropW (dropW L x) y = dropW (dropW L y) x := by
  unfold dropW; rw [List.filter_filter, List.filter_filter]
  congr 1; funext z; exact Bool.and_comm _ _
theorem leave_leave (c : Chn) (x : Int) : leaveC (leaveC c x) x = leaveC c x := by simp only [leaveC, drop_drop]
theorem leave_comm (c : Chn) (x y : Int) : leaveC (leaveC c x) y = leaveC (leaveC c y) x := by simp only [leaveC, drop_comm c.sends x y, drop_comm c.recvs x y]
theorem first_drop (L : List Wt) (x : Int) : firstW (dropW L x) x = firstW L x := by
  unfold firstW dropW
  induction L with
  | nil => rfl
  | cons y ys ih =>
    rw [List.filter_cons]
    by_cases h : (y.g != x) = true
    · rw [if_pos h]; simp only [List.find?_cons, h]
    · have h' : (y.g != x) = false := by simpa using h
      rw [if_neg h, ih]; simp only [List.find?_cons, h']
theorem ready_leave (c : Chn) (send : Bool) (x : Int) : readyZ (leaveC c x) send x = readyZ c send x := by
  unfold readyZ
  simp only [leaveC, first_drop]
  rfl
theorem left_gone {c : Chn} {x : Int} {y : Wt} (h : y ∈ (leaveC c x).sends ++ (leaveC c x).recvs) : (y.g == x) = false := by
  rcases List.mem_append.1 h with h | h
  · have := (List.mem_filter.1 h).2; simpa using this
  · have := (List.mem_filter.1 h).2; simpa using this
set_option maxRecDepth 100000 in
set_option maxHeartbeats 4000000 in
theorem empty_zero (q : CAt) (w : World) (h : Cha w zeroC q) : Calls Try.prog 15 #[chV zeroC q] w fun e w' => e = .returned (.bool true) ∧ Below w.heap.size w w' := by
  have h1 : q.zn = 0 := h.zs.len_eq.symm
  have h2 : q.sn = 0 := h.sends.recs.len_eq.symm
  have h3 : q.rn = 0 := h.recvs.recs.len_eq.symm
  clear h
  have HE := Lib.hid (show ∀ W, Calls Try.prog 15 #[.agg #[.int .i64 0, .bool false, .int .i64 0, .int .i64 0, .slice q.za 0 q.zc, .int .i64 0, .int .i64 0, .int .i64 0, .slice q.sa 0 q.sc, .slice q.ra 0 q.rq]] W (fun e w' => e = .returned (.bool true) ∧ Below W.heap.size W w') from fun W => by
    go_enter Try.func15, Try.ntmps15
    go_wp2_with fail
    go_ret
    exact ⟨rfl, below_alloc _ _⟩)
  have e : chV zeroC q = .agg #[.int .i64 0, .bool false, .int .i64 0, .int .i64 0, .slice q.za 0 q.zc, .int .i64 0, .int .i64 0, .int .i64 0, .slice q.sa 0 q.sc, .slice q.ra 0 q.rq] := by
    simp only [chV, chC, zeroC, h1, h2, h3]
  rw [e]; exact HE.out w
end Go.Proofs.Ytfolhgpbplfilaa

/- ChansSides: the walk. -/
namespace Go.Proofs.Ytfolhgpbplfilaa
open Go.RowKit
/-- the row that region 11 gathers -/
def Gath (w : World) (L : List Wt) (s n : Value) (W : World) : Prop := ∃ la ln lc, s = .slice la ln lc ∧ n = .int .i64 (ln : Nat) ∧ Wts W la ln lc L ∧ Below w.heap.size w W
set_option maxRecDepth 100000 in
set_option maxHeartbeats 4000000 in
theorem sides_any (c : Chn) (q : CAt) (gg oo : Int) (send : Bool) (w : World) (h : Cha w c q) (_hg : I64 gg) (_ho : I64 oo) : Calls Try.prog 5 #[chV c q, .int .i64 gg, .int .i64 oo, .bool send] w (Says w) := by
  have HFW := Lib.hid (fun W (H : Cha W c q) => few_any c q W H)
  unfold GotC at HFW
  obtain ⟨c1, hc1⟩ : ∃ c1, c1 = fewC c := ⟨_, rfl⟩
  obtain ⟨q1, hq1⟩ : ∃ q1, q1 = fewAt q := ⟨_, rfl⟩
  have AP1 := Lib.hid (show Ap q1 w.heap.size by rw [hq1]; exact (few_cha h).ap (Nat.le_refl _))
  rw [← hc1, ← hq1] at HFW
  have A0 := Lib.hid (below_alloc w (.cells (chC c q) 27)); have K0 := Lib.hid (Bx.new w (chC c q) 27); have C0 := Lib.hid (h.below A0.out)
  clear hc1 hq1 h
  go_enter Try.func5, Try.ntmps5
  go_wp2_with fail
  refine (HFW.out _ C0.out).mono ?_
  rintro e w1 ⟨rfl, hc, hb⟩
  have A1 := Lib.hid (A0.out.trans (Below.mono hb A0.out.size)); have K1 := Lib.hid (K0.out.below hb); have C1 := Lib.hid hc
  clear hc hb A0 K0 C0
  obtain ⟨t0, t1, t2, t3, t4, t5, t6, t7, t8, t9⟩ := K1.out.cells10
  have f0 := K1.out.froz 0; have f1 := K1.out.froz 1; have f2 := K1.out.froz 2; have f3 := K1.out.froz 3; have f4 := K1.out.froz 4; have f5 := K1.out.froz 5; have f6 := K1.out.froz 6; have f7 := K1.out.froz 7; have f8 := K1.out.froz 8; have f9 := K1.out.froz 9; have l0 := K1.out.lt
  go_upto_region 3 with (fail)
  obtain ⟨X, hX⟩ : ∃ X, X = st10 w1 w.heap.size (.int .i64 c1.cap) (.bool c1.cl) (.int .i64 c1.rc) (.int .i64 c1.rf) (.slice q1.za q1.zn q1.zc) (.int .i64 c1.rk) (.int .i64 c1.sent) (.int .i64 c1.got) (.slice q1.sa q1.sn q1.sc) (.slice q1.ra q1.rn q1.rq) := ⟨_, rfl⟩
  have GX := Lib.hid (show w1.grownBy X (some w.heap.size) by rw [hX]; exact grown_st10 (World.grownBy.refl _ _) (.int .i64 c1.cap) (.bool c1.cl) (.int .i64 c1.rc) (.int .i64 c1.rf) (.slice q1.za q1.zn q1.zc) (.int .i64 c1.rk) (.int .i64 c1.sent) (.int .i64 c1.got) (.slice q1.sa q1.sn q1.sc) (.slice q1.ra q1.rn q1.rq))
  have K4_0 := Lib.hid (show Bx X w.heap.size (chC c1 q1) 27 by rw [hX]; exact K1.out.st10 (.int .i64 c1.cap) (.bool c1.cl) (.int .i64 c1.rc) (.int .i64 c1.rf) (.slice q1.za q1.zn q1.zc) (.int .i64 c1.rk) (.int .i64 c1.sent) (.int .i64 c1.got) (.slice q1.sa q1.sn q1.sc) (.slice q1.ra q1.rn q1.rq))
  have A_0 := Lib.hid (show Below w.heap.size w X by rw [hX]; exact below_st10 A1.out (Nat.le_refl _) (.int .i64 c1.cap) (.bool c1.cl) (.int .i64 c1.rc) (.int .i64 c1.rf) (.slice q1.za q1.zn q1.zc) (.int .i64 c1.rk) (.int .i64 c1.sent) (.int .i64 c1.got) (.slice q1.sa q1.sn q1.sc) (.slice q1.ra q1.rn q1.rq))
  have C1_0 := Lib.hid (C1.out.other AP1.out GX.out)
  have hx := hX.symm
  simp only [st10] at hx
  rw [hx]
  obtain ⟨b4, hb4⟩ : ∃ b, b = w.heap.size := ⟨_, rfl⟩
  rw [← hb4] at K4_0 ⊢
  clear hx hX hb4 t0 t1 t2 t3 t4 t5 t6 t7 t8 t9 f0 f1 f2 f3 f4 f5 f6 f7 f8 f9 l0 K1 A1 C1 GX
  obtain ⟨g1, hg1⟩ : ∃ g1, g1 = (wrap64 (gg.tmod 8 + 8)).tmod 8 := ⟨_, rfl⟩
  obtain ⟨o1, ho1⟩ : ∃ o1, o1 = (wrap64 (oo.tmod 8 + 8)).tmod 8 := ⟨_, rfl⟩
  have hgb := gm_bd gg
  have hob := gm_bd oo
  rw [← hg1] at hgb
  rw [← ho1] at hob
  rw [← hg1, ← ho1]
  obtain ⟨hg0, hg8⟩ := hgb
  obtain ⟨ho0, ho8⟩ := hob
  clear hg1 ho1
  obtain ⟨t0, t1, t2, t3, t4, t5, t6, t7, t8, t9⟩ := K4_0.out.cells10
  have lt := K4_0.out.lt
  go_wp2_with fail
  cases hr : rightC c1 with
  | false =>
    have HL := Lib.hid (fun W (H : Cha W c1 q1) => Leave_bad c1 q1 g1 W H (.inl hr))
    unfold GotN at HL
    clear hr
    refine (HL.out _ C1_0.out).mono ?_
    rintro e v1 ⟨q3, rfl, hc, hfr, hb⟩
    clear t0 t1 t2 t3 t4 t5 t6 t7 t8 t9 lt
    have A_1 := Lib.hid (A_0.out.trans (Below.mono hb A_0.out.size))
    have K4_1 := Lib.hid (K4_0.out.below hb)
    have C1_1 := Lib.hid (C1_0.out.below hb)
    clear A_0 K4_0 C1_0
    have CZ_1 := Lib.hid (hc)
    clear hb hc
    clear hfr
    have hbx := below_alloc v1 (.cells (chC zeroC q3) 27)
    have A_2 := Lib.hid (A_1.out.trans (Below.mono hbx A_1.out.size))
    have K4_2 := Lib.hid (K4_1.out.below hbx)
    have C1_2 := Lib.hid (C1_1.out.below hbx)
    have CZ_2 := Lib.hid (CZ_1.out.below hbx)
    clear A_1 K4_1 C1_1 CZ_1
    have Nz_2 := Lib.hid (Bx.new v1 (chC zeroC q3) 27)
    go_upto_region 4 with (fail)
    obtain ⟨Xz, hXz⟩ : ∃ X, X = v1.alloc (.cells (chC zeroC q3) 27) := ⟨_, rfl⟩
    obtain ⟨bz, hbz⟩ : ∃ b, b = v1.heap.size := ⟨_, rfl⟩
    rw [← hXz] at A_2 K4_2 C1_2 CZ_2 Nz_2 ⊢
    rw [← hbz] at Nz_2  ⊢
    have HBz := Lib.hid hbz
    clear hXz hbz hbx
    go_wp2_with fail
    refine (alive_any _).mono ?_
    rintro e v3 ⟨rfl, hb⟩
    have A_3 := Lib.hid (A_2.out.trans (Below.mono hb A_2.out.size))
    have K4_3 := Lib.hid (K4_2.out.below hb)
    have C1_3 := Lib.hid (C1_2.out.below hb)
    have CZ_3 := Lib.hid (CZ_2.out.below hb)
    have Nz_3 := Lib.hid (Nz_2.out.below hb)
    clear A_2 K4_2 C1_2 CZ_2 Nz_2
    clear hb
    obtain ⟨t0, t1, t2, t3, t4, t5, t6, t7, t8, t9⟩ := Nz_3.out.cells10
    have lt := Nz_3.out.lt
    go_wp2_with fail
    refine (empty_zero q3 _ CZ_3.out).mono ?_
    rintro e v4 ⟨rfl, hb⟩
    clear t0 t1 t2 t3 t4 t5 t6 t7 t8 t9 lt
    have A_4 := Lib.hid (A_3.out.trans (Below.mono hb A_3.out.size))
    have K4_4 := Lib.hid (K4_3.out.below hb)
    have C1_4 := Lib.hid (C1_3.out.below hb)
    have CZ_4 := Lib.hid (CZ_3.out.below hb)
    have Nz_4 := Lib.hid (Nz_3.out.below hb)
    clear A_3 K4_3 C1_3 CZ_3 Nz_3
    clear hb
    go_wp2_with fail
    go_ret
    exact ⟨rfl, A_4.out⟩
  | true =>
    have gi : I64 g1 := ⟨by omega, by omega⟩
    have oi : I64 o1 := ⟨by omega, by omega⟩
    obtain ⟨n, f, k, gd⟩ := good_of hr
    obtain ⟨a, ha⟩ : ∃ a, a = leaveC c1 g1 := ⟨_, rfl⟩
    have hra : rightC a = true := by rw [ha]; exact right_leave hr g1
    obtain ⟨u, hu⟩ : ∃ u, u = leaveC a o1 := ⟨_, rfl⟩
    have hru : rightC u = true := by rw [hu]; exact right_leave hra o1
    obtain ⟨v0, hv0⟩ : ∃ v0, v0 = leaveC c1 o1 := ⟨_, rfl⟩
    have hrv : rightC v0 = true := by rw [hv0]; exact right_leave hr o1
    have hvu : leaveC v0 g1 = u := by rw [hv0, hu, ha, leave_comm]
    obtain ⟨r, hrr⟩ : ∃ r, r = readyZ c1 send g1 := ⟨_, rfl⟩
    have HL1 := Lib.hid (fun W q (H : Cha W c1 q) => Leave_ok c1 q g1 W H hr hg0 gi)
    rw [← ha] at HL1
    have HL2 := Lib.hid (fun W q (H : Cha W a q) => Leave_ok a q g1 W H hra hg0 gi)
    rw [show leaveC a g1 = a by rw [ha, leave_leave]] at HL2
    have HY1 := Lib.hid (fun W q (H : Cha W a q) => Ready_ok a q send g1 W H hra hg0 gi)
    rw [show readyZ a send g1 = r by rw [ha, ready_leave, hrr]] at HY1
    have HY2 := Lib.hid (fun W q (H : Cha W c1 q) => Ready_ok c1 q send g1 W H hr hg0 gi)
    rw [← hrr] at HY2
    have HS1 := Lib.hid (fun W qa qb (H : Cha W a qa) (H2 : Cha W a qb) => CSame_yes a a qa qb W H H2 (same_refl hra))
    have HRT := Lib.hid (fun W q (H : Cha W a q) => Right_c a q W H)
    rw [hra] at HRT
    have HL3 := Lib.hid (fun W q (H : Cha W a q) => Leave_ok a q o1 W H hra ho0 oi)
    rw [← hu] at HL3
    have HL4 := Lib.hid (fun W q (H : Cha W c1 q) => Leave_ok c1 q o1 W H hr ho0 oi)
    rw [← hv0] at HL4
    have HL5 := Lib.hid (fun W q (H : Cha W v0 q) => Leave_ok v0 q g1 W H hrv hg0 gi)
    rw [hvu] at HL5
    have HS2 := Lib.hid (fun W qa qb (H : Cha W u qa) (H2 : Cha W u qb) => CSame_yes u u qa qb W H H2 (same_refl hru))
    have HRR := Lib.hid (show ∀ W q, Cha W u q → Calls Try.prog 27 #[.agg #[.int .i64 u.rc, .int .i64 u.rf, .slice q.za q.zn q.zc, .int .i64 u.rk]] W (fun e w' => e = .returned (.bool true) ∧ Below W.heap.size W w') from fun W q H => by
      have h1 := r_refRight_any u.rc u.rf u.rk q.za q.zn q.zc W H.rc H.rf H.rk (by have := H.zs.len_le; omega)
      rw [show rightZ u.rc u.rf q.zn u.rk = true from (by
        obtain ⟨nu, fu, ku, gu⟩ := good_of hru
        have hz : q.zn = nu := H.zs.len_eq.symm.trans gu.zl
        have := gu.rcn; have := gu.rfn; have := gu.rkn; have := gu.n3; have := gu.fl; have := gu.kl
        rw [rightZ, decide_eq_true_eq]; omega)] at h1
      exact h1)
    have HSM := Lib.hid (show a.sends.length ≤ 64 ∧ a.recvs.length ≤ 64 from by
      obtain ⟨nu, fu, ku, gu⟩ := good_of hra
      exact ⟨(right_pair.1 gu.sends).1, (right_pair.1 gu.recvs).1⟩)
    have HGN := Lib.hid (show ∀ y ∈ a.sends ++ a.recvs, (y.g == g1) = false from fun y hy => left_gone (c := c1) (by rw [ha] at hy; exact hy))
    unfold GotN at HL1 HL2 HL3 HL4 HL5
    unfold GotB at HY1 HY2
    have hrb : (r != r) = false := by simp
    clear hr hra hru hrv hvu hrr ha hu hv0 gd gi oi
    refine (HL1.out _ _ C1_0.out).mono ?_
    rintro e v1 ⟨qa, rfl, hc, hfr, hb⟩
    clear t0 t1 t2 t3 t4 t5 t6 t7 t8 t9 lt
    have A_1 := Lib.hid (A_0.out.trans (Below.mono hb A_0.out.size))
    have K4_1 := Lib.hid (K4_0.out.below hb)
    have C1_1 := Lib.hid (C1_0.out.below hb)
    clear A_0 K4_0 C1_0
    have CA_1 := Lib.hid (hc)
    clear hb hc
    clear hfr
    have hbx := below_alloc v1 (.cells (chC a qa) 27)
    have A_2 := Lib.hid (A_1.out.trans (Below.mono hbx A_1.out.size))
    have K4_2 := Lib.hid (K4_1.out.below hbx)
    have C1_2 := Lib.hid (C1_1.out.below hbx)
    have CA_2 := Lib.hid (CA_1.out.below hbx)
    clear A_1 K4_1 C1_1 CA_1
    have Na_2 := Lib.hid (Bx.new v1 (chC a qa) 27)
    go_upto_region 6 with (fail)
    obtain ⟨Xa, hXa⟩ : ∃ X, X = v1.alloc (.cells (chC a qa) 27) := ⟨_, rfl⟩
    obtain ⟨ba, hba⟩ : ∃ b, b = v1.heap.size := ⟨_, rfl⟩
    rw [← hXa] at A_2 K4_2 C1_2 CA_2 Na_2 ⊢
    rw [← hba] at Na_2  ⊢
    have HBa := Lib.hid hba
    clear hXa hba hbx
    obtain ⟨t0, t1, t2, t3, t4, t5, t6, t7, t8, t9⟩ := Na_2.out.cells10
    have lt := Na_2.out.lt
    go_wp2_with fail
    refine (HL2.out _ _ CA_2.out).mono ?_
    rintro e v3 ⟨qb, rfl, hc, hfr, hb⟩
    clear t0 t1 t2 t3 t4 t5 t6 t7 t8 t9 lt
    have A_3 := Lib.hid (A_2.out.trans (Below.mono hb A_2.out.size))
    have K4_3 := Lib.hid (K4_2.out.below hb)
    have C1_3 := Lib.hid (C1_2.out.below hb)
    have CA_3 := Lib.hid (CA_2.out.below hb)
    have Na_3 := Lib.hid (Na_2.out.below hb)
    clear A_2 K4_2 C1_2 CA_2 Na_2
    have CB_3 := Lib.hid (hc)
    clear hb hc
    clear hfr
    have hbx := below_alloc v3 (.cells (chC a qb) 27)
    have A_4 := Lib.hid (A_3.out.trans (Below.mono hbx A_3.out.size))
    have K4_4 := Lib.hid (K4_3.out.below hbx)
    have C1_4 := Lib.hid (C1_3.out.below hbx)
    have CA_4 := Lib.hid (CA_3.out.below hbx)
    have Na_4 := Lib.hid (Na_3.out.below hbx)
    have CB_4 := Lib.hid (CB_3.out.below hbx)
    clear A_3 K4_3 C1_3 CA_3 Na_3 CB_3
    have Nb_4 := Lib.hid (Bx.new v3 (chC a qb) 27)
    go_upto_region 7 with (fail)
    obtain ⟨Xb, hXb⟩ : ∃ X, X = v3.alloc (.cells (chC a qb) 27) := ⟨_, rfl⟩
    obtain ⟨bb, hbb⟩ : ∃ b, b = v3.heap.size := ⟨_, rfl⟩
    rw [← hXb] at A_4 K4_4 C1_4 CA_4 Na_4 CB_4 Nb_4 ⊢
    rw [← hbb] at Nb_4  ⊢
    have HBb := Lib.hid hbb
    clear hXb hbb hbx
    obtain ⟨t0, t1, t2, t3, t4, t5, t6, t7, t8, t9⟩ := Na_4.out.cells10
    have lt := Na_4.out.lt
    go_wp2_with fail
    refine (HY1.out _ _ CA_4.out).mono ?_
    rintro e v5 ⟨rfl, hb⟩
    clear t0 t1 t2 t3 t4 t5 t6 t7 t8 t9 lt
    have A_5 := Lib.hid (A_4.out.trans (Below.mono hb A_4.out.size))
    have K4_5 := Lib.hid (K4_4.out.below hb)
    have C1_5 := Lib.hid (C1_4.out.below hb)
    have CA_5 := Lib.hid (CA_4.out.below hb)
    have Na_5 := Lib.hid (Na_4.out.below hb)
    have CB_5 := Lib.hid (CB_4.out.below hb)
    have Nb_5 := Lib.hid (Nb_4.out.below hb)
    clear A_4 K4_4 C1_4 CA_4 Na_4 CB_4 Nb_4
    clear hb
    obtain ⟨t0, t1, t2, t3, t4, t5, t6, t7, t8, t9⟩ := K4_5.out.cells10
    have lt := K4_5.out.lt
    go_wp2_with fail
    refine (HY2.out _ _ C1_5.out).mono ?_
    rintro e v6 ⟨rfl, hb⟩
    clear t0 t1 t2 t3 t4 t5 t6 t7 t8 t9 lt
    have A_6 := Lib.hid (A_5.out.trans (Below.mono hb A_5.out.size))
    have K4_6 := Lib.hid (K4_5.out.below hb)
    have C1_6 := Lib.hid (C1_5.out.below hb)
    have CA_6 := Lib.hid (CA_5.out.below hb)
    have Na_6 := Lib.hid (Na_5.out.below hb)
    have CB_6 := Lib.hid (CB_5.out.below hb)
    have Nb_6 := Lib.hid (Nb_5.out.below hb)
    clear A_5 K4_5 C1_5 CA_5 Na_5 CB_5 Nb_5
    clear hb
    obtain ⟨t0, t1, t2, t3, t4, t5, t6, t7, t8, t9⟩ := Na_6.out.cells10
    have lt := Na_6.out.lt
    obtain ⟨s0, s1, s2, s3, s4, s5, s6, s7, s8, s9⟩ := Nb_6.out.cells10
    have ls := Nb_6.out.lt
    go_wp2_with fail
    refine (HS1.out _ _ _ CA_6.out CB_6.out).mono ?_
    rintro e v7 ⟨rfl, hb⟩
    clear t0 t1 t2 t3 t4 t5 t6 t7 t8 t9 lt s0 s1 s2 s3 s4 s5 s6 s7 s8 s9 ls
    have A_7 := Lib.hid (A_6.out.trans (Below.mono hb A_6.out.size))
    have K4_7 := Lib.hid (K4_6.out.below hb)
    have C1_7 := Lib.hid (C1_6.out.below hb)
    have CA_7 := Lib.hid (CA_6.out.below hb)
    have Na_7 := Lib.hid (Na_6.out.below hb)
    have CB_7 := Lib.hid (CB_6.out.below hb)
    have Nb_7 := Lib.hid (Nb_6.out.below hb)
    clear A_6 K4_6 C1_6 CA_6 Na_6 CB_6 Nb_6
    clear hb
    obtain ⟨t0, t1, t2, t3, t4, t5, t6, t7, t8, t9⟩ := Na_7.out.cells10
    have lt := Na_7.out.lt
    go_wp2_with fail
    refine (HRT.out _ _ CA_7.out).mono ?_
    rintro e v8 ⟨rfl, hb⟩
    clear t0 t1 t2 t3 t4 t5 t6 t7 t8 t9 lt
    have A_8 := Lib.hid (A_7.out.trans (Below.mono hb A_7.out.size))
    have K4_8 := Lib.hid (K4_7.out.below hb)
    have C1_8 := Lib.hid (C1_7.out.below hb)
    have CA_8 := Lib.hid (CA_7.out.below hb)
    have Na_8 := Lib.hid (Na_7.out.below hb)
    have CB_8 := Lib.hid (CB_7.out.below hb)
    have Nb_8 := Lib.hid (Nb_7.out.below hb)
    clear A_7 K4_7 C1_7 CA_7 Na_7 CB_7 Nb_7
    clear hb
    go_wp2_with fail
    refine (alive_any _).mono ?_
    rintro e v9 ⟨rfl, hb⟩
    have A_9 := Lib.hid (A_8.out.trans (Below.mono hb A_8.out.size))
    have K4_9 := Lib.hid (K4_8.out.below hb)
    have C1_9 := Lib.hid (C1_8.out.below hb)
    have CA_9 := Lib.hid (CA_8.out.below hb)
    have Na_9 := Lib.hid (Na_8.out.below hb)
    have CB_9 := Lib.hid (CB_8.out.below hb)
    have Nb_9 := Lib.hid (Nb_8.out.below hb)
    clear A_8 K4_8 C1_8 CA_8 Na_8 CB_8 Nb_8
    clear hb
    obtain ⟨t0, t1, t2, t3, t4, t5, t6, t7, t8, t9⟩ := Na_9.out.cells10
    have lt := Na_9.out.lt
    go_wp2_with fail
    go_cut [106, 107, 108] (fun s n i wx => i = .int .i64 0 ∧ Gath v9 (a.sends ++ a.recvs) s n wx)
    case first =>
      have HSS : Hid (∀ W, Below v9.heap.size v9 W → W.cell? ⟨ba, 8, none⟩ = some (.slice qa.sa qa.sn qa.sc) ∧ W.cell? ⟨ba, 9, none⟩ = some (.slice qa.ra qa.rn qa.rq)) := Lib.hid (fun W hb => by obtain ⟨c0, c1, c2, c3, c4, c5, c6, c7, c8, c9⟩ := (Na_9.out.below hb).cells10; exact ⟨c8, c9⟩)
      refine wp_region_held_drew (S := (fun W => W.cell? ⟨ba, 8, none⟩ = some (.slice qa.sa qa.sn qa.sc) ∧ W.cell? ⟨ba, 9, none⟩ = some (.slice qa.ra qa.rn qa.rq))) (by kernel_rfl) ?_ (fun hHeld => ?_)
      · exact HSS.out _ ((Below.refl _ _).drew)
      refine wpAnyH_take (i := 1) (v := ?_) rfl (by kernel_rfl) (by kernel_rfl) (by kernel_rfl) (fun _ _ _ h => h) (Or.inl ⟨by rfl, ?_⟩) (by assumption) ?_
      rotate_left
      · (intro w hSw; (try dsimp only at hSw); go_simp; try with_reducible rfl)
      (try simp only [Act.put, List.getElem_toArray, List.getElem_cons_zero, List.getElem_cons_succ, List.setIfInBounds_toArray, List.set_cons_zero, List.set_cons_succ])
      refine wpAnyH_take (i := 2) (v := ?_) rfl (by kernel_rfl) (by kernel_rfl) (by kernel_rfl) (fun _ _ _ h => h) (Or.inl ⟨by rfl, ?_⟩) (by assumption) ?_
      rotate_left
      · (intro w hSw; (try dsimp only at hSw); go_simp; try with_reducible rfl)
      (try simp only [Act.put, List.getElem_toArray, List.getElem_cons_zero, List.getElem_cons_succ, List.setIfInBounds_toArray, List.set_cons_zero, List.set_cons_succ])
      refine wpAnyH_take (i := 4) (v := ?_) rfl (by kernel_rfl) (by kernel_rfl) (by kernel_rfl) (fun _ _ _ h => h) (Or.inl ⟨by rfl, ?_⟩) (by assumption) ?_
      rotate_left
      · (intro w hSw; (try dsimp only at hSw); go_simp; try with_reducible rfl)
      (try simp only [Act.put, List.getElem_toArray, List.getElem_cons_zero, List.getElem_cons_succ, List.setIfInBounds_toArray, List.set_cons_zero, List.set_cons_succ])
      refine wpAnyH_take (i := 5) (v := ?_) rfl (by kernel_rfl) (by kernel_rfl) (by kernel_rfl) (fun _ _ _ h => h) (Or.inl ⟨by rfl, ?_⟩) (by assumption) ?_
      rotate_left
      · (intro w hSw; (try dsimp only at hSw); go_simp; try with_reducible rfl)
      (try simp only [Act.put, List.getElem_toArray, List.getElem_cons_zero, List.getElem_cons_succ, List.setIfInBounds_toArray, List.set_cons_zero, List.set_cons_succ])
      refine wpAnyH_take (i := 8) (v := ?_) rfl (by kernel_rfl) (by kernel_rfl) (by kernel_rfl) (fun _ _ _ h => h) (Or.inl ⟨by rfl, ?_⟩) (by assumption) ?_
      rotate_left
      · (intro w hSw; (try dsimp only at hSw); go_simp; try with_reducible rfl)
      (try simp only [Act.put, List.getElem_toArray, List.getElem_cons_zero, List.getElem_cons_succ, List.setIfInBounds_toArray, List.set_cons_zero, List.set_cons_succ])
      refine wpAnyH_ready (rs := [0]) (by kernel_rfl) (by simp) ?_
      refine AllReadyH.cons (o := _) rfl (fun K hK => ?_) AllReadyH.nil
      go_simp
      refine hK.out _ _ (HSS.out _ (((Below.refl _ _).drew).alloc (by simp) _)) (fun hHeld => ?_)
      clear hK K
      (try simp only [Act.put, List.getElem_toArray, List.getElem_cons_zero, List.getElem_cons_succ, List.setIfInBounds_toArray, List.set_cons_zero, List.set_cons_succ])
      refine wpAnyH_ready (rs := [3]) (by kernel_rfl) (by simp) ?_
      refine AllReadyH.cons (o := _) rfl (fun K hK => ?_) AllReadyH.nil
      refine step_appR (by first | rfl | kernel_rfl) (.tmp 100) (.tmp 102) (by rfl) v9.heap.size _ [] (by rfl) (ownR_empty (heap_alloc_new _ _) (by simp)) _ _ _ a.sends (by rfl) ((CA_9.out.sends.below (((Below.refl _ _).drew).alloc (by simp) _)).recs) (by simp) (by have := CA_9.out.sends.recs.len_eq; have := HSM.out.1; omega) (by simp) ?_
      intro v1 wA ho1 hg1
      have BA := Lib.hid (show Below v9.heap.size v9 wA from Below.grown (((Below.refl _ _).drew).alloc (by simp) _) hg1.out (by simp) (fun r hr => by cases hr; simp))
      refine hK.out _ _ (HSS.out _ BA.out) (fun hHeld => ?_)
      clear hK K
      (try simp only [Act.put, List.getElem_toArray, List.getElem_cons_zero, List.getElem_cons_succ, List.setIfInBounds_toArray, List.set_cons_zero, List.set_cons_succ])
      refine wpAnyH_ready (rs := [6]) (by kernel_rfl) (by simp) ?_
      refine AllReadyH.cons (o := _) rfl (fun K hK => ?_) AllReadyH.nil
      refine step_appR (by first | rfl | kernel_rfl) (.tmp 103) (.tmp 105) (by rfl) v9.heap.size _ ([] ++ a.sends) (by rfl) ho1.out _ _ _ a.recvs (by rfl) ((CA_9.out.recvs.below BA.out).recs) (by have := HSM.out.1; simp; omega) (by have := CA_9.out.recvs.recs.len_eq; have := HSM.out.2; omega) BA.out.size ?_
      intro v2 wB ho2 hg2
      have BB := Lib.hid (show Below v9.heap.size v9 wB from BA.out.grown hg2.out BA.out.size (fun r hr => OwnR.lt ho1.out r hr))
      obtain ⟨la, lc, rfl, hrec⟩ := OwnR.recs wcells_len ho2.out
      have HRE := Lib.hid hrec
      clear hrec ho1 hg1 ho2 hg2
      refine hK.out _ _ (HSS.out _ BB.out) (fun hHeld => ?_)
      clear hK K
      (try simp only [Act.put, List.getElem_toArray, List.getElem_cons_zero, List.getElem_cons_succ, List.setIfInBounds_toArray, List.set_cons_zero, List.set_cons_succ])
      refine wpAnyH_take (i := 7) (v := ?_) rfl (by kernel_rfl) (by kernel_rfl) (by kernel_rfl) (fun _ _ _ h => h) (Or.inl ⟨by rfl, ?_⟩) (by assumption) ?_
      rotate_left
      · (intro w hSw; (try dsimp only at hSw); go_simp; try with_reducible rfl)
      (try simp only [Act.put, List.getElem_toArray, List.getElem_cons_zero, List.getElem_cons_succ, List.setIfInBounds_toArray, List.set_cons_zero, List.set_cons_succ])
      refine wpAnyH_done (by kernel_rfl) ?_ _
      go_wp2_with fail
      go_meet
      have hLe : ([] ++ a.sends ++ a.recvs) = a.sends ++ a.recvs := by simp
      refine ⟨rfl, la, ([] ++ a.sends ++ a.recvs).length, lc, ?_, ?_, ⟨?_, fun y hy => ?_⟩, BB.out⟩
      · rfl
      · (first | rfl | (simp; done) | (simp [Int.natCast_add]; done))
      · (first | exact HRE.out | (rw [← hLe]; exact HRE.out))
      · rcases List.mem_append.1 hy with h | h
        · exact CA_9.out.sends.ok y (by simpa using h)
        · exact CA_9.out.recvs.ok y h
    case rest =>
      obtain ⟨rfl, la, ln, lc, rfl, rfl, hl, hb⟩ := hcut
      clear t0 t1 t2 t3 t4 t5 t6 t7 t8 t9 lt
      have A_10 := Lib.hid (A_9.out.trans (Below.mono hb A_9.out.size))
      have K4_10 := Lib.hid (K4_9.out.below hb)
      have C1_10 := Lib.hid (C1_9.out.below hb)
      have CA_10 := Lib.hid (CA_9.out.below hb)
      have Na_10 := Lib.hid (Na_9.out.below hb)
      have CB_10 := Lib.hid (CB_9.out.below hb)
      have Nb_10 := Lib.hid (Nb_9.out.below hb)
      clear A_9 K4_9 C1_9 CA_9 Na_9 CB_9 Nb_9
      have HL_10 := Lib.hid (hl)
      clear hb hl
      have hlm := HL_10.out.recs.len_le
      go_wp2_with fail
      go_loopw [108] (fun i wr => ∃ m : Nat, m ≤ ln ∧ i = .int .i64 m ∧ Below wc.heap.size wc wr) (fun i _ => ln - (intOf i).toNat)
      case atStart => exact ⟨0, Nat.zero_le _, rfl, Below.refl _ _⟩
      case round =>
        obtain ⟨m, hm, rfl, hbw⟩ := hrel
        have HBW := Lib.hid hbw
        clear hbw
        by_cases hlt : m < ln
        · have hlt' : (m : Int) < (ln : Int) := by omega
          obtain ⟨y, b, off, hy, hyok, rfl, c0, c1', c2⟩ := (HL_10.out.below HBW.out).at m hlt
          have hyg := HGN.out y (List.mem_of_getElem? hy)
          clear hy hyok
          go_wp2_with fail
          go_roundw
          case rel => exact ⟨m + 1, by omega, by go_num, belowX_alloc HBW.out _⟩
          case measure => simp [intOf]; omega
        · have hlt' : ¬ (m : Int) < (ln : Int) := by omega
          have hb := HBW.out
          have A_11 := Lib.hid (A_10.out.trans (Below.mono hb A_10.out.size))
          have K4_11 := Lib.hid (K4_10.out.below hb)
          have C1_11 := Lib.hid (C1_10.out.below hb)
          have CA_11 := Lib.hid (CA_10.out.below hb)
          have Na_11 := Lib.hid (Na_10.out.below hb)
          have CB_11 := Lib.hid (CB_10.out.below hb)
          have Nb_11 := Lib.hid (Nb_10.out.below hb)
          clear A_10 K4_10 C1_10 CA_10 Na_10 CB_10 Nb_10
          clear hb
          obtain ⟨t0, t1, t2, t3, t4, t5, t6, t7, t8, t9⟩ := Na_11.out.cells10
          have lt := Na_11.out.lt
          go_wp2_with fail
          refine (HL3.out _ _ CA_11.out).mono ?_
          rintro e v12 ⟨qu, rfl, hc, hfr, hb⟩
          clear t0 t1 t2 t3 t4 t5 t6 t7 t8 t9 lt
          have A_12 := Lib.hid (A_11.out.trans (Below.mono hb A_11.out.size))
          have K4_12 := Lib.hid (K4_11.out.below hb)
          have C1_12 := Lib.hid (C1_11.out.below hb)
          have CA_12 := Lib.hid (CA_11.out.below hb)
          have Na_12 := Lib.hid (Na_11.out.below hb)
          have CB_12 := Lib.hid (CB_11.out.below hb)
          have Nb_12 := Lib.hid (Nb_11.out.below hb)
          clear A_11 K4_11 C1_11 CA_11 Na_11 CB_11 Nb_11
          have CU_12 := Lib.hid (hc)
          clear hb hc
          clear hfr
          have hbx := below_alloc v12 (.cells (chC u qu) 27)
          have A_13 := Lib.hid (A_12.out.trans (Below.mono hbx A_12.out.size))
          have K4_13 := Lib.hid (K4_12.out.below hbx)
          have C1_13 := Lib.hid (C1_12.out.below hbx)
          have CA_13 := Lib.hid (CA_12.out.below hbx)
          have Na_13 := Lib.hid (Na_12.out.below hbx)
          have CB_13 := Lib.hid (CB_12.out.below hbx)
          have Nb_13 := Lib.hid (Nb_12.out.below hbx)
          have CU_13 := Lib.hid (CU_12.out.below hbx)
          clear A_12 K4_12 C1_12 CA_12 Na_12 CB_12 Nb_12 CU_12
          have Nu_13 := Lib.hid (Bx.new v12 (chC u qu) 27)
          go_upto_region 18 with (fail)
          obtain ⟨Xu, hXu⟩ : ∃ X, X = v12.alloc (.cells (chC u qu) 27) := ⟨_, rfl⟩
          obtain ⟨bu, hbu⟩ : ∃ b, b = v12.heap.size := ⟨_, rfl⟩
          rw [← hXu] at A_13 K4_13 C1_13 CA_13 Na_13 CB_13 Nb_13 CU_13 Nu_13 ⊢
          rw [← hbu] at Nu_13  ⊢
          have HBu := Lib.hid hbu
          clear hXu hbu hbx
          obtain ⟨t0, t1, t2, t3, t4, t5, t6, t7, t8, t9⟩ := K4_13.out.cells10
          have lt := K4_13.out.lt
          go_wp2_with fail
          refine (HL4.out _ _ C1_13.out).mono ?_
          rintro e v14 ⟨qv, rfl, hc, hfr, hb⟩
          clear t0 t1 t2 t3 t4 t5 t6 t7 t8 t9 lt
          have A_14 := Lib.hid (A_13.out.trans (Below.mono hb A_13.out.size))
          have K4_14 := Lib.hid (K4_13.out.below hb)
          have C1_14 := Lib.hid (C1_13.out.below hb)
          have CA_14 := Lib.hid (CA_13.out.below hb)
          have Na_14 := Lib.hid (Na_13.out.below hb)
          have CB_14 := Lib.hid (CB_13.out.below hb)
          have Nb_14 := Lib.hid (Nb_13.out.below hb)
          have CU_14 := Lib.hid (CU_13.out.below hb)
          have Nu_14 := Lib.hid (Nu_13.out.below hb)
          clear A_13 K4_13 C1_13 CA_13 Na_13 CB_13 Nb_13 CU_13 Nu_13
          have CV_14 := Lib.hid (hc)
          clear hb hc
          clear hfr
          have APU := Lib.hid (CU_14.out.ap (Nat.le_refl _)); have LUV := Lib.hid Nu_14.out.lt; have HBvw := Lib.hid A_14.out.size
          have hbx := below_alloc v14 (.cells (chC v0 qv) 27)
          have A_15 := Lib.hid (A_14.out.trans (Below.mono hbx A_14.out.size))
          have K4_15 := Lib.hid (K4_14.out.below hbx)
          have C1_15 := Lib.hid (C1_14.out.below hbx)
          have CA_15 := Lib.hid (CA_14.out.below hbx)
          have Na_15 := Lib.hid (Na_14.out.below hbx)
          have CB_15 := Lib.hid (CB_14.out.below hbx)
          have Nb_15 := Lib.hid (Nb_14.out.below hbx)
          have CU_15 := Lib.hid (CU_14.out.below hbx)
          have Nu_15 := Lib.hid (Nu_14.out.below hbx)
          have CV_15 := Lib.hid (CV_14.out.below hbx)
          clear A_14 K4_14 C1_14 CA_14 Na_14 CB_14 Nb_14 CU_14 Nu_14 CV_14
          have Nv_15 := Lib.hid (Bx.new v14 (chC v0 qv) 27)
          go_upto_region 19 with (fail)
          obtain ⟨Xv, hXv⟩ : ∃ X, X = v14.alloc (.cells (chC v0 qv) 27) := ⟨_, rfl⟩
          obtain ⟨bv, hbv⟩ : ∃ b, b = v14.heap.size := ⟨_, rfl⟩
          rw [← hXv] at A_15 K4_15 C1_15 CA_15 Na_15 CB_15 Nb_15 CU_15 Nu_15 CV_15 Nv_15 ⊢
          rw [← hbv] at Nv_15 APU LUV HBvw ⊢
          have HBv := Lib.hid hbv
          clear hXv hbv hbx
          obtain ⟨t0, t1, t2, t3, t4, t5, t6, t7, t8, t9⟩ := Nv_15.out.cells10
          have lt := Nv_15.out.lt
          go_wp2_with fail
          have LBV := Lib.hid Nv_15.out.lt
          refine (HL5.out _ _ CV_15.out).mono ?_
          rintro e v16 ⟨qw, rfl, hc, hfr, hb⟩
          clear t0 t1 t2 t3 t4 t5 t6 t7 t8 t9 lt
          have A_16 := Lib.hid (A_15.out.trans (Below.mono hb A_15.out.size))
          have K4_16 := Lib.hid (K4_15.out.below hb)
          have C1_16 := Lib.hid (C1_15.out.below hb)
          have CA_16 := Lib.hid (CA_15.out.below hb)
          have Na_16 := Lib.hid (Na_15.out.below hb)
          have CB_16 := Lib.hid (CB_15.out.below hb)
          have Nb_16 := Lib.hid (Nb_15.out.below hb)
          have CU_16 := Lib.hid (CU_15.out.below hb)
          have Nu_16 := Lib.hid (Nu_15.out.below hb)
          have CV_16 := Lib.hid (CV_15.out.below hb)
          have Nv_16 := Lib.hid (Nv_15.out.below hb)
          clear A_15 K4_15 C1_15 CA_15 Na_15 CB_15 Nb_15 CU_15 Nu_15 CV_15 Nv_15
          have CW_16 := Lib.hid (hc)
          clear hb hc
          have APW := Lib.hid (hfr bv LBV.out)
          clear hfr
          have nuv : bu ≠ bv := by have h2 := LUV.out; omega
          obtain ⟨t0, t1, t2, t3, t4, t5, t6, t7, t8, t9⟩ := Nv_16.out.cells10
          have lt := Nv_16.out.lt
          have f0 := Nv_16.out.froz 0; have f1 := Nv_16.out.froz 1; have f2 := Nv_16.out.froz 2; have f3 := Nv_16.out.froz 3; have f4 := Nv_16.out.froz 4; have f5 := Nv_16.out.froz 5; have f6 := Nv_16.out.froz 6; have f7 := Nv_16.out.froz 7; have f8 := Nv_16.out.froz 8; have f9 := Nv_16.out.froz 9
          go_upto_region 22 with (fail)
          obtain ⟨Z, hZ⟩ : ∃ Z, Z = st10 v16 bv (.int .i64 u.cap) (.bool u.cl) (.int .i64 u.rc) (.int .i64 u.rf) (.slice qw.za qw.zn qw.zc) (.int .i64 u.rk) (.int .i64 u.sent) (.int .i64 u.got) (.slice qw.sa qw.sn qw.sc) (.slice qw.ra qw.rn qw.rq) := ⟨_, rfl⟩
          have GZ := Lib.hid (show v16.grownBy Z (some bv) by rw [hZ]; exact grown_st10 (World.grownBy.refl _ _) (.int .i64 u.cap) (.bool u.cl) (.int .i64 u.rc) (.int .i64 u.rf) (.slice qw.za qw.zn qw.zc) (.int .i64 u.rk) (.int .i64 u.sent) (.int .i64 u.got) (.slice qw.sa qw.sn qw.sc) (.slice qw.ra qw.rn qw.rq))
          have NVZ := Lib.hid (show Bx Z bv (chC u qw) 27 by rw [hZ]; exact Nv_16.out.st10 (.int .i64 u.cap) (.bool u.cl) (.int .i64 u.rc) (.int .i64 u.rf) (.slice qw.za qw.zn qw.zc) (.int .i64 u.rk) (.int .i64 u.sent) (.int .i64 u.got) (.slice qw.sa qw.sn qw.sc) (.slice qw.ra qw.rn qw.rq))
          have NUZ := Lib.hid (Nu_16.out.other GZ.out (fun e => nuv (by cases e; rfl)))
          have CWZ := Lib.hid (CW_16.out.other APW.out GZ.out)
          have CUZ := Lib.hid (CU_16.out.other APU.out GZ.out)
          have AZ := Lib.hid (show Below w.heap.size w Z by rw [hZ]; exact below_st10 A_16.out HBvw.out (.int .i64 u.cap) (.bool u.cl) (.int .i64 u.rc) (.int .i64 u.rf) (.slice qw.za qw.zn qw.zc) (.int .i64 u.rk) (.int .i64 u.sent) (.int .i64 u.got) (.slice qw.sa qw.sn qw.sc) (.slice qw.ra qw.rn qw.rq))
          have hz := hZ.symm
          simp only [st10] at hz
          rw [hz]
          clear hz hZ t0 t1 t2 t3 t4 t5 t6 t7 t8 t9 lt f0 f1 f2 f3 f4 f5 f6 f7 f8 f9
          obtain ⟨t0, t1, t2, t3, t4, t5, t6, t7, t8, t9⟩ := NVZ.out.cells10
          obtain ⟨s0, s1, s2, s3, s4, s5, s6, s7, s8, s9⟩ := NUZ.out.cells10
          have lt := NVZ.out.lt; have ls := NUZ.out.lt
          go_wp2_with fail
          refine (HS2.out _ _ _ CUZ.out CWZ.out).mono ?_
          rintro e wy ⟨rfl, hb⟩
          have AY := Lib.hid (AZ.out.trans (Below.mono hb AZ.out.size)); have NUY := Lib.hid (NUZ.out.below hb); have CUY := Lib.hid (CUZ.out.below hb)
          clear hb t0 t1 t2 t3 t4 t5 t6 t7 t8 t9 s0 s1 s2 s3 s4 s5 s6 s7 s8 s9 lt ls
          obtain ⟨s0, s1, s2, s3, s4, s5, s6, s7, s8, s9⟩ := NUY.out.cells10
          have ls := NUY.out.lt
          go_wp2_with fail
          refine (HRR.out _ _ CUY.out).mono ?_
          rintro e wz ⟨rfl, hb⟩
          have AW := Lib.hid (AY.out.trans (Below.mono hb AY.out.size))
          clear hb
          go_wp2_with fail
          go_ret
          exact ⟨rfl, AW.out⟩
end Go.Proofs.Ytfolhgpbplfilaa

/- ChansSides returns true for all arguments, and leaves them as they were. No conditions. -/
namespace Go.Proofs.Ytfolhgpbplfilaa.chansSides
open Go.ChangeShapes Go.WideShapes Go.ChangeAt Go.RowKit
open Go.ChangeMaps (open_string shut_string)
set_option linter.unusedVariables false

theorem own : ownKnob Try.prog.godebug = none := by kernel_rfl
theorem laidOut : laidOutB Try.prog = true := by kernel_rfl

/-! the row -/
set_option maxRecDepth 100000 in
theorem lifted (os : Os) (started : os.Started) (H : Type) (enc : TypeId × Value → H) :
    ReturnsInHanded {} Try.checked os 5 .any (Rows.chansSidesSpec.pre6 enc Try.prog Try.f5 Rows.chansSidesRow.domain false) (Rows.chansSidesSpec.post enc Try.prog Try.f5 false true false false) := by
  refine returnsInHanded_of_change (C := Try.checked) own started (by kernel_rfl) Try.func5
    (ChangeSpec.witness6 (enc := enc) (C := Try.checked) false ⟨#[], #[.agg #[.int .i64 0, .bool false, .int .i64 0, .int .i64 0, .slice none 0 0, .int .i64 0, .int .i64 0, .int .i64 0, .slice none 0 0, .slice none 0 0], .int .i64 0, .int .i64 0, .bool false], []⟩ 8 (by kernel_rfl) (by kernel_rfl) (by kernel_rfl) (by kernel_rfl)) ?_
  intro W base args ds gs before hval0 hW hcnd _
  have hval : ∀ (j : Nat) t v, Try.f5.params[j]? = some t → args[j]? = some v → Value.okWide Try.prog W .any base t v := hval0
  have hW' := hW
  obtain ⟨p, q, hA0, hV, rfl, hfz, hnd⟩ := hW
  have hA : DataW.TrodAll enc Try.prog W 0 (fun _ => true) true Try.f5.params.toList args.toList ds p := hA0
  rw [Try.params5] at hA hval
  obtain ⟨v0, vs0, d0, ds0, p0, q0, hargs, rfl, rfl, h0, r0⟩ := trodAll_cons hA
  obtain ⟨v1, vs1, d1, ds1, p1, q1, rfl, rfl, rfl, h1, r1⟩ := trodAll_cons r0
  obtain ⟨v2, vs2, d2, ds2, p2, q2, rfl, rfl, rfl, h2, r2⟩ := trodAll_cons r1
  obtain ⟨v3, vs3, d3, ds3, p3, q3, rfl, rfl, rfl, h3, r3⟩ := trodAll_cons r2
  obtain ⟨rfl, rfl, rfl⟩ := trodAll_nil r3
  obtain rfl : args = #[v0, v1, v2, v3] := by cases args; simp_all
  obtain ⟨rfl, rfl⟩ := trodVars_none hV
  have lt0 : ∀ x ∈ p0, x.block < W.heap.size := by obtain ⟨m, hm⟩ := h0; exact DataW.trod_lt m _ _ _ hm
  have lt1 : ∀ x ∈ p1, x.block < W.heap.size := by obtain ⟨m, hm⟩ := h1; exact DataW.trod_lt m _ _ _ hm
  have lt2 : ∀ x ∈ p2, x.block < W.heap.size := by obtain ⟨m, hm⟩ := h2; exact DataW.trod_lt m _ _ _ hm
  have lt3 : ∀ x ∈ p3, x.block < W.heap.size := by obtain ⟨m, hm⟩ := h3; exact DataW.trod_lt m _ _ _ hm
  obtain ⟨x0, z0, rfl, w0⟩ := chan_open (hval 0 27 v0 rfl rfl) h0
  have i1 : ∃ n : Int, v1 = .int .i64 n ∧ I64 n := by obtain ⟨n, e, _, _, w⟩ := open_int Try.underlying3 (hval 1 3 v1 rfl rfl) h1; exact ⟨n, e, wf_i64_bounds w⟩
  obtain ⟨n1, rfl, w1⟩ := i1
  have i2 : ∃ n : Int, v2 = .int .i64 n ∧ I64 n := by obtain ⟨n, e, _, _, w⟩ := open_int Try.underlying3 (hval 2 3 v2 rfl rfl) h2; exact ⟨n, e, wf_i64_bounds w⟩
  obtain ⟨n2, rfl, w2⟩ := i2
  have i3 : ∃ b : Bool, v3 = .bool b := by obtain ⟨b, e, _, _⟩ := open_bool Try.underlying4 (hval 3 4 v3 rfl rfl) h3; exact ⟨b, e⟩
  obtain ⟨n3, rfl⟩ := i3
  clear hA0 hval0
  refine (sides_any x0 z0 n1 n2 n3 W w0 w1 w2).mono fun e W' ⟨he, bel⟩ => ?_
  subst he
  exact ⟨_, rfl, _, _, _, [], _, [], hW', trodAll_mk1 (shut_bool Try.underlying4 _), (trodAll_cons_mk (Below.trod laidOut (by kernel_rfl) (of_decide_eq_true (by kernel_rfl)) h0 bel lt0) (trodAll_cons_mk (Below.trod laidOut (by kernel_rfl) (of_decide_eq_true (by kernel_rfl)) h1 bel lt1) (trodAll_cons_mk (Below.trod laidOut (by kernel_rfl) (of_decide_eq_true (by kernel_rfl)) h2 bel lt2) (trodAll_cons_mk (Below.trod laidOut (by kernel_rfl) (of_decide_eq_true (by kernel_rfl)) h3 bel lt3) trodAll_mk0)))), rfl, bel.frame _, fun h => by cases h⟩

theorem over : Rows.chansSidesRow.holds Try.pinned (OpenSpec.ofChange Rows.chansSidesSpec) :=
  OpenClaim.holds_of_wide 5 Try.f5 rfl rfl rfl rfl rfl rfl rfl ⟨rfl, rfl, rfl, rfl, rfl⟩ rfl rfl rfl rfl rfl (by kernel_rfl) Try.func5 (by kernel_rfl)
    (of_decide_eq_true (by kernel_rfl)) (by unfold Func.isWrapper; first | (rw [if_pos (by decide +kernel)]; kernel_rfl) | (rw [if_neg (by decide +kernel)]; exact ⟨rfl, rfl⟩))
    (fun os started H enc _ => lifted os started H enc)

/-- the statement -/
theorem proved : Rows.ChansSidesSaid := over
#print axioms proved
end Go.Proofs.Ytfolhgpbplfilaa.chansSides
