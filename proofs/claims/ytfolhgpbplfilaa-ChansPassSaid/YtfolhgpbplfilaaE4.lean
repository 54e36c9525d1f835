/- Leaving, in plain words; what refusals leave. -/
import Derived.Test.YtfolhgpbplfilaaD5
import Derived.Test.YtfolhgpbplfilaaC4
import Derived.Test.YtfolhgpbplfilaaE3
namespace Go.Proofs.Ytfolhgpbplfilaa
open Go.RowKit
set_option linter.unusedSimpArgs false
set_option linter.unusedVariables false
set_option maxRecDepth 100000 in
set_option maxHeartbeats 4000000 in
theorem Leave_bad (c : Chn) (q : CAt) (g : Int) (w : World) (h : Cha w c q) (hbad : rightC c = false ∨ g < 0) : Calls Try.prog 11 #[chV c q, .int .i64 g] w (GotN w zeroC 1) := by
  have AX := Lib.hid ((below_alloc w (.cells (chC c q) 27)).alloc (by simp) (.cells zero10 27))
  have K0 := Lib.hid ((Bx.new w (chC c q) 27).below (below_alloc _ (.cells zero10 27)))
  have K1 := Lib.hid (Bx.new2 w (.cells (chC c q) 27) zero10 27)
  have HX0 := Lib.hid (h.below AX.out)
  have HRC := Lib.hid (fun W (H : Cha W c q) => Right_c c q W H)
  clear h
  have hcs : rightC c = false ∨ (rightC c = true ∧ g < 0) := by
    cases hr : rightC c
    · exact .inl rfl
    · exact .inr ⟨rfl, hbad.resolve_left (by rw [hr]; decide)⟩
  clear hbad
  rcases hcs with hr | ⟨hr, hg⟩
  all_goals
    rw [hr] at HRC
    clear hr
    go_enter Try.func11, Try.ntmps11
    go_wp2_with fail
    obtain ⟨X, hX⟩ : ∃ X, X = (w.alloc (.cells (chC c q) 27)).alloc (.cells zero10 27) := ⟨_, rfl⟩
    rw [← hX] at AX K0 K1 HX0 ⊢
    obtain ⟨b1, h1⟩ : ∃ b, b = w.heap.size + 1 := ⟨_, rfl⟩
    obtain ⟨b0, h0⟩ : ∃ b, b = w.heap.size := ⟨_, rfl⟩
    have HBW := Lib.hid (show w.heap.size ≤ b1 by omega)
    rw [← h1] at K1 ⊢
    rw [← h0] at K0 ⊢
    have n01 : b0 ≠ b1 := by omega
    clear hX h1 h0
    refine (HRC.out _ HX0.out).mono ?_
    rintro e wa ⟨rfl, hb⟩
    have AXa := Lib.hid (AX.out.trans (Below.mono hb AX.out.size)); have K0a := Lib.hid (K0.out.below hb); have K1a := Lib.hid (K1.out.below hb); have HXa := Lib.hid (HX0.out.below hb)
    clear hb AX K0 K1 HX0
    obtain ⟨t0, t1, t2, t3, t4, t5, t6, t7, t8, t9⟩ := K1a.out.cells10
    have l1 := K1a.out.lt; have f0 := K1a.out.froz 0; have f1 := K1a.out.froz 1; have f2 := K1a.out.froz 2; have f3 := K1a.out.froz 3; have f4 := K1a.out.froz 4; have f5 := K1a.out.froz 5; have f6 := K1a.out.froz 6; have f7 := K1a.out.froz 7; have f8 := K1a.out.froz 8; have f9 := K1a.out.froz 9
    have E1 := Lib.hid (K1a.out.st10 (.int .i64 0) (.bool false) (.int .i64 0) (.int .i64 0) (.slice none 0 0) (.int .i64 0) (.int .i64 0) (.int .i64 0) (.slice none 0 0) (.slice none 0 0))
    have E3 := Lib.hid (below_st10 AXa.out HBW.out (.int .i64 0) (.bool false) (.int .i64 0) (.int .i64 0) (.slice none 0 0) (.int .i64 0) (.int .i64 0) (.int .i64 0) (.slice none 0 0) (.slice none 0 0))
    go_wp2_with fail
    exact bodyPost_ret (v := .tuple #[.agg zero10, .int .i64 1]) (by rw [res_c1 Try.results11 _ (by rfl) (E1.out.load Try.underlying27 infC)]; rfl) rfl ⟨zeroA, rfl, Cha.zero _, fun _ _ => ⟨(fun y h => by cases h), (fun y h => by cases h), (fun y h => by cases h)⟩, E3.out⟩
set_option maxRecDepth 100000 in
set_option maxHeartbeats 4000000 in
theorem Leave_ok (c : Chn) (q : CAt) (g : Int) (w : World) (h : Cha w c q) (hr : rightC c = true) (hg : 0 ≤ g) (hgI : I64 g) : Calls Try.prog 11 #[chV c q, .int .i64 g] w (GotN w (leaveC c g) 0) := by
  have h1 := Lib.hid (right_small h hr)
  have HCP := Lib.hid (fun W (H : Cha W c q) => copied_any c q W H h1.out.1 h1.out.2.1 h1.out.2.2)
  obtain ⟨n, f, k, gd⟩ := good_of hr
  have HLV := Lib.hid (fun W B q (H : Wk W B c q ⟨0, 0, 0⟩) => leave_any B c q ⟨0, 0, 0⟩ g W H gd.sends gd.recvs hg hgI)
  unfold Did at HLV
  have AX := Lib.hid ((below_alloc w (.cells (chC c q) 27)).alloc (by simp) (.cells zero10 27))
  have K0 := Lib.hid ((Bx.new w (chC c q) 27).below (below_alloc _ (.cells zero10 27)))
  have K1 := Lib.hid (Bx.new2 w (.cells (chC c q) 27) zero10 27)
  have HX0 := Lib.hid (h.below AX.out)
  have HRC := Lib.hid (fun W (H : Cha W c q) => Right_c c q W H)
  rw [hr] at HRC
  clear h hr hgI gd
  go_enter Try.func11, Try.ntmps11
  go_wp2_with fail
  obtain ⟨X, hX⟩ : ∃ X, X = (w.alloc (.cells (chC c q) 27)).alloc (.cells zero10 27) := ⟨_, rfl⟩
  rw [← hX] at AX K0 K1 HX0 ⊢
  obtain ⟨b1, h1⟩ : ∃ b, b = w.heap.size + 1 := ⟨_, rfl⟩
  obtain ⟨b0, h0⟩ : ∃ b, b = w.heap.size := ⟨_, rfl⟩
  have HBW := Lib.hid (show w.heap.size ≤ b1 by omega)
  rw [← h1] at K1 ⊢
  rw [← h0] at K0 ⊢
  have n01 : b0 ≠ b1 := by omega
  clear hX h1 h0
  refine (HRC.out _ HX0.out).mono ?_
  rintro e wa ⟨rfl, hb⟩
  have AXa := Lib.hid (AX.out.trans (Below.mono hb AX.out.size)); have K0a := Lib.hid (K0.out.below hb); have K1a := Lib.hid (K1.out.below hb); have HXa := Lib.hid (HX0.out.below hb)
  clear hb AX K0 K1 HX0
  obtain ⟨t0, t1, t2, t3, t4, t5, t6, t7, t8, t9⟩ := K0a.out.cells10
  have l0 := K0a.out.lt
  go_wp2_with fail
  refine (HCP.out _ HXa.out).mono ?_
  rintro e wb ⟨q', rfl, hc, hb, hf⟩
  have AXb := Lib.hid (AXa.out.trans (Below.mono hb AXa.out.size)); have K1b := Lib.hid (K1a.out.below hb); have HC := Lib.hid hc; have AP1 := Lib.hid (hf b1 K1a.out.lt)
  have FR := Lib.hid (show ∀ B, B < w.heap.size → Ap q' B from fun B hB => hf B (Nat.lt_of_lt_of_le hB AXa.out.size))
  clear hc hb hf t0 t1 t2 t3 t4 t5 t6 t7 t8 t9 l0 AXa K0a K1a HXa
  have AY := Lib.hid (AXb.out.alloc AXb.out.size (.cells (wkC c q' ⟨0, 0, 0⟩) 61)); have K1y := Lib.hid (K1b.out.below (below_alloc wb (.cells (wkC c q' ⟨0, 0, 0⟩) 61))); have WY := Lib.hid (show Wk (wb.alloc (.cells (wkC c q' ⟨0, 0, 0⟩) 61)) wb.heap.size c q' ⟨0, 0, 0⟩ from ⟨Bx.new wb _ 61, HC.out.below (below_alloc wb _), HC.out.ap (Nat.le_refl _)⟩)
  have m1 := K1b.out.lt
  go_upto_region 4 with (fail)
  obtain ⟨Y, hYe⟩ : ∃ Y, Y = wb.alloc (.cells (wkC c q' ⟨0, 0, 0⟩) 61) := ⟨_, rfl⟩
  obtain ⟨B, hB⟩ : ∃ b, b = wb.heap.size := ⟨_, rfl⟩
  rw [← hYe] at AY K1y WY ⊢
  rw [← hB] at WY m1 ⊢
  have HBB := Lib.hid (show w.heap.size ≤ B by rw [hB]; exact AXb.out.size)
  have nB1 : b1 ≠ B := by omega
  clear hYe hB m1 AXb K1b HC
  go_wp2_with fail
  refine (HLV.out _ _ _ WY.out).mono ?_
  rintro e wd ⟨qd, rfl, hw, hgr, hk⟩
  have WD := Lib.hid hw; have K1d := Lib.hid (K1y.out.other hgr (fun e => nB1 (by cases e; rfl))); have APd := Lib.hid (hk b1 K1y.out.lt AP1.out); have AD := Lib.hid (show Below w.heap.size w wd from AY.out.grown hgr AY.out.size (fun k hk => by cases hk; exact HBB.out))
  have FRd := Lib.hid (show ∀ B', B' < w.heap.size → Ap qd B' from fun B' hB' => hk B' (Nat.lt_of_lt_of_le hB' AY.out.size) (FR.out B' hB'))
  clear hw hgr hk
  obtain ⟨c2, hc2⟩ : ∃ c2, c2 = leaveC c g := ⟨_, rfl⟩
  have WD2 := Lib.hid (show Wk wd B (leaveC c g) qd ⟨0, 0, 0⟩ from WD.out)
  rw [← hc2] at WD2
  clear WD
  obtain ⟨y0, y1, y2, y3, y4, y5, y6, y7, y8, y9, y10, y11, y12⟩ := WD2.out.box.cells13
  obtain ⟨t0, t1, t2, t3, t4, t5, t6, t7, t8, t9⟩ := K1d.out.cells10
  have l1 := K1d.out.lt; have lB := WD2.out.box.lt; have f0 := K1d.out.froz 0; have f1 := K1d.out.froz 1; have f2 := K1d.out.froz 2; have f3 := K1d.out.froz 3; have f4 := K1d.out.froz 4; have f5 := K1d.out.froz 5; have f6 := K1d.out.froz 6; have f7 := K1d.out.froz 7; have f8 := K1d.out.froz 8; have f9 := K1d.out.froz 9
  have E1 := Lib.hid (K1d.out.st10 (.int .i64 c2.cap) (.bool c2.cl) (.int .i64 c2.rc) (.int .i64 c2.rf) (.slice qd.za qd.zn qd.zc) (.int .i64 c2.rk) (.int .i64 c2.sent) (.int .i64 c2.got) (.slice qd.sa qd.sn qd.sc) (.slice qd.ra qd.rn qd.rq))
  have E3 := Lib.hid (below_st10 AD.out HBW.out (.int .i64 c2.cap) (.bool c2.cl) (.int .i64 c2.rc) (.int .i64 c2.rf) (.slice qd.za qd.zn qd.zc) (.int .i64 c2.rk) (.int .i64 c2.sent) (.int .i64 c2.got) (.slice qd.sa qd.sn qd.sc) (.slice qd.ra qd.rn qd.rq))
  have E4 := Lib.hid (WD2.out.ch.other APd.out (grown_st10 (World.grownBy.refl _ _) (.int .i64 c2.cap) (.bool c2.cl) (.int .i64 c2.rc) (.int .i64 c2.rf) (.slice qd.za qd.zn qd.zc) (.int .i64 c2.rk) (.int .i64 c2.sent) (.int .i64 c2.got) (.slice qd.sa qd.sn qd.sc) (.slice qd.ra qd.rn qd.rq)))
  go_wp2_with fail
  rw [← hc2]
  exact bodyPost_ret (v := .tuple #[chV c2 qd, .int .i64 0]) (by rw [res_c1 Try.results11 _ (by rfl) (E1.out.load Try.underlying27 infC)]; rfl) rfl ⟨qd, rfl, E4.out, FRd.out, E3.out⟩
end Go.Proofs.Ytfolhgpbplfilaa
namespace Go.Proofs.Ytfolhgpbplfilaa
open Go.RowKit
def GotB (w : World) (r : Bool) (why : Int) (e : Ending) (w' : World) : Prop := e = .returned (.tuple #[.bool r, .int .i64 why]) ∧ Below w.heap.size w w'
/-- would a send, or a receive, of g not wait? -/
def readyZ (c : Chn) (send : Bool) (g : Int) : Bool :=
  if c.cap < 0 then false else if c.cl = true then true
  else if send = true then decide (c.rk < c.rc) || someB (firstW c.recvs g) else decide (0 < c.rk) || someB (firstW c.sends g)
set_option maxRecDepth 100000 in
set_option maxHeartbeats 4000000 in
theorem Ready_bad (c : Chn) (q : CAt) (send : Bool) (g : Int) (w : World) (h : Cha w c q) (hbad : rightC c = false ∨ g < 0) : Calls Try.prog 9 #[chV c q, .bool send, .int .i64 g] w (GotB w false 1) := by
  have AX := Lib.hid (below_alloc w (.cells (chC c q) 27))
  have K0 := Lib.hid (Bx.new w (chC c q) 27)
  have HX0 := Lib.hid (h.below AX.out)
  have HRC := Lib.hid (fun W (H : Cha W c q) => Right_c c q W H)
  clear h
  have hcs : rightC c = false ∨ (rightC c = true ∧ g < 0) := by
    cases hr : rightC c
    · exact .inl rfl
    · exact .inr ⟨rfl, hbad.resolve_left (by rw [hr]; decide)⟩
  clear hbad
  rcases hcs with hr | ⟨hr, hg⟩
  all_goals
    rw [hr] at HRC
    clear hr
    go_enter Try.func9, Try.ntmps9
    go_wp2_with fail
    refine (HRC.out _ HX0.out).mono ?_
    rintro e wa ⟨rfl, hb⟩
    have AXa := Lib.hid (AX.out.trans (Below.mono hb AX.out.size)); have K0a := Lib.hid (K0.out.below hb); have HXa := Lib.hid (HX0.out.below hb)
    have LB0 := Lib.hid K0.out.lt
    clear hb AX K0 HX0
    go_wp2_with fail
    go_ret2
    exact ⟨rfl, AXa.out⟩
set_option maxRecDepth 100000 in
set_option maxHeartbeats 4000000 in
theorem Ready_ok (c : Chn) (q : CAt) (send : Bool) (g : Int) (w : World) (h : Cha w c q) (hr : rightC c = true) (hg : 0 ≤ g) (hgI : I64 g) : Calls Try.prog 9 #[chV c q, .bool send, .int .i64 g] w (GotB w (readyZ c send g) 0) := by
  obtain ⟨n, f, k, gd⟩ := good_of hr
  have HOR := Lib.hid (fun W B (H : Wk W B c q ⟨g, 0, 0⟩) => isOther_any B c q ⟨g, 0, 0⟩ q.ra q.rn q.rq c.recvs W H H.ch.recvs gd.recvs hg hgI)
  have HOS := Lib.hid (fun W B (H : Wk W B c q ⟨g, 0, 0⟩) => isOther_any B c q ⟨g, 0, 0⟩ q.sa q.sn q.sc c.sends W H H.ch.sends gd.sends hg hgI)
  have HRM := Lib.hid (fun W B (H : Wk W B c q ⟨g, 0, 0⟩) r (hr : decide (c.rk < c.rc) = r) => hasRoom_any B c q ⟨g, 0, 0⟩ W H r hr)
  simp only at HOR HOS
  obtain ⟨orr, horr⟩ : ∃ b, b = someB (firstW c.recvs g) := ⟨_, rfl⟩
  obtain ⟨oss, hoss⟩ : ∃ b, b = someB (firstW c.sends g) := ⟨_, rfl⟩
  rw [← horr] at HOR
  rw [← hoss] at HOS
  have HZ := Lib.hid (show readyZ c send g = if c.cap < 0 then false else if c.cl = true then true else if send = true then decide (c.rk < c.rc) || orr else decide (0 < c.rk) || oss by rw [horr, hoss]; rfl)
  clear horr hoss
  obtain ⟨z, hz⟩ : ∃ z, z = readyZ c send g := ⟨_, rfl⟩
  rw [← hz] at HZ ⊢
  clear hz
  have AX := Lib.hid (below_alloc w (.cells (chC c q) 27))
  have K0 := Lib.hid (Bx.new w (chC c q) 27)
  have HX0 := Lib.hid (h.below AX.out)
  have HRC := Lib.hid (fun W (H : Cha W c q) => Right_c c q W H)
  rw [hr] at HRC
  clear h hr hgI gd
  go_enter Try.func9, Try.ntmps9
  go_wp2_with fail
  refine (HRC.out _ HX0.out).mono ?_
  rintro e wa ⟨rfl, hb⟩
  have AXa := Lib.hid (AX.out.trans (Below.mono hb AX.out.size)); have K0a := Lib.hid (K0.out.below hb); have HXa := Lib.hid (HX0.out.below hb)
  have LB0 := Lib.hid K0.out.lt
  clear hb AX K0 HX0
  obtain ⟨t0, t1, t2, t3, t4, t5, t6, t7, t8, t9⟩ := K0a.out.cells10
  have l0 := K0a.out.lt
  by_cases hcap : c.cap < 0
  · have HZ1 := Lib.hid (show z = false by rw [HZ.out, if_pos hcap])
    go_wp2_with fail
    go_ret2
    exact ⟨by have hz := HZ1.out; subst hz; rfl, AXa.out⟩
  · have AY := Lib.hid (AXa.out.alloc AXa.out.size (.cells (wkC c q ⟨g, 0, 0⟩) 61)); have WY := Lib.hid (show Wk (wa.alloc (.cells (wkC c q ⟨g, 0, 0⟩) 61)) wa.heap.size c q ⟨g, 0, 0⟩ from ⟨Bx.new wa _ 61, HXa.out.below (below_alloc wa _), HXa.out.ap (Nat.le_refl _)⟩)
    go_upto_region 6 with (fail)
    obtain ⟨Y, hYe⟩ : ∃ Y, Y = wa.alloc (.cells (wkC c q ⟨g, 0, 0⟩) 61) := ⟨_, rfl⟩
    obtain ⟨B, hB⟩ : ∃ b, b = wa.heap.size := ⟨_, rfl⟩
    rw [← hYe] at AY WY ⊢
    rw [← hB] at WY ⊢
    clear hYe hB t0 t1 t2 t3 t4 t5 t6 t7 t8 t9 l0
    obtain ⟨y0, y1, y2, y3, y4, y5, y6, y7, y8, y9, y10, y11, y12⟩ := WY.out.box.cells13
    cases hcl : c.cl with
    | true =>
      have HZ1 := Lib.hid (show z = true by rw [HZ.out, if_neg (by omega), if_pos hcl])
      rw [hcl] at y1
      clear hcl
      cases send
      all_goals
        go_wp2_with fail
        go_ret2
        exact ⟨by have hz := HZ1.out; subst hz; rfl, AY.out⟩
    | false =>
      rw [hcl] at y1
      have HCL := Lib.hid hcl
      clear hcl
      cases send with
      | true =>
        cases hrm : decide (c.rk < c.rc) with
        | true =>
          have HZ1 := Lib.hid (show z = true by rw [HZ.out, if_neg (by omega), if_neg (by rw [HCL.out]; decide), if_pos rfl, hrm]; rfl)
          have HR1 := Lib.hid (fun W B H => HRM.out W B H true hrm)
          clear hrm
          go_wp2_with fail
          refine (HR1.out _ _ WY.out).mono ?_
          rintro e wb ⟨rfl, hb⟩
          have AZ := Lib.hid (AY.out.trans (Below.mono hb AY.out.size))
          clear hb y0 y1 y2 y3 y4 y5 y6 y7 y8 y9 y10 y11 y12
          go_wp2_with fail
          go_ret2
          exact ⟨by have hz := HZ1.out; subst hz; rfl, AZ.out⟩
        | false =>
          have HZ1 := Lib.hid (show z = orr by rw [HZ.out, if_neg (by omega), if_neg (by rw [HCL.out]; decide), if_pos rfl, hrm]; rfl)
          have HR1 := Lib.hid (fun W B H => HRM.out W B H false hrm)
          clear hrm
          go_wp2_with fail
          refine (HR1.out _ _ WY.out).mono ?_
          rintro e wb ⟨rfl, hb⟩
          have AZ := Lib.hid (AY.out.trans (Below.mono hb AY.out.size)); have WZ := Lib.hid (WY.out.below hb)
          clear hb y0 y1 y2 y3 y4 y5 y6 y7 y8 y9 y10 y11 y12
          obtain ⟨y0, y1, y2, y3, y4, y5, y6, y7, y8, y9, y10, y11, y12⟩ := WZ.out.box.cells13
          go_wp2_with fail
          refine (HOR.out _ _ WZ.out).mono ?_
          rintro e wc ⟨rfl, hb⟩
          have AV := Lib.hid (AZ.out.trans (Below.mono hb AZ.out.size))
          clear hb y0 y1 y2 y3 y4 y5 y6 y7 y8 y9 y10 y11 y12
          go_wp2_with fail
          go_ret2
          exact ⟨by have hz := HZ1.out; subst hz; rfl, AV.out⟩
      | false =>
        by_cases hk : 0 < c.rk
        · have HZ1 := Lib.hid (show z = true by rw [HZ.out, if_neg (by omega), if_neg (by rw [HCL.out]; decide), if_neg (by decide), decide_eq_true hk]; rfl)
          go_wp2_with fail
          go_ret2
          exact ⟨by have hz := HZ1.out; subst hz; rfl, AY.out⟩
        · have HZ1 := Lib.hid (show z = oss by rw [HZ.out, if_neg (by omega), if_neg (by rw [HCL.out]; decide), if_neg (by decide), decide_eq_false hk]; rfl)
          go_wp2_with fail
          refine (HOS.out _ _ WY.out).mono ?_
          rintro e wc ⟨rfl, hb⟩
          have AV := Lib.hid (AY.out.trans (Below.mono hb AY.out.size))
          clear hb y0 y1 y2 y3 y4 y5 y6 y7 y8 y9 y10 y11 y12
          go_wp2_with fail
          go_ret2
          exact ⟨by have hz := HZ1.out; subst hz; rfl, AV.out⟩
end Go.Proofs.Ytfolhgpbplfilaa
namespace Go.Proofs.Ytfolhgpbplfilaa
open Go.RowKit
theorem good_leave {c : Chn} {n f k : Nat} (g : Good c n f k) (x : Int) : Good (leaveC c x) n f k :=
  ⟨g.cap0, g.cap3, g.rcn, g.rcm, g.rfn, g.rkn, g.n3, g.zl, g.fl, g.kl, g.s0, g.sm, g.g0, g.sg, g.items, right_drop g.sends x, right_drop g.recvs x,
    fun h => by obtain ⟨a, b, d, e⟩ := g.nil_ h; exact ⟨a, b, by simp only [leaveC]; rw [d]; rfl, by simp only [leaveC]; rw [e]; rfl⟩,
    fun h => by obtain ⟨a, b⟩ := g.clo h; exact ⟨by simp only [leaveC]; rw [a]; rfl, by simp only [leaveC]; rw [b]; rfl⟩,
    fun h => g.ful (fun he => h (by simp only [leaveC]; rw [he]; rfl)), fun h => g.emp (fun he => h (by simp only [leaveC]; rw [he]; rfl))⟩
theorem right_leave {c : Chn} (h : rightC c = true) (x : Int) : rightC (leaveC c x) = true := by
  obtain ⟨n, f, k, g⟩ := good_of h
  exact of_good (good_leave g x)
theorem same_refl {c : Chn} (h : rightC c = true) : SameC c c := by
  obtain ⟨n, f, k, g⟩ := good_of h
  exact ⟨rfl, rfl, rfl, rfl, rfl, rfl, n, f, f, k, g.rg, g.rg, rfl⟩
theorem drop_drop (L : List Wt) (x : Int) : dropW (dropW L x) x = dropW L x := by
  unfold dropW; rw [List.filter_filter]; simp
theorem drop_comm (L : List Wt) (x y : Int) : dropW (dropW L x) y = dropW (dropW L y) x := by
  unfold dropW; rw [List.filter_filter, List.filter_filter]
  congr 1; funext z; exact Bool.and_comm _ _
theorem leave_leave (c : Chn) (x : Int) : leaveC (leaveC c x) x = leaveC c x := by simp only [leaveC, drop_drop]
theorem leave_comm (c : Chn) (x y : Int) : leaveC (leaveC c x) y = leaveC (leaveC c y) x := by simp only [leaveC, drop_comm c.sends x y, drop_comm c.recvs x y]
theorem first_drop (L : List Wt) (x : Int) : firstW (dropW L x) x = firstW L x := by
  unfold firstW dropW
  induction L with
  | nil => rfl
  | cons y ys ih =>
    rw [List.filter_cons]
    by_cases h : (y.g != x) = true
    · rw [if_pos h]; simp only [List.find?_cons, h]
    · have h' : (y.g != x) = false := by simpa using h
      rw [if_neg h, ih]; simp only [List.find?_cons, h']
theorem ready_leave (c : Chn) (send : Bool) (x : Int) : readyZ (leaveC c x) send x = readyZ c send x := by
  unfold readyZ
  simp only [leaveC, first_drop]
  rfl
theorem left_gone {c : Chn} {x : Int} {y : Wt} (h : y ∈ (leaveC c x).sends ++ (leaveC c x).recvs) : (y.g == x) = false := by
  rcases List.mem_append.1 h with h | h
  · have := (List.mem_filter.1 h).2; simpa using this
  · have := (List.mem_filter.1 h).2; simpa using this
set_option maxRecDepth 100000 in
set_option maxHeartbeats 4000000 in
theorem empty_zero (q : CAt) (w : World) (h : Cha w zeroC q) : Calls Try.prog 15 #[chV zeroC q] w fun e w' => e = .returned (.bool true) ∧ Below w.heap.size w w' := by
  have h1 : q.zn = 0 := h.zs.len_eq.symm
  have h2 : q.sn = 0 := h.sends.recs.len_eq.symm
  have h3 : q.rn = 0 := h.recvs.recs.len_eq.symm
  clear h
  have HE := Lib.hid (show ∀ W, Calls Try.prog 15 #[.agg #[.int .i64 0, .bool false, .int .i64 0, .int .i64 0, .slice q.za 0 q.zc, .int .i64 0, .int .i64 0, .int .i64 0, .slice q.sa 0 q.sc, .slice q.ra 0 q.rq]] W (fun e w' => e = .returned (.bool true) ∧ Below W.heap.size W w') from fun W => by
    go_enter Try.func15, Try.ntmps15
    go_wp2_with fail
    go_ret
    exact ⟨rfl, below_alloc _ _⟩)
  have e : chV zeroC q = .agg #[.int .i64 0, .bool false, .int .i64 0, .int .i64 0, .slice q.za 0 q.zc, .int .i64 0, .int .i64 0, .int .i64 0, .slice q.sa 0 q.sc, .slice q.ra 0 q.rq] := by
    simp only [chV, chC, zeroC, h1, h2, h3]
  rw [e]; exact HE.out w
end Go.Proofs.Ytfolhgpbplfilaa
