/- Close. -/
import Derived.Test.YtfolhgpbplfilaaD2
namespace Go.Proofs.Ytfolhgpbplfilaa
open Go.RowKit
def GotX (w : World) (c : Chn) (told : List Wt) (panics : Bool) (why : Int) (e : Ending) (w' : World) : Prop := ∃ q a n p, e = .returned (.tuple #[chV c q, .slice a n p, .bool panics, .int .i64 why]) ∧ Cha w' c q ∧ Wts w' a n p told ∧ (∀ B, B < w.heap.size → Ap q B) ∧ Below w.heap.size w w'
/-- does a channel's closing panic? -/
def panicC (c : Chn) : Bool := decide (c.cap < 0) || (c.cl || !c.sends.isEmpty)
def closeC (c : Chn) : Chn := { c with cl := true, recvs := [] }
def closedC (c : Chn) : Chn := if panicC c = true then c else closeC c
def toldC (c : Chn) : List Wt := if panicC c = true then [] else c.recvs
set_option maxRecDepth 100000 in
set_option maxHeartbeats 6000000 in
theorem Close_bad (c : Chn) (q : CAt) (w : World) (h : Cha w c q) (hr : rightC c = false) : Calls Try.prog 10 #[chV c q] w (GotX w zeroC [] false 1) := by
  have AX := Lib.hid ((below_alloc w (.cells (chC c q) 27)).alloc (by simp) (.cells zero10 27))
  have K0 := Lib.hid ((Bx.new w (chC c q) 27).below (below_alloc _ (.cells zero10 27)))
  have K1 := Lib.hid (Bx.new2 w (.cells (chC c q) 27) zero10 27)
  have HX0 := Lib.hid (h.below AX.out)
  have HRC := Lib.hid (fun W (H : Cha W c q) => Right_c c q W H)
  rw [hr] at HRC
  clear h hr
  go_enter Try.func10, Try.ntmps10
  go_wp2_with fail
  obtain ⟨X, hX⟩ : ∃ X, X = (w.alloc (.cells (chC c q) 27)).alloc (.cells zero10 27) := ⟨_, rfl⟩
  rw [← hX] at AX K0 K1 HX0 ⊢
  obtain ⟨b1, h1⟩ : ∃ b, b = w.heap.size + 1 := ⟨_, rfl⟩
  obtain ⟨b0, h0⟩ : ∃ b, b = w.heap.size := ⟨_, rfl⟩
  have HBW := Lib.hid (show w.heap.size ≤ b1 by omega)
  rw [← h1] at K1 ⊢
  rw [← h0] at K0 ⊢
  have n01 : b0 ≠ b1 := by omega
  clear hX h1 h0
  refine (HRC.out _ HX0.out).mono ?_
  rintro e wa ⟨rfl, hb⟩
  have AXa := Lib.hid (AX.out.trans (Below.mono hb AX.out.size)); have K0a := Lib.hid (K0.out.below hb); have K1a := Lib.hid (K1.out.below hb); have HXa := Lib.hid (HX0.out.below hb)
  clear hb AX K0 K1 HX0
  obtain ⟨t0, t1, t2, t3, t4, t5, t6, t7, t8, t9⟩ := K1a.out.cells10
  have l1 := K1a.out.lt; have f0 := K1a.out.froz 0; have f1 := K1a.out.froz 1; have f2 := K1a.out.froz 2; have f3 := K1a.out.froz 3; have f4 := K1a.out.froz 4; have f5 := K1a.out.froz 5; have f6 := K1a.out.froz 6; have f7 := K1a.out.froz 7; have f8 := K1a.out.froz 8; have f9 := K1a.out.froz 9
  have E1 := Lib.hid (K1a.out.st10 (.int .i64 0) (.bool false) (.int .i64 0) (.int .i64 0) (.slice none 0 0) (.int .i64 0) (.int .i64 0) (.int .i64 0) (.slice none 0 0) (.slice none 0 0))
  have E3 := Lib.hid (below_st10 AXa.out HBW.out (.int .i64 0) (.bool false) (.int .i64 0) (.int .i64 0) (.slice none 0 0) (.int .i64 0) (.int .i64 0) (.int .i64 0) (.slice none 0 0) (.slice none 0 0))
  go_wp2_with fail
  exact bodyPost_ret (v := .tuple #[.agg zero10, .slice none 0 0, .bool false, .int .i64 1]) (by rw [res_c3 Try.results10 _ (by rfl) (E1.out.load Try.underlying27 infC)]; rfl) rfl ⟨zeroA, none, 0, 0, rfl, Cha.zero _, Wts.nil _, fun _ _ => ⟨(fun y h => by cases h), (fun y h => by cases h), (fun y h => by cases h)⟩, E3.out⟩
set_option maxRecDepth 100000 in
set_option maxHeartbeats 6000000 in
theorem Close_ok (c : Chn) (q : CAt) (w : World) (h : Cha w c q) (hr : rightC c = true) : Calls Try.prog 10 #[chV c q] w (GotX w (closedC c) (toldC c) (panicC c) 0) := by
  have h1 := Lib.hid (right_small h hr)
  have HCP := Lib.hid (fun W (H : Cha W c q) => copied_any c q W H h1.out.1 h1.out.2.1 h1.out.2.2)
  have AX := Lib.hid ((below_alloc w (.cells (chC c q) 27)).alloc (by simp) (.cells zero10 27))
  have K0 := Lib.hid ((Bx.new w (chC c q) 27).below (below_alloc _ (.cells zero10 27)))
  have K1 := Lib.hid (Bx.new2 w (.cells (chC c q) 27) zero10 27)
  have HX0 := Lib.hid (h.below AX.out)
  have HRC := Lib.hid (fun W (H : Cha W c q) => Right_c c q W H)
  rw [hr] at HRC
  have HSL := Lib.hid h.sends.recs.len_eq
  have hsn := h.sends.recs.len_le
  clear h hr
  go_enter Try.func10, Try.ntmps10
  go_wp2_with fail
  obtain ⟨X, hX⟩ : ∃ X, X = (w.alloc (.cells (chC c q) 27)).alloc (.cells zero10 27) := ⟨_, rfl⟩
  rw [← hX] at AX K0 K1 HX0 ⊢
  obtain ⟨b1, h1⟩ : ∃ b, b = w.heap.size + 1 := ⟨_, rfl⟩
  obtain ⟨b0, h0⟩ : ∃ b, b = w.heap.size := ⟨_, rfl⟩
  have HBW := Lib.hid (show w.heap.size ≤ b1 by omega)
  rw [← h1] at K1 ⊢
  rw [← h0] at K0 ⊢
  have n01 : b0 ≠ b1 := by omega
  clear hX h1 h0
  refine (HRC.out _ HX0.out).mono ?_
  rintro e wa ⟨rfl, hb⟩
  have AXa := Lib.hid (AX.out.trans (Below.mono hb AX.out.size)); have K0a := Lib.hid (K0.out.below hb); have K1a := Lib.hid (K1.out.below hb); have HXa := Lib.hid (HX0.out.below hb)
  clear hb AX K0 K1 HX0
  obtain ⟨t0, t1, t2, t3, t4, t5, t6, t7, t8, t9⟩ := K0a.out.cells10
  have l0 := K0a.out.lt
  go_wp2_with fail
  refine (HCP.out _ HXa.out).mono ?_
  rintro e wb ⟨q', rfl, hc, hb, hf⟩
  have AXb := Lib.hid (AXa.out.trans (Below.mono hb AXa.out.size)); have K0b := Lib.hid (K0a.out.below hb); have K1b := Lib.hid (K1a.out.below hb); have HC := Lib.hid hc; have AP1 := Lib.hid (hf b1 K1a.out.lt)
  have FR := Lib.hid (show ∀ B, B < w.heap.size → Ap q' B from fun B hB => hf B (Nat.lt_of_lt_of_le hB AXa.out.size))
  clear hc hb hf t0 t1 t2 t3 t4 t5 t6 t7 t8 t9 l0 AXa K0a K1a HXa
  have AY := Lib.hid (AXb.out.alloc AXb.out.size (.cells (chC c q') 27)); have K0y := Lib.hid (K0b.out.below (below_alloc wb (.cells (chC c q') 27))); have K1y := Lib.hid (K1b.out.below (below_alloc wb (.cells (chC c q') 27))); have Y1 := Lib.hid (Bx.new wb (chC c q') 27); have HY := Lib.hid (HC.out.below (below_alloc wb (.cells (chC c q') 27))); have APY := Lib.hid (HC.out.ap (Nat.le_refl _))
  have m0 := K0b.out.lt; have m1 := K1b.out.lt
  go_upto_region 4 with (fail)
  obtain ⟨Y, hYe⟩ : ∃ Y, Y = wb.alloc (.cells (chC c q') 27) := ⟨_, rfl⟩
  obtain ⟨by_, hby⟩ : ∃ b, b = wb.heap.size := ⟨_, rfl⟩
  rw [← hYe] at AY K0y K1y Y1 HY ⊢
  rw [← hby] at Y1 APY m0 m1 ⊢
  have HBY := Lib.hid (show w.heap.size ≤ by_ by rw [hby]; exact AXb.out.size)
  have ny0 : by_ ≠ b0 := by omega
  have ny1 : by_ ≠ b1 := by omega
  clear hYe hby m0 m1 AXb K0b K1b HC
  obtain ⟨t0, t1, t2, t3, t4, t5, t6, t7, t8, t9⟩ := K0y.out.cells10
  obtain ⟨y0, y1, y2, y3, y4, y5, y6, y7, y8, y9⟩ := Y1.out.cells10
  obtain ⟨u0, u1, u2, u3, u4, u5, u6, u7, u8, u9⟩ := K1y.out.cells10
  have l0 := K0y.out.lt; have l1 := K1y.out.lt; have ly := Y1.out.lt; have f0 := K1y.out.froz 0; have f1 := K1y.out.froz 1; have f2 := K1y.out.froz 2; have f3 := K1y.out.froz 3; have f4 := K1y.out.froz 4; have f5 := K1y.out.froz 5; have f6 := K1y.out.froz 6; have f7 := K1y.out.froz 7; have f8 := K1y.out.froz 8; have f9 := K1y.out.froz 9; have g1 := Y1.out.froz 1; have g9 := Y1.out.froz 9
  cases hp : panicC c with
  | true =>
    have HP := Lib.hid hp
    have HP1 := Lib.hid (show closedC c = c from if_pos hp)
    have HP2 := Lib.hid (show toldC c = [] from if_pos hp)
    have E1 := Lib.hid (K1y.out.st10 (.int .i64 c.cap) (.bool c.cl) (.int .i64 c.rc) (.int .i64 c.rf) (.slice q'.za q'.zn q'.zc) (.int .i64 c.rk) (.int .i64 c.sent) (.int .i64 c.got) (.slice q'.sa q'.sn q'.sc) (.slice q'.ra q'.rn q'.rq))
    have E3 := Lib.hid (below_st10 AY.out HBW.out (.int .i64 c.cap) (.bool c.cl) (.int .i64 c.rc) (.int .i64 c.rf) (.slice q'.za q'.zn q'.zc) (.int .i64 c.rk) (.int .i64 c.sent) (.int .i64 c.got) (.slice q'.sa q'.sn q'.sc) (.slice q'.ra q'.rn q'.rq))
    have CE := Lib.hid (HY.out.other AP1.out (grown_st10 (World.grownBy.refl _ (some b1)) (.int .i64 c.cap) (.bool c.cl) (.int .i64 c.rc) (.int .i64 c.rf) (.slice q'.za q'.zn q'.zc) (.int .i64 c.rk) (.int .i64 c.sent) (.int .i64 c.got) (.slice q'.sa q'.sn q'.sc) (.slice q'.ra q'.rn q'.rq)))
    by_cases hcap : c.cap < 0
    · clear hp
      go_wp2_with fail
      exact bodyPost_ret (v := .tuple #[chV c q', .slice none 0 0, .bool true, .int .i64 0]) (by rw [res_c3 Try.results10 _ (by rfl) (E1.out.load Try.underlying27 infC)]; rfl) rfl ⟨q', none, 0, 0, by rw [HP1.out, HP.out], by rw [HP1.out]; exact CE.out, by rw [HP2.out]; exact Wts.nil _, FR.out, E3.out⟩
    · cases hcl : c.cl with
      | true =>
        rw [hcl] at t1
        have HCL := Lib.hid hcl
        clear hp hcl
        go_wp2_with fail
        exact bodyPost_ret (v := .tuple #[chV c q', .slice none 0 0, .bool true, .int .i64 0]) (by rw [res_c3 Try.results10 _ (by rfl) (E1.out.load Try.underlying27 infC)]; rfl) rfl ⟨q', none, 0, 0, by rw [HP1.out, HP.out], by rw [HP1.out]; exact CE.out, by rw [HP2.out]; exact Wts.nil _, FR.out, E3.out⟩
      | false =>
        rw [hcl] at t1
        have hsp : 0 < q.sn := by
          simp only [panicC, hcl, Bool.or_eq_true, decide_eq_true_eq, Bool.not_eq_true', Bool.false_eq_true, false_or] at hp
          rcases hp with hp | hp
          · exact absurd hp hcap
          · rw [← HSL.out]; cases hss : c.sends with
            | nil => rw [hss] at hp; simp at hp
            | cons a b => simp
        have HCL := Lib.hid hcl
        clear hp hcl
        go_wp2_with fail
        exact bodyPost_ret (v := .tuple #[chV c q', .slice none 0 0, .bool true, .int .i64 0]) (by rw [res_c3 Try.results10 _ (by rfl) (E1.out.load Try.underlying27 infC)]; rfl) rfl ⟨q', none, 0, 0, by rw [HP1.out, HP.out], by rw [HP1.out]; exact CE.out, by rw [HP2.out]; exact Wts.nil _, FR.out, E3.out⟩
  | false =>
    have HP := Lib.hid hp
    have HP1 := Lib.hid (show closedC c = closeC c from if_neg (by rw [hp]; decide))
    have HP2 := Lib.hid (show toldC c = c.recvs from if_neg (by rw [hp]; decide))
    simp only [panicC, Bool.or_eq_false_iff, decide_eq_false_iff_not, Bool.not_eq_false', List.isEmpty_iff] at hp
    obtain ⟨hcap, hcl, hs⟩ := hp
    rw [hcl] at t1
    have hsp : q.sn = 0 := by rw [← HSL.out, hs]; rfl
    rw [hsp] at t8
    have HCL := Lib.hid hcl
    clear hsp hs hcl
    have G := Lib.hid (grow_set (grow_setCell Y by_ 1 (.bool true)) 9 (.slice none 0 0))
    have YB := Lib.hid ((Y1.out.set 1 (.bool true)).set 9 (.slice none 0 0))
    have HYZ := Lib.hid (HY.out.other APY.out G.out)
    have K1z := Lib.hid (K1y.out.other G.out (fun e => ny1 (by cases e; rfl)))
    have AZ := Lib.hid ((AY.out.setCell (p := ⟨by_, 1, none⟩) HBY.out (.bool true)).setCell (p := ⟨by_, 9, none⟩) HBY.out (.slice none 0 0))
    have E1 := Lib.hid (K1z.out.st10 (.int .i64 c.cap) (.bool true) (.int .i64 c.rc) (.int .i64 c.rf) (.slice q'.za q'.zn q'.zc) (.int .i64 c.rk) (.int .i64 c.sent) (.int .i64 c.got) (.slice q'.sa q'.sn q'.sc) (.slice none 0 0))
    have E3 := Lib.hid (below_st10 AZ.out HBW.out (.int .i64 c.cap) (.bool true) (.int .i64 c.rc) (.int .i64 c.rf) (.slice q'.za q'.zn q'.zc) (.int .i64 c.rk) (.int .i64 c.sent) (.int .i64 c.got) (.slice q'.sa q'.sn q'.sc) (.slice none 0 0))
    have CE := Lib.hid (HYZ.out.other AP1.out (grown_st10 (World.grownBy.refl _ (some b1)) (.int .i64 c.cap) (.bool true) (.int .i64 c.rc) (.int .i64 c.rf) (.slice q'.za q'.zn q'.zc) (.int .i64 c.rk) (.int .i64 c.sent) (.int .i64 c.got) (.slice q'.sa q'.sn q'.sc) (.slice none 0 0)))
    go_wp2_with fail
    exact bodyPost_ret (v := .tuple #[chV (closeC c) ⟨q'.za, q'.zn, q'.zc, q'.sa, q'.sn, q'.sc, none, 0, 0⟩, .slice q'.ra q'.rn q'.rq, .bool false, .int .i64 0]) (by rw [res_c3 Try.results10 _ (by rfl) (E1.out.load Try.underlying27 infC)]; rfl) rfl ⟨⟨q'.za, q'.zn, q'.zc, q'.sa, q'.sn, q'.sc, none, 0, 0⟩, q'.ra, q'.rn, q'.rq, by rw [HP1.out, HP.out], by rw [HP1.out]; exact ⟨CE.out.cap, CE.out.rc, CE.out.rf, CE.out.rk, CE.out.sent, CE.out.got, CE.out.zs, CE.out.sends, Wts.nil _⟩, by rw [HP2.out]; exact CE.out.recvs, fun B hB => ⟨(FR.out B hB).az, (FR.out B hB).asn, (fun y h => by cases h)⟩, E3.out⟩
end Go.Proofs.Ytfolhgpbplfilaa
