/- Copies, and what is told. -/
import Derived.Test.YtfolhgpbplfilaaC3
namespace Go.Proofs.Ytfolhgpbplfilaa
open Go.RowKit
abbrev zero10 : Array Value := #[.int .i64 0, .bool false, .int .i64 0, .int .i64 0, .slice none 0 0, .int .i64 0, .int .i64 0, .int .i64 0, .slice none 0 0, .slice none 0 0]
theorem int_own_nil (w : World) (base : Nat) : Own w base (.slice none 0 0) [] := ⟨rfl, .inl ⟨rfl, rfl⟩⟩
theorem int_own_empty {w : World} {base B : Nat} (h : w.heap[B]? = some (.cells #[] 3 (0, 0))) (hB : base ≤ B) : Own w base (.slice (some ⟨B, 0, none⟩) 0 0) [] :=
  ⟨rfl, .inr ⟨B, 0, #[], rfl, hB, h, Nat.le_refl _, by unfold maxLen; omega, rfl, rfl⟩⟩
set_option maxRecDepth 100000 in
set_option maxHeartbeats 2000000 in
theorem CloneI_any (a : Option Addr) (len cap : Nat) (L : List Int) (w : World) (hL : Ints w a len cap L) (hl : len ≤ 1000000) :
    Calls Try.prog 52 #[.slice a len cap] w fun e w' => ∃ v, e = .returned v ∧ Own w' w.heap.size v L ∧ Below w.heap.size w w' := by
  have HL := Lib.hid hL; clear hL
  cases a with
  | none =>
    have hn : len = 0 ∧ cap = 0 ∧ L = [] := by
      have h1 := HL.out.none_ rfl; have h2 := HL.out.le_cap; have h3 := HL.out.len_eq
      exact ⟨by omega, h1, List.eq_nil_of_length_eq_zero (by omega)⟩
    obtain ⟨rfl, rfl, rfl⟩ := hn
    have hk := @Lib.run_eql_slice_nil Try.prog
    go_enter Try.func52, Try.ntmps52
    go_wp2_with fail
    go_ret
    exact ⟨_, rfl, int_own_nil w _, Below.refl _ _⟩
  | some ad =>
    have hk := @Lib.run_eql_slice_nil Try.prog
    go_enter Try.func52, Try.ntmps52
    go_wp2_with (at_builtin; refine appN rfl _ _ rfl w.heap.size _ [] rfl (int_own_empty (heap_alloc_new w _) (Nat.le_refl _)) _ _ _ L rfl (HL.out.below (below_alloc w _)) (by simp) hl w (below_alloc w _) (by simp) ?_; intro v' w' ho hg)
    rw [List.nil_append] at ho
    go_wp2_with fail
    go_ret
    exact ⟨_, rfl, ho.out, hg.out⟩
set_option maxRecDepth 100000 in
set_option maxHeartbeats 2000000 in
theorem told_err (B : Nat) (o : Out) (why : Int) (w : World) (hw : (why != 0) = true) :
    Calls Try.prog 46 #[.pointer (some ⟨B, 0, none⟩), outV o, .int .i64 why] w fun e w' => e = .returned (.tuple #[.agg zero10, .agg zero6, .int .i64 why]) ∧ Below w.heap.size w w' := by
  have Z1 := Lib.hid ((Bx.new2 w (.cells (outC o) 50) zero10 27).below (below_alloc _ (.cells zero6 50)))
  have Z2 := Lib.hid (Bx.new3 w (.cells (outC o) 50) (.cells zero10 27) zero6 50)
  go_enter Try.func46, Try.ntmps46
  go_wp2_with fail
  refine bodyPost_ret (v := .tuple #[.agg zero10, .agg zero6, .int .i64 why]) (by rw [res_cc1 Try.results46 _ (by rfl) (Z1.out.load Try.underlying27 infC) (by rfl) (Z2.out.load Try.underlying50 infO)]; rfl) rfl ⟨rfl, ?_⟩
  exact ((below_alloc w _).alloc (by simp) _).alloc (by simp; omega) _
set_option maxRecDepth 100000 in
set_option maxHeartbeats 2000000 in
theorem told_ok (B : Nat) (c : Chn) (q : CAt) (x : Wt) (o : Out) (w : World) (h : Wk w B c q x) :
    Calls Try.prog 46 #[.pointer (some ⟨B, 0, none⟩), outV o, .int .i64 0] w fun e w' => e = .returned (.tuple #[chV c q, outV o, .int .i64 0]) ∧ Below w.heap.size w w' := by
  have A3 := Lib.hid (((below_alloc w (.cells (outC o) 50)).alloc (by simp) (.cells zero10 27)).alloc (by simp; omega) (.cells zero6 50))
  have HB := Lib.hid (h.box.below A3.out)
  have Z0 := Lib.hid (((Bx.new w (outC o) 50).below (below_alloc _ (.cells zero10 27))).below (below_alloc _ (.cells zero6 50)))
  have Z1 := Lib.hid ((Bx.new2 w (.cells (outC o) 50) zero10 27).below (below_alloc _ (.cells zero6 50)))
  have Z2 := Lib.hid (Bx.new3 w (.cells (outC o) 50) (.cells zero10 27) zero6 50)
  have lB := h.box.lt
  clear h
  go_enter Try.func46, Try.ntmps46
  go_wp2_with fail
  obtain ⟨X, hX⟩ : ∃ X, X = ((w.alloc (.cells (outC o) 50)).alloc (.cells zero10 27)).alloc (.cells zero6 50) := ⟨_, rfl⟩
  rw [← hX] at A3 HB Z0 Z1 Z2 ⊢
  try rw [show w.heap.size + 1 + 1 = w.heap.size + 2 from rfl]
  obtain ⟨b2, h2⟩ : ∃ b, b = w.heap.size + 2 := ⟨_, rfl⟩
  rw [← h2] at Z2 ⊢
  obtain ⟨b1, h1⟩ : ∃ b, b = w.heap.size + 1 := ⟨_, rfl⟩
  rw [← h1] at Z1 ⊢
  obtain ⟨b0, h0⟩ : ∃ b, b = w.heap.size := ⟨_, rfl⟩
  have HW := Lib.hid (show w.heap.size ≤ b1 ∧ w.heap.size ≤ b2 by omega)
  rw [← h0] at Z0 lB ⊢
  have n01 : b0 ≠ b1 := by omega
  have n02 : b0 ≠ b2 := by omega
  have n12 : b1 ≠ b2 := by omega
  have n21 : b2 ≠ b1 := by omega
  have nB1 : B ≠ b1 := by omega
  have nB2 : B ≠ b2 := by omega
  clear hX h2 h1 h0 lB
  obtain ⟨p0, p1, p2, p3, p4, p5, p6, p7, p8, p9, p10, p11, p12⟩ := HB.out.cells13
  obtain ⟨o0, o1, o2, o3, o4, o5⟩ := Z0.out.cells6
  obtain ⟨t0, t1, t2, t3, t4, t5, t6, t7, t8, t9⟩ := Z1.out.cells10
  obtain ⟨u0, u1, u2, u3, u4, u5⟩ := Z2.out.cells6
  have g0 := Z1.out.froz 0
  have g1 := Z1.out.froz 1
  have g2 := Z1.out.froz 2
  have g3 := Z1.out.froz 3
  have g4 := Z1.out.froz 4
  have g5 := Z1.out.froz 5
  have g6 := Z1.out.froz 6
  have g7 := Z1.out.froz 7
  have g8 := Z1.out.froz 8
  have g9 := Z1.out.froz 9
  have k0 := Z2.out.froz 0
  have k1 := Z2.out.froz 1
  have k2 := Z2.out.froz 2
  have k3 := Z2.out.froz 3
  have k4 := Z2.out.froz 4
  have k5 := Z2.out.froz 5
  have lX := HB.out.lt; have l0 := Z0.out.lt; have l1 := Z1.out.lt; have l2 := Z2.out.lt
  have E1 := Lib.hid (((Z1.out.st10 (.int .i64 c.cap) (.bool c.cl) (.int .i64 c.rc) (.int .i64 c.rf) (.slice q.za q.zn q.zc) (.int .i64 c.rk) (.int .i64 c.sent) (.int .i64 c.got) (.slice q.sa q.sn q.sc) (.slice q.ra q.rn q.rq)).other (grown_st6 (World.grownBy.refl _ (some b2)) (.int .i64 o.kind) (.int .i64 o.no) (.int .i64 o.who.g) (.int .i64 o.who.c) (.int .i64 o.who.s) (.int .i64 o.other)) (fun e => n12 (by cases e; rfl))).below (Below.refl _ _).drew)
  have E2 := Lib.hid (((Z2.out.other (grown_st10 (World.grownBy.refl _ (some b1)) (.int .i64 c.cap) (.bool c.cl) (.int .i64 c.rc) (.int .i64 c.rf) (.slice q.za q.zn q.zc) (.int .i64 c.rk) (.int .i64 c.sent) (.int .i64 c.got) (.slice q.sa q.sn q.sc) (.slice q.ra q.rn q.rq)) (fun e => n21 (by cases e; rfl))).st6 (.int .i64 o.kind) (.int .i64 o.no) (.int .i64 o.who.g) (.int .i64 o.who.c) (.int .i64 o.who.s) (.int .i64 o.other)).below (Below.refl _ _).drew)
  have E3 := Lib.hid ((below_st6 (below_st10 A3.out HW.out.1 (.int .i64 c.cap) (.bool c.cl) (.int .i64 c.rc) (.int .i64 c.rf) (.slice q.za q.zn q.zc) (.int .i64 c.rk) (.int .i64 c.sent) (.int .i64 c.got) (.slice q.sa q.sn q.sc) (.slice q.ra q.rn q.rq)) HW.out.2 (.int .i64 o.kind) (.int .i64 o.no) (.int .i64 o.who.g) (.int .i64 o.who.c) (.int .i64 o.who.s) (.int .i64 o.other)).drew)
  go_region
  all_goals
    go_wp2_with fail
    refine bodyPost_ret (v := .tuple #[chV c q, outV o, .int .i64 0]) (by rw [res_cc1 Try.results46 _ (by rfl) (E1.out.load Try.underlying27 infC) (by rfl) (E2.out.load Try.underlying50 infO)]; rfl) rfl ⟨rfl, ?_⟩
    exact E3.out

/-- what copied's copies leave -/
def Copd (w : World) (b0 b1 : Nat) (c : Chn) (W : World) : Prop := ∃ q, Bx W b0 (chC c q) 27 ∧ Bx W b1 zero10 27 ∧ Cha W c q ∧ Ap q b1 ∧ (∀ B, B < w.heap.size → Ap q B) ∧ Below w.heap.size w W
theorem copd_mk {w X W : World} {b0 b1 : Nat} {c : Chn} {q : CAt} {za : Option Addr} {zn zc : Nat} {vS vR : Value} {n m : Nat} (AX : Below w.heap.size w X) (HW : w.heap.size ≤ b0 ∧ w.heap.size ≤ b1) (Y0 : Bx X b0 (chC c ⟨za, zn, zc, q.sa, q.sn, q.sc, q.ra, q.rn, q.rq⟩) 27) (Y1 : Bx X b1 zero10 27)
    (HZ : Ints X za zn zc c.zs) (hza : ∀ y, za = some y → y.block ≠ b0 ∧ y.block ≠ b1 ∧ w.heap.size ≤ y.block) (hB : Below X.heap.size X W) (OS : OwnW W n vS c.sends) (OR : OwnW W m vR c.recvs) (HOK : (∀ i, I64 (en c.zs i)) ∧ (∀ x ∈ c.sends, WtOk x) ∧ (∀ x ∈ c.recvs, WtOk x)) (HN : Cha w c q) (hn : X.heap.size ≤ n) (hm : X.heap.size ≤ m) (n10 : b1 ≠ b0) :
    Copd w b0 b1 c ((W.setCell ⟨b0, 8, none⟩ vS).setCell ⟨b0, 9, none⟩ vR) := by
  obtain ⟨sa, sc, rfl, hs⟩ := OwnR.recs wcells_len OS
  obtain ⟨ra, rq, rfl, hr⟩ := OwnR.recs wcells_len OR
  have G : W.grownBy ((W.setCell ⟨b0, 8, none⟩ (.slice sa c.sends.length sc)).setCell ⟨b0, 9, none⟩ (.slice ra c.recvs.length rq)) (some b0) := grow_set (grow_setCell _ _ _ _) 9 _
  have lb := Y0.lt
  refine ⟨⟨za, zn, zc, sa, c.sends.length, sc, ra, c.recvs.length, rq⟩, ((Y0.below hB).set 8 _).set 9 _, (Y1.below hB).other G (fun e => n10 (by cases e; rfl)), ⟨HN.cap, HN.rc, HN.rf, HN.rk, HN.sent, HN.got, (HZ.below hB).other (fun y hy _ => (hza y hy).1) G, Wts.other ⟨hs, HOK.2.1⟩ (fun y hy _ he => ?_) G, Wts.other ⟨hr, HOK.2.2⟩ (fun y hy _ he => ?_) G⟩, ⟨fun y hy _ => (hza y hy).2.1, fun y hy _ he => ?_, fun y hy _ he => ?_⟩, fun Bo hBo => ⟨fun y hy _ he => by have := (hza y hy).2.2; omega, fun y hy _ he => ?_, fun y hy _ he => ?_⟩, ?_⟩
  · have hy' : sa = some y := hy
    have := OwnR.lt OS y.block (by rw [hy']; rfl); omega
  · have hy' : ra = some y := hy
    have := OwnR.lt OR y.block (by rw [hy']; rfl); omega
  · have hy' : sa = some y := hy
    have := OwnR.lt OS y.block (by rw [hy']; rfl); have := Y1.lt; omega
  · have hy' : ra = some y := hy
    have := OwnR.lt OR y.block (by rw [hy']; rfl); have := Y1.lt; omega
  · have hy' : sa = some y := hy
    have := OwnR.lt OS y.block (by rw [hy']; rfl); have := AX.size; omega
  · have hy' : ra = some y := hy
    have := OwnR.lt OR y.block (by rw [hy']; rfl); have := AX.size; omega
  · exact ((AX.trans (Below.mono hB AX.size)).setCell (p := ⟨b0, 8, none⟩) HW.1 _).setCell (p := ⟨b0, 9, none⟩) HW.1 _
set_option maxRecDepth 100000 in
set_option maxHeartbeats 2000000 in
theorem copied_any (c : Chn) (q : CAt) (w : World) (h : Cha w c q) (h1 : q.zn ≤ 1000000) (h2 : q.sn ≤ 1000000) (h3 : q.rn ≤ 1000000) :
    Calls Try.prog 31 #[chV c q] w fun e w' => ∃ q', e = .returned (chV c q') ∧ Cha w' c q' ∧ Below w.heap.size w w' ∧ ∀ B, B < w.heap.size → Ap q' B := by
  have HZ := Lib.hid (fun W (H : Ints W q.za q.zn q.zc c.zs) => CloneI_any q.za q.zn q.zc c.zs W H h1)
  have HS := Lib.hid (fun W (H : Wts W q.sa q.sn q.sc c.sends) => Clone_any q.sa q.sn q.sc c.sends W H h2)
  have HR := Lib.hid (fun W (H : Wts W q.ra q.rn q.rq c.recvs) => Clone_any q.ra q.rn q.rq c.recvs W H h3)
  clear h1 h2 h3
  have A2 := Lib.hid ((below_alloc w (.cells (chC c q) 27)).alloc (by simp) (.cells zero10 27))
  have HC := Lib.hid (h.below A2.out)
  have Z0 := Lib.hid ((Bx.new w (chC c q) 27).below (below_alloc _ (.cells zero10 27)))
  have Z1 := Lib.hid (Bx.new2 w (.cells (chC c q) 27) zero10 27)
  have HOK := Lib.hid (And.intro h.zs.bound (And.intro h.sends.ok h.recvs.ok))
  have HNU := Lib.hid h
  clear h
  go_enter Try.func31, Try.ntmps31
  go_wp2_with fail
  refine (HZ.out _ HC.out.zs).mono ?_
  rintro e w1 ⟨v1, rfl, ho1, hb1⟩
  obtain ⟨za, zc, rfl, hz1⟩ := ho1.ints HOK.out.1
  have HZ1 := Lib.hid hz1
  have FZ := Lib.hid (fun y (hy : za = some y) => World.ownsRow.lt ho1 y.block (by rw [hy]; rfl))
  have A1 := Lib.hid (A2.out.trans (Below.mono hb1 A2.out.size)); have HC1 := Lib.hid (HC.out.below hb1); have Z01 := Lib.hid (Z0.out.below hb1); have Z11 := Lib.hid (Z1.out.below hb1)
  have l0 := Z0.out.lt; have l1 := Z1.out.lt
  clear hb1 ho1 hz1
  obtain ⟨b1, h1⟩ : ∃ b, b = w.heap.size + 1 := ⟨_, rfl⟩
  rw [← h1] at Z1 Z11 l1 ⊢
  obtain ⟨b0, h0⟩ : ∃ b, b = w.heap.size := ⟨_, rfl⟩
  have HW := Lib.hid (show w.heap.size ≤ b0 ∧ w.heap.size ≤ b1 by omega)
  have HA := Lib.hid (show ∀ y, za = some y → y.block ≠ b0 ∧ y.block ≠ b1 ∧ w.heap.size ≤ y.block from fun y hy => by have := (FZ.out y hy).1; have := A2.out.size; have := l0; have := l1; omega)
  rw [← h0] at Z0 Z01 l0 ⊢
  have n01 : b0 ≠ b1 := by omega
  have n10 : b1 ≠ b0 := by omega
  clear h0 h1 l0 l1
  obtain ⟨t0, t1, t2, t3, t4, t5, t6, t7, t8, t9⟩ := Z01.out.cells10
  have f4 := Z01.out.froz 4; have l0 := Z01.out.lt
  go_upto_region 2 with (fail)
  obtain ⟨X, hX⟩ : ∃ X, X = w1.setCell ⟨b0, 4, none⟩ (.slice za c.zs.length zc) := ⟨_, rfl⟩
  have GX := Lib.hid (show w1.grownBy X (some b0) by rw [hX]; exact grow_setCell _ _ _ _)
  have Y0 := Lib.hid (show Bx X b0 (chC c ⟨za, c.zs.length, zc, q.sa, q.sn, q.sc, q.ra, q.rn, q.rq⟩) 27 by rw [hX]; exact Z01.out.set 4 _)
  rw [← hX]
  clear hX t0 t1 t2 t3 t4 t5 t6 t7 t8 t9 f4 l0
  have Y1 := Lib.hid (Z11.out.other GX.out (fun e => n10 (by cases e; rfl)))
  have AX := Lib.hid (show Below w.heap.size w X from A1.out.trans ⟨GX.out.os, GX.out.tape, GX.out.output, GX.out.size, fun k hk => GX.out.block k (Nat.lt_of_lt_of_le hk A1.out.size) (fun e => by cases e; have := HW.out.1; omega)⟩)
  have HXZ := Lib.hid (HZ1.out.other (fun y hy _ => (HA.out y hy).1) GX.out)
  have HXN := Lib.hid (HNU.out.below AX.out)
  obtain ⟨t0, t1, t2, t3, t4, t5, t6, t7, t8, t9⟩ := Y0.out.cells10
  have l0 := Y0.out.lt
  go_cut [11] (fun _ wx => Copd w b0 b1 c wx)
  case first =>
    go_region_with (first
      | (refine (HS.out _ (by first | exact HXN.out.sends.below (Below.refl _ _).drew | exact HXN.out.sends.below BR.out)).mono ?_; rintro e wS ⟨vS, rfl, hoS, hbS⟩; have BS := Lib.hid (show Below X.heap.size X wS by first | exact (Below.refl _ _).drew.trans hbS | exact BR.out.trans (Below.mono hbS BR.out.size)); obtain ⟨sa', sc', rfl, _⟩ := OwnR.recs wcells_len hoS; have OS := Lib.hid hoS; (try have OR2 := Lib.hid (OwnR.below OR.out hbS)); have YS0 := Lib.hid (Y0.out.below BS.out); obtain ⟨s0, s1, s2, s3, s4, s5, s6, s7, s8, s9⟩ := YS0.out.cells10; have fS8 := YS0.out.froz 8; have fS9 := YS0.out.froz 9; have lS := YS0.out.lt; clear hbS hoS)
      | (refine (HR.out _ (by first | exact HXN.out.recvs.below (Below.refl _ _).drew | exact HXN.out.recvs.below BS.out)).mono ?_; rintro e wR ⟨vR, rfl, hoR, hbR⟩; have BR := Lib.hid (show Below X.heap.size X wR by first | exact (Below.refl _ _).drew.trans hbR | exact BS.out.trans (Below.mono hbR BS.out.size)); obtain ⟨ra', rc', rfl, _⟩ := OwnR.recs wcells_len hoR; have OR := Lib.hid hoR; (try have OS2 := Lib.hid (OwnR.below OS.out hbR)); have YR0 := Lib.hid (Y0.out.below BR.out); obtain ⟨r0, r1, r2, r3, r4, r5, r6, r7, r8, r9⟩ := YR0.out.cells10; have fR8 := YR0.out.froz 8; have fR9 := YR0.out.froz 9; have lR := YR0.out.lt; clear hbR hoR))
    all_goals
      go_wp2_with fail
      go_meet
      first
      | exact copd_mk AX.out HW.out Y0.out Y1.out HXZ.out HA.out BR.out OS2.out OR.out HOK.out HNU.out (by first | exact Nat.le_refl _ | exact BR.out.size | exact BS.out.size) (by first | exact Nat.le_refl _ | exact BR.out.size | exact BS.out.size) n10
      | exact copd_mk AX.out HW.out Y0.out Y1.out HXZ.out HA.out BS.out OS.out OR2.out HOK.out HNU.out (by first | exact Nat.le_refl _ | exact BR.out.size | exact BS.out.size) (by first | exact Nat.le_refl _ | exact BR.out.size | exact BS.out.size) n10
  case rest =>
    obtain ⟨q', k0, k1, kc, ka, kf, kb⟩ := hcut
    have KF := Lib.hid kf
    have KA := Lib.hid ka
    have K0 := Lib.hid k0; have K1 := Lib.hid k1; have KC := Lib.hid kc; have KB := Lib.hid kb
    clear k0 k1 kc ka kf kb t0 t1 t2 t3 t4 t5 t6 t7 t8 t9 l0
    obtain ⟨t0, t1, t2, t3, t4, t5, t6, t7, t8, t9⟩ := K0.out.cells10
    obtain ⟨u0, u1, u2, u3, u4, u5, u6, u7, u8, u9⟩ := K1.out.cells10
    have g0 := K1.out.froz 0
    have g1 := K1.out.froz 1
    have g2 := K1.out.froz 2
    have g3 := K1.out.froz 3
    have g4 := K1.out.froz 4
    have g5 := K1.out.froz 5
    have g6 := K1.out.froz 6
    have g7 := K1.out.froz 7
    have g8 := K1.out.froz 8
    have g9 := K1.out.froz 9
    have l0 := K0.out.lt; have l1 := K1.out.lt
    go_wp2_with fail
    have ST := Lib.hid (K1.out.st10 (.int .i64 c.cap) (.bool c.cl) (.int .i64 c.rc) (.int .i64 c.rf) (.slice q'.za q'.zn q'.zc) (.int .i64 c.rk) (.int .i64 c.sent) (.int .i64 c.got) (.slice q'.sa q'.sn q'.sc) (.slice q'.ra q'.rn q'.rq))
    refine bodyPost_ret (v := chV c q') (by rw [res1_c Try.results31 _ (by rfl) (ST.out.load Try.underlying27 infC)]) rfl ⟨q', rfl, KC.out.other KA.out (grown_st10 (World.grownBy.refl _ _) _ _ _ _ _ _ _ _ _ _), below_st10 KB.out HW.out.2 _ _ _ _ _ _ _ _ _ _, KF.out⟩
end Go.Proofs.Ytfolhgpbplfilaa
