/- The reference: Send and Recv. -/
import Derived.Test.YtfolhgpbplfilaaH2
import Derived.Test.YtfolhgpbplfilaaD2
namespace Go.Proofs.Ytfolhgpbplfilaa
open Go.RowKit
set_option linter.unusedSimpArgs false
set_option linter.unusedVariables false
set_option maxRecDepth 100000 in
set_option maxHeartbeats 4000000 in
theorem refPush_has (a : Option Addr) (len cap : Nat) (L : List Wt) (x : Wt) (w : World) (hL : Wts w a len cap L) (hx : WtOk x) (hh : hasW L x.g x.c = true) :
    Calls Try.prog 50 #[.slice a len cap, wV x] w (NoL w 7) := by
  have BEL_0 := Lib.hid (below_alloc w (.cells #[.int .i64 x.g, .int .i64 x.c, .int .i64 x.s] 48))
  have X_0 := Lib.hid (Box3.new w x)
  have L_0 := Lib.hid (hL.below BEL_0.out)
  have hcm := hL.recs.len_le
  have HH := Lib.hid (refHas_any a len cap L x.g x.c _ L_0.out)
  have HXO := Lib.hid hx
  rw [hh] at HH
  clear hh
  go_enter Try.func50, Try.ntmps50
  go_upto_region 1 with (fail)
  obtain ⟨X, hX⟩ : ∃ X, X = w.alloc (.cells #[.int .i64 x.g, .int .i64 x.c, .int .i64 x.s] 48) := ⟨_, rfl⟩
  obtain ⟨b0, hb0⟩ : ∃ b, b = w.heap.size := ⟨_, rfl⟩
  rw [← hX] at BEL_0 X_0 L_0 HH ⊢
  rw [← hb0] at X_0 ⊢
  clear hX hb0 hL hx
  obtain ⟨t0, t1, t2⟩ := X_0.out.cells
  go_wp2_with fail
  refine HH.out.mono ?_
  rintro e w2 ⟨rfl, hb⟩
  have BEL_2 := Lib.hid (BEL_0.out.trans (Below.mono hb BEL_0.out.size)); have X_2 := Lib.hid (X_0.out.below hb); have L_2 := Lib.hid (L_0.out.below hb)
  clear hb t0 t1 t2
  go_wp2_with fail
  go_ret2
  exact ⟨rfl, BEL_2.out⟩
set_option maxRecDepth 100000 in
set_option maxHeartbeats 4000000 in
theorem refPush_full (a : Option Addr) (cap : Nat) (L : List Wt) (x : Wt) (w : World) (hL : Wts w a 64 cap L) (hx : WtOk x) (hh : hasW L x.g x.c = false) :
    Calls Try.prog 50 #[.slice a 64 cap, wV x] w (NoL w 5) := by
  have BEL_0 := Lib.hid (below_alloc w (.cells #[.int .i64 x.g, .int .i64 x.c, .int .i64 x.s] 48))
  have X_0 := Lib.hid (Box3.new w x)
  have L_0 := Lib.hid (hL.below BEL_0.out)
  have HH := Lib.hid (refHas_any a 64 cap L x.g x.c _ L_0.out)
  have HXO := Lib.hid hx
  rw [hh] at HH
  clear hh
  go_enter Try.func50, Try.ntmps50
  go_upto_region 1 with (fail)
  obtain ⟨X, hX⟩ : ∃ X, X = w.alloc (.cells #[.int .i64 x.g, .int .i64 x.c, .int .i64 x.s] 48) := ⟨_, rfl⟩
  obtain ⟨b0, hb0⟩ : ∃ b, b = w.heap.size := ⟨_, rfl⟩
  rw [← hX] at BEL_0 X_0 L_0 HH ⊢
  rw [← hb0] at X_0 ⊢
  clear hX hb0 hL hx
  obtain ⟨t0, t1, t2⟩ := X_0.out.cells
  go_wp2_with fail
  refine HH.out.mono ?_
  rintro e w2 ⟨rfl, hb⟩
  have BEL_2 := Lib.hid (BEL_0.out.trans (Below.mono hb BEL_0.out.size)); have X_2 := Lib.hid (X_0.out.below hb); have L_2 := Lib.hid (L_0.out.below hb)
  clear hb t0 t1 t2
  go_wp2_with fail
  go_ret2
  exact ⟨rfl, BEL_2.out⟩
set_option maxRecDepth 100000 in
set_option maxHeartbeats 4000000 in
theorem refPush_ok (a : Option Addr) (len cap : Nat) (L : List Wt) (x : Wt) (w : World) (hL : Wts w a len cap L) (hx : WtOk x) (hh : hasW L x.g x.c = false) (h64 : len ≤ 64) (hne : len ≠ 64) :
    Calls Try.prog 50 #[.slice a len cap, wV x] w (GotF w (L ++ [x])) := by
  have BEL_0 := Lib.hid (below_alloc w (.cells #[.int .i64 x.g, .int .i64 x.c, .int .i64 x.s] 48))
  have X_0 := Lib.hid (Box3.new w x)
  have L_0 := Lib.hid (hL.below BEL_0.out)
  have hcm := hL.recs.len_le
  have HH := Lib.hid (refHas_any a len cap L x.g x.c _ L_0.out)
  have HXO := Lib.hid hx
  rw [hh] at HH
  have hnb : ((len : Int) == 64) = false := by rw [beq_eq_false_iff_ne]; omega
  have HLL := Lib.hid hL.recs.len_eq
  have HOK := Lib.hid hL.ok
  clear hh hne
  go_enter Try.func50, Try.ntmps50
  go_upto_region 1 with (fail)
  obtain ⟨X, hX⟩ : ∃ X, X = w.alloc (.cells #[.int .i64 x.g, .int .i64 x.c, .int .i64 x.s] 48) := ⟨_, rfl⟩
  obtain ⟨b0, hb0⟩ : ∃ b, b = w.heap.size := ⟨_, rfl⟩
  rw [← hX] at BEL_0 X_0 L_0 HH ⊢
  rw [← hb0] at X_0 ⊢
  clear hX hb0 hL hx
  obtain ⟨t0, t1, t2⟩ := X_0.out.cells
  go_wp2_with fail
  refine HH.out.mono ?_
  rintro e w2 ⟨rfl, hb⟩
  have BEL_2 := Lib.hid (BEL_0.out.trans (Below.mono hb BEL_0.out.size)); have X_2 := Lib.hid (X_0.out.below hb); have L_2 := Lib.hid (L_0.out.below hb)
  clear hb t0 t1 t2
  have BEL_3 := Lib.hid (BEL_2.out.alloc BEL_2.out.size (.cells #[] 48))
  have O_3 := Lib.hid (show OwnW (w2.alloc (.cells #[] 48)) w2.heap.size (.slice (some ⟨w2.heap.size, 0, none⟩) 0 0) [] from ownR_empty (heap_alloc_new w2 _) (Nat.le_refl _))
  have X_3 := Lib.hid (X_2.out.below (below_alloc w2 (.cells #[] 48))); have L_3 := Lib.hid (L_2.out.below (below_alloc w2 (.cells #[] 48)))
  go_upto_region 6 with (fail)
  have HSZ3 := Lib.hid (show w2.heap.size ≤ (w2.alloc (.cells #[] 48)).heap.size by simp)
  have HWB := Lib.hid (show w.heap.size ≤ w2.heap.size from BEL_2.out.size)
  have HB0 := Lib.hid (show b0 < w2.heap.size from X_2.out.lt)
  obtain ⟨w3, hw3⟩ : ∃ x, x = w2.alloc (.cells #[] 48) := ⟨_, rfl⟩
  rw [← hw3] at BEL_3 O_3 X_3 L_3 HSZ3 ⊢
  obtain ⟨B3, hB3⟩ : ∃ x, x = w2.heap.size := ⟨_, rfl⟩
  rw [← hB3] at O_3 HSZ3 HWB HB0 ⊢
  clear hw3 hB3 BEL_2 X_2 L_2
  go_upto_region 7 with (at_builtin; refine wpList_appR rfl _ _ rfl B3 _ [] rfl O_3.out _ len cap L rfl L_3.out.recs (by simp) (by omega) HSZ3.out ?_; intro v4 w4 ho4 hg4)
  have G4 := Lib.hid (show w3.grownBy w4 (some B3) from hg4.out)
  have O_4 := Lib.hid (show OwnW w4 B3 v4 L from ho4.out)
  have BEL_4 := Lib.hid (Below.grown BEL_3.out G4.out BEL_3.out.size (fun r hr => by cases hr; exact HWB.out))
  have X_4 := Lib.hid (show Box3 w4 b0 x from (G4.out.block b0 X_3.out.lt (fun e => by cases e; have := HB0.out; omega)).trans X_3.out)
  have HSZ4 := Lib.hid (show B3 ≤ w4.heap.size by have := HSZ3.out; have := G4.out.size; omega)
  clear ho4 hg4 G4 O_3 X_3 L_3 BEL_3
  obtain ⟨t0, t1, t2⟩ := X_4.out.cells
  have HLN := Lib.hid (show L.length ≤ 1000000 by rw [HLL.out]; omega)
  go_wp2_with (at_builtin; refine wpList_appR rfl _ _ rfl B3 _ L rfl (OwnR.below O_4.out (below_alloc w4 _)) _ 1 1 [x] rfl (recs_one (Box3.new w4 x)) HLN.out (by omega) (by have := HSZ4.out; simp; omega) ?_; intro v5 w5 ho5 hg5)
  have BEL_5 := Lib.hid (Below.grown (BEL_4.out.alloc BEL_4.out.size _) hg5.out (by have := BEL_4.out.size; simp; omega) (fun r hr => Nat.le_trans HWB.out (OwnR.lt O_4.out r hr)))
  go_ret2
  exact gotF (World.ownsRow.mono' ho5.out HWB.out) (fun y hy => by
    rcases List.mem_append.1 hy with h | h
    · exact HOK.out y h
    · simp at h; rw [h]; exact HXO.out) BEL_5.out
end Go.Proofs.Ytfolhgpbplfilaa
namespace Go.Proofs.Ytfolhgpbplfilaa
open Go.RowKit
def GotQ (w : World) (c : Chn) (o : Out) (why : Int) (e : Ending) (w' : World) : Prop := ∃ q, e = .returned (.tuple #[chV c q, outV o, .int .i64 why]) ∧ Cha w' c q ∧ Below w.heap.size w w'
abbrev stCO (W : World) (b2 b3 : Nat) (c : Chn) (q : CAt) (o : Out) : World := st6 (st10 W b2 (.int .i64 c.cap) (.bool c.cl) (.int .i64 c.rc) (.int .i64 c.rf) (.slice q.za q.zn q.zc) (.int .i64 c.rk) (.int .i64 c.sent) (.int .i64 c.got) (.slice q.sa q.sn q.sc) (.slice q.ra q.rn q.rq)) b3 (.int .i64 o.kind) (.int .i64 o.no) (.int .i64 o.who.g) (.int .i64 o.who.c) (.int .i64 o.who.s) (.int .i64 o.other)
theorem endQ {w W : World} {b2 b3 : Nat} (A : Below w.heap.size w W) (h2 : w.heap.size ≤ b2) (h3 : w.heap.size ≤ b3) (K2 : Bx W b2 zero10 27) (K3 : Bx W b3 zero6 50) (n23 : b2 ≠ b3) (c : Chn) (q : CAt) (o : Out) (H : Cha W c q) (P2 : Ap q b2) (P3 : Ap q b3) :
    Bx (stCO W b2 b3 c q o) b2 (chC c q) 27 ∧ Bx (stCO W b2 b3 c q o) b3 (outC o) 50 ∧ Cha (stCO W b2 b3 c q o) c q ∧ Below w.heap.size w (stCO W b2 b3 c q o) := by
  have a1 := K2.st10 (.int .i64 c.cap) (.bool c.cl) (.int .i64 c.rc) (.int .i64 c.rf) (.slice q.za q.zn q.zc) (.int .i64 c.rk) (.int .i64 c.sent) (.int .i64 c.got) (.slice q.sa q.sn q.sc) (.slice q.ra q.rn q.rq)
  have a2 : Bx (st10 W b2 (.int .i64 c.cap) (.bool c.cl) (.int .i64 c.rc) (.int .i64 c.rf) (.slice q.za q.zn q.zc) (.int .i64 c.rk) (.int .i64 c.sent) (.int .i64 c.got) (.slice q.sa q.sn q.sc) (.slice q.ra q.rn q.rq)) b3 zero6 50 := (st10_other W b2 (.int .i64 c.cap) (.bool c.cl) (.int .i64 c.rc) (.int .i64 c.rf) (.slice q.za q.zn q.zc) (.int .i64 c.rk) (.int .i64 c.sent) (.int .i64 c.got) (.slice q.sa q.sn q.sc) (.slice q.ra q.rn q.rq) b3 (Ne.symm n23)).trans K3
  have a3 : Cha (st10 W b2 (.int .i64 c.cap) (.bool c.cl) (.int .i64 c.rc) (.int .i64 c.rf) (.slice q.za q.zn q.zc) (.int .i64 c.rk) (.int .i64 c.sent) (.int .i64 c.got) (.slice q.sa q.sn q.sc) (.slice q.ra q.rn q.rq)) c q := H.other P2 (grown_st10 (World.grownBy.refl W (some b2)) (.int .i64 c.cap) (.bool c.cl) (.int .i64 c.rc) (.int .i64 c.rf) (.slice q.za q.zn q.zc) (.int .i64 c.rk) (.int .i64 c.sent) (.int .i64 c.got) (.slice q.sa q.sn q.sc) (.slice q.ra q.rn q.rq))
  have a4 := below_st10 A h2 (.int .i64 c.cap) (.bool c.cl) (.int .i64 c.rc) (.int .i64 c.rf) (.slice q.za q.zn q.zc) (.int .i64 c.rk) (.int .i64 c.sent) (.int .i64 c.got) (.slice q.sa q.sn q.sc) (.slice q.ra q.rn q.rq)
  unfold stCO
  generalize st10 W b2 (.int .i64 c.cap) (.bool c.cl) (.int .i64 c.rc) (.int .i64 c.rf) (.slice q.za q.zn q.zc) (.int .i64 c.rk) (.int .i64 c.sent) (.int .i64 c.got) (.slice q.sa q.sn q.sc) (.slice q.ra q.rn q.rq) = V at a1 a2 a3 a4 ⊢
  exact ⟨(st6_other V b3 _ _ _ _ _ _ b2 n23).trans a1, a2.st6 _ _ _ _ _ _, a3.other P3 (grown_st6 (World.grownBy.refl V (some b3)) _ _ _ _ _ _), below_st6 a4 h3 _ _ _ _ _ _⟩
theorem endQd {w V : World} {b2 b3 : Nat} {c : Chn} {q : CAt} {o : Out} (h : Bx V b2 (chC c q) 27 ∧ Bx V b3 (outC o) 50 ∧ Cha V c q ∧ Below w.heap.size w V) : Bx V.drew b2 (chC c q) 27 ∧ Bx V.drew b3 (outC o) 50 ∧ Cha V.drew c q ∧ Below w.heap.size w V.drew :=
  ⟨h.1, h.2.1, h.2.2.1.below (Below.refl _ _).drew, h.2.2.2.drew⟩
end Go.Proofs.Ytfolhgpbplfilaa
