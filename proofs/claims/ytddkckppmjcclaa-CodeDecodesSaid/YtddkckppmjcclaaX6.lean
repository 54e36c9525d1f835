/- The reference's Decode. -/
import Derived.Test.YtddkckppmjcclaaX5
import Derived.Test.YtddkckppmjcclaaE1
namespace Go.Proofs.Ytddkckppmjcclaa
open Go.RowKit
set_option linter.unusedSimpArgs false
set_option linter.unusedVariables false
theorem size_stepK {α : Type} {T : List Int} {R : Res α} {m : Int} {f : Int → Nat → Res α} {x : XS} (h : (x.e = 0 ∧ R = (sizeP T m x.at_).bind f) ∨ (¬ x.e = 0 ∧ R = .no x.e)) :
    ((manyX T x 1 m).e = 0 ∧ R = f (manyX T x 1 m).n (manyX T x 1 m).at_ ∧ (manyX T x 1 m).n ≤ m) ∨ (¬ (manyX T x 1 m).e = 0 ∧ R = .no (manyX T x 1 m).e) := size_step h
set_option maxRecDepth 100000 in
set_option maxHeartbeats 80000000 in
theorem refDecode_any (s : ByteArray) (w : World) (hs : s.size ≤ 100000) : Calls Try.prog 15 #[.string s] w (GotDec w (decZ (tx s)).1 (decZ (tx s)).2) := by
  have HT := Lib.hid (tx_byt s)
  obtain ⟨Q, hQ⟩ : ∃ Q, Q = GotDec w (decZ (tx s)).1 (decZ (tx s)).2 := ⟨_, rfl⟩
  rw [← hQ]
  obtain ⟨R, hR⟩ : ∃ zz, zz = prgP (tx s) 0 := ⟨_, rfl⟩
  have HQ := Lib.hid hQ
  have HRD := Lib.hid hR
  have h0 : XOk (tx s) ⟨0, 0, 0⟩ := ⟨Nat.zero_le _, Int.le_refl _, by show (0 : Int) ≤ _; decide⟩
  have N1 := Lib.hid (fun W => refTables_X s ⟨0, 0, 0⟩ W h0 hs)
  rw [stX_ok rfl] at N1
  unfold GotTab at N1
  dsimp only at N1
  clear hQ h0
  have K2 := Lib.hid (Bx.new w #[.slice none 0 0, .int .i64 0, .int .i64 0, .int .i64 0, .slice none 0 0, .slice none 0 0] 26)
  have B0 := Lib.hid (below_alloc w (.cells #[.slice none 0 0, .int .i64 0, .int .i64 0, .int .i64 0, .slice none 0 0, .slice none 0 0] 26))
  obtain ⟨b2, hb2⟩ : ∃ zz, zz = w.heap.size := ⟨_, rfl⟩
  obtain ⟨v0, hv0⟩ : ∃ zz, zz = (w.alloc (.cells #[.slice none 0 0, .int .i64 0, .int .i64 0, .int .i64 0, .slice none 0 0, .slice none 0 0] 26)) := ⟨_, rfl⟩
  have Hb2 := Lib.hid hb2; have Hnb2 := Lib.hid (show w.heap.size ≤ b2 by omega)
  have HV0 := Lib.hid hv0
  rw [← hv0] at B0 K2
  rw [← hb2] at K2
  clear hv0 hb2
  go_enter Try.func15, Try.ntmps15
  go_upto_region 1 with (fail)
  rw [← HV0.out, ← Hb2.out]
  go_wp2_with fail
  refine (N1.out _).mono ?_
  rintro e u1 ⟨q1, ⟨caps, mu, on, va, sels, blks0⟩, ⟨qa, qn, qe⟩, rfl, hyq, hrq, hb0, hba, hbn, hbc, hb, hlk⟩
  obtain ⟨ca, cn, cc, sa, sn, sc, ba, bn, bc⟩ := q1
  dsimp only at hb0 hba hbn hbc hlk
  subst hb0 hba hbn hbc
  obtain ⟨oc, os, _, l1, l2, _, hci, hmu, hon, hva⟩ := hrq
  dsimp only at oc os l1 l2 hci hmu hon hva
  have OC := Lib.hid (show OwnN u1 w.heap.size (.slice ca cn cc) caps from World.ownsRow.mono' oc B0.out.size)
  have OS := Lib.hid (show OSels u1 w.heap.size (.slice sa sn sc) sels from os.mono B0.out.size)
  have HLs := Lib.hid (show caps.length ≤ 4 ∧ sels.length ≤ 4 ∧ (∀ n ∈ caps, I64 n) ∧ I64 mu ∧ I64 on ∧ I64 va from ⟨l1, l2, hci, hmu, hon, hva⟩)
  have HST := size_step (T := tx s) (R := R) (m := 6) (f := fun h j7 => (repP (blkP (tx s)) h.toNat j7).bind fun blks j8 => .ok ⟨caps, mu, on, va, sels, blks⟩ j8) (x := ⟨qa, qn, qe⟩) (by
    rcases hlk with ⟨h1, h2⟩ | ⟨h1, h2⟩
    · exact .inl ⟨h1, by rw [hR, prg_tab, h2]; rfl⟩
    · exact .inr ⟨h1, by rw [hR, prg_tab, h2]; rfl⟩)
  have g1 := hyq.many HT.out 1 6
  have N5 := Lib.hid (fun W => many_1_6 s ⟨qa, qn, qe⟩ W hyq hs)
  unfold Gives at N5
  obtain ⟨y5, hy5⟩ : ∃ zz, zz = manyX (tx s) ⟨qa, qn, qe⟩ 1 6 := ⟨_, rfl⟩
  rw [← hy5] at HST g1 N5
  clear hy5 hlk hyq oc os l1 l2 hci hmu hon hva N1 hR
  obtain ⟨pa, pn, pe⟩ := y5
  dsimp only at N5 HST
  obtain ⟨m, hm⟩ : ∃ m : Nat, (m : Int) = pn := ⟨pn.toNat, by have := g1.2.1; dsimp only at this; omega⟩
  subst hm
  have HS := Lib.hid (show (pe = 0 ∧ R = (repP (blkP (tx s)) m pa).bind (fun blks j8 => .ok ⟨caps, mu, on, va, sels, blks⟩ j8) ∧ m ≤ 6) ∨ (¬ pe = 0 ∧ R = .no pe) by
    rcases HST with ⟨a, b, c⟩ | h
    · exact .inl ⟨a, by rw [b, Int.toNat_natCast], by omega⟩
    · exact .inr h)
  have HG1 := Lib.hid g1
  clear HST g1
  have B_1 := Lib.hid (B0.out.trans (Below.mono hb B0.out.size))
  have K2_1 := Lib.hid (Bx.below K2.out hb)
  clear hb B0 K2
  have BA2 := (below_alloc u1 (.cells #[.slice ca cn cc, .int .i64 mu, .int .i64 on, .int .i64 va, .slice sa sn sc, .slice none 0 0] 26)).trans (Below.mono (below_alloc (u1.alloc (.cells #[.slice ca cn cc, .int .i64 mu, .int .i64 on, .int .i64 va, .slice sa sn sc, .slice none 0 0] 26)) (.cells #[.string s, .int .i64 (qa : Int), .int .i64 qn, .int .i64 qe] 58)) (by simp))
  have KP_2 := Lib.hid ((Bx.new u1 #[.slice ca cn cc, .int .i64 mu, .int .i64 on, .int .i64 va, .slice sa sn sc, .slice none 0 0] 26).below (below_alloc _ (.cells #[.string s, .int .i64 (qa : Int), .int .i64 qn, .int .i64 qe] 58)))
  have KX_2 := Lib.hid (Bx.new2 u1 (.cells #[.slice ca cn cc, .int .i64 mu, .int .i64 on, .int .i64 va, .slice sa sn sc, .slice none 0 0] 26) #[.string s, .int .i64 (qa : Int), .int .i64 qn, .int .i64 qe] 58)
  have ltb22 : b2 < u1.heap.size := Bx.lt K2_1.out
  have hs2 : w.heap.size ≤ u1.heap.size := B_1.out.size
  go_upto_region 2 with (fail)
  obtain ⟨bx, hbx⟩ : ∃ zz, zz = u1.heap.size + 1 := ⟨_, rfl⟩
  obtain ⟨bp, hbp⟩ : ∃ zz, zz = u1.heap.size := ⟨_, rfl⟩
  have Hnbp := Lib.hid (show w.heap.size ≤ bp by omega); have Hnbx := Lib.hid (show w.heap.size ≤ bx by omega)
  have nb2bp : b2 ≠ bp := by omega
  have nbpb2 : bp ≠ b2 := by omega
  have nb2bx : b2 ≠ bx := by omega
  have nbxb2 : bx ≠ b2 := by omega
  have nbpbx : bp ≠ bx := by omega
  have nbxbp : bx ≠ bp := by omega
  rw [← hbx] at KX_2 ⊢
  rw [← hbp] at KP_2 ⊢
  clear ltb22 hs2 hbp hbx
  have B_3 := Lib.hid (B_1.out.trans (Below.mono BA2 B_1.out.size))
  have K2_3 := Lib.hid (Bx.below K2_1.out BA2)
  have OC_3 := Lib.hid (OwnR.below OC.out BA2)
  have OS_3 := Lib.hid (OSels.below OS.out BA2)
  clear BA2 B_1 K2_1 OC OS
  obtain ⟨v4, hv4⟩ : ∃ zz, zz = (u1.alloc (.cells #[.slice ca cn cc, .int .i64 mu, .int .i64 on, .int .i64 va, .slice sa sn sc, .slice none 0 0] 26)).alloc (.cells #[.string s, .int .i64 (qa : Int), .int .i64 qn, .int .i64 qe] 58) := ⟨_, rfl⟩
  rw [← hv4] at B_3 K2_3 OC_3 OS_3 KP_2 KX_2
  have gv4 := hv4
  first | rw [← hv4] | rw [← gv4]
  clear hv4 gv4
  obtain ⟨cKX0, cKX1, cKX2, cKX3⟩ := Bx.cells4 KX_2.out
  go_wp2_with fail
  clear cKX0 cKX1 cKX2 cKX3
  refine (N5.out _).mono ?_
  rintro e u2 ⟨rfl, hb⟩
  have B_5 := Lib.hid (B_3.out.trans (Below.mono hb B_3.out.size))
  have K2_5 := Lib.hid (Bx.below K2_3.out hb)
  have OC_5 := Lib.hid (OwnR.below OC_3.out hb)
  have OS_5 := Lib.hid (OSels.below OS_3.out hb)
  have KP_5 := Lib.hid (Bx.below KP_2.out hb)
  have KX_5 := Lib.hid (Bx.below KX_2.out hb)
  clear hb B_3 K2_3 OC_3 OS_3 KP_2 KX_2
  obtain ⟨cKX0, cKX1, cKX2, cKX3⟩ := Bx.cells4 KX_5.out
  have lKX := Bx.lt KX_5.out; have fKX0 := Bx.froz KX_5.out 0; have fKX1 := Bx.froz KX_5.out 1; have fKX2 := Bx.froz KX_5.out 2; have fKX3 := Bx.froz KX_5.out 3
  go_upto_region 3 with (fail)
  clear cKX0 cKX1 cKX2 cKX3 lKX fKX0 fKX1 fKX2 fKX3
  have SG6 := Lib.hid (grown_st4 (World.grownBy.refl u2 (some bx)) (.string s) (.int .i64 (pa : Int)) (.int .i64 (m : Int)) (.int .i64 pe))
  have B_6 := Lib.hid (B_5.out.trans (below_grown SG6.out Hnbx.out B_5.out.size))
  have K2_6 := Lib.hid (Bx.other K2_5.out SG6.out (some_ne nb2bx))
  have OC_6 := Lib.hid (OwnR.away OC_5.out SG6.out (Away.box KX_5.out (by decide)))
  have OS_6 := Lib.hid (OSels.away OS_5.out SG6.out (Away.box KX_5.out (by decide)) (Away.box KX_5.out (by decide)))
  have KP_6 := Lib.hid (Bx.other KP_5.out SG6.out (some_ne nbpbx))
  have KX_6 := Lib.hid (Bx.st4 KX_5.out (.string s) (.int .i64 (pa : Int)) (.int .i64 (m : Int)) (.int .i64 pe))
  obtain ⟨v7, hv7⟩ : ∃ zz, zz = st4 u2 bx (.string s) (.int .i64 (pa : Int)) (.int .i64 (m : Int)) (.int .i64 pe) := ⟨_, rfl⟩
  rw [← hv7] at B_6 K2_6 OC_6 OS_6 KP_6 KX_6
  have gv7 := hv7
  simp only [st4] at gv7
  first | rw [← hv7] | rw [← gv7]
  clear hv7 gv7
  clear SG6 B_5 K2_5 OC_5 OS_5 KP_5 KX_5
  clear N5
  obtain ⟨cKX0, cKX1, cKX2, cKX3⟩ := Bx.cells4 KX_6.out
  go_wp2_with fail
  clear cKX0 cKX1 cKX2 cKX3
  go_loopw [7] (fun i wr => ∃ (k : Nat) (L : List (List Ins)) (ya : Nat) (yn ye : Int) (v : Value), i = .int .i64 k ∧ k ≤ m ∧ OBlks wr w.heap.size v L ∧ OwnN wr w.heap.size (.slice ca cn cc) caps ∧ OSels wr w.heap.size (.slice sa sn sc) sels ∧ L.length ≤ 6 ∧ XOk (tx s) ⟨ya, yn, ye⟩ ∧ Bx wr bx #[.string s, .int .i64 (ya : Int), .int .i64 yn, .int .i64 ye] 58 ∧ Bx wr bp #[.slice ca cn cc, .int .i64 mu, .int .i64 on, .int .i64 va, .slice sa sn sc, v] 26 ∧ Bx wr b2 #[.slice none 0 0, .int .i64 0, .int .i64 0, .int .i64 0, .slice none 0 0, .slice none 0 0] 26 ∧ Below w.heap.size w wr ∧ ((ye = 0 ∧ m ≤ 6 ∧ R = (repP (blkP (tx s)) m pa).bind (fun blks j8 => .ok ⟨caps, mu, on, va, sels, blks⟩ j8) ∧ repP (blkP (tx s)) k pa = .ok L ya) ∨ (¬ ye = 0 ∧ R = .no ye))) (fun i _ => m - (intOf i).toNat)
  case atStart =>
    refine ⟨0, [], pa, m, pe, _, rfl, Nat.zero_le _, OBlks.nil _ _, OC_6.out, OS_6.out, by simp, HG1.out, KX_6.out, KP_6.out, K2_6.out, B_6.out, ?_⟩
    rcases HS.out with ⟨a, b, c⟩ | h
    · exact .inl ⟨a, c, b, rfl⟩
    · exact .inr h
  case round =>
    clear B_6 K2_6 OC_6 OS_6 KP_6 KX_6
    obtain ⟨k, L, ya, yn, ye, v, rfl, hk, ho, hoc, hos, hl6, hy, hkx, hkp, hk2, hb, hd⟩ := hrel
    obtain ⟨ra, rc, rfl⟩ := OBlks.parts ho
    have HO := Lib.hid ho; have OC := Lib.hid hoc; have OS := Lib.hid hos; have HY := Lib.hid hy; have KX := Lib.hid hkx; have KP := Lib.hid hkp; have K2 := Lib.hid hk2; have B := Lib.hid hb
    clear ho hoc hos hy hkx hkp hk2 hb
    by_cases hgo : k < m ∧ ye = 0
    · obtain ⟨hlt, he⟩ := hgo
      subst he
      have hlt' : (k : Int) < (m : Int) := by omega
      rcases hd with ⟨_, hm4, hR, hrep⟩ | ⟨hne, _⟩
      rotate_left
      · exact absurd rfl hne
      have HLN := Lib.hid (repP_len hrep)
      have HR0 := Lib.hid (show m ≤ 6 ∧ R = (repP (blkP (tx s)) m pa).bind (fun blks j8 => .ok ⟨caps, mu, on, va, sels, blks⟩ j8) ∧ repP (blkP (tx s)) k pa = .ok L ya from ⟨hm4, hR, hrep⟩)
      have N2 := Lib.hid (fun W => refBlock_any s ⟨ya, yn, 0⟩ W HY.out hs)
      rw [stX_ok rfl] at N2
      unfold GotBlk at N2
      clear hR hrep
      obtain ⟨cKX0, cKX1, cKX2, cKX3⟩ := Bx.cells4 KX.out
      go_wp2_with fail
      clear cKX0 cKX1 cKX2 cKX3
      refine (N2.out _).mono ?_
      rintro e u3 ⟨rb, sx, ⟨qa, qn, qe⟩, rfl, hyq, hsx, hsi, hs24, hb, hlk⟩
      have HBX0 := Lib.hid (show OBlk u3 w.heap.size rb sx from ⟨World.ownsRow.mono' hsx B.out.size, hs24, hsi⟩)
      have HYQ := Lib.hid hyq
      have HR1 := Lib.hid (show (qe = 0 ∧ m ≤ 6 ∧ R = (repP (blkP (tx s)) m pa).bind (fun blks j8 => .ok ⟨caps, mu, on, va, sels, blks⟩ j8) ∧ repP (blkP (tx s)) (k + 1) pa = .ok (L ++ [sx]) qa) ∨ (¬ qe = 0 ∧ R = .no qe) by
        obtain ⟨hm4, hR, hrep⟩ := HR0.out
        rcases hlk with ⟨h1, h2⟩ | ⟨h1, h2⟩
        · exact .inl ⟨h1, hm4, hR, repP_ok hrep h2⟩
        · exact .inr ⟨h1, by rw [hR, repP_no hrep h2 hlt]; rfl⟩)
      clear hyq hsx hlk HR0 N2 hsi hs24
      have KX_8 := Lib.hid (Bx.below KX.out hb)
      have KP_8 := Lib.hid (Bx.below KP.out hb)
      have K2_8 := Lib.hid (Bx.below K2.out hb)
      have B_8 := Lib.hid (B.out.trans (Below.mono hb B.out.size))
      have OC_8 := Lib.hid (OwnR.below OC.out hb)
      have OS_8 := Lib.hid (OSels.below OS.out hb)
      have OB_8 := Lib.hid (OBlks.below HO.out hb)
      clear hb KX KP K2 B OC OS HO
      have BA9 := below_alloc u3 (.cells #[.string s, .int .i64 (qa : Int), .int .i64 qn, .int .i64 qe] 58)
      have K9_9 := Lib.hid (Bx.new u3 #[.string s, .int .i64 (qa : Int), .int .i64 qn, .int .i64 qe] 58)
      have ltbx9 : bx < u3.heap.size := Bx.lt KX_8.out
      have ltb29 : b2 < u3.heap.size := Bx.lt K2_8.out
      have ltbp9 : bp < u3.heap.size := Bx.lt KP_8.out
      have hs9 : w.heap.size ≤ u3.heap.size := B_8.out.size
      go_upto_region 8 with (fail)
      obtain ⟨b9, hb9⟩ : ∃ zz, zz = u3.heap.size := ⟨_, rfl⟩
      have Hnb9 := Lib.hid (show w.heap.size ≤ b9 by omega)
      have nbxb9 : bx ≠ b9 := by omega
      have nb9bx : b9 ≠ bx := by omega
      have nb2b9 : b2 ≠ b9 := by omega
      have nb9b2 : b9 ≠ b2 := by omega
      have nbpb9 : bp ≠ b9 := by omega
      have nb9bp : b9 ≠ bp := by omega
      rw [← hb9] at K9_9 ⊢
      clear ltbx9 ltb29 ltbp9 hs9 hb9
      have KX_10 := Lib.hid (Bx.below KX_8.out BA9)
      have KP_10 := Lib.hid (Bx.below KP_8.out BA9)
      have K2_10 := Lib.hid (Bx.below K2_8.out BA9)
      have B_10 := Lib.hid (B_8.out.trans (Below.mono BA9 B_8.out.size))
      have OC_10 := Lib.hid (OwnR.below OC_8.out BA9)
      have OS_10 := Lib.hid (OSels.below OS_8.out BA9)
      have OB_10 := Lib.hid (OBlks.below OB_8.out BA9)
      have BX_10 := Lib.hid (OBlk.away HBX0.out (grow_of_below BA9) Away.none)
      clear BA9 KX_8 KP_8 K2_8 B_8 OC_8 OS_8 OB_8 HBX0
      obtain ⟨v11, hv11⟩ : ∃ zz, zz = u3.alloc (.cells #[.string s, .int .i64 (qa : Int), .int .i64 qn, .int .i64 qe] 58) := ⟨_, rfl⟩
      rw [← hv11] at KX_10 KP_10 K2_10 B_10 OC_10 OS_10 OB_10 BX_10 K9_9
      have gv11 := hv11
      first | rw [← hv11] | rw [← gv11]
      clear hv11 gv11
      obtain ⟨cK90, cK91, cK92, cK93⟩ := Bx.cells4 K9_9.out
      obtain ⟨cKX0, cKX1, cKX2, cKX3⟩ := Bx.cells4 KX_10.out
      have lKX := Bx.lt KX_10.out; have fKX0 := Bx.froz KX_10.out 0; have fKX1 := Bx.froz KX_10.out 1; have fKX2 := Bx.froz KX_10.out 2; have fKX3 := Bx.froz KX_10.out 3
      go_upto_region 9 with (fail)
      clear cK90 cK91 cK92 cK93 cKX0 cKX1 cKX2 cKX3 lKX fKX0 fKX1 fKX2 fKX3
      have SG12 := Lib.hid (grown_st4 (World.grownBy.refl v11 (some bx)) (.string s) (.int .i64 (qa : Int)) (.int .i64 qn) (.int .i64 qe))
      have KX_12 := Lib.hid (Bx.st4 KX_10.out (.string s) (.int .i64 (qa : Int)) (.int .i64 qn) (.int .i64 qe))
      have KP_12 := Lib.hid (Bx.other KP_10.out SG12.out (some_ne nbpbx))
      have K2_12 := Lib.hid (Bx.other K2_10.out SG12.out (some_ne nb2bx))
      have B_12 := Lib.hid (B_10.out.trans (below_grown SG12.out Hnbx.out B_10.out.size))
      have OC_12 := Lib.hid (OwnR.away OC_10.out SG12.out (Away.box KX_10.out (by decide)))
      have OS_12 := Lib.hid (OSels.away OS_10.out SG12.out (Away.box KX_10.out (by decide)) (Away.box KX_10.out (by decide)))
      have OB_12 := Lib.hid (OBlks.away OB_10.out SG12.out (Away.box KX_10.out (by decide)) (Away.box KX_10.out (by decide)))
      have BX_12 := Lib.hid (OBlk.away BX_10.out SG12.out (Away.box KX_10.out (by decide)))
      have K9_12 := Lib.hid (Bx.other K9_9.out SG12.out (some_ne nb9bx))
      obtain ⟨v13, hv13⟩ : ∃ zz, zz = st4 v11 bx (.string s) (.int .i64 (qa : Int)) (.int .i64 qn) (.int .i64 qe) := ⟨_, rfl⟩
      rw [← hv13] at KX_12 KP_12 K2_12 B_12 OC_12 OS_12 OB_12 BX_12 K9_12
      have gv13 := hv13
      simp only [st4] at gv13
      first | rw [← hv13] | rw [← gv13]
      clear hv13 gv13
      clear SG12 KX_10 KP_10 K2_10 B_10 OC_10 OS_10 OB_10 BX_10 K9_9
      obtain ⟨cKP0, cKP1, cKP2, cKP3, cKP4, cKP5⟩ := Bx.cells6 KP_12.out
      have BZ := below_alloc v13 (.cells #[.slice rb.a rb.n rb.c] 42)
      have S2 := Lib.hid (recs_oneG (k := 1) (enc := encB) (x := rb) (t := 42) (heap_alloc_new v13 (.cells #[.slice rb.a rb.n rb.c] 42)))
      have KX_14 := Lib.hid (Bx.below KX_12.out BZ)
      have KP_14 := Lib.hid (Bx.below KP_12.out BZ)
      have K2_14 := Lib.hid (Bx.below K2_12.out BZ)
      have B_14 := Lib.hid (B_12.out.trans (Below.mono BZ B_12.out.size))
      have OC_14 := Lib.hid (OwnR.below OC_12.out BZ)
      have OS_14 := Lib.hid (OSels.below OS_12.out BZ)
      have OB_14 := Lib.hid (OBlks.below OB_12.out BZ)
      have BX_14 := Lib.hid (OBlk.away BX_12.out (grow_of_below BZ) Away.none)
      have K9_14 := Lib.hid (Bx.below K9_12.out BZ)
      clear BZ KX_12 KP_12 K2_12 B_12 OC_12 OS_12 OB_12 BX_12 K9_12
      have HZ := Lib.hid (B_14.out.size)
      obtain ⟨RL, ho3, ha3⟩ := OB_14.out
      have OO := Lib.hid ho3; have AA := Lib.hid ha3
      clear ho3 ha3
      have HL1 := Lib.hid (show RL.length ≤ 100000 by rw [AA.out.len, HLN.out]; omega)
      go_upto_region 6 with (at_builtin; refine wpList_appG encB_len (by decide) encB_one 24 42 24 _ Try.underlying24 inf41 rfl (by decide) rfl _ _ rfl w.heap.size _ RL rfl OO.out ⟨v13.heap.size, 0, none⟩ 1 1 [rb] rfl S2.out HL1.out (by decide) HZ.out ?_; intro v9 w9 ho9 hg9; obtain ⟨ra9, rc9, rfl, _⟩ := OwnR.recs encB_len ho9.out; have k1 := Bx.other KP_14.out hg9.out (ownR_apart OO.out KP_14.out (by decide)); have l1 := Bx.lt k1; have f1 := Bx.froz k1 5; obtain ⟨y0, y1, y2, y3, y4, y5⟩ := Bx.cells6 k1)
      clear cKP0 cKP1 cKP2 cKP3 cKP4 cKP5
      have BX9 := Lib.hid (OBlk.away BX_14.out hg9.out (Away.own OO.out (by decide)))
      have KX9 := Lib.hid (Bx.other KX_14.out hg9.out (ownR_apart OO.out KX_14.out (by decide)))
      have KP9 := Lib.hid (Bx.other KP_14.out hg9.out (ownR_apart OO.out KP_14.out (by decide)))
      have K29 := Lib.hid (Bx.other K2_14.out hg9.out (ownR_apart OO.out K2_14.out (by decide)))
      have B9 := Lib.hid (Below.grown B_14.out hg9.out HZ.out (fun r hr => OwnR.lt OO.out r hr))
      have OC9 := Lib.hid (OwnR.away OC_14.out hg9.out (Away.own OO.out (by decide)))
      have OS9 := Lib.hid (OSels.away OS_14.out hg9.out (Away.own OO.out (by decide)) (Away.own OO.out (by decide)))
      have HO9 := Lib.hid (show OBlks w9 w.heap.size (.slice ra9 (RL.length + 1) rc9) (L ++ [sx]) from ⟨RL ++ [rb], by have := ho9.out; rwa [List.length_append, List.length_singleton] at this, (AA.out.mono fun _ _ h => OBlk.away h hg9.out (Away.own OO.out (by decide))).snoc BX9.out⟩)
      clear hg9
      have SG15 := Lib.hid (grow_setCell w9 bp 5 (.slice ra9 (RL.length + 1) rc9))
      have KX_15 := Lib.hid (Bx.other KX9.out SG15.out (some_ne nbxbp))
      have KP_15 := Lib.hid ((show Bx (w9.setCell ⟨bp, 5, none⟩ (.slice ra9 (RL.length + 1) rc9)) bp #[.slice ca cn cc, .int .i64 mu, .int .i64 on, .int .i64 va, .slice sa sn sc, .slice ra9 (RL.length + 1) rc9] _ from Bx.set KP9.out 5 (.slice ra9 (RL.length + 1) rc9)))
      have K2_15 := Lib.hid (Bx.other K29.out SG15.out (some_ne nb2bp))
      have B_15 := Lib.hid (B9.out.trans (below_grown SG15.out Hnbp.out B9.out.size))
      have OC_15 := Lib.hid (OwnR.away OC9.out SG15.out (Away.box KP9.out (by decide)))
      have OS_15 := Lib.hid (OSels.away OS9.out SG15.out (Away.box KP9.out (by decide)) (Away.box KP9.out (by decide)))
      have OB_15 := Lib.hid (OBlks.away HO9.out SG15.out (Away.box KP9.out (by decide)) (Away.box KP9.out (by decide)))
      obtain ⟨v16, hv16⟩ : ∃ zz, zz = w9.setCell ⟨bp, 5, none⟩ (.slice ra9 (RL.length + 1) rc9) := ⟨_, rfl⟩
      rw [← hv16] at KX_15 KP_15 K2_15 B_15 OC_15 OS_15 OB_15
      have gv16 := hv16
      first | rw [← hv16] | rw [← gv16]
      clear hv16 gv16
      clear SG15 KX9 KP9 K29 B9 OC9 OS9 HO9
      go_wp2_with fail
      go_roundw
      case rel => exact ⟨k + 1, L ++ [sx], qa, qn, qe, _, by go_num, by omega, OB_15.out, OC_15.out, OS_15.out, by rw [List.length_append, HLN.out, List.length_singleton]; omega, HYQ.out, KX_15.out, KP_15.out, K2_15.out, B_15.out, HR1.out⟩
      case measure => simp [intOf]; omega
    · have HD : (ye = 0 ∧ R = .ok ⟨caps, mu, on, va, sels, L⟩ ya ∧ k = m) ∨ (¬ ye = 0 ∧ R = .no ye) := by
        rcases hd with ⟨a, b, c, d'⟩ | h
        · have hkm : k = m := by
            by_cases hlt : k < m
            · exact absurd ⟨hlt, a⟩ hgo
            · omega
          subst hkm
          exact .inl ⟨a, by rw [c, d']; rfl, rfl⟩
        · exact .inr h
      clear hd
      rcases HD with ⟨he, hR, hkm⟩ | ⟨hne, hR⟩
      rotate_left
      · have HDZ := Lib.hid (show decZ (tx s) = (zeroPr, ye) by unfold decZ; rw [← HRD.out, hR])
        have hneb : (ye == 0) = false := by rw [beq_eq_false_iff_ne]; exact hne
        have hnec : (ye != 0) = true := by simp [hne]
        clear hR hgo
        have hcases : (¬ k < m) ∨ (k < m) := by omega
        rcases hcases with hlt | hlt
        all_goals
          first | (have hlt' : ¬ (k : Int) < (m : Int) := by omega) | (have hlt' : (k : Int) < (m : Int) := by omega)
          obtain ⟨cKX0, cKX1, cKX2, cKX3⟩ := Bx.cells4 KX.out
          go_upto_region 10 with (fail)
          go_upto_region 12 with (fail)
          go_upto_region 14 with (fail)
          clear cKX0 cKX1 cKX2 cKX3
          obtain ⟨cKX0, cKX1, cKX2, cKX3⟩ := Bx.cells4 KX.out
          go_upto_region 15 with (fail)
          clear cKX0 cKX1 cKX2 cKX3
          have HSS := Lib.hid (show ∀ W, Bx W bx #[.string s, .int .i64 (ya : Int), .int .i64 yn, .int .i64 ye] 58 → (fun W => W.cell? ⟨bx, 0, none⟩ = some (.string s) ∧ W.cell? ⟨bx, 1, none⟩ = some (.int .i64 (ya : Int)) ∧ W.cell? ⟨bx, 2, none⟩ = some (.int .i64 yn) ∧ W.cell? ⟨bx, 3, none⟩ = some (.int .i64 ye)) W from fun W h0 => ⟨Bx.cell h0 0 rfl, Bx.cell h0 1 rfl, Bx.cell h0 2 rfl, Bx.cell h0 3 rfl⟩)
          refine wp_region_held_drew (S := (fun W => W.cell? ⟨bx, 0, none⟩ = some (.string s) ∧ W.cell? ⟨bx, 1, none⟩ = some (.int .i64 (ya : Int)) ∧ W.cell? ⟨bx, 2, none⟩ = some (.int .i64 yn) ∧ W.cell? ⟨bx, 3, none⟩ = some (.int .i64 ye))) (by kernel_rfl) (HSS.out _ KX.out) (fun hHeld => ?_)
          (try simp only [Act.put, List.getElem_toArray, List.getElem_cons_zero, List.getElem_cons_succ, List.setIfInBounds_toArray, List.set_cons_zero, List.set_cons_succ])
          have DR : Below wr.heap.size wr wr.drew := (Below.refl _ _).drew
          have KX_17 := Lib.hid (Bx.below KX.out DR)
          have KP_17 := Lib.hid (Bx.below KP.out DR)
          have K2_17 := Lib.hid (Bx.below K2.out DR)
          have B_17 := Lib.hid (B.out.trans (Below.mono DR B.out.size))
          have OC_17 := Lib.hid (OwnR.below OC.out DR)
          have OS_17 := Lib.hid (OSels.below OS.out DR)
          have OB_17 := Lib.hid (OBlks.below HO.out DR)
          clear DR KX KP K2 B OC OS HO
          obtain ⟨v18, hv18⟩ : ∃ zz, zz = wr.drew := ⟨_, rfl⟩
          rw [← hv18] at KX_17 KP_17 K2_17 B_17 OC_17 OS_17 OB_17
          have gv18 := hv18
          first | rw [← hv18] | rw [← gv18]
          clear hv18 gv18
          clear hHeld
          have hHeld := HSS.out _ KX_17.out
          dsimp only at hHeld
          refine wpAnyH_take (i := 0) (v := ?_) rfl (by kernel_rfl) (by kernel_rfl) (by kernel_rfl) (fun _ _ _ h => h) (Or.inl ⟨by rfl, ?_⟩) (by assumption) ?_
          rotate_left
          · (intro w hSw; (try dsimp only at hSw); go_simp; try with_reducible rfl)
          (try simp only [Act.put, List.getElem_toArray, List.getElem_cons_zero, List.getElem_cons_succ, List.setIfInBounds_toArray, List.set_cons_zero, List.set_cons_succ])
          refine wpAnyH_take (i := 1) (v := ?_) rfl (by kernel_rfl) (by kernel_rfl) (by kernel_rfl) (fun _ _ _ h => h) (Or.inl ⟨by rfl, ?_⟩) (by assumption) ?_
          rotate_left
          · (intro w hSw; (try dsimp only at hSw); go_simp; try with_reducible rfl)
          (try simp only [Act.put, List.getElem_toArray, List.getElem_cons_zero, List.getElem_cons_succ, List.setIfInBounds_toArray, List.set_cons_zero, List.set_cons_succ])
          refine wpAnyH_take (i := 2) (v := ?_) rfl (by kernel_rfl) (by kernel_rfl) (by kernel_rfl) (fun _ _ _ h => h) (Or.inl ⟨by rfl, ?_⟩) (by assumption) ?_
          rotate_left
          · (intro w hSw; (try dsimp only at hSw); go_simp; try with_reducible rfl)
          (try simp only [Act.put, List.getElem_toArray, List.getElem_cons_zero, List.getElem_cons_succ, List.setIfInBounds_toArray, List.set_cons_zero, List.set_cons_succ])
          have SG19 := Lib.hid (grown_st6 (World.grownBy.refl v18 (some b2)) (.slice none 0 0) (.int .i64 0) (.int .i64 0) (.int .i64 0) (.slice none 0 0) (.slice none 0 0))
          have KX_19 := Lib.hid (Bx.other KX_17.out SG19.out (some_ne nbxb2))
          have KP_19 := Lib.hid (Bx.other KP_17.out SG19.out (some_ne nbpb2))
          have K2_19 := Lib.hid (Bx.st6 K2_17.out (.slice none 0 0) (.int .i64 0) (.int .i64 0) (.int .i64 0) (.slice none 0 0) (.slice none 0 0))
          have B_19 := Lib.hid (B_17.out.trans (below_grown SG19.out Hnb2.out B_17.out.size))
          have OC_19 := Lib.hid (OwnR.away OC_17.out SG19.out (Away.box K2_17.out (by decide)))
          have OS_19 := Lib.hid (OSels.away OS_17.out SG19.out (Away.box K2_17.out (by decide)) (Away.box K2_17.out (by decide)))
          have OB_19 := Lib.hid (OBlks.away OB_17.out SG19.out (Away.box K2_17.out (by decide)) (Away.box K2_17.out (by decide)))
          obtain ⟨cK20, cK21, cK22, cK23, cK24, cK25⟩ := Bx.cells6 K2_17.out
          have lK2 := Bx.lt K2_17.out; have fK20 := Bx.froz K2_17.out 0; have fK21 := Bx.froz K2_17.out 1; have fK22 := Bx.froz K2_17.out 2; have fK23 := Bx.froz K2_17.out 3; have fK24 := Bx.froz K2_17.out 4; have fK25 := Bx.froz K2_17.out 5
          refine wpAnyH_ready (rs := [3]) (by kernel_rfl) (by simp) ?_
          refine AllReadyH.cons (o := _) rfl (fun K hK => ?_) AllReadyH.nil
          go_simp
          clear cK20 cK21 cK22 cK23 cK24 cK25 lK2 fK20 fK21 fK22 fK23 fK24 fK25
          clear hHeld
          refine hK.out _ _ (HSS.out _ KX_19.out) (fun hHeld => ?_)
          clear hK K
          (try simp only [Act.put, List.getElem_toArray, List.getElem_cons_zero, List.getElem_cons_succ, List.setIfInBounds_toArray, List.set_cons_zero, List.set_cons_succ])
          obtain ⟨v20, hv20⟩ : ∃ zz, zz = st6 v18 b2 (.slice none 0 0) (.int .i64 0) (.int .i64 0) (.int .i64 0) (.slice none 0 0) (.slice none 0 0) := ⟨_, rfl⟩
          rw [← hv20] at KX_19 KP_19 K2_19 B_19 OC_19 OS_19 OB_19
          have gv20 := hv20
          simp only [st6] at gv20
          first | rw [← hv20] | rw [← gv20]
          clear hv20 gv20
          clear SG19 KX_17 KP_17 K2_17 B_17 OC_17 OS_17 OB_17
          clear hHeld
          have hHeld := HSS.out _ KX_19.out
          dsimp only at hHeld
          refine wpAnyH_take (i := 4) (v := ?_) rfl (by kernel_rfl) (by kernel_rfl) (by kernel_rfl) (fun _ _ _ h => h) (Or.inl ⟨by rfl, ?_⟩) (by assumption) ?_
          rotate_left
          · (intro w hSw; (try dsimp only at hSw); go_simp; try with_reducible rfl)
          (try simp only [Act.put, List.getElem_toArray, List.getElem_cons_zero, List.getElem_cons_succ, List.setIfInBounds_toArray, List.set_cons_zero, List.set_cons_succ])
          refine wpAnyH_done (by kernel_rfl) ?_ _
          clear hHeld HSS
          rename_i aK
          refine aK _ _ ?_
          refine wp_ret ?_
          refine bodyPost_ret (v := .tuple #[.agg #[.slice none 0 0, .int .i64 0, .int .i64 0, .int .i64 0, .slice none 0 0, .slice none 0 0], .int .i64 ye]) (by first | rw [res_c1 Try.results15 _ (by rfl) (Bx.load K2_19.out Try.underlying26 inf26)]; rfl | skip) rfl ?_
          rw [HQ.out, HDZ.out]
          exact ⟨zeroAt, rfl, Prg.zero _, B_19.out⟩
      subst he hkm
      have hlt : ¬ k < k := by omega
      have hlt' : ¬ (k : Int) < (k : Int) := by omega
      clear hgo
      by_cases hlen : ya < s.size
      · have HDZ := Lib.hid (show decZ (tx s) = (zeroPr, 10) by unfold decZ; rw [← HRD.out, hR]; dsimp only; rw [if_pos (by rw [tx_len]; exact hlen)])
        have hlen' : (ya : Int) < (s.size : Int) := by omega
        clear hR
        obtain ⟨cKX0, cKX1, cKX2, cKX3⟩ := Bx.cells4 KX.out
        have lKX := Bx.lt KX.out; have fKX0 := Bx.froz KX.out 0; have fKX1 := Bx.froz KX.out 1; have fKX2 := Bx.froz KX.out 2; have fKX3 := Bx.froz KX.out 3
        go_upto_region 10 with (fail)
        go_upto_region 12 with (fail)
        clear cKX0 cKX1 cKX2 cKX3 lKX fKX0 fKX1 fKX2 fKX3
        have SG21 := Lib.hid (grow_setCell wr bx 3 (.int .i64 10))
        have KX_21 := Lib.hid ((show Bx (wr.setCell ⟨bx, 3, none⟩ (.int .i64 10)) bx #[.string s, .int .i64 (ya : Int), .int .i64 yn, .int .i64 10] _ from Bx.set KX.out 3 (.int .i64 10)))
        have KP_21 := Lib.hid (Bx.other KP.out SG21.out (some_ne nbpbx))
        have K2_21 := Lib.hid (Bx.other K2.out SG21.out (some_ne nb2bx))
        have B_21 := Lib.hid (B.out.trans (below_grown SG21.out Hnbx.out B.out.size))
        have OC_21 := Lib.hid (OwnR.away OC.out SG21.out (Away.box KX.out (by decide)))
        have OS_21 := Lib.hid (OSels.away OS.out SG21.out (Away.box KX.out (by decide)) (Away.box KX.out (by decide)))
        have OB_21 := Lib.hid (OBlks.away HO.out SG21.out (Away.box KX.out (by decide)) (Away.box KX.out (by decide)))
        obtain ⟨v22, hv22⟩ : ∃ zz, zz = wr.setCell ⟨bx, 3, none⟩ (.int .i64 10) := ⟨_, rfl⟩
        rw [← hv22] at KX_21 KP_21 K2_21 B_21 OC_21 OS_21 OB_21
        have gv22 := hv22
        first | rw [← hv22] | rw [← gv22]
        clear hv22 gv22
        clear SG21 KX KP K2 B OC OS HO
        obtain ⟨cKX0, cKX1, cKX2, cKX3⟩ := Bx.cells4 KX_21.out
        go_upto_region 14 with (fail)
        clear cKX0 cKX1 cKX2 cKX3
        obtain ⟨cKX0, cKX1, cKX2, cKX3⟩ := Bx.cells4 KX_21.out
        go_upto_region 15 with (fail)
        clear cKX0 cKX1 cKX2 cKX3
        have HSS := Lib.hid (show ∀ W, Bx W bx #[.string s, .int .i64 (ya : Int), .int .i64 yn, .int .i64 10] 58 → (fun W => W.cell? ⟨bx, 0, none⟩ = some (.string s) ∧ W.cell? ⟨bx, 1, none⟩ = some (.int .i64 (ya : Int)) ∧ W.cell? ⟨bx, 2, none⟩ = some (.int .i64 yn) ∧ W.cell? ⟨bx, 3, none⟩ = some (.int .i64 10)) W from fun W h0 => ⟨Bx.cell h0 0 rfl, Bx.cell h0 1 rfl, Bx.cell h0 2 rfl, Bx.cell h0 3 rfl⟩)
        refine wp_region_held_drew (S := (fun W => W.cell? ⟨bx, 0, none⟩ = some (.string s) ∧ W.cell? ⟨bx, 1, none⟩ = some (.int .i64 (ya : Int)) ∧ W.cell? ⟨bx, 2, none⟩ = some (.int .i64 yn) ∧ W.cell? ⟨bx, 3, none⟩ = some (.int .i64 10))) (by kernel_rfl) (HSS.out _ KX_21.out) (fun hHeld => ?_)
        (try simp only [Act.put, List.getElem_toArray, List.getElem_cons_zero, List.getElem_cons_succ, List.setIfInBounds_toArray, List.set_cons_zero, List.set_cons_succ])
        have DR : Below v22.heap.size v22 v22.drew := (Below.refl _ _).drew
        have KX_23 := Lib.hid (Bx.below KX_21.out DR)
        have KP_23 := Lib.hid (Bx.below KP_21.out DR)
        have K2_23 := Lib.hid (Bx.below K2_21.out DR)
        have B_23 := Lib.hid (B_21.out.trans (Below.mono DR B_21.out.size))
        have OC_23 := Lib.hid (OwnR.below OC_21.out DR)
        have OS_23 := Lib.hid (OSels.below OS_21.out DR)
        have OB_23 := Lib.hid (OBlks.below OB_21.out DR)
        clear DR KX_21 KP_21 K2_21 B_21 OC_21 OS_21 OB_21
        obtain ⟨v24, hv24⟩ : ∃ zz, zz = v22.drew := ⟨_, rfl⟩
        rw [← hv24] at KX_23 KP_23 K2_23 B_23 OC_23 OS_23 OB_23
        have gv24 := hv24
        first | rw [← hv24] | rw [← gv24]
        clear hv24 gv24
        clear hHeld
        have hHeld := HSS.out _ KX_23.out
        dsimp only at hHeld
        refine wpAnyH_take (i := 0) (v := ?_) rfl (by kernel_rfl) (by kernel_rfl) (by kernel_rfl) (fun _ _ _ h => h) (Or.inl ⟨by rfl, ?_⟩) (by assumption) ?_
        rotate_left
        · (intro w hSw; (try dsimp only at hSw); go_simp; try with_reducible rfl)
        (try simp only [Act.put, List.getElem_toArray, List.getElem_cons_zero, List.getElem_cons_succ, List.setIfInBounds_toArray, List.set_cons_zero, List.set_cons_succ])
        refine wpAnyH_take (i := 1) (v := ?_) rfl (by kernel_rfl) (by kernel_rfl) (by kernel_rfl) (fun _ _ _ h => h) (Or.inl ⟨by rfl, ?_⟩) (by assumption) ?_
        rotate_left
        · (intro w hSw; (try dsimp only at hSw); go_simp; try with_reducible rfl)
        (try simp only [Act.put, List.getElem_toArray, List.getElem_cons_zero, List.getElem_cons_succ, List.setIfInBounds_toArray, List.set_cons_zero, List.set_cons_succ])
        refine wpAnyH_take (i := 2) (v := ?_) rfl (by kernel_rfl) (by kernel_rfl) (by kernel_rfl) (fun _ _ _ h => h) (Or.inl ⟨by rfl, ?_⟩) (by assumption) ?_
        rotate_left
        · (intro w hSw; (try dsimp only at hSw); go_simp; try with_reducible rfl)
        (try simp only [Act.put, List.getElem_toArray, List.getElem_cons_zero, List.getElem_cons_succ, List.setIfInBounds_toArray, List.set_cons_zero, List.set_cons_succ])
        have SG25 := Lib.hid (grown_st6 (World.grownBy.refl v24 (some b2)) (.slice none 0 0) (.int .i64 0) (.int .i64 0) (.int .i64 0) (.slice none 0 0) (.slice none 0 0))
        have KX_25 := Lib.hid (Bx.other KX_23.out SG25.out (some_ne nbxb2))
        have KP_25 := Lib.hid (Bx.other KP_23.out SG25.out (some_ne nbpb2))
        have K2_25 := Lib.hid (Bx.st6 K2_23.out (.slice none 0 0) (.int .i64 0) (.int .i64 0) (.int .i64 0) (.slice none 0 0) (.slice none 0 0))
        have B_25 := Lib.hid (B_23.out.trans (below_grown SG25.out Hnb2.out B_23.out.size))
        have OC_25 := Lib.hid (OwnR.away OC_23.out SG25.out (Away.box K2_23.out (by decide)))
        have OS_25 := Lib.hid (OSels.away OS_23.out SG25.out (Away.box K2_23.out (by decide)) (Away.box K2_23.out (by decide)))
        have OB_25 := Lib.hid (OBlks.away OB_23.out SG25.out (Away.box K2_23.out (by decide)) (Away.box K2_23.out (by decide)))
        obtain ⟨cK20, cK21, cK22, cK23, cK24, cK25⟩ := Bx.cells6 K2_23.out
        have lK2 := Bx.lt K2_23.out; have fK20 := Bx.froz K2_23.out 0; have fK21 := Bx.froz K2_23.out 1; have fK22 := Bx.froz K2_23.out 2; have fK23 := Bx.froz K2_23.out 3; have fK24 := Bx.froz K2_23.out 4; have fK25 := Bx.froz K2_23.out 5
        refine wpAnyH_ready (rs := [3]) (by kernel_rfl) (by simp) ?_
        refine AllReadyH.cons (o := _) rfl (fun K hK => ?_) AllReadyH.nil
        go_simp
        clear cK20 cK21 cK22 cK23 cK24 cK25 lK2 fK20 fK21 fK22 fK23 fK24 fK25
        clear hHeld
        refine hK.out _ _ (HSS.out _ KX_25.out) (fun hHeld => ?_)
        clear hK K
        (try simp only [Act.put, List.getElem_toArray, List.getElem_cons_zero, List.getElem_cons_succ, List.setIfInBounds_toArray, List.set_cons_zero, List.set_cons_succ])
        obtain ⟨v26, hv26⟩ : ∃ zz, zz = st6 v24 b2 (.slice none 0 0) (.int .i64 0) (.int .i64 0) (.int .i64 0) (.slice none 0 0) (.slice none 0 0) := ⟨_, rfl⟩
        rw [← hv26] at KX_25 KP_25 K2_25 B_25 OC_25 OS_25 OB_25
        have gv26 := hv26
        simp only [st6] at gv26
        first | rw [← hv26] | rw [← gv26]
        clear hv26 gv26
        clear SG25 KX_23 KP_23 K2_23 B_23 OC_23 OS_23 OB_23
        clear hHeld
        have hHeld := HSS.out _ KX_25.out
        dsimp only at hHeld
        refine wpAnyH_take (i := 4) (v := ?_) rfl (by kernel_rfl) (by kernel_rfl) (by kernel_rfl) (fun _ _ _ h => h) (Or.inl ⟨by rfl, ?_⟩) (by assumption) ?_
        rotate_left
        · (intro w hSw; (try dsimp only at hSw); go_simp; try with_reducible rfl)
        (try simp only [Act.put, List.getElem_toArray, List.getElem_cons_zero, List.getElem_cons_succ, List.setIfInBounds_toArray, List.set_cons_zero, List.set_cons_succ])
        refine wpAnyH_done (by kernel_rfl) ?_ _
        clear hHeld HSS
        rename_i aK
        refine aK _ _ ?_
        refine wp_ret ?_
        refine bodyPost_ret (v := .tuple #[.agg #[.slice none 0 0, .int .i64 0, .int .i64 0, .int .i64 0, .slice none 0 0, .slice none 0 0], .int .i64 10]) (by first | rw [res_c1 Try.results15 _ (by rfl) (Bx.load K2_25.out Try.underlying26 inf26)]; rfl | skip) rfl ?_
        rw [HQ.out, HDZ.out]
        exact ⟨zeroAt, rfl, Prg.zero _, B_25.out⟩
      · have hlen' : ¬ (ya : Int) < (s.size : Int) := by omega
        have HRT := Lib.hid (fun W H => refRight_any ⟨caps, mu, on, va, sels, L⟩ ⟨ca, cn, cc, sa, sn, sc, ra, L.length, rc⟩ W H)
        cases hrt : rightP ⟨caps, mu, on, va, sels, L⟩ with
        | false =>
          have HDZ := Lib.hid (show decZ (tx s) = (zeroPr, 1) by unfold decZ; rw [← HRD.out, hR]; dsimp only; rw [if_neg (by rw [tx_len]; exact hlen), if_neg (by rw [hrt]; simp)])
          rw [hrt] at HRT
          clear hR hrt
          obtain ⟨cKX0, cKX1, cKX2, cKX3⟩ := Bx.cells4 KX.out
          obtain ⟨cKP0, cKP1, cKP2, cKP3, cKP4, cKP5⟩ := Bx.cells6 KP.out
          go_upto_region 10 with (fail)
          go_upto_region 12 with (fail)
          go_wp2_with fail
          clear cKX0 cKX1 cKX2 cKX3 cKP0 cKP1 cKP2 cKP3 cKP4 cKP5
          refine (HRT.out wr (RepQ.prg (⟨OC.out, OS.out, HO.out, HLs.out.1, HLs.out.2.1, hl6, HLs.out.2.2.1, HLs.out.2.2.2.1, HLs.out.2.2.2.2.1, HLs.out.2.2.2.2.2⟩ : RepQ w.heap.size _ ⟨caps, mu, on, va, sels, L⟩ ⟨ca, cn, cc, sa, sn, sc, ra, L.length, rc⟩))).mono ?_
          rintro e u4 ⟨rfl, hb⟩
          clear HRT
          have KX_27 := Lib.hid (Bx.below KX.out hb)
          have KP_27 := Lib.hid (Bx.below KP.out hb)
          have K2_27 := Lib.hid (Bx.below K2.out hb)
          have B_27 := Lib.hid (B.out.trans (Below.mono hb B.out.size))
          have OC_27 := Lib.hid (OwnR.below OC.out hb)
          have OS_27 := Lib.hid (OSels.below OS.out hb)
          have OB_27 := Lib.hid (OBlks.below HO.out hb)
          clear hb KX KP K2 B OC OS HO
          obtain ⟨cKX0, cKX1, cKX2, cKX3⟩ := Bx.cells4 KX_27.out
          have lKX := Bx.lt KX_27.out; have fKX0 := Bx.froz KX_27.out 0; have fKX1 := Bx.froz KX_27.out 1; have fKX2 := Bx.froz KX_27.out 2; have fKX3 := Bx.froz KX_27.out 3
          go_upto_region 14 with (fail)
          clear cKX0 cKX1 cKX2 cKX3 lKX fKX0 fKX1 fKX2 fKX3
          have SG28 := Lib.hid (grow_setCell u4 bx 3 (.int .i64 1))
          have KX_28 := Lib.hid ((show Bx (u4.setCell ⟨bx, 3, none⟩ (.int .i64 1)) bx #[.string s, .int .i64 (ya : Int), .int .i64 yn, .int .i64 1] _ from Bx.set KX_27.out 3 (.int .i64 1)))
          have KP_28 := Lib.hid (Bx.other KP_27.out SG28.out (some_ne nbpbx))
          have K2_28 := Lib.hid (Bx.other K2_27.out SG28.out (some_ne nb2bx))
          have B_28 := Lib.hid (B_27.out.trans (below_grown SG28.out Hnbx.out B_27.out.size))
          have OC_28 := Lib.hid (OwnR.away OC_27.out SG28.out (Away.box KX_27.out (by decide)))
          have OS_28 := Lib.hid (OSels.away OS_27.out SG28.out (Away.box KX_27.out (by decide)) (Away.box KX_27.out (by decide)))
          have OB_28 := Lib.hid (OBlks.away OB_27.out SG28.out (Away.box KX_27.out (by decide)) (Away.box KX_27.out (by decide)))
          obtain ⟨v29, hv29⟩ : ∃ zz, zz = u4.setCell ⟨bx, 3, none⟩ (.int .i64 1) := ⟨_, rfl⟩
          rw [← hv29] at KX_28 KP_28 K2_28 B_28 OC_28 OS_28 OB_28
          have gv29 := hv29
          first | rw [← hv29] | rw [← gv29]
          clear hv29 gv29
          clear SG28 KX_27 KP_27 K2_27 B_27 OC_27 OS_27 OB_27
          obtain ⟨cKX0, cKX1, cKX2, cKX3⟩ := Bx.cells4 KX_28.out
          go_upto_region 15 with (fail)
          clear cKX0 cKX1 cKX2 cKX3
          have HSS := Lib.hid (show ∀ W, Bx W bx #[.string s, .int .i64 (ya : Int), .int .i64 yn, .int .i64 1] 58 → (fun W => W.cell? ⟨bx, 0, none⟩ = some (.string s) ∧ W.cell? ⟨bx, 1, none⟩ = some (.int .i64 (ya : Int)) ∧ W.cell? ⟨bx, 2, none⟩ = some (.int .i64 yn) ∧ W.cell? ⟨bx, 3, none⟩ = some (.int .i64 1)) W from fun W h0 => ⟨Bx.cell h0 0 rfl, Bx.cell h0 1 rfl, Bx.cell h0 2 rfl, Bx.cell h0 3 rfl⟩)
          refine wp_region_held_drew (S := (fun W => W.cell? ⟨bx, 0, none⟩ = some (.string s) ∧ W.cell? ⟨bx, 1, none⟩ = some (.int .i64 (ya : Int)) ∧ W.cell? ⟨bx, 2, none⟩ = some (.int .i64 yn) ∧ W.cell? ⟨bx, 3, none⟩ = some (.int .i64 1))) (by kernel_rfl) (HSS.out _ KX_28.out) (fun hHeld => ?_)
          (try simp only [Act.put, List.getElem_toArray, List.getElem_cons_zero, List.getElem_cons_succ, List.setIfInBounds_toArray, List.set_cons_zero, List.set_cons_succ])
          have DR : Below v29.heap.size v29 v29.drew := (Below.refl _ _).drew
          have KX_30 := Lib.hid (Bx.below KX_28.out DR)
          have KP_30 := Lib.hid (Bx.below KP_28.out DR)
          have K2_30 := Lib.hid (Bx.below K2_28.out DR)
          have B_30 := Lib.hid (B_28.out.trans (Below.mono DR B_28.out.size))
          have OC_30 := Lib.hid (OwnR.below OC_28.out DR)
          have OS_30 := Lib.hid (OSels.below OS_28.out DR)
          have OB_30 := Lib.hid (OBlks.below OB_28.out DR)
          clear DR KX_28 KP_28 K2_28 B_28 OC_28 OS_28 OB_28
          obtain ⟨v31, hv31⟩ : ∃ zz, zz = v29.drew := ⟨_, rfl⟩
          rw [← hv31] at KX_30 KP_30 K2_30 B_30 OC_30 OS_30 OB_30
          have gv31 := hv31
          first | rw [← hv31] | rw [← gv31]
          clear hv31 gv31
          clear hHeld
          have hHeld := HSS.out _ KX_30.out
          dsimp only at hHeld
          refine wpAnyH_take (i := 0) (v := ?_) rfl (by kernel_rfl) (by kernel_rfl) (by kernel_rfl) (fun _ _ _ h => h) (Or.inl ⟨by rfl, ?_⟩) (by assumption) ?_
          rotate_left
          · (intro w hSw; (try dsimp only at hSw); go_simp; try with_reducible rfl)
          (try simp only [Act.put, List.getElem_toArray, List.getElem_cons_zero, List.getElem_cons_succ, List.setIfInBounds_toArray, List.set_cons_zero, List.set_cons_succ])
          refine wpAnyH_take (i := 1) (v := ?_) rfl (by kernel_rfl) (by kernel_rfl) (by kernel_rfl) (fun _ _ _ h => h) (Or.inl ⟨by rfl, ?_⟩) (by assumption) ?_
          rotate_left
          · (intro w hSw; (try dsimp only at hSw); go_simp; try with_reducible rfl)
          (try simp only [Act.put, List.getElem_toArray, List.getElem_cons_zero, List.getElem_cons_succ, List.setIfInBounds_toArray, List.set_cons_zero, List.set_cons_succ])
          refine wpAnyH_take (i := 2) (v := ?_) rfl (by kernel_rfl) (by kernel_rfl) (by kernel_rfl) (fun _ _ _ h => h) (Or.inl ⟨by rfl, ?_⟩) (by assumption) ?_
          rotate_left
          · (intro w hSw; (try dsimp only at hSw); go_simp; try with_reducible rfl)
          (try simp only [Act.put, List.getElem_toArray, List.getElem_cons_zero, List.getElem_cons_succ, List.setIfInBounds_toArray, List.set_cons_zero, List.set_cons_succ])
          have SG32 := Lib.hid (grown_st6 (World.grownBy.refl v31 (some b2)) (.slice none 0 0) (.int .i64 0) (.int .i64 0) (.int .i64 0) (.slice none 0 0) (.slice none 0 0))
          have KX_32 := Lib.hid (Bx.other KX_30.out SG32.out (some_ne nbxb2))
          have KP_32 := Lib.hid (Bx.other KP_30.out SG32.out (some_ne nbpb2))
          have K2_32 := Lib.hid (Bx.st6 K2_30.out (.slice none 0 0) (.int .i64 0) (.int .i64 0) (.int .i64 0) (.slice none 0 0) (.slice none 0 0))
          have B_32 := Lib.hid (B_30.out.trans (below_grown SG32.out Hnb2.out B_30.out.size))
          have OC_32 := Lib.hid (OwnR.away OC_30.out SG32.out (Away.box K2_30.out (by decide)))
          have OS_32 := Lib.hid (OSels.away OS_30.out SG32.out (Away.box K2_30.out (by decide)) (Away.box K2_30.out (by decide)))
          have OB_32 := Lib.hid (OBlks.away OB_30.out SG32.out (Away.box K2_30.out (by decide)) (Away.box K2_30.out (by decide)))
          obtain ⟨cK20, cK21, cK22, cK23, cK24, cK25⟩ := Bx.cells6 K2_30.out
          have lK2 := Bx.lt K2_30.out; have fK20 := Bx.froz K2_30.out 0; have fK21 := Bx.froz K2_30.out 1; have fK22 := Bx.froz K2_30.out 2; have fK23 := Bx.froz K2_30.out 3; have fK24 := Bx.froz K2_30.out 4; have fK25 := Bx.froz K2_30.out 5
          refine wpAnyH_ready (rs := [3]) (by kernel_rfl) (by simp) ?_
          refine AllReadyH.cons (o := _) rfl (fun K hK => ?_) AllReadyH.nil
          go_simp
          clear cK20 cK21 cK22 cK23 cK24 cK25 lK2 fK20 fK21 fK22 fK23 fK24 fK25
          clear hHeld
          refine hK.out _ _ (HSS.out _ KX_32.out) (fun hHeld => ?_)
          clear hK K
          (try simp only [Act.put, List.getElem_toArray, List.getElem_cons_zero, List.getElem_cons_succ, List.setIfInBounds_toArray, List.set_cons_zero, List.set_cons_succ])
          obtain ⟨v33, hv33⟩ : ∃ zz, zz = st6 v31 b2 (.slice none 0 0) (.int .i64 0) (.int .i64 0) (.int .i64 0) (.slice none 0 0) (.slice none 0 0) := ⟨_, rfl⟩
          rw [← hv33] at KX_32 KP_32 K2_32 B_32 OC_32 OS_32 OB_32
          have gv33 := hv33
          simp only [st6] at gv33
          first | rw [← hv33] | rw [← gv33]
          clear hv33 gv33
          clear SG32 KX_30 KP_30 K2_30 B_30 OC_30 OS_30 OB_30
          clear hHeld
          have hHeld := HSS.out _ KX_32.out
          dsimp only at hHeld
          refine wpAnyH_take (i := 4) (v := ?_) rfl (by kernel_rfl) (by kernel_rfl) (by kernel_rfl) (fun _ _ _ h => h) (Or.inl ⟨by rfl, ?_⟩) (by assumption) ?_
          rotate_left
          · (intro w hSw; (try dsimp only at hSw); go_simp; try with_reducible rfl)
          (try simp only [Act.put, List.getElem_toArray, List.getElem_cons_zero, List.getElem_cons_succ, List.setIfInBounds_toArray, List.set_cons_zero, List.set_cons_succ])
          refine wpAnyH_done (by kernel_rfl) ?_ _
          clear hHeld HSS
          rename_i aK
          refine aK _ _ ?_
          refine wp_ret ?_
          refine bodyPost_ret (v := .tuple #[.agg #[.slice none 0 0, .int .i64 0, .int .i64 0, .int .i64 0, .slice none 0 0, .slice none 0 0], .int .i64 1]) (by first | rw [res_c1 Try.results15 _ (by rfl) (Bx.load K2_32.out Try.underlying26 inf26)]; rfl | skip) rfl ?_
          rw [HQ.out, HDZ.out]
          exact ⟨zeroAt, rfl, Prg.zero _, B_32.out⟩
        | true =>
          have HDZ := Lib.hid (show decZ (tx s) = (⟨caps, mu, on, va, sels, L⟩, 0) by unfold decZ; rw [← HRD.out, hR]; dsimp only; rw [if_neg (by rw [tx_len]; exact hlen), if_pos hrt])
          rw [hrt] at HRT
          clear hR hrt
          obtain ⟨cKX0, cKX1, cKX2, cKX3⟩ := Bx.cells4 KX.out
          obtain ⟨cKP0, cKP1, cKP2, cKP3, cKP4, cKP5⟩ := Bx.cells6 KP.out
          go_upto_region 10 with (fail)
          go_upto_region 12 with (fail)
          go_wp2_with fail
          clear cKX0 cKX1 cKX2 cKX3 cKP0 cKP1 cKP2 cKP3 cKP4 cKP5
          refine (HRT.out wr (RepQ.prg (⟨OC.out, OS.out, HO.out, HLs.out.1, HLs.out.2.1, hl6, HLs.out.2.2.1, HLs.out.2.2.2.1, HLs.out.2.2.2.2.1, HLs.out.2.2.2.2.2⟩ : RepQ w.heap.size _ ⟨caps, mu, on, va, sels, L⟩ ⟨ca, cn, cc, sa, sn, sc, ra, L.length, rc⟩))).mono ?_
          rintro e u5 ⟨rfl, hb⟩
          clear HRT
          have KX_34 := Lib.hid (Bx.below KX.out hb)
          have KP_34 := Lib.hid (Bx.below KP.out hb)
          have K2_34 := Lib.hid (Bx.below K2.out hb)
          have B_34 := Lib.hid (B.out.trans (Below.mono hb B.out.size))
          have OC_34 := Lib.hid (OwnR.below OC.out hb)
          have OS_34 := Lib.hid (OSels.below OS.out hb)
          have OB_34 := Lib.hid (OBlks.below HO.out hb)
          clear hb KX KP K2 B OC OS HO
          obtain ⟨cKX0, cKX1, cKX2, cKX3⟩ := Bx.cells4 KX_34.out
          obtain ⟨cKP0, cKP1, cKP2, cKP3, cKP4, cKP5⟩ := Bx.cells6 KP_34.out
          obtain ⟨cK20, cK21, cK22, cK23, cK24, cK25⟩ := Bx.cells6 K2_34.out
          have lK2 := Bx.lt K2_34.out; have fK20 := Bx.froz K2_34.out 0; have fK21 := Bx.froz K2_34.out 1; have fK22 := Bx.froz K2_34.out 2; have fK23 := Bx.froz K2_34.out 3; have fK24 := Bx.froz K2_34.out 4; have fK25 := Bx.froz K2_34.out 5
          go_upto_region 16 with (fail)
          have HE := Lib.hid (Bx.st6 K2_34.out (.slice ca cn cc) (.int .i64 mu) (.int .i64 on) (.int .i64 va) (.slice sa sn sc) (.slice ra L.length rc))
          have SG := Lib.hid (grown_st6 (World.grownBy.refl u5 (some b2)) (.slice ca cn cc) (.int .i64 mu) (.int .i64 on) (.int .i64 va) (.slice sa sn sc) (.slice ra L.length rc))
          have HBE := Lib.hid (B_34.out.trans (below_grown SG.out Hnb2.out B_34.out.size))
          have HPE := Lib.hid (RepQ.prg (RepQ.box (⟨OC_34.out, OS_34.out, OB_34.out, HLs.out.1, HLs.out.2.1, hl6, HLs.out.2.2.1, HLs.out.2.2.2.1, HLs.out.2.2.2.2.1, HLs.out.2.2.2.2.2⟩ : RepQ w.heap.size _ ⟨caps, mu, on, va, sels, L⟩ ⟨ca, cn, cc, sa, sn, sc, ra, L.length, rc⟩) K2_34.out SG.out))
          go_wp2_with fail
          rw [HQ.out, HDZ.out]
          refine bodyPost_ret (v := .tuple #[.agg #[.slice ca cn cc, .int .i64 mu, .int .i64 on, .int .i64 va, .slice sa sn sc, .slice ra L.length rc], .int .i64 0]) (by first | rw [res_c1 Try.results15 _ (by rfl) (Bx.load HE.out Try.underlying26 inf26)]; rfl | skip) rfl ?_
          exact ⟨⟨ca, cn, cc, sa, sn, sc, ra, L.length, rc⟩, rfl, HPE.out, HBE.out⟩
end Go.Proofs.Ytddkckppmjcclaa
