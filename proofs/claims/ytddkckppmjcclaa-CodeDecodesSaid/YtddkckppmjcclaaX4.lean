/- The reference's reader: sel. -/
import Derived.Test.YtddkckppmjcclaaX3
namespace Go.Proofs.Ytddkckppmjcclaa
open Go.RowKit
set_option linter.unusedSimpArgs false
set_option linter.unusedVariables false
theorem cas_link {T : List Int} (x : XS) : ((nextX T x).e = 0 ∧ stX (casP T) x = .ok ⟨decide ((nextX T x).n % 2 = 1), (nextX T x).n / 2⟩ (nextX T x).at_) ∨ (¬ (nextX T x).e = 0 ∧ stX (casP T) x = .no (nextX T x).e) := by
  have hc : casP T = fun i => (nP T i).bind fun n j => .ok ⟨decide (n % 2 = 1), n / 2⟩ j := by
    funext i
    unfold casP pairP
    cases nP T i <;> rfl
  rcases next_link (T := T) x with ⟨h1, hx, h2⟩ | ⟨h1, h2⟩
  · refine .inl ⟨h1, ?_⟩
    rw [stX_ok hx, hc]; show (nP T x.at_).bind _ = _; rw [h2]; rfl
  · refine .inr ⟨h1, ?_⟩
    rw [hc]; exact stX_bind h2
theorem sel_link {T : List Int} (x : XS) : ((manyX T x 2 4).e = 0 ∧ stX (selP T) x = (repP (casP T) ((manyX T x 2 4).n / 2).toNat (manyX T x 2 4).at_).bind (fun l j => .ok ⟨l, decide ((manyX T x 2 4).n % 2 = 1)⟩ j) ∧ (manyX T x 2 4).n / 2 ≤ 4) ∨ (¬ (manyX T x 2 4).e = 0 ∧ stX (selP T) x = .no (manyX T x 2 4).e) := by
  have hc : selP T = fun i => (nP T i).bind fun n j => if 4 < n / 2 then .no 2 else (repP (casP T) (n / 2).toNat j).bind fun l j' => .ok ⟨l, decide (n % 2 = 1)⟩ j' := by
    funext i
    unfold selP pairP
    cases nP T i <;> rfl
  unfold manyX
  rcases next_link (T := T) x with ⟨h1, hx, h2⟩ | ⟨h1, h2⟩
  · by_cases hb : 4 < (nextX T x).n / 2
    · rw [if_pos ⟨h1, hb⟩]
      refine .inr ⟨(show ¬ (2 : Int) = 0 by decide), ?_⟩
      rw [stX_ok hx, hc]; show (nP T x.at_).bind _ = _; rw [h2]; simp only [Res.bind]; rw [if_pos hb]
    · rw [if_neg (fun h => hb h.2)]
      refine .inl ⟨h1, ?_, by omega⟩
      rw [stX_ok hx, hc]; show (nP T x.at_).bind _ = _; rw [h2]; simp only [Res.bind]; rw [if_neg hb]
  · rw [if_neg (fun h => h1 h.1)]
    refine .inr ⟨h1, ?_⟩
    rw [hc]; exact stX_bind h2
def GotSel (s : ByteArray) (w : World) (r : Res Sel) (e : Ending) (w' : World) : Prop := ∃ (b : RSel) (x : Sel) (y : XS), e = .returned (.tuple #[.agg #[.slice b.a b.n b.c, .bool b.d], xV s y]) ∧ XOk (tx s) y ∧ OSel w' w.heap.size b x ∧
  Below w.heap.size w w' ∧ ((y.e = 0 ∧ r = .ok x y.at_) ∨ (¬ y.e = 0 ∧ r = .no y.e))
set_option maxRecDepth 100000 in
set_option maxHeartbeats 8000000 in
theorem refSel_any (s : ByteArray) (x : XS) (w : World) (h : XOk (tx s) x) (hs : s.size ≤ 100000) : Calls Try.prog 42 #[xV s x] w (GotSel s w (stX (selP (tx s)) x)) := by
  have hT := tx_byt s
  obtain ⟨R, hR⟩ : ∃ zz, zz = stX (selP (tx s)) x := ⟨_, rfl⟩
  rw [← hR]
  have HST := sel_link (T := tx s) x
  rw [← hR] at HST
  have g1 := h.many hT 2 4
  have N1 := Lib.hid (fun W => many_2_4 s x W h hs)
  unfold Gives at N1
  obtain ⟨y0, hy0⟩ : ∃ zz, zz = manyX (tx s) x 2 4 := ⟨_, rfl⟩
  rw [← hy0] at HST g1 N1
  clear hy0 hR h
  obtain ⟨pa, pn, pe⟩ := y0
  dsimp only at N1 HST
  have hpn0 : 0 ≤ pn := g1.2.1
  have hpn1 : pn ≤ 2147483647 := g1.2.2
  obtain ⟨m, hm⟩ : ∃ m : Nat, (m : Int) = pn / 2 := ⟨(pn / 2).toNat, by omega⟩
  obtain ⟨d, hd⟩ : ∃ d : Bool, d = decide (pn % 2 = 1) := ⟨_, rfl⟩
  have hdb : (pn % 2 == 1) = d := by rw [hd]; rfl
  have hdd : decide (pn % 2 = 1) = d := hd.symm
  have HS := Lib.hid (show (pe = 0 ∧ R = (repP (casP (tx s)) m pa).bind (fun l j => .ok ⟨l, d⟩ j) ∧ m ≤ 4) ∨ (¬ pe = 0 ∧ R = .no pe) by
    rcases HST with ⟨a, b, c⟩ | h
    · exact .inl ⟨a, by rw [b, ← hm, Int.toNat_natCast, hd], by omega⟩
    · exact .inr h)
  have HG1 := Lib.hid g1
  have HM := Lib.hid hm
  clear HST g1 hd
  have KX := Lib.hid (((Bx.new w #[.string s, .int .i64 (x.at_ : Int), .int .i64 x.n, .int .i64 x.e] 58).below (below_alloc _ (.cells #[.slice none 0 0, .bool false] 47))).below (below_alloc _ (.cells #[.string ⟨#[]⟩, .int .i64 0, .int .i64 0, .int .i64 0] 58)))
  have K2 := Lib.hid ((Bx.new2 w (.cells #[.string s, .int .i64 (x.at_ : Int), .int .i64 x.n, .int .i64 x.e] 58) #[.slice none 0 0, .bool false] 47).below (below_alloc _ (.cells #[.string ⟨#[]⟩, .int .i64 0, .int .i64 0, .int .i64 0] 58)))
  have K3 := Lib.hid (Bx.new3 w (.cells #[.string s, .int .i64 (x.at_ : Int), .int .i64 x.n, .int .i64 x.e] 58) (.cells #[.slice none 0 0, .bool false] 47) #[.string ⟨#[]⟩, .int .i64 0, .int .i64 0, .int .i64 0] 58)
  have B0 := Lib.hid (((below_alloc w (.cells #[.string s, .int .i64 (x.at_ : Int), .int .i64 x.n, .int .i64 x.e] 58)).trans (Below.mono (below_alloc (w.alloc (.cells #[.string s, .int .i64 (x.at_ : Int), .int .i64 x.n, .int .i64 x.e] 58)) (.cells #[.slice none 0 0, .bool false] 47)) (by simp; try omega))).trans (Below.mono (below_alloc ((w.alloc (.cells #[.string s, .int .i64 (x.at_ : Int), .int .i64 x.n, .int .i64 x.e] 58)).alloc (.cells #[.slice none 0 0, .bool false] 47)) (.cells #[.string ⟨#[]⟩, .int .i64 0, .int .i64 0, .int .i64 0] 58)) (by simp; try omega)))
  obtain ⟨bx, hbx⟩ : ∃ zz, zz = w.heap.size := ⟨_, rfl⟩
  obtain ⟨b2, hb2⟩ : ∃ zz, zz = w.heap.size + 1 := ⟨_, rfl⟩
  obtain ⟨b3, hb3⟩ : ∃ zz, zz = w.heap.size + 2 := ⟨_, rfl⟩
  obtain ⟨v0, hv0⟩ : ∃ zz, zz = (((w.alloc (.cells #[.string s, .int .i64 (x.at_ : Int), .int .i64 x.n, .int .i64 x.e] 58)).alloc (.cells #[.slice none 0 0, .bool false] 47)).alloc (.cells #[.string ⟨#[]⟩, .int .i64 0, .int .i64 0, .int .i64 0] 58)) := ⟨_, rfl⟩
  have Hbx := Lib.hid hbx; have Hnbx := Lib.hid (show w.heap.size ≤ bx by omega)
  have Hb2 := Lib.hid hb2; have Hnb2 := Lib.hid (show w.heap.size ≤ b2 by omega)
  have Hb3 := Lib.hid hb3; have Hnb3 := Lib.hid (show w.heap.size ≤ b3 by omega)
  have HV0 := Lib.hid hv0
  have nbxb2 : bx ≠ b2 := by omega
  have nbxb3 : bx ≠ b3 := by omega
  have nb2bx : b2 ≠ bx := by omega
  have nb2b3 : b2 ≠ b3 := by omega
  have nb3bx : b3 ≠ bx := by omega
  have nb3b2 : b3 ≠ b2 := by omega
  rw [← hv0] at B0 KX K2 K3
  rw [← hbx] at KX
  rw [← hb2] at K2
  rw [← hb3] at K3
  clear hv0 hbx hb2 hb3
  go_enter Try.func42, Try.ntmps42
  go_upto_region 1 with (fail)
  rw [← HV0.out, ← Hb3.out, ← Hb2.out, ← Hbx.out]
  obtain ⟨cKX0, cKX1, cKX2, cKX3⟩ := Bx.cells4 KX.out
  go_wp2_with fail
  clear cKX0 cKX1 cKX2 cKX3
  refine (N1.out _).mono ?_
  rintro e u1 ⟨rfl, hb⟩
  have B_1 := Lib.hid (B0.out.trans (Below.mono hb B0.out.size))
  have KX_1 := Lib.hid (Bx.below KX.out hb)
  have K2_1 := Lib.hid (Bx.below K2.out hb)
  have K3_1 := Lib.hid (Bx.below K3.out hb)
  clear hb B0 KX K2 K3
  obtain ⟨cKX0, cKX1, cKX2, cKX3⟩ := Bx.cells4 KX_1.out
  have lKX := Bx.lt KX_1.out; have fKX0 := Bx.froz KX_1.out 0; have fKX1 := Bx.froz KX_1.out 1; have fKX2 := Bx.froz KX_1.out 2; have fKX3 := Bx.froz KX_1.out 3
  go_upto_region 2 with (fail)
  clear cKX0 cKX1 cKX2 cKX3 lKX fKX0 fKX1 fKX2 fKX3
  have SG2 := Lib.hid (grown_st4 (World.grownBy.refl u1 (some bx)) (.string s) (.int .i64 (pa : Int)) (.int .i64 pn) (.int .i64 pe))
  have B_2 := Lib.hid (B_1.out.trans (below_grown SG2.out Hnbx.out B_1.out.size))
  have KX_2 := Lib.hid (Bx.st4 KX_1.out (.string s) (.int .i64 (pa : Int)) (.int .i64 pn) (.int .i64 pe))
  have K2_2 := Lib.hid (Bx.other K2_1.out SG2.out (some_ne nb2bx))
  have K3_2 := Lib.hid (Bx.other K3_1.out SG2.out (some_ne nb3bx))
  obtain ⟨v3, hv3⟩ : ∃ zz, zz = st4 u1 bx (.string s) (.int .i64 (pa : Int)) (.int .i64 pn) (.int .i64 pe) := ⟨_, rfl⟩
  rw [← hv3] at B_2 KX_2 K2_2 K3_2
  have gv3 := hv3
  simp only [st4] at gv3
  first | rw [← hv3] | rw [← gv3]
  clear hv3 gv3
  clear SG2 B_1 KX_1 K2_1 K3_1
  obtain ⟨cKX0, cKX1, cKX2, cKX3⟩ := Bx.cells4 KX_2.out
  have BA4 := below_alloc v3 (.cells #[.slice none 0 0, .bool d] 47)
  have K4_4 := Lib.hid (Bx.new v3 #[.slice none 0 0, .bool d] 47)
  have ltbx4 : bx < v3.heap.size := Bx.lt KX_2.out
  have ltb24 : b2 < v3.heap.size := Bx.lt K2_2.out
  have ltb34 : b3 < v3.heap.size := Bx.lt K3_2.out
  have hs4 : w.heap.size ≤ v3.heap.size := B_2.out.size
  go_upto_region 3 with (fail)
  clear cKX0 cKX1 cKX2 cKX3
  obtain ⟨b4, hb4⟩ : ∃ zz, zz = v3.heap.size := ⟨_, rfl⟩
  have Hnb4 := Lib.hid (show w.heap.size ≤ b4 by omega)
  have nbxb4 : bx ≠ b4 := by omega
  have nb4bx : b4 ≠ bx := by omega
  have nb2b4 : b2 ≠ b4 := by omega
  have nb4b2 : b4 ≠ b2 := by omega
  have nb3b4 : b3 ≠ b4 := by omega
  have nb4b3 : b4 ≠ b3 := by omega
  rw [← hb4] at K4_4 ⊢
  clear ltbx4 ltb24 ltb34 hs4 hb4
  have B_5 := Lib.hid (B_2.out.trans (Below.mono BA4 B_2.out.size))
  have KX_5 := Lib.hid (Bx.below KX_2.out BA4)
  have K2_5 := Lib.hid (Bx.below K2_2.out BA4)
  have K3_5 := Lib.hid (Bx.below K3_2.out BA4)
  clear BA4 B_2 KX_2 K2_2 K3_2
  obtain ⟨v6, hv6⟩ : ∃ zz, zz = v3.alloc (.cells #[.slice none 0 0, .bool d] 47) := ⟨_, rfl⟩
  rw [← hv6] at B_5 KX_5 K2_5 K3_5 K4_4
  have gv6 := hv6
  first | rw [← hv6] | rw [← gv6]
  clear hv6 gv6
  have hm' := HM.out
  obtain ⟨cKX0, cKX1, cKX2, cKX3⟩ := Bx.cells4 KX_5.out
  go_upto_region 4 with (fail)
  clear cKX0 cKX1 cKX2 cKX3
  try rw [← hm']
  clear hm' hdb hdd hm hpn0 hpn1
  go_wp2_with fail
  go_loopw [6] (fun i wr => ∃ (k : Nat) (L : List Cas) (ya : Nat) (yn ye : Int) (v : Value), i = .int .i64 k ∧ k ≤ m ∧ OwnR 71 2 encC wr w.heap.size v L ∧ (∀ z ∈ L, CasOk z) ∧ L.length ≤ 4 ∧ XOk (tx s) ⟨ya, yn, ye⟩ ∧ Bx wr bx #[.string s, .int .i64 (ya : Int), .int .i64 yn, .int .i64 ye] 58 ∧ Bx wr b4 #[v, .bool d] 47 ∧ Bx wr b2 #[.slice none 0 0, .bool false] 47 ∧ Bx wr b3 #[.string ⟨#[]⟩, .int .i64 0, .int .i64 0, .int .i64 0] 58 ∧ Below w.heap.size w wr ∧ ((ye = 0 ∧ m ≤ 4 ∧ R = (repP (casP (tx s)) m pa).bind (fun l j => .ok ⟨l, d⟩ j) ∧ repP (casP (tx s)) k pa = .ok L ya) ∨ (¬ ye = 0 ∧ R = .no ye))) (fun i _ => m - (intOf i).toNat)
  case atStart =>
    refine ⟨0, [], pa, pn, pe, _, rfl, Nat.zero_le _, ownG_nil _ _ _, fun z hz => by simp at hz, by simp, HG1.out, KX_5.out, K4_4.out, K2_5.out, K3_5.out, B_5.out, ?_⟩
    rcases HS.out with ⟨a, b, c⟩ | h
    · exact .inl ⟨a, c, b, rfl⟩
    · exact .inr h
  case round =>
    clear B_5 KX_5 K2_5 K3_5 K4_4
    obtain ⟨k, L, ya, yn, ye, v, rfl, hk, ho, hok, hl4, hy, hkx, hk4, hk2, hk3, hb, hd⟩ := hrel
    obtain ⟨ra, rc, rfl, _⟩ := OwnR.recs encC_len ho
    have HO := Lib.hid ho; have HOK := Lib.hid hok; have HY := Lib.hid hy; have KX := Lib.hid hkx; have K4 := Lib.hid hk4; have K2 := Lib.hid hk2; have K3 := Lib.hid hk3; have B := Lib.hid hb
    clear ho hok hy hkx hk4 hk2 hk3 hb
    by_cases hgo : k < m ∧ ye = 0
    · obtain ⟨hlt, he⟩ := hgo
      subst he
      have hlt' : (k : Int) < (m : Int) := by omega
      rcases hd with ⟨_, hm4, hR, hrep⟩ | ⟨hne, _⟩
      rotate_left
      · exact absurd rfl hne
      have HLN := Lib.hid (repP_len hrep)
      have HL1 := Lib.hid (show L.length ≤ 100000 by omega)
      have HR1 := Lib.hid (show ((nextX (tx s) ⟨ya, yn, 0⟩).e = 0 ∧ m ≤ 4 ∧ R = (repP (casP (tx s)) m pa).bind (fun l j => .ok ⟨l, d⟩ j) ∧ repP (casP (tx s)) (k + 1) pa = .ok (L ++ [⟨decide ((nextX (tx s) ⟨ya, yn, 0⟩).n % 2 = 1), (nextX (tx s) ⟨ya, yn, 0⟩).n / 2⟩]) (nextX (tx s) ⟨ya, yn, 0⟩).at_) ∨ (¬ (nextX (tx s) ⟨ya, yn, 0⟩).e = 0 ∧ R = .no (nextX (tx s) ⟨ya, yn, 0⟩).e) by
        rcases cas_link (T := tx s) ⟨ya, yn, 0⟩ with ⟨h1, h2⟩ | ⟨h1, h2⟩
        · rw [stX_ok rfl] at h2; exact .inl ⟨h1, hm4, hR, repP_ok hrep h2⟩
        · rw [stX_ok rfl] at h2; exact .inr ⟨h1, by rw [hR, repP_no hrep h2 hlt]; rfl⟩)
      have HY1 := Lib.hid (HY.out.next (tx_byt s))
      have N2 := Lib.hid (fun W => xnext_any s ⟨ya, yn, 0⟩ W HY.out hs)
      unfold Gives at N2
      obtain ⟨zz, hzz⟩ : ∃ zz, zz = nextX (tx s) ⟨ya, yn, 0⟩ := ⟨_, rfl⟩
      rw [← hzz] at HR1 HY1 N2
      clear hzz hR hrep
      obtain ⟨qa, qn, qe⟩ := zz
      dsimp only at HR1 N2
      have hq0 : 0 ≤ qn := HY1.out.2.1
      have hq1 : qn ≤ 2147483647 := HY1.out.2.2
      obtain ⟨cb, hcb⟩ : ∃ cb : Bool, cb = decide (qn % 2 = 1) := ⟨_, rfl⟩
      have hcb1 : (qn % 2 == 1) = cb := by rw [hcb]; rfl
      have hcb2 : decide (qn % 2 = 1) = cb := hcb.symm
      rw [← hcb] at HR1
      obtain ⟨ch, hch⟩ : ∃ ch : Int, ch = qn / 2 := ⟨_, rfl⟩
      have hch0 : 0 ≤ ch ∧ ch ≤ 2147483647 := by omega
      have HCH := Lib.hid hch.symm
      rw [← hch] at HR1
      clear hcb hch
      obtain ⟨cKX0, cKX1, cKX2, cKX3⟩ := Bx.cells4 KX.out
      go_wp2_with fail
      clear cKX0 cKX1 cKX2 cKX3
      refine (N2.out _).mono ?_
      rintro e u2 ⟨rfl, hb⟩
      have KX_7 := Lib.hid (Bx.below KX.out hb)
      have K4_7 := Lib.hid (Bx.below K4.out hb)
      have K2_7 := Lib.hid (Bx.below K2.out hb)
      have K3_7 := Lib.hid (Bx.below K3.out hb)
      have B_7 := Lib.hid (B.out.trans (Below.mono hb B.out.size))
      have O_7 := Lib.hid (OwnR.below HO.out hb)
      clear hb KX K4 K2 K3 B HO
      obtain ⟨cKX0, cKX1, cKX2, cKX3⟩ := Bx.cells4 KX_7.out
      have lKX := Bx.lt KX_7.out; have fKX0 := Bx.froz KX_7.out 0; have fKX1 := Bx.froz KX_7.out 1; have fKX2 := Bx.froz KX_7.out 2; have fKX3 := Bx.froz KX_7.out 3
      go_upto_region 8 with (fail)
      clear cKX0 cKX1 cKX2 cKX3 lKX fKX0 fKX1 fKX2 fKX3
      have SG8 := Lib.hid (grown_st4 (World.grownBy.refl u2 (some bx)) (.string s) (.int .i64 (qa : Int)) (.int .i64 qn) (.int .i64 qe))
      have KX_8 := Lib.hid (Bx.st4 KX_7.out (.string s) (.int .i64 (qa : Int)) (.int .i64 qn) (.int .i64 qe))
      have K4_8 := Lib.hid (Bx.other K4_7.out SG8.out (some_ne nb4bx))
      have K2_8 := Lib.hid (Bx.other K2_7.out SG8.out (some_ne nb2bx))
      have K3_8 := Lib.hid (Bx.other K3_7.out SG8.out (some_ne nb3bx))
      have B_8 := Lib.hid (B_7.out.trans (below_grown SG8.out Hnbx.out B_7.out.size))
      have O_8 := Lib.hid (OwnR.away O_7.out SG8.out (Away.box KX_7.out (by decide)))
      obtain ⟨v9, hv9⟩ : ∃ zz, zz = st4 u2 bx (.string s) (.int .i64 (qa : Int)) (.int .i64 qn) (.int .i64 qe) := ⟨_, rfl⟩
      rw [← hv9] at KX_8 K4_8 K2_8 K3_8 B_8 O_8
      have gv9 := hv9
      simp only [st4] at gv9
      first | rw [← hv9] | rw [← gv9]
      clear hv9 gv9
      clear SG8 KX_7 K4_7 K2_7 K3_7 B_7 O_7
      obtain ⟨cKX0, cKX1, cKX2, cKX3⟩ := Bx.cells4 KX_8.out
      obtain ⟨cK40, cK41⟩ := Bx.cells2 K4_8.out
      have BZ := below_alloc v9 (.cells #[.bool cb, .int .i64 ch] 71)
      have S2 := Lib.hid (recs_oneG (k := 2) (enc := encC) (x := ⟨cb, ch⟩) (t := 71) (heap_alloc_new v9 (.cells #[.bool cb, .int .i64 ch] 71)))
      have KX_10 := Lib.hid (Bx.below KX_8.out BZ)
      have K4_10 := Lib.hid (Bx.below K4_8.out BZ)
      have K2_10 := Lib.hid (Bx.below K2_8.out BZ)
      have K3_10 := Lib.hid (Bx.below K3_8.out BZ)
      have B_10 := Lib.hid (B_8.out.trans (Below.mono BZ B_8.out.size))
      have O_10 := Lib.hid (OwnR.below O_8.out BZ)
      clear BZ KX_8 K4_8 K2_8 K3_8 B_8 O_8
      have HZ := Lib.hid (B_10.out.size)
      have hch' := HCH.out
      go_upto_region 6 with (at_builtin; (try rw [hch']); refine wpList_appG encC_len (by decide) encC_one 45 71 16 _ Try.underlying45 infC71 rfl (by decide) rfl _ _ rfl w.heap.size _ L rfl O_10.out ⟨v9.heap.size, 0, none⟩ 1 1 [⟨cb, ch⟩] rfl S2.out HL1.out (by decide) HZ.out ?_; intro v9 w9 ho9 hg9; obtain ⟨ra9, rc9, rfl, _⟩ := OwnR.recs encC_len ho9.out; have k1 := Bx.other K4_10.out hg9.out (ownR_apart O_10.out K4_10.out (by decide)); have l1 := Bx.lt k1; have f1 := Bx.froz k1 0; obtain ⟨y0, y1⟩ := Bx.cells2 k1)
      clear cKX0 cKX1 cKX2 cKX3 cK40 cK41
      have KX9 := Lib.hid (Bx.other KX_10.out hg9.out (ownR_apart O_10.out KX_10.out (by decide)))
      have K49 := Lib.hid (Bx.other K4_10.out hg9.out (ownR_apart O_10.out K4_10.out (by decide)))
      have K29 := Lib.hid (Bx.other K2_10.out hg9.out (ownR_apart O_10.out K2_10.out (by decide)))
      have K39 := Lib.hid (Bx.other K3_10.out hg9.out (ownR_apart O_10.out K3_10.out (by decide)))
      have B9 := Lib.hid (Below.grown B_10.out hg9.out HZ.out (fun r hr => OwnR.lt O_10.out r hr))
      have HO9 := Lib.hid (show OwnR 71 2 encC w9 w.heap.size (.slice ra9 (L.length + 1) rc9) (L ++ [(⟨cb, ch⟩ : Cas)]) from by have := ho9.out; rwa [List.length_append, List.length_singleton] at this)
      clear hg9
      have SG11 := Lib.hid (grow_setCell w9 b4 0 (.slice ra9 (L.length + 1) rc9))
      have KX_11 := Lib.hid (Bx.other KX9.out SG11.out (some_ne nbxb4))
      have K4_11 := Lib.hid ((show Bx (w9.setCell ⟨b4, 0, none⟩ (.slice ra9 (L.length + 1) rc9)) b4 #[.slice ra9 (L.length + 1) rc9, .bool d] _ from Bx.set K49.out 0 (.slice ra9 (L.length + 1) rc9)))
      have K2_11 := Lib.hid (Bx.other K29.out SG11.out (some_ne nb2b4))
      have K3_11 := Lib.hid (Bx.other K39.out SG11.out (some_ne nb3b4))
      have B_11 := Lib.hid (B9.out.trans (below_grown SG11.out Hnb4.out B9.out.size))
      have O_11 := Lib.hid (OwnR.away HO9.out SG11.out (Away.box K49.out (by decide)))
      obtain ⟨v12, hv12⟩ : ∃ zz, zz = w9.setCell ⟨b4, 0, none⟩ (.slice ra9 (L.length + 1) rc9) := ⟨_, rfl⟩
      rw [← hv12] at KX_11 K4_11 K2_11 K3_11 B_11 O_11
      have gv12 := hv12
      first | rw [← hv12] | rw [← gv12]
      clear hv12 gv12
      clear SG11 KX9 K49 K29 K39 B9 HO9
      go_wp2_with fail
      go_roundw
      case rel => exact ⟨k + 1, L ++ [⟨cb, ch⟩], qa, qn, qe, _, by go_num, by omega, O_11.out, fun z hz => by rcases List.mem_append.1 hz with h1 | h1; exact HOK.out z h1; simp at h1; subst h1; exact i64m hch0.1 hch0.2, by rw [List.length_append, HLN.out, List.length_singleton]; omega, HY1.out, KX_11.out, K4_11.out, K2_11.out, K3_11.out, B_11.out, HR1.out⟩
      case measure => simp [intOf]; omega
    · have HD := Lib.hid (show (ye = 0 ∧ R = .ok ⟨L, d⟩ ya) ∨ (¬ ye = 0 ∧ R = .no ye) by
        rcases hd with ⟨a, b, c, d'⟩ | h
        · have hkm : k = m := by
            by_cases hlt : k < m
            · exact absurd ⟨hlt, a⟩ hgo
            · omega
          subst hkm
          exact .inl ⟨a, by rw [c, d']; rfl⟩
        · exact .inr h)
      clear hd
      have hcases : (¬ k < m) ∨ (k < m ∧ ¬ ye = 0) := by
        by_cases hlt : k < m
        · exact .inr ⟨hlt, fun he => hgo ⟨hlt, he⟩⟩
        · exact .inl hlt
      clear hgo
      rcases hcases with hlt | ⟨hlt, hne⟩
      all_goals
        first | (have hlt' : ¬ (k : Int) < (m : Int) := by omega) | (have hlt' : (k : Int) < (m : Int) := by omega)
        try have hneb : (ye == 0) = false := by rw [beq_eq_false_iff_ne]; exact hne
        obtain ⟨cKX0, cKX1, cKX2, cKX3⟩ := Bx.cells4 KX.out
        go_upto_region 9 with (fail)
        clear cKX0 cKX1 cKX2 cKX3
        have HSS := Lib.hid (show ∀ W, Bx W b4 #[.slice ra L.length rc, .bool d] 47 → Bx W bx #[.string s, .int .i64 (ya : Int), .int .i64 yn, .int .i64 ye] 58 → (fun W => W.cell? ⟨b4, 0, none⟩ = some (.slice ra L.length rc) ∧ W.cell? ⟨b4, 1, none⟩ = some (.bool d) ∧ W.cell? ⟨bx, 0, none⟩ = some (.string s) ∧ W.cell? ⟨bx, 1, none⟩ = some (.int .i64 (ya : Int)) ∧ W.cell? ⟨bx, 2, none⟩ = some (.int .i64 yn) ∧ W.cell? ⟨bx, 3, none⟩ = some (.int .i64 ye)) W from fun W h0 h1 => ⟨Bx.cell h0 0 rfl, Bx.cell h0 1 rfl, Bx.cell h1 0 rfl, Bx.cell h1 1 rfl, Bx.cell h1 2 rfl, Bx.cell h1 3 rfl⟩)
        refine wp_region_held_drew (S := (fun W => W.cell? ⟨b4, 0, none⟩ = some (.slice ra L.length rc) ∧ W.cell? ⟨b4, 1, none⟩ = some (.bool d) ∧ W.cell? ⟨bx, 0, none⟩ = some (.string s) ∧ W.cell? ⟨bx, 1, none⟩ = some (.int .i64 (ya : Int)) ∧ W.cell? ⟨bx, 2, none⟩ = some (.int .i64 yn) ∧ W.cell? ⟨bx, 3, none⟩ = some (.int .i64 ye))) (by kernel_rfl) (HSS.out _ K4.out KX.out) (fun hHeld => ?_)
        (try simp only [Act.put, List.getElem_toArray, List.getElem_cons_zero, List.getElem_cons_succ, List.setIfInBounds_toArray, List.set_cons_zero, List.set_cons_succ])
        have DR13 : Below wr.heap.size wr wr.drew := (Below.refl _ _).drew
        have KX_14 := Lib.hid (Bx.below KX.out DR13)
        have K4_14 := Lib.hid (Bx.below K4.out DR13)
        have K2_14 := Lib.hid (Bx.below K2.out DR13)
        have K3_14 := Lib.hid (Bx.below K3.out DR13)
        have B_14 := Lib.hid (B.out.trans (Below.mono DR13 B.out.size))
        have O_14 := Lib.hid (OwnR.below HO.out DR13)
        clear DR13 KX K4 K2 K3 B HO
        obtain ⟨v15, hv15⟩ : ∃ zz, zz = wr.drew := ⟨_, rfl⟩
        rw [← hv15] at KX_14 K4_14 K2_14 K3_14 B_14 O_14
        have gv15 := hv15
        first | rw [← hv15] | rw [← gv15]
        clear hv15 gv15
        clear hHeld
        have hHeld := HSS.out _ K4_14.out KX_14.out
        dsimp only at hHeld
        refine wpAnyH_take (i := 0) (v := ?_) rfl (by kernel_rfl) (by kernel_rfl) (by kernel_rfl) (fun _ _ _ h => h) (Or.inl ⟨by rfl, ?_⟩) (by assumption) ?_
        rotate_left
        · (intro w hSw; (try dsimp only at hSw); go_simp; try with_reducible rfl)
        (try simp only [Act.put, List.getElem_toArray, List.getElem_cons_zero, List.getElem_cons_succ, List.setIfInBounds_toArray, List.set_cons_zero, List.set_cons_succ])
        refine wpAnyH_take (i := 1) (v := ?_) rfl (by kernel_rfl) (by kernel_rfl) (by kernel_rfl) (fun _ _ _ h => h) (Or.inl ⟨by rfl, ?_⟩) (by assumption) ?_
        rotate_left
        · (intro w hSw; (try dsimp only at hSw); go_simp; try with_reducible rfl)
        (try simp only [Act.put, List.getElem_toArray, List.getElem_cons_zero, List.getElem_cons_succ, List.setIfInBounds_toArray, List.set_cons_zero, List.set_cons_succ])
        have SG16 := Lib.hid (grown_st2 (World.grownBy.refl v15 (some b2)) (.slice ra L.length rc) (.bool d))
        have KX_16 := Lib.hid (Bx.other KX_14.out SG16.out (some_ne nbxb2))
        have K4_16 := Lib.hid (Bx.other K4_14.out SG16.out (some_ne nb4b2))
        have K2_16 := Lib.hid (Bx.st2 K2_14.out (.slice ra L.length rc) (.bool d))
        have K3_16 := Lib.hid (Bx.other K3_14.out SG16.out (some_ne nb3b2))
        have B_16 := Lib.hid (B_14.out.trans (below_grown SG16.out Hnb2.out B_14.out.size))
        have O_16 := Lib.hid (OwnR.away O_14.out SG16.out (Away.box K2_14.out (by decide)))
        obtain ⟨cK20, cK21⟩ := Bx.cells2 K2_14.out
        have lK2 := Bx.lt K2_14.out; have fK20 := Bx.froz K2_14.out 0; have fK21 := Bx.froz K2_14.out 1
        refine wpAnyH_ready (rs := [2]) (by kernel_rfl) (by simp) ?_
        refine AllReadyH.cons (o := _) rfl (fun K hK => ?_) AllReadyH.nil
        go_simp
        clear cK20 cK21 lK2 fK20 fK21
        clear hHeld
        refine hK.out _ _ (HSS.out _ K4_16.out KX_16.out) (fun hHeld => ?_)
        clear hK K
        (try simp only [Act.put, List.getElem_toArray, List.getElem_cons_zero, List.getElem_cons_succ, List.setIfInBounds_toArray, List.set_cons_zero, List.set_cons_succ])
        obtain ⟨v17, hv17⟩ : ∃ zz, zz = st2 v15 b2 (.slice ra L.length rc) (.bool d) := ⟨_, rfl⟩
        rw [← hv17] at KX_16 K4_16 K2_16 K3_16 B_16 O_16
        have gv17 := hv17
        simp only [st2] at gv17
        first | rw [← hv17] | rw [← gv17]
        clear hv17 gv17
        clear SG16 KX_14 K4_14 K2_14 K3_14 B_14 O_14
        have SG18 := Lib.hid (grown_st4 (World.grownBy.refl v17 (some b3)) (.string s) (.int .i64 (ya : Int)) (.int .i64 yn) (.int .i64 ye))
        have KX_18 := Lib.hid (Bx.other KX_16.out SG18.out (some_ne nbxb3))
        have K4_18 := Lib.hid (Bx.other K4_16.out SG18.out (some_ne nb4b3))
        have K2_18 := Lib.hid (Bx.other K2_16.out SG18.out (some_ne nb2b3))
        have K3_18 := Lib.hid (Bx.st4 K3_16.out (.string s) (.int .i64 (ya : Int)) (.int .i64 yn) (.int .i64 ye))
        have B_18 := Lib.hid (B_16.out.trans (below_grown SG18.out Hnb3.out B_16.out.size))
        have O_18 := Lib.hid (OwnR.away O_16.out SG18.out (Away.box K3_16.out (by decide)))
        obtain ⟨cK30, cK31, cK32, cK33⟩ := Bx.cells4 K3_16.out
        have lK3 := Bx.lt K3_16.out; have fK30 := Bx.froz K3_16.out 0; have fK31 := Bx.froz K3_16.out 1; have fK32 := Bx.froz K3_16.out 2; have fK33 := Bx.froz K3_16.out 3
        refine wpAnyH_ready (rs := [3]) (by kernel_rfl) (by simp) ?_
        refine AllReadyH.cons (o := _) rfl (fun K hK => ?_) AllReadyH.nil
        go_simp
        clear cK30 cK31 cK32 cK33 lK3 fK30 fK31 fK32 fK33
        clear hHeld
        refine hK.out _ _ (HSS.out _ K4_18.out KX_18.out) (fun hHeld => ?_)
        clear hK K
        (try simp only [Act.put, List.getElem_toArray, List.getElem_cons_zero, List.getElem_cons_succ, List.setIfInBounds_toArray, List.set_cons_zero, List.set_cons_succ])
        obtain ⟨v19, hv19⟩ : ∃ zz, zz = st4 v17 b3 (.string s) (.int .i64 (ya : Int)) (.int .i64 yn) (.int .i64 ye) := ⟨_, rfl⟩
        rw [← hv19] at KX_18 K4_18 K2_18 K3_18 B_18 O_18
        have gv19 := hv19
        simp only [st4] at gv19
        first | rw [← hv19] | rw [← gv19]
        clear hv19 gv19
        clear SG18 KX_16 K4_16 K2_16 K3_16 B_16 O_16
        refine wpAnyH_done (by kernel_rfl) ?_ _
        clear hHeld HSS
        go_wp2_with fail
        refine bodyPost_ret (v := .tuple #[.agg #[.slice ra L.length rc, .bool d], .agg #[.string s, .int .i64 (ya : Int), .int .i64 yn, .int .i64 ye]]) (by first | rw [res_cc Try.results42 _ (by rfl) (Bx.load K2_18.out Try.underlying47 inf47) (by rfl) (Bx.load K3_18.out Try.underlying58 inf58)] | skip) rfl ?_
        exact ⟨⟨ra, L.length, rc, d⟩, ⟨L, d⟩, ⟨ya, yn, ye⟩, rfl, HY.out, ⟨rfl, O_18.out, hl4, HOK.out⟩, B_18.out, HD.out⟩
end Go.Proofs.Ytddkckppmjcclaa
