/- The reference's reader: tables. -/
import Derived.Test.YtddkckppmjcclaaX4
namespace Go.Proofs.Ytddkckppmjcclaa
open Go.RowKit
set_option linter.unusedSimpArgs false
set_option linter.unusedVariables false
def tab3 (T : List Int) (caps : List Int) (mu on va : Int) (j4 : Nat) : Res Pr := (sizeP T 4 j4).bind fun m j5 => (repP (selP T) m.toNat j5).bind fun sels j6 => .ok ⟨caps, mu, on, va, sels, []⟩ j6
def tab2c (T : List Int) (caps : List Int) (mu on : Int) (j3 : Nat) : Res Pr := (nP T j3).bind fun va j4 => tab3 T caps mu on va j4
def tab2b (T : List Int) (caps : List Int) (mu : Int) (j2 : Nat) : Res Pr := (nP T j2).bind fun on j3 => tab2c T caps mu on j3
def tab2 (T : List Int) (caps : List Int) (j1 : Nat) : Res Pr := (nP T j1).bind fun mu j2 => tab2b T caps mu j2
def tabP (T : List Int) (i : Nat) : Res Pr := (sizeP T 4 i).bind fun n j0 => (repP (capP T) n.toNat j0).bind fun caps j1 => tab2 T caps j1
theorem bind_assoc {α β γ : Type} (r : Res α) (f : α → Nat → Res β) (g : β → Nat → Res γ) : (r.bind f).bind g = r.bind fun a j => (f a j).bind g := by cases r <;> rfl
theorem prg_tab (T : List Int) (i : Nat) : prgP T i = (tabP T i).bind fun p j6 => (sizeP T 6 j6).bind fun h j7 => (repP (blkP T) h.toNat j7).bind fun blks j8 => .ok ⟨p.caps, p.mu, p.on, p.va, p.sels, blks⟩ j8 := by
  simp only [prgP, tabP, tab2, tab2b, tab2c, tab3, bind_assoc]
  rfl
theorem cap_link {T : List Int} (x : XS) : ((nextX T x).e = 0 ∧ stX (capP T) x = .ok ((nextX T x).n - 1) (nextX T x).at_) ∨ (¬ (nextX T x).e = 0 ∧ stX (capP T) x = .no (nextX T x).e) := by
  have hc : capP T = fun i => (nP T i).bind fun n j => .ok (n - 1) j := rfl
  rcases next_link (T := T) x with ⟨h1, hx, h2⟩ | ⟨h1, h2⟩
  · refine .inl ⟨h1, ?_⟩
    rw [stX_ok hx, hc]; show (nP T x.at_).bind _ = _; rw [h2]; rfl
  · refine .inr ⟨h1, ?_⟩
    rw [hc]; exact stX_bind h2
/-- one number more of what begins with a number -/
theorem num_step {α : Type} {T : List Int} {R : Res α} {f : Int → Nat → Res α} {x : XS} (h : (x.e = 0 ∧ R = (nP T x.at_).bind f) ∨ (¬ x.e = 0 ∧ R = .no x.e)) : ((nextX T x).e = 0 ∧ R = f (nextX T x).n (nextX T x).at_) ∨ (¬ (nextX T x).e = 0 ∧ R = .no (nextX T x).e) := by
  rcases h with ⟨he, hR⟩ | ⟨he, hR⟩
  · rcases next_link (T := T) x with ⟨h1, _, h2⟩ | ⟨h1, h2⟩
    · exact .inl ⟨h1, by rw [hR, h2]; rfl⟩
    · rw [stX_ok he] at h2; exact .inr ⟨h1, by rw [hR, h2]; rfl⟩
  · rw [next_idle he]; exact .inr ⟨he, hR⟩
theorem size_step {α : Type} {T : List Int} {R : Res α} {m : Int} {f : Int → Nat → Res α} {x : XS} (h : (x.e = 0 ∧ R = (sizeP T m x.at_).bind f) ∨ (¬ x.e = 0 ∧ R = .no x.e)) :
    ((manyX T x 1 m).e = 0 ∧ R = f (manyX T x 1 m).n (manyX T x 1 m).at_ ∧ (manyX T x 1 m).n ≤ m) ∨ (¬ (manyX T x 1 m).e = 0 ∧ R = .no (manyX T x 1 m).e) := by
  rcases h with ⟨he, hR⟩ | ⟨he, hR⟩
  · rcases size_link (T := T) x m with ⟨h1, h2⟩ | ⟨h1, h2⟩
    · rw [stX_ok he] at h2
      refine .inl ⟨h1, by rw [hR, h2]; rfl, ?_⟩
      unfold sizeP at h2
      cases hn : nP T x.at_ with
      | no c => rw [hn] at h2; cases h2
      | ok n j => rw [hn] at h2; simp only [Res.bind] at h2; split at h2; cases h2; cases h2; omega
    · rw [stX_ok he] at h2; exact .inr ⟨h1, by rw [hR, h2]; rfl⟩
  · have e : manyX T x 1 m = x := by unfold manyX; rw [next_idle he, if_neg (fun h => he h.1)]
    rw [e]; exact .inr ⟨he, hR⟩
theorem stX_split {α : Type} {P : Nat → Res α} {x : XS} : (x.e = 0 ∧ stX P x = P x.at_) ∨ (¬ x.e = 0 ∧ stX P x = .no x.e) := by
  by_cases h : x.e = 0
  · exact .inl ⟨h, stX_ok h⟩
  · exact .inr ⟨h, stX_no h⟩
def GotTab (s : ByteArray) (w : World) (r : Res Pr) (e : Ending) (w' : World) : Prop := ∃ (q : PAt) (p : Pr) (y : XS), e = .returned (.tuple #[prV p q, xV s y]) ∧ XOk (tx s) y ∧ RepQ w.heap.size w' p q ∧ p.blks = [] ∧ q.ba = none ∧ q.bn = 0 ∧ q.bc = 0 ∧
  Below w.heap.size w w' ∧ ((y.e = 0 ∧ r = .ok p y.at_) ∨ (¬ y.e = 0 ∧ r = .no y.e))
set_option maxRecDepth 100000 in
set_option maxHeartbeats 80000000 in
theorem refTables_X (s : ByteArray) (x : XS) (w : World) (h : XOk (tx s) x) (hs : s.size ≤ 100000) : Calls Try.prog 24 #[xV s x] w (GotTab s w (stX (tabP (tx s)) x)) := by
  have HT := Lib.hid (tx_byt s)
  obtain ⟨R, hR⟩ : ∃ zz, zz = stX (tabP (tx s)) x := ⟨_, rfl⟩
  rw [← hR]
  have HST := size_step (T := tx s) (R := R) (m := 4) (f := fun n j0 => (repP (capP (tx s)) n.toNat j0).bind fun caps j1 => tab2 (tx s) caps j1) (x := x) (by rw [hR]; exact stX_split)
  have g1 := h.many HT.out 1 4
  have N1 := Lib.hid (fun W => many_1_4 s x W h hs)
  unfold Gives at N1
  obtain ⟨y0, hy0⟩ : ∃ zz, zz = manyX (tx s) x 1 4 := ⟨_, rfl⟩
  rw [← hy0] at HST g1 N1
  clear hy0 hR h
  obtain ⟨pa, pn, pe⟩ := y0
  dsimp only at N1 HST
  obtain ⟨m, hm⟩ : ∃ m : Nat, (m : Int) = pn := ⟨pn.toNat, by have := g1.2.1; dsimp only at this; omega⟩
  subst hm
  have HS := Lib.hid (show (pe = 0 ∧ R = (repP (capP (tx s)) m pa).bind (fun caps j1 => tab2 (tx s) caps j1) ∧ m ≤ 4) ∨ (¬ pe = 0 ∧ R = .no pe) by
    rcases HST with ⟨a, b, c⟩ | h
    · exact .inl ⟨a, by rw [b, Int.toNat_natCast], by omega⟩
    · exact .inr h)
  have HG1 := Lib.hid g1
  clear HST g1
  have KX := Lib.hid (((Bx.new w #[.string s, .int .i64 (x.at_ : Int), .int .i64 x.n, .int .i64 x.e] 58).below (below_alloc _ (.cells #[.slice none 0 0, .int .i64 0, .int .i64 0, .int .i64 0, .slice none 0 0, .slice none 0 0] 26))).below (below_alloc _ (.cells #[.string ⟨#[]⟩, .int .i64 0, .int .i64 0, .int .i64 0] 58)))
  have K2 := Lib.hid ((Bx.new2 w (.cells #[.string s, .int .i64 (x.at_ : Int), .int .i64 x.n, .int .i64 x.e] 58) #[.slice none 0 0, .int .i64 0, .int .i64 0, .int .i64 0, .slice none 0 0, .slice none 0 0] 26).below (below_alloc _ (.cells #[.string ⟨#[]⟩, .int .i64 0, .int .i64 0, .int .i64 0] 58)))
  have K3 := Lib.hid (Bx.new3 w (.cells #[.string s, .int .i64 (x.at_ : Int), .int .i64 x.n, .int .i64 x.e] 58) (.cells #[.slice none 0 0, .int .i64 0, .int .i64 0, .int .i64 0, .slice none 0 0, .slice none 0 0] 26) #[.string ⟨#[]⟩, .int .i64 0, .int .i64 0, .int .i64 0] 58)
  have B0 := Lib.hid (((below_alloc w (.cells #[.string s, .int .i64 (x.at_ : Int), .int .i64 x.n, .int .i64 x.e] 58)).trans (Below.mono (below_alloc (w.alloc (.cells #[.string s, .int .i64 (x.at_ : Int), .int .i64 x.n, .int .i64 x.e] 58)) (.cells #[.slice none 0 0, .int .i64 0, .int .i64 0, .int .i64 0, .slice none 0 0, .slice none 0 0] 26)) (by simp; try omega))).trans (Below.mono (below_alloc ((w.alloc (.cells #[.string s, .int .i64 (x.at_ : Int), .int .i64 x.n, .int .i64 x.e] 58)).alloc (.cells #[.slice none 0 0, .int .i64 0, .int .i64 0, .int .i64 0, .slice none 0 0, .slice none 0 0] 26)) (.cells #[.string ⟨#[]⟩, .int .i64 0, .int .i64 0, .int .i64 0] 58)) (by simp; try omega)))
  obtain ⟨bx, hbx⟩ : ∃ zz, zz = w.heap.size := ⟨_, rfl⟩
  obtain ⟨b2, hb2⟩ : ∃ zz, zz = w.heap.size + 1 := ⟨_, rfl⟩
  obtain ⟨b3, hb3⟩ : ∃ zz, zz = w.heap.size + 2 := ⟨_, rfl⟩
  obtain ⟨v0, hv0⟩ : ∃ zz, zz = (((w.alloc (.cells #[.string s, .int .i64 (x.at_ : Int), .int .i64 x.n, .int .i64 x.e] 58)).alloc (.cells #[.slice none 0 0, .int .i64 0, .int .i64 0, .int .i64 0, .slice none 0 0, .slice none 0 0] 26)).alloc (.cells #[.string ⟨#[]⟩, .int .i64 0, .int .i64 0, .int .i64 0] 58)) := ⟨_, rfl⟩
  have Hbx := Lib.hid hbx; have Hnbx := Lib.hid (show w.heap.size ≤ bx by omega)
  have Hb2 := Lib.hid hb2; have Hnb2 := Lib.hid (show w.heap.size ≤ b2 by omega)
  have Hb3 := Lib.hid hb3; have Hnb3 := Lib.hid (show w.heap.size ≤ b3 by omega)
  have HV0 := Lib.hid hv0
  have nbxb2 : bx ≠ b2 := by omega
  have nbxb3 : bx ≠ b3 := by omega
  have nb2bx : b2 ≠ bx := by omega
  have nb2b3 : b2 ≠ b3 := by omega
  have nb3bx : b3 ≠ bx := by omega
  have nb3b2 : b3 ≠ b2 := by omega
  rw [← hv0] at B0 KX K2 K3
  rw [← hbx] at KX
  rw [← hb2] at K2
  rw [← hb3] at K3
  clear hv0 hbx hb2 hb3
  go_enter Try.func24, Try.ntmps24
  go_upto_region 1 with (fail)
  rw [← HV0.out, ← Hb3.out, ← Hb2.out, ← Hbx.out]
  have BA1 := below_alloc v0 (.cells #[.slice none 0 0, .int .i64 0, .int .i64 0, .int .i64 0, .slice none 0 0, .slice none 0 0] 26)
  have KP_1 := Lib.hid (Bx.new v0 #[.slice none 0 0, .int .i64 0, .int .i64 0, .int .i64 0, .slice none 0 0, .slice none 0 0] 26)
  have ltbx1 : bx < v0.heap.size := Bx.lt KX.out
  have ltb21 : b2 < v0.heap.size := Bx.lt K2.out
  have ltb31 : b3 < v0.heap.size := Bx.lt K3.out
  have hs1 : w.heap.size ≤ v0.heap.size := B0.out.size
  go_upto_region 2 with (fail)
  obtain ⟨bp, hbp⟩ : ∃ zz, zz = v0.heap.size := ⟨_, rfl⟩
  have Hnbp := Lib.hid (show w.heap.size ≤ bp by omega)
  have nbxbp : bx ≠ bp := by omega
  have nbpbx : bp ≠ bx := by omega
  have nb2bp : b2 ≠ bp := by omega
  have nbpb2 : bp ≠ b2 := by omega
  have nb3bp : b3 ≠ bp := by omega
  have nbpb3 : bp ≠ b3 := by omega
  rw [← hbp] at KP_1 ⊢
  clear ltbx1 ltb21 ltb31 hs1 hbp
  have B_2 := Lib.hid (B0.out.trans (Below.mono BA1 B0.out.size))
  have KX_2 := Lib.hid (Bx.below KX.out BA1)
  have K2_2 := Lib.hid (Bx.below K2.out BA1)
  have K3_2 := Lib.hid (Bx.below K3.out BA1)
  clear BA1 B0 KX K2 K3
  obtain ⟨v3, hv3⟩ : ∃ zz, zz = v0.alloc (.cells #[.slice none 0 0, .int .i64 0, .int .i64 0, .int .i64 0, .slice none 0 0, .slice none 0 0] 26) := ⟨_, rfl⟩
  rw [← hv3] at B_2 KX_2 K2_2 K3_2 KP_1
  have gv3 := hv3
  first | rw [← hv3] | rw [← gv3]
  clear hv3 gv3
  obtain ⟨cKX0, cKX1, cKX2, cKX3⟩ := Bx.cells4 KX_2.out
  go_wp2_with fail
  clear cKX0 cKX1 cKX2 cKX3
  refine (N1.out _).mono ?_
  rintro e u1 ⟨rfl, hb⟩
  have B_4 := Lib.hid (B_2.out.trans (Below.mono hb B_2.out.size))
  have KX_4 := Lib.hid (Bx.below KX_2.out hb)
  have K2_4 := Lib.hid (Bx.below K2_2.out hb)
  have K3_4 := Lib.hid (Bx.below K3_2.out hb)
  have KP_4 := Lib.hid (Bx.below KP_1.out hb)
  clear hb B_2 KX_2 K2_2 K3_2 KP_1
  obtain ⟨cKX0, cKX1, cKX2, cKX3⟩ := Bx.cells4 KX_4.out
  have lKX := Bx.lt KX_4.out; have fKX0 := Bx.froz KX_4.out 0; have fKX1 := Bx.froz KX_4.out 1; have fKX2 := Bx.froz KX_4.out 2; have fKX3 := Bx.froz KX_4.out 3
  go_upto_region 3 with (fail)
  clear cKX0 cKX1 cKX2 cKX3 lKX fKX0 fKX1 fKX2 fKX3
  have SG5 := Lib.hid (grown_st4 (World.grownBy.refl u1 (some bx)) (.string s) (.int .i64 (pa : Int)) (.int .i64 (m : Int)) (.int .i64 pe))
  have B_5 := Lib.hid (B_4.out.trans (below_grown SG5.out Hnbx.out B_4.out.size))
  have KX_5 := Lib.hid (Bx.st4 KX_4.out (.string s) (.int .i64 (pa : Int)) (.int .i64 (m : Int)) (.int .i64 pe))
  have K2_5 := Lib.hid (Bx.other K2_4.out SG5.out (some_ne nb2bx))
  have K3_5 := Lib.hid (Bx.other K3_4.out SG5.out (some_ne nb3bx))
  have KP_5 := Lib.hid (Bx.other KP_4.out SG5.out (some_ne nbpbx))
  obtain ⟨v6, hv6⟩ : ∃ zz, zz = st4 u1 bx (.string s) (.int .i64 (pa : Int)) (.int .i64 (m : Int)) (.int .i64 pe) := ⟨_, rfl⟩
  rw [← hv6] at B_5 KX_5 K2_5 K3_5 KP_5
  have gv6 := hv6
  simp only [st4] at gv6
  first | rw [← hv6] | rw [← gv6]
  clear hv6 gv6
  clear SG5 B_4 KX_4 K2_4 K3_4 KP_4
  obtain ⟨cKX0, cKX1, cKX2, cKX3⟩ := Bx.cells4 KX_5.out
  go_wp2_with fail
  clear cKX0 cKX1 cKX2 cKX3
  go_loopw [6] (fun i wr => ∃ (k : Nat) (L : List Int) (ya : Nat) (yn ye : Int) (v : Value), i = .int .i64 k ∧ k ≤ m ∧ OwnN wr w.heap.size v L ∧ (∀ z ∈ L, I64 z) ∧ L.length ≤ 4 ∧ XOk (tx s) ⟨ya, yn, ye⟩ ∧ Bx wr bx #[.string s, .int .i64 (ya : Int), .int .i64 yn, .int .i64 ye] 58 ∧ Bx wr bp #[v, .int .i64 0, .int .i64 0, .int .i64 0, .slice none 0 0, .slice none 0 0] 26 ∧ Bx wr b2 #[.slice none 0 0, .int .i64 0, .int .i64 0, .int .i64 0, .slice none 0 0, .slice none 0 0] 26 ∧ Bx wr b3 #[.string ⟨#[]⟩, .int .i64 0, .int .i64 0, .int .i64 0] 58 ∧ Below w.heap.size w wr ∧ ((ye = 0 ∧ m ≤ 4 ∧ R = (repP (capP (tx s)) m pa).bind (fun caps j1 => tab2 (tx s) caps j1) ∧ repP (capP (tx s)) k pa = .ok L ya) ∨ (¬ ye = 0 ∧ R = .no ye))) (fun i _ => m - (intOf i).toNat)
  case atStart =>
    refine ⟨0, [], pa, m, pe, _, rfl, Nat.zero_le _, ownG_nil _ _ _, fun z hz => by simp at hz, by simp, HG1.out, KX_5.out, KP_5.out, K2_5.out, K3_5.out, B_5.out, ?_⟩
    rcases HS.out with ⟨a, b, c⟩ | h
    · exact .inl ⟨a, c, b, rfl⟩
    · exact .inr h
  case round =>
    clear B_5 KX_5 K2_5 K3_5 KP_5
    obtain ⟨k, L, ya, yn, ye, v, rfl, hk, ho, hok, hl4, hy, hkx, hkp, hk2, hk3, hb, hd⟩ := hrel
    obtain ⟨ra, rc, rfl, _⟩ := OwnR.recs enc1_len ho
    have HO := Lib.hid ho; have HOK := Lib.hid hok; have HY := Lib.hid hy; have KX := Lib.hid hkx; have KP := Lib.hid hkp; have K2 := Lib.hid hk2; have K3 := Lib.hid hk3; have B := Lib.hid hb
    clear ho hok hy hkx hkp hk2 hk3 hb
    by_cases hgo : k < m ∧ ye = 0
    · obtain ⟨hlt, he⟩ := hgo
      subst he
      have hlt' : (k : Int) < (m : Int) := by omega
      rcases hd with ⟨_, hm4, hR, hrep⟩ | ⟨hne, _⟩
      rotate_left
      · exact absurd rfl hne
      have HLN := Lib.hid (repP_len hrep)
      have HL1 := Lib.hid (show L.length ≤ 100000 by omega)
      have HR1 := Lib.hid (show ((nextX (tx s) ⟨ya, yn, 0⟩).e = 0 ∧ m ≤ 4 ∧ R = (repP (capP (tx s)) m pa).bind (fun caps j1 => tab2 (tx s) caps j1) ∧ repP (capP (tx s)) (k + 1) pa = .ok (L ++ [(nextX (tx s) ⟨ya, yn, 0⟩).n - 1]) (nextX (tx s) ⟨ya, yn, 0⟩).at_) ∨ (¬ (nextX (tx s) ⟨ya, yn, 0⟩).e = 0 ∧ R = .no (nextX (tx s) ⟨ya, yn, 0⟩).e) by
        rcases cap_link (T := tx s) ⟨ya, yn, 0⟩ with ⟨h1, h2⟩ | ⟨h1, h2⟩
        · rw [stX_ok rfl] at h2; exact .inl ⟨h1, hm4, hR, repP_ok hrep h2⟩
        · rw [stX_ok rfl] at h2; exact .inr ⟨h1, by rw [hR, repP_no hrep h2 hlt]; rfl⟩)
      have HY1 := Lib.hid (HY.out.next HT.out)
      have N2 := Lib.hid (fun W => xnext_any s ⟨ya, yn, 0⟩ W HY.out hs)
      unfold Gives at N2
      obtain ⟨zz, hzz⟩ : ∃ zz, zz = nextX (tx s) ⟨ya, yn, 0⟩ := ⟨_, rfl⟩
      rw [← hzz] at HR1 HY1 N2
      clear hzz hR hrep
      obtain ⟨qa, qn, qe⟩ := zz
      dsimp only at HR1 N2
      have hq0 : 0 ≤ qn := HY1.out.2.1
      have hq1 : qn ≤ 2147483647 := HY1.out.2.2
      obtain ⟨cKX0, cKX1, cKX2, cKX3⟩ := Bx.cells4 KX.out
      go_wp2_with fail
      clear cKX0 cKX1 cKX2 cKX3
      refine (N2.out _).mono ?_
      rintro e u2 ⟨rfl, hb⟩
      have KX_7 := Lib.hid (Bx.below KX.out hb)
      have KP_7 := Lib.hid (Bx.below KP.out hb)
      have K2_7 := Lib.hid (Bx.below K2.out hb)
      have K3_7 := Lib.hid (Bx.below K3.out hb)
      have B_7 := Lib.hid (B.out.trans (Below.mono hb B.out.size))
      have O_7 := Lib.hid (OwnR.below HO.out hb)
      clear hb KX KP K2 K3 B HO
      obtain ⟨cKX0, cKX1, cKX2, cKX3⟩ := Bx.cells4 KX_7.out
      have lKX := Bx.lt KX_7.out; have fKX0 := Bx.froz KX_7.out 0; have fKX1 := Bx.froz KX_7.out 1; have fKX2 := Bx.froz KX_7.out 2; have fKX3 := Bx.froz KX_7.out 3
      go_upto_region 8 with (fail)
      clear cKX0 cKX1 cKX2 cKX3 lKX fKX0 fKX1 fKX2 fKX3
      have SG8 := Lib.hid (grown_st4 (World.grownBy.refl u2 (some bx)) (.string s) (.int .i64 (qa : Int)) (.int .i64 qn) (.int .i64 qe))
      have KX_8 := Lib.hid (Bx.st4 KX_7.out (.string s) (.int .i64 (qa : Int)) (.int .i64 qn) (.int .i64 qe))
      have KP_8 := Lib.hid (Bx.other KP_7.out SG8.out (some_ne nbpbx))
      have K2_8 := Lib.hid (Bx.other K2_7.out SG8.out (some_ne nb2bx))
      have K3_8 := Lib.hid (Bx.other K3_7.out SG8.out (some_ne nb3bx))
      have B_8 := Lib.hid (B_7.out.trans (below_grown SG8.out Hnbx.out B_7.out.size))
      have O_8 := Lib.hid (OwnR.away O_7.out SG8.out (Away.box KX_7.out (by decide)))
      obtain ⟨v9, hv9⟩ : ∃ zz, zz = st4 u2 bx (.string s) (.int .i64 (qa : Int)) (.int .i64 qn) (.int .i64 qe) := ⟨_, rfl⟩
      rw [← hv9] at KX_8 KP_8 K2_8 K3_8 B_8 O_8
      have gv9 := hv9
      simp only [st4] at gv9
      first | rw [← hv9] | rw [← gv9]
      clear hv9 gv9
      clear SG8 KX_7 KP_7 K2_7 K3_7 B_7 O_7
      obtain ⟨cKX0, cKX1, cKX2, cKX3⟩ := Bx.cells4 KX_8.out
      obtain ⟨cKP0, cKP1, cKP2, cKP3, cKP4, cKP5⟩ := Bx.cells6 KP_8.out
      have BZ := below_alloc v9 (.cells #[.int .i64 (qn - 1)] 3)
      have S2 := Lib.hid (recs_oneG (k := 1) (enc := enc1) (x := qn - 1) (t := 3) (heap_alloc_new v9 (.cells #[.int .i64 (qn - 1)] 3)))
      have KX_10 := Lib.hid (Bx.below KX_8.out BZ)
      have KP_10 := Lib.hid (Bx.below KP_8.out BZ)
      have K2_10 := Lib.hid (Bx.below K2_8.out BZ)
      have K3_10 := Lib.hid (Bx.below K3_8.out BZ)
      have B_10 := Lib.hid (B_8.out.trans (Below.mono BZ B_8.out.size))
      have O_10 := Lib.hid (OwnR.below O_8.out BZ)
      clear BZ KX_8 KP_8 K2_8 K3_8 B_8 O_8
      have HZ := Lib.hid (B_10.out.size)
      go_upto_region 6 with (at_builtin; refine wpList_appG enc1_len (by decide) enc1_one 22 3 8 _ Try.underlying22 inf3n rfl (by decide) rfl _ _ rfl w.heap.size _ L rfl O_10.out ⟨v9.heap.size, 0, none⟩ 1 1 [qn - 1] rfl S2.out HL1.out (by decide) HZ.out ?_; intro v9 w9 ho9 hg9; obtain ⟨ra9, rc9, rfl, _⟩ := OwnR.recs enc1_len ho9.out; have k1 := Bx.other KP_10.out hg9.out (ownR_apart O_10.out KP_10.out (by decide)); have l1 := Bx.lt k1; have f1 := Bx.froz k1 0; obtain ⟨y0, y1, y2, y3, y4, y5⟩ := Bx.cells6 k1)
      clear cKX0 cKX1 cKX2 cKX3 cKP0 cKP1 cKP2 cKP3 cKP4 cKP5
      have KX9 := Lib.hid (Bx.other KX_10.out hg9.out (ownR_apart O_10.out KX_10.out (by decide)))
      have KP9 := Lib.hid (Bx.other KP_10.out hg9.out (ownR_apart O_10.out KP_10.out (by decide)))
      have K29 := Lib.hid (Bx.other K2_10.out hg9.out (ownR_apart O_10.out K2_10.out (by decide)))
      have K39 := Lib.hid (Bx.other K3_10.out hg9.out (ownR_apart O_10.out K3_10.out (by decide)))
      have B9 := Lib.hid (Below.grown B_10.out hg9.out HZ.out (fun r hr => OwnR.lt O_10.out r hr))
      have HO9 := Lib.hid (show OwnN w9 w.heap.size (.slice ra9 (L.length + 1) rc9) (L ++ [qn - 1]) from by have := ho9.out; rwa [List.length_append, List.length_singleton] at this)
      clear hg9
      have SG11 := Lib.hid (grow_setCell w9 bp 0 (.slice ra9 (L.length + 1) rc9))
      have KX_11 := Lib.hid (Bx.other KX9.out SG11.out (some_ne nbxbp))
      have KP_11 := Lib.hid ((show Bx (w9.setCell ⟨bp, 0, none⟩ (.slice ra9 (L.length + 1) rc9)) bp #[.slice ra9 (L.length + 1) rc9, .int .i64 0, .int .i64 0, .int .i64 0, .slice none 0 0, .slice none 0 0] _ from Bx.set KP9.out 0 (.slice ra9 (L.length + 1) rc9)))
      have K2_11 := Lib.hid (Bx.other K29.out SG11.out (some_ne nb2bp))
      have K3_11 := Lib.hid (Bx.other K39.out SG11.out (some_ne nb3bp))
      have B_11 := Lib.hid (B9.out.trans (below_grown SG11.out Hnbp.out B9.out.size))
      have O_11 := Lib.hid (OwnR.away HO9.out SG11.out (Away.box KP9.out (by decide)))
      obtain ⟨v12, hv12⟩ : ∃ zz, zz = w9.setCell ⟨bp, 0, none⟩ (.slice ra9 (L.length + 1) rc9) := ⟨_, rfl⟩
      rw [← hv12] at KX_11 KP_11 K2_11 K3_11 B_11 O_11
      have gv12 := hv12
      first | rw [← hv12] | rw [← gv12]
      clear hv12 gv12
      clear SG11 KX9 KP9 K29 K39 B9 HO9
      go_wp2_with fail
      go_roundw
      case rel => exact ⟨k + 1, L ++ [qn - 1], qa, qn, qe, _, by go_num, by omega, O_11.out, fun z hz => by rcases List.mem_append.1 hz with h1 | h1; exact HOK.out z h1; simp at h1; subst h1; exact ⟨by omega, by omega⟩, by rw [List.length_append, HLN.out, List.length_singleton]; omega, HY1.out, KX_11.out, KP_11.out, K2_11.out, K3_11.out, B_11.out, HR1.out⟩
      case measure => simp [intOf]; omega
    · have HD := Lib.hid (show (ye = 0 ∧ R = tab2 (tx s) L ya) ∨ (¬ ye = 0 ∧ R = .no ye) by
        rcases hd with ⟨a, b, c, d'⟩ | h
        · have hkm : k = m := by
            by_cases hlt : k < m
            · exact absurd ⟨hlt, a⟩ hgo
            · omega
          subst hkm
          exact .inl ⟨a, by rw [c, d']; rfl⟩
        · exact .inr h)
      clear hd
      have hcases : (¬ k < m) ∨ (k < m ∧ ¬ ye = 0) := by
        by_cases hlt : k < m
        · exact .inr ⟨hlt, fun he => hgo ⟨hlt, he⟩⟩
        · exact .inl hlt
      clear hgo
      rcases hcases with hlt | ⟨hlt, hne⟩
      all_goals
        first | (have hlt' : ¬ (k : Int) < (m : Int) := by omega) | (have hlt' : (k : Int) < (m : Int) := by omega)
        try have hneb : (ye == 0) = false := by rw [beq_eq_false_iff_ne]; exact hne
        have HL4 := Lib.hid hl4
        clear hl4
        obtain ⟨caps, hcaps⟩ : ∃ caps, caps = L := ⟨_, rfl⟩
        obtain ⟨cn, hcn⟩ : ∃ cn, cn = L.length := ⟨_, rfl⟩
        obtain ⟨ca, hca⟩ : ∃ ca, ca = ra := ⟨_, rfl⟩
        obtain ⟨cc, hcc⟩ : ∃ cc, cc = rc := ⟨_, rfl⟩
        rw [← hcn] at HO KP
        clear hcn
        subst hcaps hca hcc
        have OC := HO
        clear HO
        have HDs := Lib.hid (show ((⟨ya, yn, ye⟩ : XS).e = 0 ∧ R = (nP (tx s) (⟨ya, yn, ye⟩ : XS).at_).bind (fun mu j2 => tab2b (tx s) caps mu j2)) ∨ (¬ (⟨ya, yn, ye⟩ : XS).e = 0 ∧ R = .no (⟨ya, yn, ye⟩ : XS).e) from HD.out)
        clear HD
        have HDn := Lib.hid (num_step (T := tx s) (R := R) (f := fun mu j2 => tab2b (tx s) caps mu j2) (x := ⟨ya, yn, ye⟩) HDs.out)
        have HYn := Lib.hid (HY.out.next HT.out)
        have NX := Lib.hid (fun W => xnext_any s ⟨ya, yn, ye⟩ W HY.out hs)
        unfold Gives at NX
        obtain ⟨zz, hzz⟩ : ∃ zz, zz = nextX (tx s) ⟨ya, yn, ye⟩ := ⟨_, rfl⟩
        rw [← hzz] at HDn HYn NX
        clear hzz HDs HY
        obtain ⟨qa, mu, ea⟩ := zz
        dsimp only at NX HDn
        have HYa := HYn; have HDs := HDn
        have HMa := Lib.hid (show 0 ≤ mu ∧ mu ≤ 2147483647 from HYn.out.2)
        clear HYn HDn
        obtain ⟨cKX0, cKX1, cKX2, cKX3⟩ := Bx.cells4 KX.out
        go_wp2_with fail
        clear cKX0 cKX1 cKX2 cKX3
        refine (NX.out _).mono ?_
        rintro e u3 ⟨rfl, hb⟩
        have KX_13 := Lib.hid (Bx.below KX.out hb)
        have KP_13 := Lib.hid (Bx.below KP.out hb)
        have K2_13 := Lib.hid (Bx.below K2.out hb)
        have K3_13 := Lib.hid (Bx.below K3.out hb)
        have B_13 := Lib.hid (B.out.trans (Below.mono hb B.out.size))
        have OC_13 := Lib.hid (OwnR.below OC.out hb)
        clear hb KX KP K2 K3 B OC
        obtain ⟨cKX0, cKX1, cKX2, cKX3⟩ := Bx.cells4 KX_13.out
        have lKX := Bx.lt KX_13.out; have fKX0 := Bx.froz KX_13.out 0; have fKX1 := Bx.froz KX_13.out 1; have fKX2 := Bx.froz KX_13.out 2; have fKX3 := Bx.froz KX_13.out 3
        go_upto_region 10 with (fail)
        clear cKX0 cKX1 cKX2 cKX3 lKX fKX0 fKX1 fKX2 fKX3
        have SG14 := Lib.hid (grown_st4 (World.grownBy.refl u3 (some bx)) (.string s) (.int .i64 (qa : Int)) (.int .i64 mu) (.int .i64 ea))
        have KX_14 := Lib.hid (Bx.st4 KX_13.out (.string s) (.int .i64 (qa : Int)) (.int .i64 mu) (.int .i64 ea))
        have KP_14 := Lib.hid (Bx.other KP_13.out SG14.out (some_ne nbpbx))
        have K2_14 := Lib.hid (Bx.other K2_13.out SG14.out (some_ne nb2bx))
        have K3_14 := Lib.hid (Bx.other K3_13.out SG14.out (some_ne nb3bx))
        have B_14 := Lib.hid (B_13.out.trans (below_grown SG14.out Hnbx.out B_13.out.size))
        have OC_14 := Lib.hid (OwnR.away OC_13.out SG14.out (Away.box KX_13.out (by decide)))
        obtain ⟨v15, hv15⟩ : ∃ zz, zz = st4 u3 bx (.string s) (.int .i64 (qa : Int)) (.int .i64 mu) (.int .i64 ea) := ⟨_, rfl⟩
        rw [← hv15] at KX_14 KP_14 K2_14 K3_14 B_14 OC_14
        have gv15 := hv15
        simp only [st4] at gv15
        first | rw [← hv15] | rw [← gv15]
        clear hv15 gv15
        clear SG14 KX_13 KP_13 K2_13 K3_13 B_13 OC_13
        clear NX
        obtain ⟨cKX0, cKX1, cKX2, cKX3⟩ := Bx.cells4 KX_14.out
        obtain ⟨cKP0, cKP1, cKP2, cKP3, cKP4, cKP5⟩ := Bx.cells6 KP_14.out
        have lKP := Bx.lt KP_14.out; have fKP0 := Bx.froz KP_14.out 0; have fKP1 := Bx.froz KP_14.out 1; have fKP2 := Bx.froz KP_14.out 2; have fKP3 := Bx.froz KP_14.out 3; have fKP4 := Bx.froz KP_14.out 4; have fKP5 := Bx.froz KP_14.out 5
        go_upto_region 11 with (fail)
        clear cKX0 cKX1 cKX2 cKX3 cKP0 cKP1 cKP2 cKP3 cKP4 cKP5 lKP fKP0 fKP1 fKP2 fKP3 fKP4 fKP5
        have SG16 := Lib.hid (grow_setCell v15 bp 1 (.int .i64 mu))
        have KX_16 := Lib.hid (Bx.other KX_14.out SG16.out (some_ne nbxbp))
        have KP_16 := Lib.hid ((show Bx (v15.setCell ⟨bp, 1, none⟩ (.int .i64 mu)) bp #[.slice ca cn cc, .int .i64 mu, .int .i64 0, .int .i64 0, .slice none 0 0, .slice none 0 0] _ from Bx.set KP_14.out 1 (.int .i64 mu)))
        have K2_16 := Lib.hid (Bx.other K2_14.out SG16.out (some_ne nb2bp))
        have K3_16 := Lib.hid (Bx.other K3_14.out SG16.out (some_ne nb3bp))
        have B_16 := Lib.hid (B_14.out.trans (below_grown SG16.out Hnbp.out B_14.out.size))
        have OC_16 := Lib.hid (OwnR.away OC_14.out SG16.out (Away.box KP_14.out (by decide)))
        obtain ⟨v17, hv17⟩ : ∃ zz, zz = v15.setCell ⟨bp, 1, none⟩ (.int .i64 mu) := ⟨_, rfl⟩
        rw [← hv17] at KX_16 KP_16 K2_16 K3_16 B_16 OC_16
        have gv17 := hv17
        first | rw [← hv17] | rw [← gv17]
        clear hv17 gv17
        clear SG16 KX_14 KP_14 K2_14 K3_14 B_14 OC_14
        have HDn := Lib.hid (num_step (T := tx s) (R := R) (f := fun on j3 => tab2c (tx s) caps mu on j3) (x := ⟨qa, mu, ea⟩) HDs.out)
        have HYn := Lib.hid (HYa.out.next HT.out)
        have NX := Lib.hid (fun W => xnext_any s ⟨qa, mu, ea⟩ W HYa.out hs)
        unfold Gives at NX
        obtain ⟨zz, hzz⟩ : ∃ zz, zz = nextX (tx s) ⟨qa, mu, ea⟩ := ⟨_, rfl⟩
        rw [← hzz] at HDn HYn NX
        clear hzz HDs HYa
        obtain ⟨qb, on, eb⟩ := zz
        dsimp only at NX HDn
        have HYb := HYn; have HDs := HDn
        have HMb := Lib.hid (show 0 ≤ on ∧ on ≤ 2147483647 from HYn.out.2)
        clear HYn HDn
        obtain ⟨cKX0, cKX1, cKX2, cKX3⟩ := Bx.cells4 KX_16.out
        go_wp2_with fail
        clear cKX0 cKX1 cKX2 cKX3
        refine (NX.out _).mono ?_
        rintro e u4 ⟨rfl, hb⟩
        have KX_18 := Lib.hid (Bx.below KX_16.out hb)
        have KP_18 := Lib.hid (Bx.below KP_16.out hb)
        have K2_18 := Lib.hid (Bx.below K2_16.out hb)
        have K3_18 := Lib.hid (Bx.below K3_16.out hb)
        have B_18 := Lib.hid (B_16.out.trans (Below.mono hb B_16.out.size))
        have OC_18 := Lib.hid (OwnR.below OC_16.out hb)
        clear hb KX_16 KP_16 K2_16 K3_16 B_16 OC_16
        obtain ⟨cKX0, cKX1, cKX2, cKX3⟩ := Bx.cells4 KX_18.out
        have lKX := Bx.lt KX_18.out; have fKX0 := Bx.froz KX_18.out 0; have fKX1 := Bx.froz KX_18.out 1; have fKX2 := Bx.froz KX_18.out 2; have fKX3 := Bx.froz KX_18.out 3
        go_upto_region 12 with (fail)
        clear cKX0 cKX1 cKX2 cKX3 lKX fKX0 fKX1 fKX2 fKX3
        have SG19 := Lib.hid (grown_st4 (World.grownBy.refl u4 (some bx)) (.string s) (.int .i64 (qb : Int)) (.int .i64 on) (.int .i64 eb))
        have KX_19 := Lib.hid (Bx.st4 KX_18.out (.string s) (.int .i64 (qb : Int)) (.int .i64 on) (.int .i64 eb))
        have KP_19 := Lib.hid (Bx.other KP_18.out SG19.out (some_ne nbpbx))
        have K2_19 := Lib.hid (Bx.other K2_18.out SG19.out (some_ne nb2bx))
        have K3_19 := Lib.hid (Bx.other K3_18.out SG19.out (some_ne nb3bx))
        have B_19 := Lib.hid (B_18.out.trans (below_grown SG19.out Hnbx.out B_18.out.size))
        have OC_19 := Lib.hid (OwnR.away OC_18.out SG19.out (Away.box KX_18.out (by decide)))
        obtain ⟨v20, hv20⟩ : ∃ zz, zz = st4 u4 bx (.string s) (.int .i64 (qb : Int)) (.int .i64 on) (.int .i64 eb) := ⟨_, rfl⟩
        rw [← hv20] at KX_19 KP_19 K2_19 K3_19 B_19 OC_19
        have gv20 := hv20
        simp only [st4] at gv20
        first | rw [← hv20] | rw [← gv20]
        clear hv20 gv20
        clear SG19 KX_18 KP_18 K2_18 K3_18 B_18 OC_18
        clear NX
        obtain ⟨cKX0, cKX1, cKX2, cKX3⟩ := Bx.cells4 KX_19.out
        obtain ⟨cKP0, cKP1, cKP2, cKP3, cKP4, cKP5⟩ := Bx.cells6 KP_19.out
        have lKP := Bx.lt KP_19.out; have fKP0 := Bx.froz KP_19.out 0; have fKP1 := Bx.froz KP_19.out 1; have fKP2 := Bx.froz KP_19.out 2; have fKP3 := Bx.froz KP_19.out 3; have fKP4 := Bx.froz KP_19.out 4; have fKP5 := Bx.froz KP_19.out 5
        go_upto_region 13 with (fail)
        clear cKX0 cKX1 cKX2 cKX3 cKP0 cKP1 cKP2 cKP3 cKP4 cKP5 lKP fKP0 fKP1 fKP2 fKP3 fKP4 fKP5
        have SG21 := Lib.hid (grow_setCell v20 bp 2 (.int .i64 on))
        have KX_21 := Lib.hid (Bx.other KX_19.out SG21.out (some_ne nbxbp))
        have KP_21 := Lib.hid ((show Bx (v20.setCell ⟨bp, 2, none⟩ (.int .i64 on)) bp #[.slice ca cn cc, .int .i64 mu, .int .i64 on, .int .i64 0, .slice none 0 0, .slice none 0 0] _ from Bx.set KP_19.out 2 (.int .i64 on)))
        have K2_21 := Lib.hid (Bx.other K2_19.out SG21.out (some_ne nb2bp))
        have K3_21 := Lib.hid (Bx.other K3_19.out SG21.out (some_ne nb3bp))
        have B_21 := Lib.hid (B_19.out.trans (below_grown SG21.out Hnbp.out B_19.out.size))
        have OC_21 := Lib.hid (OwnR.away OC_19.out SG21.out (Away.box KP_19.out (by decide)))
        obtain ⟨v22, hv22⟩ : ∃ zz, zz = v20.setCell ⟨bp, 2, none⟩ (.int .i64 on) := ⟨_, rfl⟩
        rw [← hv22] at KX_21 KP_21 K2_21 K3_21 B_21 OC_21
        have gv22 := hv22
        first | rw [← hv22] | rw [← gv22]
        clear hv22 gv22
        clear SG21 KX_19 KP_19 K2_19 K3_19 B_19 OC_19
        have HDn := Lib.hid (num_step (T := tx s) (R := R) (f := fun va j4 => tab3 (tx s) caps mu on va j4) (x := ⟨qb, on, eb⟩) HDs.out)
        have HYn := Lib.hid (HYb.out.next HT.out)
        have NX := Lib.hid (fun W => xnext_any s ⟨qb, on, eb⟩ W HYb.out hs)
        unfold Gives at NX
        obtain ⟨zz, hzz⟩ : ∃ zz, zz = nextX (tx s) ⟨qb, on, eb⟩ := ⟨_, rfl⟩
        rw [← hzz] at HDn HYn NX
        clear hzz HDs HYb
        obtain ⟨qc, va, ec⟩ := zz
        dsimp only at NX HDn
        have HYc := HYn; have HDs := HDn
        clear HYn HDn
        obtain ⟨cKX0, cKX1, cKX2, cKX3⟩ := Bx.cells4 KX_21.out
        go_wp2_with fail
        clear cKX0 cKX1 cKX2 cKX3
        refine (NX.out _).mono ?_
        rintro e u5 ⟨rfl, hb⟩
        have KX_23 := Lib.hid (Bx.below KX_21.out hb)
        have KP_23 := Lib.hid (Bx.below KP_21.out hb)
        have K2_23 := Lib.hid (Bx.below K2_21.out hb)
        have K3_23 := Lib.hid (Bx.below K3_21.out hb)
        have B_23 := Lib.hid (B_21.out.trans (Below.mono hb B_21.out.size))
        have OC_23 := Lib.hid (OwnR.below OC_21.out hb)
        clear hb KX_21 KP_21 K2_21 K3_21 B_21 OC_21
        obtain ⟨cKX0, cKX1, cKX2, cKX3⟩ := Bx.cells4 KX_23.out
        have lKX := Bx.lt KX_23.out; have fKX0 := Bx.froz KX_23.out 0; have fKX1 := Bx.froz KX_23.out 1; have fKX2 := Bx.froz KX_23.out 2; have fKX3 := Bx.froz KX_23.out 3
        go_upto_region 14 with (fail)
        clear cKX0 cKX1 cKX2 cKX3 lKX fKX0 fKX1 fKX2 fKX3
        have SG24 := Lib.hid (grown_st4 (World.grownBy.refl u5 (some bx)) (.string s) (.int .i64 (qc : Int)) (.int .i64 va) (.int .i64 ec))
        have KX_24 := Lib.hid (Bx.st4 KX_23.out (.string s) (.int .i64 (qc : Int)) (.int .i64 va) (.int .i64 ec))
        have KP_24 := Lib.hid (Bx.other KP_23.out SG24.out (some_ne nbpbx))
        have K2_24 := Lib.hid (Bx.other K2_23.out SG24.out (some_ne nb2bx))
        have K3_24 := Lib.hid (Bx.other K3_23.out SG24.out (some_ne nb3bx))
        have B_24 := Lib.hid (B_23.out.trans (below_grown SG24.out Hnbx.out B_23.out.size))
        have OC_24 := Lib.hid (OwnR.away OC_23.out SG24.out (Away.box KX_23.out (by decide)))
        obtain ⟨v25, hv25⟩ : ∃ zz, zz = st4 u5 bx (.string s) (.int .i64 (qc : Int)) (.int .i64 va) (.int .i64 ec) := ⟨_, rfl⟩
        rw [← hv25] at KX_24 KP_24 K2_24 K3_24 B_24 OC_24
        have gv25 := hv25
        simp only [st4] at gv25
        first | rw [← hv25] | rw [← gv25]
        clear hv25 gv25
        clear SG24 KX_23 KP_23 K2_23 K3_23 B_23 OC_23
        clear NX
        obtain ⟨cKX0, cKX1, cKX2, cKX3⟩ := Bx.cells4 KX_24.out
        obtain ⟨cKP0, cKP1, cKP2, cKP3, cKP4, cKP5⟩ := Bx.cells6 KP_24.out
        have lKP := Bx.lt KP_24.out; have fKP0 := Bx.froz KP_24.out 0; have fKP1 := Bx.froz KP_24.out 1; have fKP2 := Bx.froz KP_24.out 2; have fKP3 := Bx.froz KP_24.out 3; have fKP4 := Bx.froz KP_24.out 4; have fKP5 := Bx.froz KP_24.out 5
        go_upto_region 15 with (fail)
        clear cKX0 cKX1 cKX2 cKX3 cKP0 cKP1 cKP2 cKP3 cKP4 cKP5 lKP fKP0 fKP1 fKP2 fKP3 fKP4 fKP5
        have SG26 := Lib.hid (grow_setCell v25 bp 3 (.int .i64 va))
        have KX_26 := Lib.hid (Bx.other KX_24.out SG26.out (some_ne nbxbp))
        have KP_26 := Lib.hid ((show Bx (v25.setCell ⟨bp, 3, none⟩ (.int .i64 va)) bp #[.slice ca cn cc, .int .i64 mu, .int .i64 on, .int .i64 va, .slice none 0 0, .slice none 0 0] _ from Bx.set KP_24.out 3 (.int .i64 va)))
        have K2_26 := Lib.hid (Bx.other K2_24.out SG26.out (some_ne nb2bp))
        have K3_26 := Lib.hid (Bx.other K3_24.out SG26.out (some_ne nb3bp))
        have B_26 := Lib.hid (B_24.out.trans (below_grown SG26.out Hnbp.out B_24.out.size))
        have OC_26 := Lib.hid (OwnR.away OC_24.out SG26.out (Away.box KP_24.out (by decide)))
        obtain ⟨v27, hv27⟩ : ∃ zz, zz = v25.setCell ⟨bp, 3, none⟩ (.int .i64 va) := ⟨_, rfl⟩
        rw [← hv27] at KX_26 KP_26 K2_26 K3_26 B_26 OC_26
        have gv27 := hv27
        first | rw [← hv27] | rw [← gv27]
        clear hv27 gv27
        clear SG26 KX_24 KP_24 K2_24 K3_24 B_24 OC_24
        have HMU := Lib.hid (show I64 mu ∧ I64 on ∧ I64 va from ⟨i64m HMa.out.1 HMa.out.2, i64m HMb.out.1 HMb.out.2, i64m HYc.out.2.1 HYc.out.2.2⟩)
        have HSn := size_step (T := tx s) (R := R) (m := 4) (f := fun m j5 => (repP (selP (tx s)) m.toNat j5).bind fun sels j6 => .ok ⟨caps, mu, on, va, sels, []⟩ j6) (x := ⟨qc, va, ec⟩) HDs.out
        have g1 := HYc.out.many HT.out 1 4
        have N5 := Lib.hid (fun W => many_1_4 s ⟨qc, va, ec⟩ W HYc.out hs)
        unfold Gives at N5
        obtain ⟨y5, hy5⟩ : ∃ zz, zz = manyX (tx s) ⟨qc, va, ec⟩ 1 4 := ⟨_, rfl⟩
        rw [← hy5] at HSn g1 N5
        clear hy5 HDs HYc HMa HMb
        obtain ⟨p5, n5, e5⟩ := y5
        dsimp only at N5 HSn
        obtain ⟨m5, hm5⟩ : ∃ m5 : Nat, (m5 : Int) = n5 := ⟨n5.toNat, by have := g1.2.1; dsimp only at this; omega⟩
        subst hm5
        have HS5 := Lib.hid (show (e5 = 0 ∧ R = (repP (selP (tx s)) m5 p5).bind (fun sels j6 => .ok ⟨caps, mu, on, va, sels, []⟩ j6) ∧ m5 ≤ 4) ∨ (¬ e5 = 0 ∧ R = .no e5) by
          rcases HSn with ⟨a, b, c⟩ | h
          · exact .inl ⟨a, by rw [b, Int.toNat_natCast], by omega⟩
          · exact .inr h)
        have HG5 := Lib.hid g1
        clear HSn g1
        obtain ⟨cKX0, cKX1, cKX2, cKX3⟩ := Bx.cells4 KX_26.out
        go_wp2_with fail
        clear cKX0 cKX1 cKX2 cKX3
        refine (N5.out _).mono ?_
        rintro e u6 ⟨rfl, hb⟩
        have KX_28 := Lib.hid (Bx.below KX_26.out hb)
        have KP_28 := Lib.hid (Bx.below KP_26.out hb)
        have K2_28 := Lib.hid (Bx.below K2_26.out hb)
        have K3_28 := Lib.hid (Bx.below K3_26.out hb)
        have B_28 := Lib.hid (B_26.out.trans (Below.mono hb B_26.out.size))
        have OC_28 := Lib.hid (OwnR.below OC_26.out hb)
        clear hb KX_26 KP_26 K2_26 K3_26 B_26 OC_26
        obtain ⟨cKX0, cKX1, cKX2, cKX3⟩ := Bx.cells4 KX_28.out
        have lKX := Bx.lt KX_28.out; have fKX0 := Bx.froz KX_28.out 0; have fKX1 := Bx.froz KX_28.out 1; have fKX2 := Bx.froz KX_28.out 2; have fKX3 := Bx.froz KX_28.out 3
        go_upto_region 16 with (fail)
        clear cKX0 cKX1 cKX2 cKX3 lKX fKX0 fKX1 fKX2 fKX3
        have SG29 := Lib.hid (grown_st4 (World.grownBy.refl u6 (some bx)) (.string s) (.int .i64 (p5 : Int)) (.int .i64 (m5 : Int)) (.int .i64 e5))
        have KX_29 := Lib.hid (Bx.st4 KX_28.out (.string s) (.int .i64 (p5 : Int)) (.int .i64 (m5 : Int)) (.int .i64 e5))
        have KP_29 := Lib.hid (Bx.other KP_28.out SG29.out (some_ne nbpbx))
        have K2_29 := Lib.hid (Bx.other K2_28.out SG29.out (some_ne nb2bx))
        have K3_29 := Lib.hid (Bx.other K3_28.out SG29.out (some_ne nb3bx))
        have B_29 := Lib.hid (B_28.out.trans (below_grown SG29.out Hnbx.out B_28.out.size))
        have OC_29 := Lib.hid (OwnR.away OC_28.out SG29.out (Away.box KX_28.out (by decide)))
        obtain ⟨v30, hv30⟩ : ∃ zz, zz = st4 u6 bx (.string s) (.int .i64 (p5 : Int)) (.int .i64 (m5 : Int)) (.int .i64 e5) := ⟨_, rfl⟩
        rw [← hv30] at KX_29 KP_29 K2_29 K3_29 B_29 OC_29
        have gv30 := hv30
        simp only [st4] at gv30
        first | rw [← hv30] | rw [← gv30]
        clear hv30 gv30
        clear SG29 KX_28 KP_28 K2_28 K3_28 B_28 OC_28
        skip
        obtain ⟨cKX0, cKX1, cKX2, cKX3⟩ := Bx.cells4 KX_29.out
        go_wp2_with fail
        clear cKX0 cKX1 cKX2 cKX3
        clear hlt'
        try clear hneb
        clear HS HG1 hk
        go_loopw [7] (fun i wr => ∃ (k : Nat) (L : List Sel) (ya : Nat) (yn ye : Int) (v : Value), i = .int .i64 k ∧ k ≤ m5 ∧ OSels wr w.heap.size v L ∧ OwnN wr w.heap.size (.slice ca cn cc) caps ∧ L.length ≤ 4 ∧ XOk (tx s) ⟨ya, yn, ye⟩ ∧ Bx wr bx #[.string s, .int .i64 (ya : Int), .int .i64 yn, .int .i64 ye] 58 ∧ Bx wr bp #[.slice ca cn cc, .int .i64 mu, .int .i64 on, .int .i64 va, v, .slice none 0 0] 26 ∧ Bx wr b2 #[.slice none 0 0, .int .i64 0, .int .i64 0, .int .i64 0, .slice none 0 0, .slice none 0 0] 26 ∧ Bx wr b3 #[.string ⟨#[]⟩, .int .i64 0, .int .i64 0, .int .i64 0] 58 ∧ Below w.heap.size w wr ∧ ((ye = 0 ∧ m5 ≤ 4 ∧ R = (repP (selP (tx s)) m5 p5).bind (fun sels j6 => .ok ⟨caps, mu, on, va, sels, []⟩ j6) ∧ repP (selP (tx s)) k p5 = .ok L ya) ∨ (¬ ye = 0 ∧ R = .no ye))) (fun i _ => m5 - (intOf i).toNat)
        case atStart =>
          refine ⟨0, [], p5, m5, e5, _, rfl, Nat.zero_le _, OSels.nil _ _, OC_29.out, by simp, HG5.out, KX_29.out, KP_29.out, K2_29.out, K3_29.out, B_29.out, ?_⟩
          rcases HS5.out with ⟨a, b, c⟩ | h
          · exact .inl ⟨a, c, b, rfl⟩
          · exact .inr h
        case round =>
          clear KX_29 KP_29 K2_29 K3_29 B_29 OC_29
          obtain ⟨k, L, ya, yn, ye, v, rfl, hk, ho, hoc, hl4, hy, hkx, hkp, hk2, hk3, hb, hd⟩ := hrel
          obtain ⟨ra, rc, rfl⟩ := OSels.parts ho
          have HO := Lib.hid ho; have OC := Lib.hid hoc; have HY := Lib.hid hy; have KX := Lib.hid hkx; have KP := Lib.hid hkp; have K2 := Lib.hid hk2; have K3 := Lib.hid hk3; have B := Lib.hid hb
          clear ho hoc hy hkx hkp hk2 hk3 hb
          by_cases hgo : k < m5 ∧ ye = 0
          · obtain ⟨hlt, he⟩ := hgo
            subst he
            have hlt' : (k : Int) < (m5 : Int) := by omega
            rcases hd with ⟨_, hm4, hR, hrep⟩ | ⟨hne, _⟩
            rotate_left
            · exact absurd rfl hne
            have HLN := Lib.hid (repP_len hrep)
            have HR0 := Lib.hid (show m5 ≤ 4 ∧ R = (repP (selP (tx s)) m5 p5).bind (fun sels j6 => .ok ⟨caps, mu, on, va, sels, []⟩ j6) ∧ repP (selP (tx s)) k p5 = .ok L ya from ⟨hm4, hR, hrep⟩)
            have N2 := Lib.hid (fun W => refSel_any s ⟨ya, yn, 0⟩ W HY.out hs)
            rw [stX_ok rfl] at N2
            unfold GotSel at N2
            clear hR hrep
            obtain ⟨cKX0, cKX1, cKX2, cKX3⟩ := Bx.cells4 KX.out
            go_wp2_with fail
            clear cKX0 cKX1 cKX2 cKX3
            refine (N2.out _).mono ?_
            rintro e u7 ⟨rb, sx, ⟨qa, qn, qe⟩, rfl, hyq, hsx, hb, hlk⟩
            have HSX0 := Lib.hid (show OSel u7 w.heap.size rb sx from hsx.mono B.out.size)
            have HYQ := Lib.hid hyq
            have HR1 := Lib.hid (show (qe = 0 ∧ m5 ≤ 4 ∧ R = (repP (selP (tx s)) m5 p5).bind (fun sels j6 => .ok ⟨caps, mu, on, va, sels, []⟩ j6) ∧ repP (selP (tx s)) (k + 1) p5 = .ok (L ++ [sx]) qa) ∨ (¬ qe = 0 ∧ R = .no qe) by
              obtain ⟨hm4, hR, hrep⟩ := HR0.out
              rcases hlk with ⟨h1, h2⟩ | ⟨h1, h2⟩
              · exact .inl ⟨h1, hm4, hR, repP_ok hrep h2⟩
              · exact .inr ⟨h1, by rw [hR, repP_no hrep h2 hlt]; rfl⟩)
            clear hyq hsx hlk HR0 N2
            have KX_31 := Lib.hid (Bx.below KX.out hb)
            have KP_31 := Lib.hid (Bx.below KP.out hb)
            have K2_31 := Lib.hid (Bx.below K2.out hb)
            have K3_31 := Lib.hid (Bx.below K3.out hb)
            have B_31 := Lib.hid (B.out.trans (Below.mono hb B.out.size))
            have OC_31 := Lib.hid (OwnR.below OC.out hb)
            have OS_31 := Lib.hid (OSels.below HO.out hb)
            clear hb KX KP K2 K3 B OC HO
            have BA32 := (below_alloc u7 (.cells #[.slice rb.a rb.n rb.c, .bool rb.d] 47)).trans (Below.mono (below_alloc (u7.alloc (.cells #[.slice rb.a rb.n rb.c, .bool rb.d] 47)) (.cells #[.string s, .int .i64 (qa : Int), .int .i64 qn, .int .i64 qe] 58)) (by simp))
            have K8_32 := Lib.hid ((Bx.new u7 #[.slice rb.a rb.n rb.c, .bool rb.d] 47).below (below_alloc _ (.cells #[.string s, .int .i64 (qa : Int), .int .i64 qn, .int .i64 qe] 58)))
            have K9_32 := Lib.hid (Bx.new2 u7 (.cells #[.slice rb.a rb.n rb.c, .bool rb.d] 47) #[.string s, .int .i64 (qa : Int), .int .i64 qn, .int .i64 qe] 58)
            have ltbx32 : bx < u7.heap.size := Bx.lt KX_31.out
            have ltb232 : b2 < u7.heap.size := Bx.lt K2_31.out
            have ltb332 : b3 < u7.heap.size := Bx.lt K3_31.out
            have ltbp32 : bp < u7.heap.size := Bx.lt KP_31.out
            have hs32 : w.heap.size ≤ u7.heap.size := B_31.out.size
            go_upto_region 21 with (fail)
            obtain ⟨b9, hb9⟩ : ∃ zz, zz = u7.heap.size + 1 := ⟨_, rfl⟩
            obtain ⟨b8, hb8⟩ : ∃ zz, zz = u7.heap.size := ⟨_, rfl⟩
            have Hnb8 := Lib.hid (show w.heap.size ≤ b8 by omega); have Hnb9 := Lib.hid (show w.heap.size ≤ b9 by omega)
            have nbxb8 : bx ≠ b8 := by omega
            have nb8bx : b8 ≠ bx := by omega
            have nb2b8 : b2 ≠ b8 := by omega
            have nb8b2 : b8 ≠ b2 := by omega
            have nb3b8 : b3 ≠ b8 := by omega
            have nb8b3 : b8 ≠ b3 := by omega
            have nbpb8 : bp ≠ b8 := by omega
            have nb8bp : b8 ≠ bp := by omega
            have nbxb9 : bx ≠ b9 := by omega
            have nb9bx : b9 ≠ bx := by omega
            have nb2b9 : b2 ≠ b9 := by omega
            have nb9b2 : b9 ≠ b2 := by omega
            have nb3b9 : b3 ≠ b9 := by omega
            have nb9b3 : b9 ≠ b3 := by omega
            have nbpb9 : bp ≠ b9 := by omega
            have nb9bp : b9 ≠ bp := by omega
            have nb8b9 : b8 ≠ b9 := by omega
            have nb9b8 : b9 ≠ b8 := by omega
            rw [← hb9] at K9_32 ⊢
            rw [← hb8] at K8_32 ⊢
            clear ltbx32 ltb232 ltb332 ltbp32 hs32 hb8 hb9
            have KX_33 := Lib.hid (Bx.below KX_31.out BA32)
            have KP_33 := Lib.hid (Bx.below KP_31.out BA32)
            have K2_33 := Lib.hid (Bx.below K2_31.out BA32)
            have K3_33 := Lib.hid (Bx.below K3_31.out BA32)
            have B_33 := Lib.hid (B_31.out.trans (Below.mono BA32 B_31.out.size))
            have OC_33 := Lib.hid (OwnR.below OC_31.out BA32)
            have OS_33 := Lib.hid (OSels.below OS_31.out BA32)
            have SX_33 := Lib.hid (OSel.below HSX0.out BA32)
            clear BA32 KX_31 KP_31 K2_31 K3_31 B_31 OC_31 OS_31 HSX0
            obtain ⟨v34, hv34⟩ : ∃ zz, zz = (u7.alloc (.cells #[.slice rb.a rb.n rb.c, .bool rb.d] 47)).alloc (.cells #[.string s, .int .i64 (qa : Int), .int .i64 qn, .int .i64 qe] 58) := ⟨_, rfl⟩
            rw [← hv34] at KX_33 KP_33 K2_33 K3_33 B_33 OC_33 OS_33 SX_33 K8_32 K9_32
            have gv34 := hv34
            first | rw [← hv34] | rw [← gv34]
            clear hv34 gv34
            obtain ⟨cK90, cK91, cK92, cK93⟩ := Bx.cells4 K9_32.out
            obtain ⟨cKX0, cKX1, cKX2, cKX3⟩ := Bx.cells4 KX_33.out
            have lKX := Bx.lt KX_33.out; have fKX0 := Bx.froz KX_33.out 0; have fKX1 := Bx.froz KX_33.out 1; have fKX2 := Bx.froz KX_33.out 2; have fKX3 := Bx.froz KX_33.out 3
            go_upto_region 22 with (fail)
            clear cK90 cK91 cK92 cK93 cKX0 cKX1 cKX2 cKX3 lKX fKX0 fKX1 fKX2 fKX3
            have SG35 := Lib.hid (grown_st4 (World.grownBy.refl v34 (some bx)) (.string s) (.int .i64 (qa : Int)) (.int .i64 qn) (.int .i64 qe))
            have KX_35 := Lib.hid (Bx.st4 KX_33.out (.string s) (.int .i64 (qa : Int)) (.int .i64 qn) (.int .i64 qe))
            have KP_35 := Lib.hid (Bx.other KP_33.out SG35.out (some_ne nbpbx))
            have K2_35 := Lib.hid (Bx.other K2_33.out SG35.out (some_ne nb2bx))
            have K3_35 := Lib.hid (Bx.other K3_33.out SG35.out (some_ne nb3bx))
            have B_35 := Lib.hid (B_33.out.trans (below_grown SG35.out Hnbx.out B_33.out.size))
            have OC_35 := Lib.hid (OwnR.away OC_33.out SG35.out (Away.box KX_33.out (by decide)))
            have OS_35 := Lib.hid (OSels.away OS_33.out SG35.out (Away.box KX_33.out (by decide)) (Away.box KX_33.out (by decide)))
            have SX_35 := Lib.hid (OSel.away SX_33.out SG35.out (Away.box KX_33.out (by decide)))
            have K8_35 := Lib.hid (Bx.other K8_32.out SG35.out (some_ne nb8bx))
            have K9_35 := Lib.hid (Bx.other K9_32.out SG35.out (some_ne nb9bx))
            obtain ⟨v36, hv36⟩ : ∃ zz, zz = st4 v34 bx (.string s) (.int .i64 (qa : Int)) (.int .i64 qn) (.int .i64 qe) := ⟨_, rfl⟩
            rw [← hv36] at KX_35 KP_35 K2_35 K3_35 B_35 OC_35 OS_35 SX_35 K8_35 K9_35
            have gv36 := hv36
            simp only [st4] at gv36
            first | rw [← hv36] | rw [← gv36]
            clear hv36 gv36
            clear SG35 KX_33 KP_33 K2_33 K3_33 B_33 OC_33 OS_33 SX_33 K8_32 K9_32
            obtain ⟨cK80, cK81⟩ := Bx.cells2 K8_35.out
            obtain ⟨cKP0, cKP1, cKP2, cKP3, cKP4, cKP5⟩ := Bx.cells6 KP_35.out
            have BZ := below_alloc v36 (.cells #[.slice rb.a rb.n rb.c, .bool rb.d] 47)
            have S2 := Lib.hid (recs_oneG (k := 2) (enc := encS) (x := rb) (t := 47) (heap_alloc_new v36 (.cells #[.slice rb.a rb.n rb.c, .bool rb.d] 47)))
            have KX_37 := Lib.hid (Bx.below KX_35.out BZ)
            have KP_37 := Lib.hid (Bx.below KP_35.out BZ)
            have K2_37 := Lib.hid (Bx.below K2_35.out BZ)
            have K3_37 := Lib.hid (Bx.below K3_35.out BZ)
            have B_37 := Lib.hid (B_35.out.trans (Below.mono BZ B_35.out.size))
            have OC_37 := Lib.hid (OwnR.below OC_35.out BZ)
            have OS_37 := Lib.hid (OSels.below OS_35.out BZ)
            have SX_37 := Lib.hid (OSel.below SX_35.out BZ)
            have K8_37 := Lib.hid (Bx.below K8_35.out BZ)
            have K9_37 := Lib.hid (Bx.below K9_35.out BZ)
            clear BZ KX_35 KP_35 K2_35 K3_35 B_35 OC_35 OS_35 SX_35 K8_35 K9_35
            have HZ := Lib.hid (B_37.out.size)
            obtain ⟨RL, ho3, ha3⟩ := OS_37.out
            have OO := Lib.hid ho3; have AA := Lib.hid ha3
            clear ho3 ha3
            have HL1 := Lib.hid (show RL.length ≤ 100000 by rw [AA.out.len, HLN.out]; omega)
            go_upto_region 19 with (at_builtin; refine wpList_appG encS_len (by decide) encS_one 23 47 32 _ Try.underlying23 inf46 rfl (by decide) rfl _ _ rfl w.heap.size _ RL rfl OO.out ⟨v36.heap.size, 0, none⟩ 1 1 [rb] rfl S2.out HL1.out (by decide) HZ.out ?_; intro v9 w9 ho9 hg9; obtain ⟨ra9, rc9, rfl, _⟩ := OwnR.recs encS_len ho9.out; have k1 := Bx.other KP_37.out hg9.out (ownR_apart OO.out KP_37.out (by decide)); have l1 := Bx.lt k1; have f1 := Bx.froz k1 4; obtain ⟨y0, y1, y2, y3, y4, y5⟩ := Bx.cells6 k1)
            clear cK80 cK81 cKP0 cKP1 cKP2 cKP3 cKP4 cKP5
            have SX9 := Lib.hid (OSel.away SX_37.out hg9.out (Away.own OO.out (by decide)))
            have KX9 := Lib.hid (Bx.other KX_37.out hg9.out (ownR_apart OO.out KX_37.out (by decide)))
            have KP9 := Lib.hid (Bx.other KP_37.out hg9.out (ownR_apart OO.out KP_37.out (by decide)))
            have K29 := Lib.hid (Bx.other K2_37.out hg9.out (ownR_apart OO.out K2_37.out (by decide)))
            have K39 := Lib.hid (Bx.other K3_37.out hg9.out (ownR_apart OO.out K3_37.out (by decide)))
            have B9 := Lib.hid (Below.grown B_37.out hg9.out HZ.out (fun r hr => OwnR.lt OO.out r hr))
            have OC9 := Lib.hid (OwnR.away OC_37.out hg9.out (Away.own OO.out (by decide)))
            have HO9 := Lib.hid (show OSels w9 w.heap.size (.slice ra9 (RL.length + 1) rc9) (L ++ [sx]) from ⟨RL ++ [rb], by have := ho9.out; rwa [List.length_append, List.length_singleton] at this, (AA.out.mono fun _ _ h => OSel.away h hg9.out (Away.own OO.out (by decide))).snoc SX9.out⟩)
            clear hg9
            have SG38 := Lib.hid (grow_setCell w9 bp 4 (.slice ra9 (RL.length + 1) rc9))
            have KX_38 := Lib.hid (Bx.other KX9.out SG38.out (some_ne nbxbp))
            have KP_38 := Lib.hid ((show Bx (w9.setCell ⟨bp, 4, none⟩ (.slice ra9 (RL.length + 1) rc9)) bp #[.slice ca cn cc, .int .i64 mu, .int .i64 on, .int .i64 va, .slice ra9 (RL.length + 1) rc9, .slice none 0 0] _ from Bx.set KP9.out 4 (.slice ra9 (RL.length + 1) rc9)))
            have K2_38 := Lib.hid (Bx.other K29.out SG38.out (some_ne nb2bp))
            have K3_38 := Lib.hid (Bx.other K39.out SG38.out (some_ne nb3bp))
            have OC_38 := Lib.hid (OwnR.away OC9.out SG38.out (Away.box KP9.out (by decide)))
            have B_38 := Lib.hid (B9.out.trans (below_grown SG38.out Hnbp.out B9.out.size))
            have OS_38 := Lib.hid (OSels.away HO9.out SG38.out (Away.box KP9.out (by decide)) (Away.box KP9.out (by decide)))
            obtain ⟨v39, hv39⟩ : ∃ zz, zz = w9.setCell ⟨bp, 4, none⟩ (.slice ra9 (RL.length + 1) rc9) := ⟨_, rfl⟩
            rw [← hv39] at KX_38 KP_38 K2_38 K3_38 OC_38 B_38 OS_38
            have gv39 := hv39
            first | rw [← hv39] | rw [← gv39]
            clear hv39 gv39
            clear SG38 KX9 KP9 K29 K39 OC9 B9 HO9
            go_wp2_with fail
            go_roundw
            case rel => exact ⟨k + 1, L ++ [sx], qa, qn, qe, _, by go_num, by omega, OS_38.out, OC_38.out, by rw [List.length_append, HLN.out, List.length_singleton]; omega, HYQ.out, KX_38.out, KP_38.out, K2_38.out, K3_38.out, B_38.out, HR1.out⟩
            case measure => simp [intOf]; omega
          · have HD := Lib.hid (show (ye = 0 ∧ R = .ok ⟨caps, mu, on, va, L, []⟩ ya) ∨ (¬ ye = 0 ∧ R = .no ye) by
              rcases hd with ⟨a, b, c, d'⟩ | h
              · have hkm : k = m5 := by
                  by_cases hlt : k < m5
                  · exact absurd ⟨hlt, a⟩ hgo
                  · omega
                subst hkm
                exact .inl ⟨a, by rw [c, d']; rfl⟩
              · exact .inr h)
            clear hd
            have hcases : (¬ k < m5) ∨ (k < m5 ∧ ¬ ye = 0) := by
              by_cases hlt : k < m5
              · exact .inr ⟨hlt, fun he => hgo ⟨hlt, he⟩⟩
              · exact .inl hlt
            clear hgo
            rcases hcases with hlt | ⟨hlt, hne⟩
            all_goals
              first | (have hlt' : ¬ (k : Int) < (m5 : Int) := by omega) | (have hlt' : (k : Int) < (m5 : Int) := by omega)
              try have hneb : (ye == 0) = false := by rw [beq_eq_false_iff_ne]; exact hne
              obtain ⟨cKX0, cKX1, cKX2, cKX3⟩ := Bx.cells4 KX.out
              go_upto_region 23 with (fail)
              clear cKX0 cKX1 cKX2 cKX3
              have HSS := Lib.hid (show ∀ W, Bx W bp #[.slice ca cn cc, .int .i64 mu, .int .i64 on, .int .i64 va, .slice ra L.length rc, .slice none 0 0] 26 → Bx W bx #[.string s, .int .i64 (ya : Int), .int .i64 yn, .int .i64 ye] 58 → (fun W => W.cell? ⟨bp, 0, none⟩ = some (.slice ca cn cc) ∧ W.cell? ⟨bp, 1, none⟩ = some (.int .i64 mu) ∧ W.cell? ⟨bp, 2, none⟩ = some (.int .i64 on) ∧ W.cell? ⟨bp, 3, none⟩ = some (.int .i64 va) ∧ W.cell? ⟨bp, 4, none⟩ = some (.slice ra L.length rc) ∧ W.cell? ⟨bp, 5, none⟩ = some (.slice none 0 0) ∧ W.cell? ⟨bx, 0, none⟩ = some (.string s) ∧ W.cell? ⟨bx, 1, none⟩ = some (.int .i64 (ya : Int)) ∧ W.cell? ⟨bx, 2, none⟩ = some (.int .i64 yn) ∧ W.cell? ⟨bx, 3, none⟩ = some (.int .i64 ye)) W from fun W h0 h1 => ⟨Bx.cell h0 0 rfl, Bx.cell h0 1 rfl, Bx.cell h0 2 rfl, Bx.cell h0 3 rfl, Bx.cell h0 4 rfl, Bx.cell h0 5 rfl, Bx.cell h1 0 rfl, Bx.cell h1 1 rfl, Bx.cell h1 2 rfl, Bx.cell h1 3 rfl⟩)
              refine wp_region_held_drew (S := (fun W => W.cell? ⟨bp, 0, none⟩ = some (.slice ca cn cc) ∧ W.cell? ⟨bp, 1, none⟩ = some (.int .i64 mu) ∧ W.cell? ⟨bp, 2, none⟩ = some (.int .i64 on) ∧ W.cell? ⟨bp, 3, none⟩ = some (.int .i64 va) ∧ W.cell? ⟨bp, 4, none⟩ = some (.slice ra L.length rc) ∧ W.cell? ⟨bp, 5, none⟩ = some (.slice none 0 0) ∧ W.cell? ⟨bx, 0, none⟩ = some (.string s) ∧ W.cell? ⟨bx, 1, none⟩ = some (.int .i64 (ya : Int)) ∧ W.cell? ⟨bx, 2, none⟩ = some (.int .i64 yn) ∧ W.cell? ⟨bx, 3, none⟩ = some (.int .i64 ye))) (by kernel_rfl) (HSS.out _ KP.out KX.out) (fun hHeld => ?_)
              (try simp only [Act.put, List.getElem_toArray, List.getElem_cons_zero, List.getElem_cons_succ, List.setIfInBounds_toArray, List.set_cons_zero, List.set_cons_succ])
              have DR40 : Below wr.heap.size wr wr.drew := (Below.refl _ _).drew
              have KX_41 := Lib.hid (Bx.below KX.out DR40)
              have KP_41 := Lib.hid (Bx.below KP.out DR40)
              have K2_41 := Lib.hid (Bx.below K2.out DR40)
              have K3_41 := Lib.hid (Bx.below K3.out DR40)
              have B_41 := Lib.hid (B.out.trans (Below.mono DR40 B.out.size))
              have OC_41 := Lib.hid (OwnR.below OC.out DR40)
              have OS_41 := Lib.hid (OSels.below HO.out DR40)
              clear DR40 KX KP K2 K3 B OC HO
              obtain ⟨v42, hv42⟩ : ∃ zz, zz = wr.drew := ⟨_, rfl⟩
              rw [← hv42] at KX_41 KP_41 K2_41 K3_41 B_41 OC_41 OS_41
              have gv42 := hv42
              first | rw [← hv42] | rw [← gv42]
              clear hv42 gv42
              clear hHeld
              have hHeld := HSS.out _ KP_41.out KX_41.out
              dsimp only at hHeld
              refine wpAnyH_take (i := 0) (v := ?_) rfl (by kernel_rfl) (by kernel_rfl) (by kernel_rfl) (fun _ _ _ h => h) (Or.inl ⟨by rfl, ?_⟩) (by assumption) ?_
              rotate_left
              · (intro w hSw; (try dsimp only at hSw); go_simp; try with_reducible rfl)
              (try simp only [Act.put, List.getElem_toArray, List.getElem_cons_zero, List.getElem_cons_succ, List.setIfInBounds_toArray, List.set_cons_zero, List.set_cons_succ])
              refine wpAnyH_take (i := 1) (v := ?_) rfl (by kernel_rfl) (by kernel_rfl) (by kernel_rfl) (fun _ _ _ h => h) (Or.inl ⟨by rfl, ?_⟩) (by assumption) ?_
              rotate_left
              · (intro w hSw; (try dsimp only at hSw); go_simp; try with_reducible rfl)
              (try simp only [Act.put, List.getElem_toArray, List.getElem_cons_zero, List.getElem_cons_succ, List.setIfInBounds_toArray, List.set_cons_zero, List.set_cons_succ])
              have SG43 := Lib.hid (grown_st6 (World.grownBy.refl v42 (some b2)) (.slice ca cn cc) (.int .i64 mu) (.int .i64 on) (.int .i64 va) (.slice ra L.length rc) (.slice none 0 0))
              have KX_43 := Lib.hid (Bx.other KX_41.out SG43.out (some_ne nbxb2))
              have KP_43 := Lib.hid (Bx.other KP_41.out SG43.out (some_ne nbpb2))
              have K2_43 := Lib.hid (Bx.st6 K2_41.out (.slice ca cn cc) (.int .i64 mu) (.int .i64 on) (.int .i64 va) (.slice ra L.length rc) (.slice none 0 0))
              have K3_43 := Lib.hid (Bx.other K3_41.out SG43.out (some_ne nb3b2))
              have B_43 := Lib.hid (B_41.out.trans (below_grown SG43.out Hnb2.out B_41.out.size))
              have OC_43 := Lib.hid (OwnR.away OC_41.out SG43.out (Away.box K2_41.out (by decide)))
              have OS_43 := Lib.hid (OSels.away OS_41.out SG43.out (Away.box K2_41.out (by decide)) (Away.box K2_41.out (by decide)))
              obtain ⟨cK20, cK21, cK22, cK23, cK24, cK25⟩ := Bx.cells6 K2_41.out
              have lK2 := Bx.lt K2_41.out; have fK20 := Bx.froz K2_41.out 0; have fK21 := Bx.froz K2_41.out 1; have fK22 := Bx.froz K2_41.out 2; have fK23 := Bx.froz K2_41.out 3; have fK24 := Bx.froz K2_41.out 4; have fK25 := Bx.froz K2_41.out 5
              refine wpAnyH_ready (rs := [2]) (by kernel_rfl) (by simp) ?_
              refine AllReadyH.cons (o := _) rfl (fun K hK => ?_) AllReadyH.nil
              go_simp
              clear cK20 cK21 cK22 cK23 cK24 cK25 lK2 fK20 fK21 fK22 fK23 fK24 fK25
              clear hHeld
              refine hK.out _ _ (HSS.out _ KP_43.out KX_43.out) (fun hHeld => ?_)
              clear hK K
              (try simp only [Act.put, List.getElem_toArray, List.getElem_cons_zero, List.getElem_cons_succ, List.setIfInBounds_toArray, List.set_cons_zero, List.set_cons_succ])
              obtain ⟨v44, hv44⟩ : ∃ zz, zz = st6 v42 b2 (.slice ca cn cc) (.int .i64 mu) (.int .i64 on) (.int .i64 va) (.slice ra L.length rc) (.slice none 0 0) := ⟨_, rfl⟩
              rw [← hv44] at KX_43 KP_43 K2_43 K3_43 B_43 OC_43 OS_43
              have gv44 := hv44
              simp only [st6] at gv44
              first | rw [← hv44] | rw [← gv44]
              clear hv44 gv44
              clear SG43 KX_41 KP_41 K2_41 K3_41 B_41 OC_41 OS_41
              have SG45 := Lib.hid (grown_st4 (World.grownBy.refl v44 (some b3)) (.string s) (.int .i64 (ya : Int)) (.int .i64 yn) (.int .i64 ye))
              have KX_45 := Lib.hid (Bx.other KX_43.out SG45.out (some_ne nbxb3))
              have KP_45 := Lib.hid (Bx.other KP_43.out SG45.out (some_ne nbpb3))
              have K2_45 := Lib.hid (Bx.other K2_43.out SG45.out (some_ne nb2b3))
              have K3_45 := Lib.hid (Bx.st4 K3_43.out (.string s) (.int .i64 (ya : Int)) (.int .i64 yn) (.int .i64 ye))
              have B_45 := Lib.hid (B_43.out.trans (below_grown SG45.out Hnb3.out B_43.out.size))
              have OC_45 := Lib.hid (OwnR.away OC_43.out SG45.out (Away.box K3_43.out (by decide)))
              have OS_45 := Lib.hid (OSels.away OS_43.out SG45.out (Away.box K3_43.out (by decide)) (Away.box K3_43.out (by decide)))
              obtain ⟨cK30, cK31, cK32, cK33⟩ := Bx.cells4 K3_43.out
              have lK3 := Bx.lt K3_43.out; have fK30 := Bx.froz K3_43.out 0; have fK31 := Bx.froz K3_43.out 1; have fK32 := Bx.froz K3_43.out 2; have fK33 := Bx.froz K3_43.out 3
              refine wpAnyH_ready (rs := [3]) (by kernel_rfl) (by simp) ?_
              refine AllReadyH.cons (o := _) rfl (fun K hK => ?_) AllReadyH.nil
              go_simp
              clear cK30 cK31 cK32 cK33 lK3 fK30 fK31 fK32 fK33
              clear hHeld
              refine hK.out _ _ (HSS.out _ KP_45.out KX_45.out) (fun hHeld => ?_)
              clear hK K
              (try simp only [Act.put, List.getElem_toArray, List.getElem_cons_zero, List.getElem_cons_succ, List.setIfInBounds_toArray, List.set_cons_zero, List.set_cons_succ])
              obtain ⟨v46, hv46⟩ : ∃ zz, zz = st4 v44 b3 (.string s) (.int .i64 (ya : Int)) (.int .i64 yn) (.int .i64 ye) := ⟨_, rfl⟩
              rw [← hv46] at KX_45 KP_45 K2_45 K3_45 B_45 OC_45 OS_45
              have gv46 := hv46
              simp only [st4] at gv46
              first | rw [← hv46] | rw [← gv46]
              clear hv46 gv46
              clear SG45 KX_43 KP_43 K2_43 K3_43 B_43 OC_43 OS_43
              refine wpAnyH_done (by kernel_rfl) ?_ _
              clear hHeld HSS
              refine (by assumption : ∀ (a : Act) (w_1 : World), Code.wp Try.prog Code.ret (bodyPost Try.prog Try.f24 (GotTab s w R)) a w_1 → _) _ _ ?_
              refine wp_ret ?_
              refine bodyPost_ret (v := .tuple #[.agg #[.slice ca cn cc, .int .i64 mu, .int .i64 on, .int .i64 va, .slice ra L.length rc, .slice none 0 0], .agg #[.string s, .int .i64 (ya : Int), .int .i64 yn, .int .i64 ye]]) (by first | rw [res_cc Try.results24 _ (by rfl) (Bx.load K2_45.out Try.underlying26 inf26) (by rfl) (Bx.load K3_45.out Try.underlying58 inf58)] | skip) rfl ?_
              exact ⟨⟨ca, cn, cc, ra, L.length, rc, none, 0, 0⟩, ⟨caps, mu, on, va, L, []⟩, ⟨ya, yn, ye⟩, rfl, HY.out, ⟨OC_45.out, OS_45.out, OBlks.nil _ _, HL4.out, hl4, by simp, HOK.out, HMU.out.1, HMU.out.2.1, HMU.out.2.2⟩, rfl, rfl, rfl, rfl, B_45.out, HD.out⟩
end Go.Proofs.Ytddkckppmjcclaa
