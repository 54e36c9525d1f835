/- The reference: move, Push. -/
import Derived.Test.YtfolhgpbplfilaaF4
import Derived.Test.YtfolhgpbplfilaaF3
namespace Go.Proofs.Ytfolhgpbplfilaa
open Go.RowKit
set_option linter.unusedSimpArgs false
set_option linter.unusedVariables false
set_option maxRecDepth 100000 in
set_option maxHeartbeats 4000000 in
theorem refNobody_any (w : World) : Calls Try.prog 48 #[] w fun e w' => e = .returned (wV ⟨-1, 0, 0⟩) ∧ Below w.heap.size w w' := by
  go_enter Try.func48, Try.ntmps48
  go_wp2_with fail
  exact bodyPost_ret (v := wV ⟨-1, 0, 0⟩) (by rw [res1_c Try.results48 _ (by rfl) ((Bx.new w #[.int .i64 (-1), .int .i64 0, .int .i64 0] 48).load Try.underlying48 (by kernel_rfl))]) rfl ⟨rfl, below_alloc w _⟩
def ofL (m : Nat) (fr tt : Int) : List Int := (List.range m).map (fun i : Nat => if fr + (i : Int) < tt then fr + (i : Int) else 0)
def ofK : Nat → Int → Int → Nat
  | 0, _, _ => 0
  | m + 1, fr, tt => ofK m fr tt + (if fr + (m : Int) < tt then 1 else 0)
theorem ofK_le (m : Nat) (fr tt : Int) : ofK m fr tt ≤ m := by
  induction m with
  | zero => exact Nat.le_refl _
  | succ m ih => show ofK m fr tt + _ ≤ m + 1; split <;> omega
theorem ofL_snoc (m : Nat) (fr tt : Int) : ofL (m + 1) fr tt = ofL m fr tt ++ [if fr + (m : Int) < tt then fr + (m : Int) else 0] := by
  unfold ofL; rw [List.range_succ, List.map_append]; rfl
theorem ofL_len (m : Nat) (fr tt : Int) : (ofL m fr tt).length = m := by simp [ofL]
theorem ofL_i64 {m : Nat} {fr tt : Int} (h0 : 0 ≤ fr) (h1 : fr ≤ 2000000) (hm : m ≤ 8) (i : Nat) : I64 (en (ofL m fr tt) i) := by
  by_cases hi : i < m
  · rw [en_get _ i (by rw [ofL_len]; exact hi)]
    simp only [ofL, List.getElem_map, List.getElem_range]
    split
    · exact ⟨by omega, by omega⟩
    · exact i64_0
  · rw [en_of_le _ i (by rw [ofL_len]; omega)]; exact i64_0
abbrev zero4 : Array Value := #[.int .i64 0, .int .i64 0, .slice none 0 0, .int .i64 0]
set_option maxRecDepth 100000 in
set_option maxHeartbeats 4000000 in
theorem refOf_any (m : Nat) (fr tt : Int) (w : World) (hm : m ≤ 3) (h0 : 0 ≤ fr) (h1_ : fr ≤ 2000000) (h2 : 0 ≤ tt) (h3 : tt ≤ 2000000) :
    Calls Try.prog 66 #[.int .i64 m, .int .i64 fr, .int .i64 tt] w fun e w' => ∃ a cap, e = .returned (.agg #[.int .i64 m, .int .i64 0, .slice a m cap, .int .i64 (ofK m fr tt : Nat)]) ∧ Ints w' a m cap (ofL m fr tt) ∧ (∀ y, a = some y → w.heap.size ≤ y.block) ∧ Below w.heap.size w w' := by
  have A1 := Lib.hid ((below_alloc w (.cells zero4 24)).alloc (by simp) (.cells #[.int .i64 m, .int .i64 0, .slice none 0 0, .int .i64 0] 24))
  have K0 := Lib.hid ((Bx.new w zero4 24).below (below_alloc _ (.cells #[.int .i64 m, .int .i64 0, .slice none 0 0, .int .i64 0] 24)))
  have K1 := Lib.hid (Bx.new2 w (.cells zero4 24) #[.int .i64 m, .int .i64 0, .slice none 0 0, .int .i64 0] 24)
  obtain ⟨X, hX⟩ : ∃ X, X = (w.alloc (.cells zero4 24)).alloc (.cells #[.int .i64 m, .int .i64 0, .slice none 0 0, .int .i64 0] 24) := ⟨_, rfl⟩
  rw [← hX] at A1 K0 K1
  obtain ⟨b1, hb1⟩ : ∃ b, b = w.heap.size + 1 := ⟨_, rfl⟩
  obtain ⟨b0, hb0⟩ : ∃ b, b = w.heap.size := ⟨_, rfl⟩
  have HBW := Lib.hid (show w.heap.size ≤ b0 ∧ w.heap.size ≤ b1 by omega)
  have HSX := Lib.hid (show b0 < X.heap.size ∧ b1 < X.heap.size by rw [hX, hb0, hb1, World.size_alloc, World.size_alloc]; omega)
  have n01 : b0 ≠ b1 := by omega
  have n10 : b1 ≠ b0 := by omega
  rw [← hb1] at K1
  rw [← hb0] at K0
  have HX := Lib.hid hX; have H0 := Lib.hid hb0; have H1 := Lib.hid hb1
  clear hX hb0 hb1
  go_enter Try.func66, Try.ntmps66
  go_upto_region 2 with (fail)
  rw [← HX.out, ← H1.out]
  try rw [← H0.out]
  go_wp2_with fail
  go_loopw [8] (fun i wr => ∃ (k : Nat) (a : Option Addr) (cap : Nat), k ≤ m ∧ i = .int .i64 k ∧ Bx wr b1 #[.int .i64 m, .int .i64 0, .slice a k cap, .int .i64 (ofK k fr tt : Nat)] 24 ∧ Own wr X.heap.size (.slice a k cap) (ofL k fr tt) ∧ Bx wr b0 zero4 24 ∧ Below w.heap.size w wr ∧ X.heap.size ≤ wr.heap.size) (fun i _ => m - (intOf i).toNat)
  case atStart => exact ⟨0, none, 0, Nat.zero_le _, rfl, K1.out, ⟨rfl, .inl ⟨rfl, rfl⟩⟩, K0.out, A1.out, Nat.le_refl _⟩
  case round =>
    obtain ⟨k, a, cap, hk, rfl, hbx, hown, hb0, hbw, hsz⟩ := hrel
    have KR := Lib.hid hbx; have HO := Lib.hid hown; have KZ := Lib.hid hb0; have AR := Lib.hid hbw; have HSZ := Lib.hid hsz
    clear hbx hown hb0 hbw hsz
    have HKL := Lib.hid (ofK_le k fr tt)
    by_cases hlt : k < m
    · have hlt' : (k : Int) < (m : Int) := by omega
      have HLN := Lib.hid (show (ofL k fr tt).length ≤ 1000000 by rw [ofL_len]; omega)
      obtain ⟨ck, hck⟩ : ∃ c, c = ofK k fr tt := ⟨_, rfl⟩
      rw [← hck] at KR HKL
      have hckm : ck ≤ 3 := by have := HKL.out; omega
      have GO : ∀ (x : Int) (ck2 : Nat), ofL (k + 1) fr tt = ofL k fr tt ++ [x] → ofK (k + 1) fr tt = ck2 → ∀ (v' : Value) (w2 w' : World), Hid (Bx w2 b1 #[.int .i64 m, .int .i64 0, .slice a k cap, .int .i64 ck2] 24) → Hid (Bx w2 b0 zero4 24) → Hid (Below w.heap.size w w2) → Hid (X.heap.size ≤ w2.heap.size) → Hid (Own w' X.heap.size v' (ofL k fr tt ++ [x])) → Hid (Below X.heap.size w2 w') → ∃ a' cap', v' = .slice a' (k + 1) cap' ∧ Hid (Own w' X.heap.size (.slice a' (k + 1) cap') (ofL (k + 1) fr tt)) ∧ Hid (Bx w' b1 #[.int .i64 m, .int .i64 0, .slice a k cap, .int .i64 ck2] 24) ∧ Hid (Bx w' b0 zero4 24) ∧ Hid (Below w.heap.size w w') ∧ Hid (X.heap.size ≤ w'.heap.size) := by
        intro x ck2 hL _ v' w2 w' h1 h2' h3' h4 ho hb
        have ho1 := ho.out
        rw [← hL] at ho1
        obtain ⟨a', cap', hv, _⟩ := Own.ints ho1 (ofL_i64 h0 h1_ (by omega))
        rw [ofL_len] at hv
        subst hv
        exact ⟨a', cap', rfl, ho1, (hb.out.block b1 HSX.out.2).trans h1.out, (hb.out.block b0 HSX.out.1).trans h2'.out, h3'.out.trans (Below.mono hb.out A1.out.size), Nat.le_trans h4.out hb.out.size⟩
      have HGO := Lib.hid GO
      clear GO
      by_cases hf : fr + (k : Int) < tt
      · have HL1 := Lib.hid (show ofL (k + 1) fr tt = ofL k fr tt ++ [fr + (k : Int)] by rw [ofL_snoc, if_pos hf])
        have HK1 := Lib.hid (show ofK (k + 1) fr tt = ck + 1 by rw [hck]; show ofK k fr tt + _ = _; rw [if_pos hf])
        clear hck
        obtain ⟨t0, t1, t2, t3⟩ := Bx.cells4 KR.out
        have l1 := Bx.lt KR.out; have f3 := Bx.froz KR.out 3
        go_upto_region 9 with (fail)
        clear t0 t1 t2 t3 l1 f3
        have KS := Lib.hid (show Bx (wr.setCell ⟨b1, 3, none⟩ (.int .i64 ((ck : Int) + 1))) b1 #[.int .i64 m, .int .i64 0, .slice a k cap, .int .i64 (ck + 1 : Nat)] 24 from Bx.set KR.out 3 _)
        have HOS := Lib.hid (HO.out.setOther HSX.out.2 3 (.int .i64 ((ck : Int) + 1)))
        have KZS := Lib.hid (show Bx (wr.setCell ⟨b1, 3, none⟩ (.int .i64 ((ck : Int) + 1))) b0 zero4 24 from (Below.heap_setCell _ _ _ _ (by exact n01)).trans KZ.out)
        have ARS := Lib.hid (AR.out.setCell (p := ⟨b1, 3, none⟩) HBW.out.2 (.int .i64 ((ck : Int) + 1)))
        have HSS := Lib.hid (show X.heap.size ≤ (wr.setCell ⟨b1, 3, none⟩ (.int .i64 ((ck : Int) + 1))).heap.size by have := HSZ.out; simpa using this)
        obtain ⟨w2, hw2⟩ : ∃ x, x = wr.setCell ⟨b1, 3, none⟩ (.int .i64 ((ck : Int) + 1)) := ⟨_, rfl⟩
        rw [← hw2] at KS HOS KZS ARS HSS ⊢
        clear hw2
        obtain ⟨t0, t1, t2, t3⟩ := Bx.cells4 KS.out
        clear t0 t1 t3
        go_wp2_with (at_builtin; refine app1 rfl _ _ rfl X.heap.size _ (ofL k fr tt) rfl HOS.out (fr + (k : Int)) rfl HLN.out w2 (Below.mono (Below.refl _ _) HSS.out) HSS.out ?_; intro v' w' hown' hb'; obtain ⟨a', cap', rfl, HO', KR', KZ', AR', HS'⟩ := HGO.out ((fr + (k : Int))) (ck + 1) HL1.out HK1.out v' w2 w' KS KZS ARS HSS hown' hb'; clear hown' hb' HGO t2; have t4 := Bx.cell KR'.out 2 rfl; have l1 := Bx.lt KR'.out; have f4 := Bx.froz KR'.out 2)
        go_roundw
        case rel => exact ⟨k + 1, a', cap', by omega, by go_num, by rw [HK1.out]; exact Bx.set KR'.out 2 _, HO'.out.setOther HSX.out.2 2 _, (show Bx _ _ _ _ from (Below.heap_setCell _ _ _ _ (show b0 ≠ b1 by have := H0.out; have := H1.out; omega)).trans KZ'.out), AR'.out.setCell HBW.out.2 _, by have := HS'.out; simpa using this⟩
        case measure => simp [intOf]; omega
      · have HL1 := Lib.hid (show ofL (k + 1) fr tt = ofL k fr tt ++ [0] by rw [ofL_snoc, if_neg hf])
        have HK1 := Lib.hid (show ofK (k + 1) fr tt = ck by rw [hck]; show ofK k fr tt + _ = _; rw [if_neg hf]; rfl)
        clear hck
        obtain ⟨t0, t1, t2, t3⟩ := Bx.cells4 KR.out
        clear t0 t1 t3
        go_wp2_with (at_builtin; refine app1 rfl _ _ rfl X.heap.size _ (ofL k fr tt) rfl HO.out 0 rfl HLN.out wr (Below.mono (Below.refl _ _) HSZ.out) HSZ.out ?_; intro v' w' hown' hb'; obtain ⟨a', cap', rfl, HO', KR', KZ', AR', HS'⟩ := HGO.out (0) (ck) HL1.out HK1.out v' wr w' KR KZ AR HSZ hown' hb'; clear hown' hb' HGO t2; have t4 := Bx.cell KR'.out 2 rfl; have l1 := Bx.lt KR'.out; have f4 := Bx.froz KR'.out 2)
        go_roundw
        case rel => exact ⟨k + 1, a', cap', by omega, by go_num, by rw [HK1.out]; exact Bx.set KR'.out 2 _, HO'.out.setOther HSX.out.2 2 _, (show Bx _ _ _ _ from (Below.heap_setCell _ _ _ _ (show b0 ≠ b1 by have := H0.out; have := H1.out; omega)).trans KZ'.out), AR'.out.setCell HBW.out.2 _, by have := HS'.out; simpa using this⟩
        case measure => simp [intOf]; omega
    · obtain rfl : k = m := by omega
      obtain ⟨a', cap', hv, hi⟩ := Own.ints HO.out (ofL_i64 h0 h1_ (by omega))
      rw [ofL_len] at hv hi
      cases hv
      have HI := Lib.hid hi
      clear hi
      obtain ⟨ck, hck⟩ : ∃ c, c = ofK k fr tt := ⟨_, rfl⟩
      rw [← hck] at KR
      have HCK := Lib.hid hck
      have HFR := Lib.hid (show ∀ y, a = some y → X.heap.size ≤ y.block from fun y hy => by
        rcases HO.out.2 with ⟨hv, _⟩ | ⟨g, cp, cur, hv, hg, _⟩
        · cases hv; cases hy
        · rw [ofL_len] at hv; cases hv; cases hy; exact hg)
      clear hck
      obtain ⟨t0, t1, t2, t3⟩ := Bx.cells4 KR.out
      obtain ⟨u0, u1, u2, u3⟩ := Bx.cells4 KZ.out
      have l0 := Bx.lt KZ.out; have f0 := Bx.froz KZ.out 0; have f1 := Bx.froz KZ.out 1; have f2 := Bx.froz KZ.out 2; have f3 := Bx.froz KZ.out 3
      have E1 := Lib.hid (show Bx ((((wr.setCell ⟨b0, 0, none⟩ (.int .i64 k)).setCell ⟨b0, 1, none⟩ (.int .i64 0)).setCell ⟨b0, 2, none⟩ (.slice a k cap)).setCell ⟨b0, 3, none⟩ (.int .i64 ck)) b0 #[.int .i64 k, .int .i64 0, .slice a k cap, .int .i64 ck] 24 from Bx.set (Bx.set (Bx.set (Bx.set KZ.out 0 _) 1 _) 2 _) 3 _)
      have E3 := Lib.hid (show Below w.heap.size w ((((wr.setCell ⟨b0, 0, none⟩ (.int .i64 k)).setCell ⟨b0, 1, none⟩ (.int .i64 0)).setCell ⟨b0, 2, none⟩ (.slice a k cap)).setCell ⟨b0, 3, none⟩ (.int .i64 ck)) from (((AR.out.setCell (p := ⟨b0, 0, none⟩) HBW.out.1 _).setCell (p := ⟨b0, 1, none⟩) HBW.out.1 _).setCell (p := ⟨b0, 2, none⟩) HBW.out.1 _).setCell (p := ⟨b0, 3, none⟩) HBW.out.1 _)
      have EI := Lib.hid (show Ints ((((wr.setCell ⟨b0, 0, none⟩ (.int .i64 k)).setCell ⟨b0, 1, none⟩ (.int .i64 0)).setCell ⟨b0, 2, none⟩ (.slice a k cap)).setCell ⟨b0, 3, none⟩ (.int .i64 ck)) a k cap (ofL k fr tt) from HI.out.other (B := b0) (fun y hy _ => by have := HFR.out y hy; have := HSX.out.1; omega) (grow_set (grow_set (grow_set (grow_setCell wr b0 0 _) 1 _) 2 _) 3 _))
      go_wp2_with fail
      exact bodyPost_ret (v := .agg #[.int .i64 k, .int .i64 0, .slice a k cap, .int .i64 ck]) (by rw [res1_c Try.results66 _ (by rfl) (E1.out.load Try.underlying24 infR)]) rfl ⟨a, cap, by rw [← HCK.out], EI.out, fun y hy => Nat.le_trans A1.out.size (HFR.out y hy), E3.out⟩
end Go.Proofs.Ytfolhgpbplfilaa
namespace Go.Proofs.Ytfolhgpbplfilaa
open Go.RowKit
def GotRK (w : World) (q : CAt) (c : Chn) (e : Ending) (w' : World) : Prop := ∃ q', e = .returned (chV c q') ∧ Cha w' c q' ∧ Keeps w q q' ∧ Below w.heap.size w w'
def mvC (c : Chn) (m : Nat) (ds dg : Int) : Chn := { c with rc := (m : Int), rf := 0, zs := ofL m (c.got + dg) (c.sent + ds), rk := (ofK m (c.got + dg) (c.sent + ds) : Nat), sent := c.sent + ds, got := c.got + dg }
set_option maxRecDepth 100000 in
set_option maxHeartbeats 4000000 in
theorem refMove_any (c : Chn) (q : CAt) (m : Nat) (ds dg : Int) (w : World) (h : Cha w c q) (hm3 : m ≤ 3) (hm : (m : Int) = max c.cap 0) (hcap : -1 ≤ c.cap) (hs0 : 0 ≤ c.sent) (hs1 : c.sent ≤ 1048576) (hg0 : 0 ≤ c.got) (hg1 : c.got ≤ 1048576) (hds : 0 ≤ ds) (hds1 : ds ≤ 1) (hdg : 0 ≤ dg) (hdg1 : dg ≤ 1) :
    Calls Try.prog 49 #[chV c q, .int .i64 ds, .int .i64 dg] w (GotRK w q (mvC c m ds dg)) := by
  have AX := Lib.hid ((below_alloc w (.cells (chC c q) 27)).alloc (by simp) (.cells zero10 27))
  have K0 := Lib.hid ((Bx.new w (chC c q) 27).below (below_alloc _ (.cells zero10 27)))
  have K1 := Lib.hid (Bx.new2 w (.cells (chC c q) 27) zero10 27)
  have HX0 := Lib.hid (h.below AX.out)
  obtain ⟨s2, hs2⟩ : ∃ s, s = c.sent + ds := ⟨_, rfl⟩
  obtain ⟨g2, hg2⟩ : ∃ s, s = c.got + dg := ⟨_, rfl⟩
  have HMV := Lib.hid (show mvC c m ds dg = { c with rc := (m : Int), rf := 0, zs := ofL m g2 s2, rk := (ofK m g2 s2 : Nat), sent := s2, got := g2 } by unfold mvC; rw [hs2, hg2])
  have HI6 := Lib.hid (show I64 s2 ∧ I64 g2 from ⟨⟨by omega, by omega⟩, ⟨by omega, by omega⟩⟩)
  have HOF := Lib.hid (fun W => refOf_any m g2 s2 W hm3 (by omega) (by omega) (by omega) (by omega))
  have hcs : (c.cap = -1 ∧ m = 0) ∨ c.cap = (m : Int) := by omega
  have hw1 : wrap64 (c.sent + ds) = s2 := by unfold wrap64; omega
  have hw2 : wrap64 (c.got + dg) = g2 := by unfold wrap64; omega
  have HOA := Lib.hid (fun W (hc : 0 ≤ c.cap) => by
    have := HOF.out W
    rw [show (m : Int) = c.cap by omega] at this
    exact this)
  have HOB := Lib.hid (fun W (hc : c.cap < 0) => by
    have := HOF.out W
    rw [show (m : Int) = 0 by omega] at this
    exact this)
  have HMP := Lib.hid (show (c.cap < 0 → (m : Int) = 0) ∧ (0 ≤ c.cap → (m : Int) = c.cap) by omega)
  have HS2 := Lib.hid hs2; have HG2 := Lib.hid hg2
  clear hs2 hg2 hm
  have HCS := Lib.hid hcs
  clear hcs
  go_enter Try.func49, Try.ntmps49
  go_upto_region 1 with (fail)
  obtain ⟨X, hX⟩ : ∃ X, X = (w.alloc (.cells (chC c q) 27)).alloc (.cells zero10 27) := ⟨_, rfl⟩
  rw [← hX] at AX K0 K1 HX0 ⊢
  obtain ⟨b1, h1⟩ : ∃ b, b = w.heap.size + 1 := ⟨_, rfl⟩
  obtain ⟨b0, h0⟩ : ∃ b, b = w.heap.size := ⟨_, rfl⟩
  have HBW := Lib.hid (show w.heap.size ≤ b0 ∧ w.heap.size ≤ b1 by omega)
  rw [← h1] at K1 ⊢
  rw [← h0] at K0 ⊢
  have n01 : b0 ≠ b1 := by omega
  have n10 : b1 ≠ b0 := by omega
  have AP0 := Lib.hid (show Ap q b0 by rw [h0]; exact h.ap (Nat.le_refl _))
  have AP1 := Lib.hid (show Ap q b1 by rw [h1]; exact h.ap (Nat.le_succ _))
  clear hX h1 h0 h
  obtain ⟨t0, t1, t2, t3, t4, t5, t6, t7, t8, t9⟩ := K0.out.cells10
  have l0 := Bx.lt K0.out; have f6 := Bx.froz K0.out 6
  go_upto_region 2 with (fail)
  clear t0 t1 t2 t3 t4 t5 t6 t7 t8 t9 l0 f6
  have Aa := Lib.hid (AX.out.setCell (p := ⟨b0, 6, none⟩) HBW.out.1 (.int .i64 (c.sent + ds)))
  have KKa := Lib.hid (Bx.set K0.out 6 (.int .i64 (c.sent + ds)))
  have Ga := Lib.hid (grow_setCell X b0 6 (.int .i64 (c.sent + ds)))
  have La := Lib.hid (K1.out.other Ga.out (fun e => n10 (by cases e; rfl)))
  have HHa := Lib.hid (HX0.out.other AP0.out Ga.out)
  obtain ⟨Wa, hWa⟩ : ∃ x, x = X.setCell ⟨b0, 6, none⟩ (.int .i64 (c.sent + ds)) := ⟨_, rfl⟩
  rw [← hWa] at Aa KKa La HHa ⊢
  clear hWa Ga
  obtain ⟨t0, t1, t2, t3, t4, t5, t6, t7, t8, t9⟩ := Bx.cells10 KKa.out
  have l0 := Bx.lt KKa.out; have f6 := Bx.froz KKa.out 7
  go_upto_region 3 with (fail)
  clear t0 t1 t2 t3 t4 t5 t6 t7 t8 t9 l0 f6
  have Ab := Lib.hid (Aa.out.setCell (p := ⟨b0, 7, none⟩) HBW.out.1 (.int .i64 (c.got + dg)))
  have KKb := Lib.hid (Bx.set KKa.out 7 (.int .i64 (c.got + dg)))
  have Gb := Lib.hid (grow_setCell Wa b0 7 (.int .i64 (c.got + dg)))
  have Lb := Lib.hid (La.out.other Gb.out (fun e => n10 (by cases e; rfl)))
  have HHb := Lib.hid (HHa.out.other AP0.out Gb.out)
  obtain ⟨Wb, hWb⟩ : ∃ x, x = Wa.setCell ⟨b0, 7, none⟩ (.int .i64 (c.got + dg)) := ⟨_, rfl⟩
  rw [← hWb] at Ab KKb Lb HHb ⊢
  clear hWb Gb
  obtain ⟨t0, t1, t2, t3, t4, t5, t6, t7, t8, t9⟩ := Bx.cells10 KKb.out
  rw [← HG2.out] at t7
  rw [← HS2.out] at t6
  rcases Int.lt_or_le c.cap 0 with hneg | hneg
  · go_wp2_with fail
    refine (HOB.out _ hneg).mono ?_
    rintro e wc ⟨oa, oc, rfl, hi, hfr, hb⟩
    have RM := Lib.hid (show (m : Int) = 0 from HMP.out.1 hneg)
    have IC := Lib.hid hi
    have FR := Lib.hid (fun B (hB : B < Wb.heap.size) => show ∀ y, oa = some y → 0 < m → y.block ≠ B from fun y hy _ => by have := hfr y hy; omega)
    have HLB := Lib.hid (show b0 < Wb.heap.size ∧ b1 < Wb.heap.size from ⟨Bx.lt KKb.out, Lb.out.lt⟩)
    have Ac := Lib.hid (Ab.out.trans (Below.mono hb Ab.out.size)); have KKc := Lib.hid (Bx.below KKb.out hb); have Lc := Lib.hid (Lb.out.below hb); have HHc := Lib.hid (HHb.out.below hb)
    clear hb hi hfr t0 t1 t2 t3 t4 t5 t6 t7 t8 t9
    obtain ⟨ok, hok⟩ : ∃ k, k = ofK m g2 s2 := ⟨_, rfl⟩
    obtain ⟨ol, hol⟩ : ∃ l, l = ofL m g2 s2 := ⟨_, rfl⟩
    rw [← hok, ← hol] at HMV
    rw [← hol] at IC
    rw [← hok]
    have HOKM := Lib.hid (show ok ≤ m by rw [hok]; exact ofK_le m g2 s2)
    clear hok hol
    obtain ⟨t0, t1, t2, t3, t4, t5, t6, t7, t8, t9⟩ := Bx.cells10 KKc.out
    have l0 := Bx.lt KKc.out; have f2 := Bx.froz KKc.out 2; have f3 := Bx.froz KKc.out 3; have f4 := Bx.froz KKc.out 4; have f5 := Bx.froz KKc.out 5
    go_upto_region 4 with (fail)
    clear t0 t1 t2 t3 t4 t5 t6 t7 t8 t9 l0 f2 f3 f4 f5
    have Ad := Lib.hid ((((Ac.out.setCell (p := ⟨b0, 2, none⟩) HBW.out.1 (.int .i64 0)).setCell (p := ⟨b0, 3, none⟩) HBW.out.1 (.int .i64 0)).setCell (p := ⟨b0, 4, none⟩) HBW.out.1 (.slice oa m oc)).setCell (p := ⟨b0, 5, none⟩) HBW.out.1 (.int .i64 ok))
    have KKd := Lib.hid (Bx.set (Bx.set (Bx.set (Bx.set KKc.out 2 (.int .i64 0)) 3 (.int .i64 0)) 4 (.slice oa m oc)) 5 (.int .i64 ok))
    have Gd := Lib.hid (grow_set (grow_set (grow_set (grow_setCell wc b0 2 (.int .i64 0)) 3 (.int .i64 0)) 4 (.slice oa m oc)) 5 (.int .i64 ok))
    have Ld := Lib.hid (Lc.out.other Gd.out (fun e => n10 (by cases e; rfl)))
    have HHd := Lib.hid (HHc.out.other AP0.out Gd.out)
    have ID := Lib.hid (IC.out.other (FR.out b0 HLB.out.1) Gd.out)
    obtain ⟨wd, hwd⟩ : ∃ x, x = (((wc.setCell ⟨b0, 2, none⟩ (.int .i64 0)).setCell ⟨b0, 3, none⟩ (.int .i64 0)).setCell ⟨b0, 4, none⟩ (.slice oa m oc)).setCell ⟨b0, 5, none⟩ (.int .i64 ok) := ⟨_, rfl⟩
    rw [← hwd] at Ad KKd Ld HHd ID ⊢
    clear hwd Gd
    rw [← HS2.out, ← HG2.out] at KKd
    obtain ⟨t0, t1, t2, t3, t4, t5, t6, t7, t8, t9⟩ := Bx.cells10 KKd.out
    obtain ⟨u0, u1, u2, u3, u4, u5, u6, u7, u8, u9⟩ := Ld.out.cells10
    have l1 := Ld.out.lt; have f0 := Ld.out.froz 0; have f1 := Ld.out.froz 1; have f2 := Ld.out.froz 2; have f3 := Ld.out.froz 3; have f4 := Ld.out.froz 4; have f5 := Ld.out.froz 5; have f6 := Ld.out.froz 6; have f7 := Ld.out.froz 7; have f8 := Ld.out.froz 8; have f9 := Ld.out.froz 9
    have E1 := Lib.hid (Ld.out.st10 (.int .i64 c.cap) (.bool c.cl) (.int .i64 0) (.int .i64 0) (.slice oa m oc) (.int .i64 ok) (.int .i64 s2) (.int .i64 g2) (.slice q.sa q.sn q.sc) (.slice q.ra q.rn q.rq))
    have E3 := Lib.hid (below_st10 Ad.out HBW.out.2 (.int .i64 c.cap) (.bool c.cl) (.int .i64 0) (.int .i64 0) (.slice oa m oc) (.int .i64 ok) (.int .i64 s2) (.int .i64 g2) (.slice q.sa q.sn q.sc) (.slice q.ra q.rn q.rq))
    have GE := Lib.hid (grown_st10 (World.grownBy.refl wd (some b1)) (.int .i64 c.cap) (.bool c.cl) (.int .i64 0) (.int .i64 0) (.slice oa m oc) (.int .i64 ok) (.int .i64 s2) (.int .i64 g2) (.slice q.sa q.sn q.sc) (.slice q.ra q.rn q.rq))
    have CE := Lib.hid (HHd.out.other AP1.out GE.out)
    have IE := Lib.hid (ID.out.other (FR.out b1 HLB.out.2) GE.out)
    go_wp2_with fail
    exact bodyPost_ret (v := .agg #[.int .i64 c.cap, .bool c.cl, .int .i64 0, .int .i64 0, .slice oa m oc, .int .i64 ok, .int .i64 s2, .int .i64 g2, .slice q.sa q.sn q.sc, .slice q.ra q.rn q.rq]) (by rw [res1_c Try.results49 _ (by rfl) (E1.out.load Try.underlying27 infC)]) rfl ⟨⟨oa, m, oc, q.sa, q.sn, q.sc, q.ra, q.rn, q.rq⟩, by rw [HMV.out]; simp only [chV, chC]; rw [RM.out], by rw [HMV.out]; exact ⟨CE.out.cap, by show I64 (m : Int); exact ⟨by omega, by omega⟩, i64_0, by show I64 (ok : Int); have := HOKM.out; exact ⟨by omega, by omega⟩, HI6.out.1, HI6.out.2, IE.out, CE.out.sends, CE.out.recvs⟩, fun B hB hA => ⟨FR.out B (by have := Ab.out.size; omega), hA.asn, hA.ar⟩, E3.out⟩
  · go_wp2_with fail
    refine (HOA.out _ hneg).mono ?_
    rintro e wc ⟨oa, oc, rfl, hi, hfr, hb⟩
    have RM := Lib.hid (show (m : Int) = c.cap from HMP.out.2 hneg)
    have IC := Lib.hid hi
    have FR := Lib.hid (fun B (hB : B < Wb.heap.size) => show ∀ y, oa = some y → 0 < m → y.block ≠ B from fun y hy _ => by have := hfr y hy; omega)
    have HLB := Lib.hid (show b0 < Wb.heap.size ∧ b1 < Wb.heap.size from ⟨Bx.lt KKb.out, Lb.out.lt⟩)
    have Ac := Lib.hid (Ab.out.trans (Below.mono hb Ab.out.size)); have KKc := Lib.hid (Bx.below KKb.out hb); have Lc := Lib.hid (Lb.out.below hb); have HHc := Lib.hid (HHb.out.below hb)
    clear hb hi hfr t0 t1 t2 t3 t4 t5 t6 t7 t8 t9
    obtain ⟨ok, hok⟩ : ∃ k, k = ofK m g2 s2 := ⟨_, rfl⟩
    obtain ⟨ol, hol⟩ : ∃ l, l = ofL m g2 s2 := ⟨_, rfl⟩
    rw [← hok, ← hol] at HMV
    rw [← hol] at IC
    rw [← hok]
    have HOKM := Lib.hid (show ok ≤ m by rw [hok]; exact ofK_le m g2 s2)
    clear hok hol
    obtain ⟨t0, t1, t2, t3, t4, t5, t6, t7, t8, t9⟩ := Bx.cells10 KKc.out
    have l0 := Bx.lt KKc.out; have f2 := Bx.froz KKc.out 2; have f3 := Bx.froz KKc.out 3; have f4 := Bx.froz KKc.out 4; have f5 := Bx.froz KKc.out 5
    go_upto_region 4 with (fail)
    clear t0 t1 t2 t3 t4 t5 t6 t7 t8 t9 l0 f2 f3 f4 f5
    have Ad := Lib.hid ((((Ac.out.setCell (p := ⟨b0, 2, none⟩) HBW.out.1 (.int .i64 c.cap)).setCell (p := ⟨b0, 3, none⟩) HBW.out.1 (.int .i64 0)).setCell (p := ⟨b0, 4, none⟩) HBW.out.1 (.slice oa m oc)).setCell (p := ⟨b0, 5, none⟩) HBW.out.1 (.int .i64 ok))
    have KKd := Lib.hid (Bx.set (Bx.set (Bx.set (Bx.set KKc.out 2 (.int .i64 c.cap)) 3 (.int .i64 0)) 4 (.slice oa m oc)) 5 (.int .i64 ok))
    have Gd := Lib.hid (grow_set (grow_set (grow_set (grow_setCell wc b0 2 (.int .i64 c.cap)) 3 (.int .i64 0)) 4 (.slice oa m oc)) 5 (.int .i64 ok))
    have Ld := Lib.hid (Lc.out.other Gd.out (fun e => n10 (by cases e; rfl)))
    have HHd := Lib.hid (HHc.out.other AP0.out Gd.out)
    have ID := Lib.hid (IC.out.other (FR.out b0 HLB.out.1) Gd.out)
    obtain ⟨wd, hwd⟩ : ∃ x, x = (((wc.setCell ⟨b0, 2, none⟩ (.int .i64 c.cap)).setCell ⟨b0, 3, none⟩ (.int .i64 0)).setCell ⟨b0, 4, none⟩ (.slice oa m oc)).setCell ⟨b0, 5, none⟩ (.int .i64 ok) := ⟨_, rfl⟩
    rw [← hwd] at Ad KKd Ld HHd ID ⊢
    clear hwd Gd
    rw [← HS2.out, ← HG2.out] at KKd
    obtain ⟨t0, t1, t2, t3, t4, t5, t6, t7, t8, t9⟩ := Bx.cells10 KKd.out
    obtain ⟨u0, u1, u2, u3, u4, u5, u6, u7, u8, u9⟩ := Ld.out.cells10
    have l1 := Ld.out.lt; have f0 := Ld.out.froz 0; have f1 := Ld.out.froz 1; have f2 := Ld.out.froz 2; have f3 := Ld.out.froz 3; have f4 := Ld.out.froz 4; have f5 := Ld.out.froz 5; have f6 := Ld.out.froz 6; have f7 := Ld.out.froz 7; have f8 := Ld.out.froz 8; have f9 := Ld.out.froz 9
    have E1 := Lib.hid (Ld.out.st10 (.int .i64 c.cap) (.bool c.cl) (.int .i64 c.cap) (.int .i64 0) (.slice oa m oc) (.int .i64 ok) (.int .i64 s2) (.int .i64 g2) (.slice q.sa q.sn q.sc) (.slice q.ra q.rn q.rq))
    have E3 := Lib.hid (below_st10 Ad.out HBW.out.2 (.int .i64 c.cap) (.bool c.cl) (.int .i64 c.cap) (.int .i64 0) (.slice oa m oc) (.int .i64 ok) (.int .i64 s2) (.int .i64 g2) (.slice q.sa q.sn q.sc) (.slice q.ra q.rn q.rq))
    have GE := Lib.hid (grown_st10 (World.grownBy.refl wd (some b1)) (.int .i64 c.cap) (.bool c.cl) (.int .i64 c.cap) (.int .i64 0) (.slice oa m oc) (.int .i64 ok) (.int .i64 s2) (.int .i64 g2) (.slice q.sa q.sn q.sc) (.slice q.ra q.rn q.rq))
    have CE := Lib.hid (HHd.out.other AP1.out GE.out)
    have IE := Lib.hid (ID.out.other (FR.out b1 HLB.out.2) GE.out)
    go_wp2_with fail
    exact bodyPost_ret (v := .agg #[.int .i64 c.cap, .bool c.cl, .int .i64 c.cap, .int .i64 0, .slice oa m oc, .int .i64 ok, .int .i64 s2, .int .i64 g2, .slice q.sa q.sn q.sc, .slice q.ra q.rn q.rq]) (by rw [res1_c Try.results49 _ (by rfl) (E1.out.load Try.underlying27 infC)]) rfl ⟨⟨oa, m, oc, q.sa, q.sn, q.sc, q.ra, q.rn, q.rq⟩, by rw [HMV.out]; simp only [chV, chC]; rw [RM.out], by rw [HMV.out]; exact ⟨CE.out.cap, by show I64 (m : Int); exact ⟨by omega, by omega⟩, i64_0, by show I64 (ok : Int); have := HOKM.out; exact ⟨by omega, by omega⟩, HI6.out.1, HI6.out.2, IE.out, CE.out.sends, CE.out.recvs⟩, fun B hB hA => ⟨FR.out B (by have := Ab.out.size; omega), hA.asn, hA.ar⟩, E3.out⟩
set_option maxRecDepth 100000 in
set_option maxHeartbeats 4000000 in
theorem refLeave_K (c : Chn) (q : CAt) (g : Int) (w : World) (h : Cha w c q) (hs64 : q.sn ≤ 1000) (hr64 : q.rn ≤ 1000) (hgI : I64 g) : Calls Try.prog 21 #[chV c q, .int .i64 g] w (GotRK w q (leaveC c g)) := by
  have AX := Lib.hid ((below_alloc w (.cells (chC c q) 27)).alloc (by simp) (.cells zero10 27))
  have K0 := Lib.hid ((Bx.new w (chC c q) 27).below (below_alloc _ (.cells zero10 27)))
  have K1 := Lib.hid (Bx.new2 w (.cells (chC c q) 27) zero10 27)
  have HX0 := Lib.hid (h.below AX.out)
  have HD1 := Lib.hid (fun W (H : Cha W c q) => refDrop_own q.sa q.sn q.sc c.sends g W H.sends hs64 hgI)
  have HD2 := Lib.hid (fun W (H : Wts W q.ra q.rn q.rq c.recvs) => refDrop_own q.ra q.rn q.rq c.recvs g W H hr64 hgI)
  unfold GotO at HD1 HD2
  have HOK1 := Lib.hid h.sends.ok; have HOK2 := Lib.hid h.recvs.ok
  go_enter Try.func21, Try.ntmps21
  go_upto_region 1 with (fail)
  obtain ⟨X, hX⟩ : ∃ X, X = (w.alloc (.cells (chC c q) 27)).alloc (.cells zero10 27) := ⟨_, rfl⟩
  rw [← hX] at AX K0 K1 HX0 ⊢
  obtain ⟨b1, h1⟩ : ∃ b, b = w.heap.size + 1 := ⟨_, rfl⟩
  obtain ⟨b0, h0⟩ : ∃ b, b = w.heap.size := ⟨_, rfl⟩
  have HBW := Lib.hid (show w.heap.size ≤ b0 ∧ w.heap.size ≤ b1 by omega)
  rw [← h1] at K1 ⊢
  rw [← h0] at K0 ⊢
  have n01 : b0 ≠ b1 := by omega
  have n10 : b1 ≠ b0 := by omega
  have AP0 := Lib.hid (show Ap q b0 by rw [h0]; exact h.ap (Nat.le_refl _))
  have AP1 := Lib.hid (show Ap q b1 by rw [h1]; exact h.ap (Nat.le_succ _))
  clear hX h1 h0 h
  obtain ⟨t0, t1, t2, t3, t4, t5, t6, t7, t8, t9⟩ := K0.out.cells10
  go_wp2_with fail
  refine (HD1.out _ HX0.out).mono ?_
  rintro e w2 ⟨v, rfl, ho, hb⟩
  obtain ⟨sa2, sc2, rfl, hrec⟩ := OwnR.recs wcells_len ho
  have S2 := Lib.hid (show Wts w2 sa2 (dropW c.sends g).length sc2 (dropW c.sends g) from ⟨hrec, fun y hy => HOK1.out y (List.mem_filter.1 hy).1⟩)
  have FSh := Lib.hid (show ∀ B, B < X.heap.size → ∀ y, sa2 = some y → 0 < (dropW c.sends g).length → y.block ≠ B from fun B hB y hy _ => by have := OwnR.lt ho y.block (by rw [hy]; rfl); omega)
  have A2 := Lib.hid (AX.out.trans (Below.mono hb AX.out.size)); have K02 := Lib.hid (K0.out.below hb); have K12 := Lib.hid (K1.out.below hb); have H2 := Lib.hid (HX0.out.below hb)
  have HLB := Lib.hid (show b0 < X.heap.size ∧ b1 < X.heap.size from ⟨K0.out.lt, K1.out.lt⟩)
  clear hb ho hrec t0 t1 t2 t3 t4 t5 t6 t7 t8 t9
  obtain ⟨n2, hn2⟩ : ∃ n, n = (dropW c.sends g).length := ⟨_, rfl⟩
  rw [← hn2] at S2 FSh ⊢
  clear hn2
  obtain ⟨t0, t1, t2, t3, t4, t5, t6, t7, t8, t9⟩ := K02.out.cells10
  have l0 := K02.out.lt; have f8 := K02.out.froz 8
  go_upto_region 2 with (fail)
  clear t0 t1 t2 t3 t4 t5 t6 t7 t8 t9 l0 f8
  have A3 := Lib.hid (A2.out.setCell (p := ⟨b0, 8, none⟩) HBW.out.1 (.slice sa2 n2 sc2))
  have K03 := Lib.hid (K02.out.set 8 (.slice sa2 n2 sc2))
  have G3 := Lib.hid (grow_setCell w2 b0 8 (.slice sa2 n2 sc2))
  have K13 := Lib.hid (K12.out.other G3.out (fun e => n10 (by cases e; rfl)))
  have H3 := Lib.hid (H2.out.other AP0.out G3.out)
  have S3 := Lib.hid (S2.out.other (FSh.out b0 HLB.out.1) G3.out)
  obtain ⟨w3, hw3⟩ : ∃ x, x = w2.setCell ⟨b0, 8, none⟩ (.slice sa2 n2 sc2) := ⟨_, rfl⟩
  rw [← hw3] at A3 K03 K13 H3 S3 ⊢
  clear hw3 A2 K02 K12 H2 S2 G3
  obtain ⟨t0, t1, t2, t3, t4, t5, t6, t7, t8, t9⟩ := Bx.cells10 K03.out
  go_wp2_with fail
  refine (HD2.out _ H3.out.recvs).mono ?_
  rintro e w4 ⟨v, rfl, ho, hb⟩
  obtain ⟨ra2, rc2, rfl, hrec⟩ := OwnR.recs wcells_len ho
  have R4 := Lib.hid (show Wts w4 ra2 (dropW c.recvs g).length rc2 (dropW c.recvs g) from ⟨hrec, fun y hy => HOK2.out y (List.mem_filter.1 hy).1⟩)
  have FR := Lib.hid (show ∀ B, B < w3.heap.size → ∀ y, ra2 = some y → 0 < (dropW c.recvs g).length → y.block ≠ B from fun B hB y hy _ => by have := OwnR.lt ho y.block (by rw [hy]; rfl); omega)
  have A4 := Lib.hid (A3.out.trans (Below.mono hb A3.out.size)); have K04 := Lib.hid (K03.out.below hb); have K14 := Lib.hid (K13.out.below hb); have H4 := Lib.hid (H3.out.below hb); have S4 := Lib.hid (S3.out.below hb)
  have HL3 := Lib.hid (show b0 < w3.heap.size ∧ b1 < w3.heap.size from ⟨Bx.lt K03.out, K13.out.lt⟩)
  clear hb ho hrec t0 t1 t2 t3 t4 t5 t6 t7 t8 t9
  obtain ⟨m2, hm2⟩ : ∃ n, n = (dropW c.recvs g).length := ⟨_, rfl⟩
  rw [← hm2] at R4 FR ⊢
  clear hm2
  obtain ⟨t0, t1, t2, t3, t4, t5, t6, t7, t8, t9⟩ := Bx.cells10 K04.out
  have l0 := Bx.lt K04.out; have f9 := Bx.froz K04.out 9
  go_upto_region 3 with (fail)
  clear t0 t1 t2 t3 t4 t5 t6 t7 t8 t9 l0 f9
  have A5 := Lib.hid (A4.out.setCell (p := ⟨b0, 9, none⟩) HBW.out.1 (.slice ra2 m2 rc2))
  have K05 := Lib.hid (Bx.set K04.out 9 (.slice ra2 m2 rc2))
  have G5 := Lib.hid (grow_setCell w4 b0 9 (.slice ra2 m2 rc2))
  have K15 := Lib.hid (K14.out.other G5.out (fun e => n10 (by cases e; rfl)))
  have H5 := Lib.hid (H4.out.other AP0.out G5.out)
  have S5 := Lib.hid (S4.out.other (FSh.out b0 HLB.out.1) G5.out)
  have R5 := Lib.hid (R4.out.other (FR.out b0 HL3.out.1) G5.out)
  obtain ⟨w5, hw5⟩ : ∃ x, x = w4.setCell ⟨b0, 9, none⟩ (.slice ra2 m2 rc2) := ⟨_, rfl⟩
  rw [← hw5] at A5 K05 K15 H5 S5 R5 ⊢
  clear hw5 A4 K04 K14 H4 S4 R4 G5
  obtain ⟨t0, t1, t2, t3, t4, t5, t6, t7, t8, t9⟩ := Bx.cells10 K05.out
  obtain ⟨u0, u1, u2, u3, u4, u5, u6, u7, u8, u9⟩ := K15.out.cells10
  have l1 := K15.out.lt; have f0 := K15.out.froz 0; have f1 := K15.out.froz 1; have f2 := K15.out.froz 2; have f3 := K15.out.froz 3; have f4 := K15.out.froz 4; have f5 := K15.out.froz 5; have f6 := K15.out.froz 6; have f7 := K15.out.froz 7; have f8 := K15.out.froz 8; have f9 := K15.out.froz 9
  have E1 := Lib.hid (K15.out.st10 (.int .i64 c.cap) (.bool c.cl) (.int .i64 c.rc) (.int .i64 c.rf) (.slice q.za q.zn q.zc) (.int .i64 c.rk) (.int .i64 c.sent) (.int .i64 c.got) (.slice sa2 n2 sc2) (.slice ra2 m2 rc2))
  have E3 := Lib.hid (below_st10 A5.out HBW.out.2 (.int .i64 c.cap) (.bool c.cl) (.int .i64 c.rc) (.int .i64 c.rf) (.slice q.za q.zn q.zc) (.int .i64 c.rk) (.int .i64 c.sent) (.int .i64 c.got) (.slice sa2 n2 sc2) (.slice ra2 m2 rc2))
  have GE := Lib.hid (grown_st10 (World.grownBy.refl w5 (some b1)) (.int .i64 c.cap) (.bool c.cl) (.int .i64 c.rc) (.int .i64 c.rf) (.slice q.za q.zn q.zc) (.int .i64 c.rk) (.int .i64 c.sent) (.int .i64 c.got) (.slice sa2 n2 sc2) (.slice ra2 m2 rc2))
  have CE := Lib.hid (H5.out.other AP1.out GE.out)
  have SE := Lib.hid (S5.out.other (FSh.out b1 HLB.out.2) GE.out)
  have RE := Lib.hid (R5.out.other (FR.out b1 HL3.out.2) GE.out)
  go_wp2_with fail
  exact bodyPost_ret (v := chV (leaveC c g) ⟨q.za, q.zn, q.zc, sa2, n2, sc2, ra2, m2, rc2⟩) (by rw [res1_c Try.results21 _ (by rfl) (E1.out.load Try.underlying27 infC)]; rfl) rfl ⟨⟨q.za, q.zn, q.zc, sa2, n2, sc2, ra2, m2, rc2⟩, rfl, ⟨CE.out.cap, CE.out.rc, CE.out.rf, CE.out.rk, CE.out.sent, CE.out.got, CE.out.zs, SE.out, RE.out⟩, fun B hB hA => ⟨hA.az, FSh.out B (by have := AX.out.size; omega), FR.out B (by have := A3.out.size; omega)⟩, E3.out⟩
end Go.Proofs.Ytfolhgpbplfilaa
