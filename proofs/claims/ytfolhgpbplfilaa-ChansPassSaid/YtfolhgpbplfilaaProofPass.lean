/- ChansPass returns true for all arguments, and leaves them as they were. No conditions. -/
import Derived.Test.YtfolhgpbplfilaaH2
import Derived.Test.YtfolhgpbplfilaaD7
import Derived.Test.YtfolhgpbplfilaaE4
import Derived.Test.YtfolhgpbplfilaaHT
import Derived.Test.YtfolhgpbplfilaaHU
import Derived.Test.YtfolhgpbplfilaaF2
import Derived.Test.YtfolhgpbplfilaaHB
import Derived.Test.YtfolhgpbplfilaaD2
import Derived.Test.YtfolhgpbplfilaaLawCloses
import Derived.Test.YtfolhgpbplfilaaRows
import Derived.WalkKit
import Derived.ProofKit
import Derived.OpenShut
import Derived.ShutString
import Derived.ChangeOld
import Derived.Below
import Derived.Test.YtfolhgpbplfilaaOpen
namespace Go.Proofs.Ytfolhgpbplfilaa
open Go.RowKit
set_option linter.unusedSimpArgs false
set_option linter.unusedVariables false
theorem ofK_run (m : Nat) (a : Int) (k : Nat) (hk : k ≤ m) : ofK m a (a + (k : Int)) = k := by
  have key : ∀ m, ofK m a (a + (k : Int)) = min m k := by
    intro m
    induction m with
    | zero => simp [ofK]
    | succ m ih =>
      show ofK m a (a + (k : Int)) + _ = _
      rw [ih]
      by_cases h : m < k
      · rw [if_pos (by omega)]; omega
      · rw [if_neg (by omega)]; omega
  rw [key]; omega
theorem ofL_run (m : Nat) (a : Int) (k : Nat) (hk : k ≤ m) : takenL m 0 k (ofL m a (a + (k : Int))) = runL a k := by
  refine list_ext_en (by rw [taken_len, runL_len]) fun j hj => ?_
  rw [taken_len] at hj
  rw [runL_get _ _ _ hj]
  unfold takenL
  rw [en_get _ j (by rw [upto_len]; exact hj)]
  simp only [upto, List.getElem_map, List.getElem_range]
  rw [Nat.zero_add, Nat.mod_eq_of_lt (by omega), en_get _ j (by rw [ofL_len]; omega)]
  simp only [ofL, List.getElem_map, List.getElem_range]
  rw [if_pos (by omega)]
/-- the ring of a channel that was moved: so many numbers from what was got on -/
theorem mv_rg {c : Chn} {m k : Nat} {ds dg : Int} (h : c.sent + ds = c.got + dg + (k : Int)) (hk : k ≤ m) (h3 : m ≤ 3) :
    Rg (mvC c m ds dg) m 0 k ∧ takenL m 0 k (mvC c m ds dg).zs = runL (c.got + dg) k := by
  have e1 : ofK m (c.got + dg) (c.sent + ds) = k := by rw [h]; exact ofK_run m _ k hk
  have e2 : takenL m 0 k (ofL m (c.got + dg) (c.sent + ds)) = runL (c.got + dg) k := by rw [h]; exact ofL_run m _ k hk
  refine ⟨⟨rfl, rfl, ?_, ofL_len _ _ _, by omega, by omega, hk⟩, e2⟩
  show ((ofK m (c.got + dg) (c.sent + ds) : Nat) : Int) = (k : Int)
  rw [e1]
theorem same_of {a b : Chn} {n m fa fb k : Nat} (hnm : n = m) (e1 : a.cap = b.cap) (e2 : a.cl = b.cl) (e3 : a.sent = b.sent) (e4 : a.got = b.got) (e5 : a.sends = b.sends) (e6 : a.recvs = b.recvs) (ra : Rg a n fa k) (rb : Rg b m fb k) {l : List Int} (ta : takenL n fa k a.zs = l) (tb : takenL m fb k b.zs = l) : SameC a b := by
  subst hnm
  exact ⟨e1, e2, e3, e4, e5, e6, n, fa, fb, k, ra, rb, ta.trans tb.symm⟩
theorem fill_rg {c : Chn} {n f k : Nat} (g : Good c n f k) (hk : k < n) : Rg (fillC c) n f (k + 1) ∧ takenL n f (k + 1) (fillC c).zs = runL c.got (k + 1) := by
  have h1 : c.rc.toNat = n := by rw [g.rcn]; rfl
  have h2 : c.rf.toNat = f := by rw [g.rfn]; rfl
  have h3 : c.rk.toNat = k := by rw [g.rkn]; rfl
  have e : (fillC c).zs = c.zs.set ((f + k) % n) c.sent := by simp only [fillC, h1, h2, h3]
  refine ⟨⟨g.rcn, g.rfn, by show c.rk + 1 = _; rw [g.rkn]; rfl, by rw [e, List.length_set]; exact g.zl, by have := g.n3; omega, g.fl, by omega⟩, ?_⟩
  rw [e, taken_push n f k c.zs c.sent g.zl hk, g.items, runL_succ]
  rw [g.sg]
theorem pop_rg {c : Chn} {n f k : Nat} (g : Good c n f (k + 1)) : Rg (popC c) n ((f + 1) % n) k ∧ takenL n ((f + 1) % n) k (popC c).zs = runL (c.got + 1) k := by
  have hn : k + 1 ≤ n := g.kl
  have hf : f < n := by have := g.fl; omega
  have h1 : c.rc.toNat = n := by rw [g.rcn]; rfl
  have h2 : c.rf.toNat = f := by rw [g.rfn]; rfl
  have h3 : c.rk.toNat = k + 1 := by rw [g.rkn]; rfl
  have hm : (f + 1) % n < n := Nat.mod_lt _ (by omega)
  have e : (popC c).zs = c.zs.set f 0 := by simp only [popC, h2]
  refine ⟨⟨g.rcn, by simp only [popC, h1, h2], by simp only [popC, h3]; rfl, by rw [e, List.length_set]; exact g.zl, by have := g.n3; omega, by omega, by omega⟩, ?_⟩
  have ht := taken_pop n f k c.zs g.zl hf (by omega)
  rw [g.items, runL_cons] at ht
  rw [e]
  exact (List.cons.inj ht).2.symm
theorem fill_pop_rg {c : Chn} {n f k : Nat} (g : Good c n f (k + 1)) : Rg (fillC (popC c)) n ((f + 1) % n) (k + 1) ∧ takenL n ((f + 1) % n) (k + 1) (fillC (popC c)).zs = runL (c.got + 1) (k + 1) := by
  obtain ⟨r, t⟩ := pop_rg g
  have hn : k + 1 ≤ n := g.kl
  have h1 : (popC c).rc.toNat = n := by rw [r.rc]; rfl
  have h2 : (popC c).rf.toNat = (f + 1) % n := by rw [r.rf]; rfl
  have h3 : (popC c).rk.toNat = k := by rw [r.rk]; rfl
  have e : (fillC (popC c)).zs = (popC c).zs.set (((f + 1) % n + k) % n) c.sent := by simp only [fillC, h1, h2, h3]; rfl
  refine ⟨⟨r.rc, r.rf, by show (popC c).rk + 1 = _; rw [r.rk]; rfl, by rw [e, List.length_set]; exact r.zl, r.n8, r.fl, by omega⟩, ?_⟩
  rw [e, taken_push n ((f + 1) % n) k (popC c).zs c.sent r.zl (by omega), t, runL_succ]
  have := g.sg
  rw [show c.sent = c.got + 1 + (k : Int) by rw [this]; omega]
theorem rg_leave {c : Chn} {n f k : Nat} (r : Rg c n f k) (x : Int) : Rg (leaveC c x) n f k := ⟨r.rc, r.rf, r.rk, r.zl, r.n8, r.fl, r.kl⟩
theorem first_none_nil {b : Int} : firstW [] b = none := rfl
end Go.Proofs.Ytfolhgpbplfilaa
namespace Go.Proofs.Ytfolhgpbplfilaa
open Go.RowKit
set_option linter.unusedSimpArgs false
set_option linter.unusedVariables false
/-- program's and reference's answer -/
def Agree (a b : Chn × Out × Int) : Prop := b.2 = a.2 ∧ (a.2.2 = 0 → SameC a.1 b.1) ∧ (a.2.2 ≠ 0 → a.1 = zeroC)
theorem agree_same {c : Chn} {o : Out} (h : SameC c c) : Agree (c, o, 0) (c, o, 0) := ⟨rfl, fun _ => h, fun h => absurd rfl h⟩
theorem agree_no {o : Out} {e : Int} (he : e ≠ 0) : Agree (zeroC, o, e) (zeroC, o, e) := ⟨rfl, fun h => absurd h he, fun _ => rfl⟩
theorem agree_of {a b : Chn} {o : Out} (h : SameC a b) : Agree (a, o, 0) (b, o, 0) := ⟨rfl, fun _ => h, fun h => absurd rfl h⟩
theorem firstW_some_ne {L : List Wt} {b : Int} {y : Wt} (h : firstW L b = some y) : L ≠ [] := by rintro rfl; cases h
theorem same_snoc {c : Chn} {n f k : Nat} (g : Good c n f k) (S R : List Wt) : SameC { c with sends := S, recvs := R } { c with sends := S, recvs := R } :=
  same_of rfl rfl rfl rfl rfl rfl rfl (⟨g.rcn, g.rfn, g.rkn, g.zl, by have := g.n3; omega, g.fl, g.kl⟩ : Rg { c with sends := S, recvs := R } n f k) ⟨g.rcn, g.rfn, g.rkn, g.zl, by have := g.n3; omega, g.fl, g.kl⟩ g.items g.items
theorem hand_same {c : Chn} {n f m : Nat} (g : Good c n f 0) (hnm : n = m) (y : Int) : SameC (handC c y) (mvC (leaveC c y) m 1 1) := by
  have h := mv_rg (c := leaveC c y) (m := m) (k := 0) (ds := 1) (dg := 1) (by show c.sent + 1 = c.got + 1 + _; have := g.sg; omega) (Nat.zero_le _) (by have := g.n3; omega)
  exact same_of hnm rfl rfl rfl rfl rfl rfl (⟨g.rcn, g.rfn, g.rkn, g.zl, by have := g.n3; omega, g.fl, g.kl⟩ : Rg (handC c y) n f 0) h.1 (l := []) rfl (h.2.trans rfl)
theorem send_agree {c : Chn} {m : Nat} (x : Wt) (hr : rightC c = true) (hm : (m : Int) = max c.cap 0) : Agree (sendZ c x) (rsendZ c m x) := by
  obtain ⟨n, f, k, g⟩ := good_of hr
  have hnm : n = m := by have := g.rcm; omega
  unfold sendZ rsendZ
  by_cases h1 : c.cap < 0
  · rw [if_pos h1, if_pos h1]; exact agree_same (same_refl hr)
  rw [if_neg h1, if_neg h1]
  by_cases h2 : c.cl = true
  · rw [if_pos h2, if_pos h2]; exact agree_same (same_refl hr)
  rw [if_neg h2, if_neg h2]
  cases hf : firstW c.recvs x.g with
  | some y =>
    simp only
    have hk0 : k = 0 := g.emp (firstW_some_ne hf)
    subst hk0
    by_cases h3 : c.sent = 1048576
    · rw [if_pos h3, if_pos h3]; exact agree_no (by decide)
    · rw [if_neg h3, if_neg h3]; exact agree_of (hand_same g hnm y.g)
  | none =>
    simp only
    by_cases h3 : c.rk < c.rc
    · rw [if_pos h3, if_pos h3]
      by_cases h4 : c.sent = 1048576
      · rw [if_pos h4, if_pos h4]; exact agree_no (by decide)
      · rw [if_neg h4, if_neg h4]
        have hkn : k < n := by have := g.rcn; have := g.rkn; omega
        obtain ⟨r, t⟩ := fill_rg g hkn
        have h := mv_rg (c := c) (m := m) (k := k + 1) (ds := 1) (dg := 0) (by have := g.sg; omega) (by omega) (by have := g.n3; omega)
        exact agree_of (same_of hnm rfl rfl rfl (Int.add_zero _).symm rfl rfl r h.1 t (h.2.trans (by rw [Int.add_zero])))
    · rw [if_neg h3, if_neg h3]
      cases hh : hasW c.sends x.g x.c with
      | true => rw [if_pos rfl]; exact agree_no (by decide)
      | false =>
        rw [if_neg (by decide)]
        by_cases h4 : c.sends.length = 64
        · rw [if_pos h4]; exact agree_no (by decide)
        · rw [if_neg h4]; exact agree_of (same_snoc g _ _)
theorem recv_agree {c : Chn} {m : Nat} (x : Wt) (hr : rightC c = true) (hm : (m : Int) = max c.cap 0) : Agree (recvZ c x) (rrecvZ c m x) := by
  obtain ⟨n, f, k, g⟩ := good_of hr
  have hnm : n = m := by have := g.rcm; omega
  unfold recvZ rrecvZ
  by_cases h1 : c.cap < 0
  · rw [if_pos h1, if_pos h1]; exact agree_same (same_refl hr)
  rw [if_neg h1, if_neg h1]
  cases hf : firstW c.sends x.g with
  | some y =>
    simp only
    by_cases h3 : c.sent = 1048576
    · rw [if_pos h3, if_pos h3]; exact agree_no (by decide)
    · rw [if_neg h3, if_neg h3]
      by_cases hk : 0 < c.rk
      · rw [if_pos hk]
        obtain ⟨k1, rfl⟩ : ∃ k1, k = k1 + 1 := ⟨k - 1, by have := g.rkn; omega⟩
        obtain ⟨r, t⟩ := fill_pop_rg g
        have h := mv_rg (c := leaveC c y.g) (m := m) (k := k1 + 1) (ds := 1) (dg := 1) (by show c.sent + 1 = c.got + 1 + _; have := g.sg; omega) (by have := g.kl; omega) (by have := g.n3; omega)
        exact agree_of (same_of hnm rfl rfl rfl rfl rfl rfl (rg_leave r y.g) h.1 t h.2)
      · rw [if_neg hk]
        obtain rfl : k = 0 := by have := g.rkn; omega
        have hsg : c.got = c.sent := by have := g.sg; omega
        rw [hsg]
        exact agree_of (hand_same g hnm y.g)
  | none =>
    simp only
    by_cases hk : 0 < c.rk
    · rw [if_pos hk, if_pos hk]
      obtain ⟨k1, rfl⟩ : ∃ k1, k = k1 + 1 := ⟨k - 1, by have := g.rkn; omega⟩
      obtain ⟨r, t⟩ := pop_rg g
      have h := mv_rg (c := c) (m := m) (k := k1) (ds := 0) (dg := 1) (by have := g.sg; omega) (by have := g.kl; omega) (by have := g.n3; omega)
      exact agree_of (same_of hnm rfl rfl (Int.add_zero _).symm rfl rfl rfl r h.1 t h.2)
    · rw [if_neg hk, if_neg hk]
      by_cases h2 : c.cl = true
      · rw [if_pos h2]; exact agree_same (same_refl hr)
      · rw [if_neg h2]
        cases hh : hasW c.recvs x.g x.c with
        | true => rw [if_pos rfl]; exact agree_no (by decide)
        | false =>
          rw [if_neg (by decide)]
          by_cases h4 : c.recvs.length = 64
          · rw [if_pos h4]; exact agree_no (by decide)
          · rw [if_neg h4]; exact agree_of (same_snoc g _ _)
end Go.Proofs.Ytfolhgpbplfilaa
namespace Go.Proofs.Ytfolhgpbplfilaa
open Go.RowKit
set_option linter.unusedSimpArgs false
set_option linter.unusedVariables false
set_option maxRecDepth 100000 in
set_option maxHeartbeats 8000000 in
theorem pass_badr (c : Chn) (q : CAt) (x : Wt) (w : World) (h : Cha w c q) (hx : WtOk x) (hr : rightC (fewC c) = false) : Calls Try.prog 4 #[chV c q, wV x] w (Says w) := by
  have HFW := Lib.hid (fun W (H : Cha W c q) => few_any c q W H)
  unfold GotC at HFW
  obtain ⟨c1, hc1⟩ : ∃ c1, c1 = fewC c := ⟨_, rfl⟩
  obtain ⟨q1, hq1⟩ : ∃ q1, q1 = fewAt q := ⟨_, rfl⟩
  have AP1 := Lib.hid (show Ap q1 w.heap.size by rw [hq1]; exact (few_cha h).ap (Nat.le_refl _))
  rw [← hc1, ← hq1] at HFW
  rw [← hc1] at hr
  have HRR := Lib.hid (fun W (H : Cha W c1 q1) => refRight_c c1 q1 W H)
  rw [hr] at HRR
  have HS := Lib.hid (fun W (H : Cha W c1 q1) => Send_badr c1 q1 x W H hx hr)
  have HR := Lib.hid (fun W (H : Cha W c1 q1) => Recv_badr c1 q1 x W H hx hr)
  unfold GotQ at HS HR
  clear hr
  have A0 := Lib.hid ((below_alloc w (.cells (chC c q) 27)).alloc (by simp) (.cells #[.int .i64 x.g, .int .i64 x.c, .int .i64 x.s] 48)); have K0 := Lib.hid ((Bx.new w (chC c q) 27).below (below_alloc _ (.cells #[.int .i64 x.g, .int .i64 x.c, .int .i64 x.s] 48))); have X0 := Lib.hid (Bx.new2 w (.cells (chC c q) 27) #[.int .i64 x.g, .int .i64 x.c, .int .i64 x.s] 48); have C0 := Lib.hid (h.below A0.out)
  clear hc1 hq1 h
  go_enter Try.func4, Try.ntmps4
  go_wp2_with fail
  refine (HFW.out _ C0.out).mono ?_
  rintro e w1 ⟨rfl, hc, hb⟩
  have A1 := Lib.hid (A0.out.trans (Below.mono hb A0.out.size)); have K1 := Lib.hid (K0.out.below hb); have X1 := Lib.hid (X0.out.below hb); have C1 := Lib.hid hc
  clear hc hb A0 K0 C0 X0
  obtain ⟨t0, t1, t2, t3, t4, t5, t6, t7, t8, t9⟩ := K1.out.cells10
  have f0 := K1.out.froz 0; have f1 := K1.out.froz 1; have f2 := K1.out.froz 2; have f3 := K1.out.froz 3; have f4 := K1.out.froz 4; have f5 := K1.out.froz 5; have f6 := K1.out.froz 6; have f7 := K1.out.froz 7; have f8 := K1.out.froz 8; have f9 := K1.out.froz 9; have l0 := K1.out.lt
  go_upto_region 2 with (fail)
  obtain ⟨X, hX⟩ : ∃ X, X = st10 w1 w.heap.size (.int .i64 c1.cap) (.bool c1.cl) (.int .i64 c1.rc) (.int .i64 c1.rf) (.slice q1.za q1.zn q1.zc) (.int .i64 c1.rk) (.int .i64 c1.sent) (.int .i64 c1.got) (.slice q1.sa q1.sn q1.sc) (.slice q1.ra q1.rn q1.rq) := ⟨_, rfl⟩
  have GX := Lib.hid (show w1.grownBy X (some w.heap.size) by rw [hX]; exact grown_st10 (World.grownBy.refl _ _) (.int .i64 c1.cap) (.bool c1.cl) (.int .i64 c1.rc) (.int .i64 c1.rf) (.slice q1.za q1.zn q1.zc) (.int .i64 c1.rk) (.int .i64 c1.sent) (.int .i64 c1.got) (.slice q1.sa q1.sn q1.sc) (.slice q1.ra q1.rn q1.rq))
  have K4_0 := Lib.hid (show Bx X w.heap.size (chC c1 q1) 27 by rw [hX]; exact K1.out.st10 (.int .i64 c1.cap) (.bool c1.cl) (.int .i64 c1.rc) (.int .i64 c1.rf) (.slice q1.za q1.zn q1.zc) (.int .i64 c1.rk) (.int .i64 c1.sent) (.int .i64 c1.got) (.slice q1.sa q1.sn q1.sc) (.slice q1.ra q1.rn q1.rq))
  have A_0 := Lib.hid (show Below w.heap.size w X by rw [hX]; exact below_st10 A1.out (Nat.le_refl _) (.int .i64 c1.cap) (.bool c1.cl) (.int .i64 c1.rc) (.int .i64 c1.rf) (.slice q1.za q1.zn q1.zc) (.int .i64 c1.rk) (.int .i64 c1.sent) (.int .i64 c1.got) (.slice q1.sa q1.sn q1.sc) (.slice q1.ra q1.rn q1.rq))
  have C1_0 := Lib.hid (C1.out.other AP1.out GX.out)
  have KX_0 := Lib.hid (X1.out.other GX.out (fun e => by have := Option.some.inj e; omega))
  have hx1 := hX.symm
  simp only [st10] at hx1
  rw [hx1]
  obtain ⟨b5, hb5⟩ : ∃ b, b = w.heap.size + 1 := ⟨_, rfl⟩
  rw [← hb5] at KX_0 ⊢
  obtain ⟨b4, hb4⟩ : ∃ b, b = w.heap.size := ⟨_, rfl⟩
  rw [← hb4] at K4_0 ⊢
  clear hx1 hX hb4 hb5 t0 t1 t2 t3 t4 t5 t6 t7 t8 t9 f0 f1 f2 f3 f4 f5 f6 f7 f8 f9 l0 K1 A1 C1 GX X1
  obtain ⟨t0, t1, t2, t3, t4, t5, t6, t7, t8, t9⟩ := K4_0.out.cells10
  have lt := K4_0.out.lt
  obtain ⟨y0, y1, y2⟩ := KX_0.out.cells3
  have ly := KX_0.out.lt
  go_wp2_with fail
  refine (HS.out _ C1_0.out).mono ?_
  rintro e v1 ⟨qa, rfl, hc, hb⟩
  clear t0 t1 t2 t3 t4 t5 t6 t7 t8 t9 lt y0 y1 y2 ly
  have A_1 := Lib.hid (A_0.out.trans (Below.mono hb A_0.out.size))
  have K4_1 := Lib.hid (K4_0.out.below hb)
  have C1_1 := Lib.hid (C1_0.out.below hb)
  have KX_1 := Lib.hid (KX_0.out.below hb)
  clear A_0 K4_0 C1_0 KX_0
  have CA_1 := Lib.hid (hc)
  clear hb hc
  have hbx := (below_alloc v1 (.cells (chC zeroC qa) 27)).alloc (by simp) (.cells (outC zeroO) 50)
  have A_2 := Lib.hid (A_1.out.trans (Below.mono hbx A_1.out.size))
  have K4_2 := Lib.hid (K4_1.out.below hbx)
  have C1_2 := Lib.hid (C1_1.out.below hbx)
  have KX_2 := Lib.hid (KX_1.out.below hbx)
  have CA_2 := Lib.hid (CA_1.out.below hbx)
  clear A_1 K4_1 C1_1 KX_1 CA_1
  have Na_2 := Lib.hid ((Bx.new v1 (chC zeroC qa) 27).below (below_alloc _ (.cells (outC zeroO) 50)))
  have No_2 := Lib.hid (Bx.new2 v1 (.cells (chC zeroC qa) 27) (outC zeroO) 50)
  go_upto_region 3 with (fail)
  obtain ⟨Xa, hXa⟩ : ∃ X, X = (v1.alloc (.cells (chC zeroC qa) 27)).alloc (.cells (outC zeroO) 50) := ⟨_, rfl⟩
  obtain ⟨bo, hbbo⟩ : ∃ b, b = v1.heap.size + 1 := ⟨_, rfl⟩
  obtain ⟨ba, hbba⟩ : ∃ b, b = v1.heap.size := ⟨_, rfl⟩
  rw [← hXa] at A_2 K4_2 C1_2 KX_2 CA_2 Na_2 No_2 ⊢
  rw [← hbbo] at No_2 ⊢
  rw [← hbba] at Na_2 ⊢
  clear hXa hbba hbbo hbx
  obtain ⟨t0, t1, t2, t3, t4, t5, t6, t7, t8, t9⟩ := K4_2.out.cells10
  have lt := K4_2.out.lt
  obtain ⟨y0, y1, y2⟩ := KX_2.out.cells3
  have ly := KX_2.out.lt
  go_wp2_with fail
  refine (HR.out _ C1_2.out).mono ?_
  rintro e v3 ⟨qb, rfl, hc, hb⟩
  clear t0 t1 t2 t3 t4 t5 t6 t7 t8 t9 lt y0 y1 y2 ly
  have A_3 := Lib.hid (A_2.out.trans (Below.mono hb A_2.out.size))
  have K4_3 := Lib.hid (K4_2.out.below hb)
  have C1_3 := Lib.hid (C1_2.out.below hb)
  have KX_3 := Lib.hid (KX_2.out.below hb)
  have CA_3 := Lib.hid (CA_2.out.below hb)
  have Na_3 := Lib.hid (Na_2.out.below hb)
  have No_3 := Lib.hid (No_2.out.below hb)
  clear A_2 K4_2 C1_2 KX_2 CA_2 Na_2 No_2
  have CB_3 := Lib.hid (hc)
  clear hb hc
  have hbx := (below_alloc v3 (.cells (chC zeroC qb) 27)).alloc (by simp) (.cells (outC zeroO) 50)
  have A_4 := Lib.hid (A_3.out.trans (Below.mono hbx A_3.out.size))
  have K4_4 := Lib.hid (K4_3.out.below hbx)
  have C1_4 := Lib.hid (C1_3.out.below hbx)
  have KX_4 := Lib.hid (KX_3.out.below hbx)
  have CA_4 := Lib.hid (CA_3.out.below hbx)
  have Na_4 := Lib.hid (Na_3.out.below hbx)
  have No_4 := Lib.hid (No_3.out.below hbx)
  have CB_4 := Lib.hid (CB_3.out.below hbx)
  clear A_3 K4_3 C1_3 KX_3 CA_3 Na_3 No_3 CB_3
  have Nb_4 := Lib.hid ((Bx.new v3 (chC zeroC qb) 27).below (below_alloc _ (.cells (outC zeroO) 50)))
  have Np_4 := Lib.hid (Bx.new2 v3 (.cells (chC zeroC qb) 27) (outC zeroO) 50)
  go_upto_region 4 with (fail)
  obtain ⟨Xb, hXb⟩ : ∃ X, X = (v3.alloc (.cells (chC zeroC qb) 27)).alloc (.cells (outC zeroO) 50) := ⟨_, rfl⟩
  obtain ⟨bp, hbbp⟩ : ∃ b, b = v3.heap.size + 1 := ⟨_, rfl⟩
  obtain ⟨bb, hbbb⟩ : ∃ b, b = v3.heap.size := ⟨_, rfl⟩
  rw [← hXb] at A_4 K4_4 C1_4 KX_4 CA_4 Na_4 No_4 CB_4 Nb_4 Np_4 ⊢
  rw [← hbbp] at Np_4 ⊢
  rw [← hbbb] at Nb_4 ⊢
  clear hXb hbbb hbbp hbx
  have hbx := below_alloc Xb (.cells #[.int .i64 0, .int .i64 0, .int .i64 0, .int .i64 0, .int .i64 0, .int .i64 0] 50)
  have A_5 := Lib.hid (A_4.out.trans (Below.mono hbx A_4.out.size))
  have K4_5 := Lib.hid (K4_4.out.below hbx)
  have C1_5 := Lib.hid (C1_4.out.below hbx)
  have KX_5 := Lib.hid (KX_4.out.below hbx)
  have CA_5 := Lib.hid (CA_4.out.below hbx)
  have Na_5 := Lib.hid (Na_4.out.below hbx)
  have No_5 := Lib.hid (No_4.out.below hbx)
  have CB_5 := Lib.hid (CB_4.out.below hbx)
  have Nb_5 := Lib.hid (Nb_4.out.below hbx)
  have Np_5 := Lib.hid (Np_4.out.below hbx)
  clear A_4 K4_4 C1_4 KX_4 CA_4 Na_4 No_4 CB_4 Nb_4 Np_4
  have Nz_5 := Lib.hid (Bx.new Xb #[.int .i64 0, .int .i64 0, .int .i64 0, .int .i64 0, .int .i64 0, .int .i64 0] 50)
  go_upto_region 5 with (fail)
  obtain ⟨Xz, hXz⟩ : ∃ X, X = Xb.alloc (.cells #[.int .i64 0, .int .i64 0, .int .i64 0, .int .i64 0, .int .i64 0, .int .i64 0] 50) := ⟨_, rfl⟩
  obtain ⟨bz, hbbz⟩ : ∃ b, b = Xb.heap.size := ⟨_, rfl⟩
  rw [← hXz] at A_5 K4_5 C1_5 KX_5 CA_5 Na_5 No_5 CB_5 Nb_5 Np_5 Nz_5 ⊢
  rw [← hbbz] at Nz_5 ⊢
  clear hXz hbbz hbx
  obtain ⟨t0, t1, t2, t3, t4, t5, t6, t7, t8, t9⟩ := K4_5.out.cells10
  have lt := K4_5.out.lt
  go_wp2_with fail
  refine (HRR.out _ C1_5.out).mono ?_
  rintro e v6 ⟨rfl, hb⟩
  clear t0 t1 t2 t3 t4 t5 t6 t7 t8 t9 lt
  have A_6 := Lib.hid (A_5.out.trans (Below.mono hb A_5.out.size))
  have K4_6 := Lib.hid (K4_5.out.below hb)
  have C1_6 := Lib.hid (C1_5.out.below hb)
  have KX_6 := Lib.hid (KX_5.out.below hb)
  have CA_6 := Lib.hid (CA_5.out.below hb)
  have Na_6 := Lib.hid (Na_5.out.below hb)
  have No_6 := Lib.hid (No_5.out.below hb)
  have CB_6 := Lib.hid (CB_5.out.below hb)
  have Nb_6 := Lib.hid (Nb_5.out.below hb)
  have Np_6 := Lib.hid (Np_5.out.below hb)
  have Nz_6 := Lib.hid (Nz_5.out.below hb)
  clear A_5 K4_5 C1_5 KX_5 CA_5 Na_5 No_5 CB_5 Nb_5 Np_5 Nz_5
  clear hb
  go_wp2_with fail
  refine (alive_any _).mono ?_
  rintro e v7 ⟨rfl, hb⟩
  have A_7 := Lib.hid (A_6.out.trans (Below.mono hb A_6.out.size))
  have K4_7 := Lib.hid (K4_6.out.below hb)
  have C1_7 := Lib.hid (C1_6.out.below hb)
  have KX_7 := Lib.hid (KX_6.out.below hb)
  have CA_7 := Lib.hid (CA_6.out.below hb)
  have Na_7 := Lib.hid (Na_6.out.below hb)
  have No_7 := Lib.hid (No_6.out.below hb)
  have CB_7 := Lib.hid (CB_6.out.below hb)
  have Nb_7 := Lib.hid (Nb_6.out.below hb)
  have Np_7 := Lib.hid (Np_6.out.below hb)
  have Nz_7 := Lib.hid (Nz_6.out.below hb)
  clear A_6 K4_6 C1_6 KX_6 CA_6 Na_6 No_6 CB_6 Nb_6 Np_6 Nz_6
  clear hb
  obtain ⟨m0, m1, m2, m3, m4, m5⟩ := No_7.out.cells6
  have lm := No_7.out.lt
  obtain ⟨n0, n1, n2, n3, n4, n5⟩ := Np_7.out.cells6
  have ln := Np_7.out.lt
  obtain ⟨s0, s1, s2, s3, s4, s5⟩ := Nz_7.out.cells6
  have ls := Nz_7.out.lt
  obtain ⟨t0, t1, t2, t3, t4, t5, t6, t7, t8, t9⟩ := Na_7.out.cells10
  have lt := Na_7.out.lt
  go_wp2_with fail
  refine (empty_zero qa _ CA_7.out).mono ?_
  rintro e v8 ⟨rfl, hb⟩
  clear m0 m1 m2 m3 m4 m5 lm n0 n1 n2 n3 n4 n5 ln s0 s1 s2 s3 s4 s5 ls t0 t1 t2 t3 t4 t5 t6 t7 t8 t9 lt
  have A_8 := Lib.hid (A_7.out.trans (Below.mono hb A_7.out.size))
  have K4_8 := Lib.hid (K4_7.out.below hb)
  have C1_8 := Lib.hid (C1_7.out.below hb)
  have KX_8 := Lib.hid (KX_7.out.below hb)
  have CA_8 := Lib.hid (CA_7.out.below hb)
  have Na_8 := Lib.hid (Na_7.out.below hb)
  have No_8 := Lib.hid (No_7.out.below hb)
  have CB_8 := Lib.hid (CB_7.out.below hb)
  have Nb_8 := Lib.hid (Nb_7.out.below hb)
  have Np_8 := Lib.hid (Np_7.out.below hb)
  have Nz_8 := Lib.hid (Nz_7.out.below hb)
  clear A_7 K4_7 C1_7 KX_7 CA_7 Na_7 No_7 CB_7 Nb_7 Np_7 Nz_7
  clear hb
  obtain ⟨t0, t1, t2, t3, t4, t5, t6, t7, t8, t9⟩ := Nb_8.out.cells10
  have lt := Nb_8.out.lt
  go_wp2_with fail
  refine (empty_zero qb _ CB_8.out).mono ?_
  rintro e v9 ⟨rfl, hb⟩
  clear t0 t1 t2 t3 t4 t5 t6 t7 t8 t9 lt
  have A_9 := Lib.hid (A_8.out.trans (Below.mono hb A_8.out.size))
  have K4_9 := Lib.hid (K4_8.out.below hb)
  have C1_9 := Lib.hid (C1_8.out.below hb)
  have KX_9 := Lib.hid (KX_8.out.below hb)
  have CA_9 := Lib.hid (CA_8.out.below hb)
  have Na_9 := Lib.hid (Na_8.out.below hb)
  have No_9 := Lib.hid (No_8.out.below hb)
  have CB_9 := Lib.hid (CB_8.out.below hb)
  have Nb_9 := Lib.hid (Nb_8.out.below hb)
  have Np_9 := Lib.hid (Np_8.out.below hb)
  have Nz_9 := Lib.hid (Nz_8.out.below hb)
  clear A_8 K4_8 C1_8 KX_8 CA_8 Na_8 No_8 CB_8 Nb_8 Np_8 Nz_8
  clear hb
  go_wp2_with fail
  go_ret
  exact ⟨rfl, A_9.out⟩
end Go.Proofs.Ytfolhgpbplfilaa
namespace Go.Proofs.Ytfolhgpbplfilaa
open Go.RowKit
set_option linter.unusedSimpArgs false
set_option linter.unusedVariables false
set_option maxRecDepth 100000 in
set_option maxHeartbeats 8000000 in
theorem pass_badm (c : Chn) (q : CAt) (x : Wt) (w : World) (h : Cha w c q) (hx : WtOk x) (hr : rightC (fewC c) = true) (hmy : mayW x = false) : Calls Try.prog 4 #[chV c q, wV x] w (Says w) := by
  have HFW := Lib.hid (fun W (H : Cha W c q) => few_any c q W H)
  unfold GotC at HFW
  obtain ⟨c1, hc1⟩ : ∃ c1, c1 = fewC c := ⟨_, rfl⟩
  obtain ⟨q1, hq1⟩ : ∃ q1, q1 = fewAt q := ⟨_, rfl⟩
  have AP1 := Lib.hid (show Ap q1 w.heap.size by rw [hq1]; exact (few_cha h).ap (Nat.le_refl _))
  rw [← hc1, ← hq1] at HFW
  rw [← hc1] at hr
  have HRR := Lib.hid (fun W (H : Cha W c1 q1) => refRight_c c1 q1 W H)
  rw [hr] at HRR
  have HS := Lib.hid (fun W (H : Cha W c1 q1) => Send_badm c1 q1 x W H hx hr hmy)
  have HR := Lib.hid (fun W (H : Cha W c1 q1) => Recv_badm c1 q1 x W H hx hr hmy)
  have HM := Lib.hid (fun W => refMay_any x W hx)
  rw [hmy] at HM
  unfold GotQ at HS HR
  clear hr hmy
  have A0 := Lib.hid ((below_alloc w (.cells (chC c q) 27)).alloc (by simp) (.cells #[.int .i64 x.g, .int .i64 x.c, .int .i64 x.s] 48)); have K0 := Lib.hid ((Bx.new w (chC c q) 27).below (below_alloc _ (.cells #[.int .i64 x.g, .int .i64 x.c, .int .i64 x.s] 48))); have X0 := Lib.hid (Bx.new2 w (.cells (chC c q) 27) #[.int .i64 x.g, .int .i64 x.c, .int .i64 x.s] 48); have C0 := Lib.hid (h.below A0.out)
  clear hc1 hq1 h
  go_enter Try.func4, Try.ntmps4
  go_wp2_with fail
  refine (HFW.out _ C0.out).mono ?_
  rintro e w1 ⟨rfl, hc, hb⟩
  have A1 := Lib.hid (A0.out.trans (Below.mono hb A0.out.size)); have K1 := Lib.hid (K0.out.below hb); have X1 := Lib.hid (X0.out.below hb); have C1 := Lib.hid hc
  clear hc hb A0 K0 C0 X0
  obtain ⟨t0, t1, t2, t3, t4, t5, t6, t7, t8, t9⟩ := K1.out.cells10
  have f0 := K1.out.froz 0; have f1 := K1.out.froz 1; have f2 := K1.out.froz 2; have f3 := K1.out.froz 3; have f4 := K1.out.froz 4; have f5 := K1.out.froz 5; have f6 := K1.out.froz 6; have f7 := K1.out.froz 7; have f8 := K1.out.froz 8; have f9 := K1.out.froz 9; have l0 := K1.out.lt
  go_upto_region 2 with (fail)
  obtain ⟨X, hX⟩ : ∃ X, X = st10 w1 w.heap.size (.int .i64 c1.cap) (.bool c1.cl) (.int .i64 c1.rc) (.int .i64 c1.rf) (.slice q1.za q1.zn q1.zc) (.int .i64 c1.rk) (.int .i64 c1.sent) (.int .i64 c1.got) (.slice q1.sa q1.sn q1.sc) (.slice q1.ra q1.rn q1.rq) := ⟨_, rfl⟩
  have GX := Lib.hid (show w1.grownBy X (some w.heap.size) by rw [hX]; exact grown_st10 (World.grownBy.refl _ _) (.int .i64 c1.cap) (.bool c1.cl) (.int .i64 c1.rc) (.int .i64 c1.rf) (.slice q1.za q1.zn q1.zc) (.int .i64 c1.rk) (.int .i64 c1.sent) (.int .i64 c1.got) (.slice q1.sa q1.sn q1.sc) (.slice q1.ra q1.rn q1.rq))
  have K4_0 := Lib.hid (show Bx X w.heap.size (chC c1 q1) 27 by rw [hX]; exact K1.out.st10 (.int .i64 c1.cap) (.bool c1.cl) (.int .i64 c1.rc) (.int .i64 c1.rf) (.slice q1.za q1.zn q1.zc) (.int .i64 c1.rk) (.int .i64 c1.sent) (.int .i64 c1.got) (.slice q1.sa q1.sn q1.sc) (.slice q1.ra q1.rn q1.rq))
  have A_0 := Lib.hid (show Below w.heap.size w X by rw [hX]; exact below_st10 A1.out (Nat.le_refl _) (.int .i64 c1.cap) (.bool c1.cl) (.int .i64 c1.rc) (.int .i64 c1.rf) (.slice q1.za q1.zn q1.zc) (.int .i64 c1.rk) (.int .i64 c1.sent) (.int .i64 c1.got) (.slice q1.sa q1.sn q1.sc) (.slice q1.ra q1.rn q1.rq))
  have C1_0 := Lib.hid (C1.out.other AP1.out GX.out)
  have KX_0 := Lib.hid (X1.out.other GX.out (fun e => by have := Option.some.inj e; omega))
  have hx1 := hX.symm
  simp only [st10] at hx1
  rw [hx1]
  obtain ⟨b5, hb5⟩ : ∃ b, b = w.heap.size + 1 := ⟨_, rfl⟩
  rw [← hb5] at KX_0 ⊢
  obtain ⟨b4, hb4⟩ : ∃ b, b = w.heap.size := ⟨_, rfl⟩
  rw [← hb4] at K4_0 ⊢
  clear hx1 hX hb4 hb5 t0 t1 t2 t3 t4 t5 t6 t7 t8 t9 f0 f1 f2 f3 f4 f5 f6 f7 f8 f9 l0 K1 A1 C1 GX X1
  obtain ⟨t0, t1, t2, t3, t4, t5, t6, t7, t8, t9⟩ := K4_0.out.cells10
  have lt := K4_0.out.lt
  obtain ⟨y0, y1, y2⟩ := KX_0.out.cells3
  have ly := KX_0.out.lt
  go_wp2_with fail
  refine (HS.out _ C1_0.out).mono ?_
  rintro e v1 ⟨qa, rfl, hc, hb⟩
  clear t0 t1 t2 t3 t4 t5 t6 t7 t8 t9 lt y0 y1 y2 ly
  have A_1 := Lib.hid (A_0.out.trans (Below.mono hb A_0.out.size))
  have K4_1 := Lib.hid (K4_0.out.below hb)
  have C1_1 := Lib.hid (C1_0.out.below hb)
  have KX_1 := Lib.hid (KX_0.out.below hb)
  clear A_0 K4_0 C1_0 KX_0
  have CA_1 := Lib.hid (hc)
  clear hb hc
  have hbx := (below_alloc v1 (.cells (chC zeroC qa) 27)).alloc (by simp) (.cells (outC zeroO) 50)
  have A_2 := Lib.hid (A_1.out.trans (Below.mono hbx A_1.out.size))
  have K4_2 := Lib.hid (K4_1.out.below hbx)
  have C1_2 := Lib.hid (C1_1.out.below hbx)
  have KX_2 := Lib.hid (KX_1.out.below hbx)
  have CA_2 := Lib.hid (CA_1.out.below hbx)
  clear A_1 K4_1 C1_1 KX_1 CA_1
  have Na_2 := Lib.hid ((Bx.new v1 (chC zeroC qa) 27).below (below_alloc _ (.cells (outC zeroO) 50)))
  have No_2 := Lib.hid (Bx.new2 v1 (.cells (chC zeroC qa) 27) (outC zeroO) 50)
  go_upto_region 3 with (fail)
  obtain ⟨Xa, hXa⟩ : ∃ X, X = (v1.alloc (.cells (chC zeroC qa) 27)).alloc (.cells (outC zeroO) 50) := ⟨_, rfl⟩
  obtain ⟨bo, hbbo⟩ : ∃ b, b = v1.heap.size + 1 := ⟨_, rfl⟩
  obtain ⟨ba, hbba⟩ : ∃ b, b = v1.heap.size := ⟨_, rfl⟩
  rw [← hXa] at A_2 K4_2 C1_2 KX_2 CA_2 Na_2 No_2 ⊢
  rw [← hbbo] at No_2 ⊢
  rw [← hbba] at Na_2 ⊢
  clear hXa hbba hbbo hbx
  obtain ⟨t0, t1, t2, t3, t4, t5, t6, t7, t8, t9⟩ := K4_2.out.cells10
  have lt := K4_2.out.lt
  obtain ⟨y0, y1, y2⟩ := KX_2.out.cells3
  have ly := KX_2.out.lt
  go_wp2_with fail
  refine (HR.out _ C1_2.out).mono ?_
  rintro e v3 ⟨qb, rfl, hc, hb⟩
  clear t0 t1 t2 t3 t4 t5 t6 t7 t8 t9 lt y0 y1 y2 ly
  have A_3 := Lib.hid (A_2.out.trans (Below.mono hb A_2.out.size))
  have K4_3 := Lib.hid (K4_2.out.below hb)
  have C1_3 := Lib.hid (C1_2.out.below hb)
  have KX_3 := Lib.hid (KX_2.out.below hb)
  have CA_3 := Lib.hid (CA_2.out.below hb)
  have Na_3 := Lib.hid (Na_2.out.below hb)
  have No_3 := Lib.hid (No_2.out.below hb)
  clear A_2 K4_2 C1_2 KX_2 CA_2 Na_2 No_2
  have CB_3 := Lib.hid (hc)
  clear hb hc
  have hbx := (below_alloc v3 (.cells (chC zeroC qb) 27)).alloc (by simp) (.cells (outC zeroO) 50)
  have A_4 := Lib.hid (A_3.out.trans (Below.mono hbx A_3.out.size))
  have K4_4 := Lib.hid (K4_3.out.below hbx)
  have C1_4 := Lib.hid (C1_3.out.below hbx)
  have KX_4 := Lib.hid (KX_3.out.below hbx)
  have CA_4 := Lib.hid (CA_3.out.below hbx)
  have Na_4 := Lib.hid (Na_3.out.below hbx)
  have No_4 := Lib.hid (No_3.out.below hbx)
  have CB_4 := Lib.hid (CB_3.out.below hbx)
  clear A_3 K4_3 C1_3 KX_3 CA_3 Na_3 No_3 CB_3
  have Nb_4 := Lib.hid ((Bx.new v3 (chC zeroC qb) 27).below (below_alloc _ (.cells (outC zeroO) 50)))
  have Np_4 := Lib.hid (Bx.new2 v3 (.cells (chC zeroC qb) 27) (outC zeroO) 50)
  go_upto_region 4 with (fail)
  obtain ⟨Xb, hXb⟩ : ∃ X, X = (v3.alloc (.cells (chC zeroC qb) 27)).alloc (.cells (outC zeroO) 50) := ⟨_, rfl⟩
  obtain ⟨bp, hbbp⟩ : ∃ b, b = v3.heap.size + 1 := ⟨_, rfl⟩
  obtain ⟨bb, hbbb⟩ : ∃ b, b = v3.heap.size := ⟨_, rfl⟩
  rw [← hXb] at A_4 K4_4 C1_4 KX_4 CA_4 Na_4 No_4 CB_4 Nb_4 Np_4 ⊢
  rw [← hbbp] at Np_4 ⊢
  rw [← hbbb] at Nb_4 ⊢
  clear hXb hbbb hbbp hbx
  have hbx := below_alloc Xb (.cells #[.int .i64 0, .int .i64 0, .int .i64 0, .int .i64 0, .int .i64 0, .int .i64 0] 50)
  have A_5 := Lib.hid (A_4.out.trans (Below.mono hbx A_4.out.size))
  have K4_5 := Lib.hid (K4_4.out.below hbx)
  have C1_5 := Lib.hid (C1_4.out.below hbx)
  have KX_5 := Lib.hid (KX_4.out.below hbx)
  have CA_5 := Lib.hid (CA_4.out.below hbx)
  have Na_5 := Lib.hid (Na_4.out.below hbx)
  have No_5 := Lib.hid (No_4.out.below hbx)
  have CB_5 := Lib.hid (CB_4.out.below hbx)
  have Nb_5 := Lib.hid (Nb_4.out.below hbx)
  have Np_5 := Lib.hid (Np_4.out.below hbx)
  clear A_4 K4_4 C1_4 KX_4 CA_4 Na_4 No_4 CB_4 Nb_4 Np_4
  have Nz_5 := Lib.hid (Bx.new Xb #[.int .i64 0, .int .i64 0, .int .i64 0, .int .i64 0, .int .i64 0, .int .i64 0] 50)
  go_upto_region 5 with (fail)
  obtain ⟨Xz, hXz⟩ : ∃ X, X = Xb.alloc (.cells #[.int .i64 0, .int .i64 0, .int .i64 0, .int .i64 0, .int .i64 0, .int .i64 0] 50) := ⟨_, rfl⟩
  obtain ⟨bz, hbbz⟩ : ∃ b, b = Xb.heap.size := ⟨_, rfl⟩
  rw [← hXz] at A_5 K4_5 C1_5 KX_5 CA_5 Na_5 No_5 CB_5 Nb_5 Np_5 Nz_5 ⊢
  rw [← hbbz] at Nz_5 ⊢
  clear hXz hbbz hbx
  obtain ⟨t0, t1, t2, t3, t4, t5, t6, t7, t8, t9⟩ := K4_5.out.cells10
  have lt := K4_5.out.lt
  go_wp2_with fail
  refine (HRR.out _ C1_5.out).mono ?_
  rintro e v6 ⟨rfl, hb⟩
  clear t0 t1 t2 t3 t4 t5 t6 t7 t8 t9 lt
  have A_6 := Lib.hid (A_5.out.trans (Below.mono hb A_5.out.size))
  have K4_6 := Lib.hid (K4_5.out.below hb)
  have C1_6 := Lib.hid (C1_5.out.below hb)
  have KX_6 := Lib.hid (KX_5.out.below hb)
  have CA_6 := Lib.hid (CA_5.out.below hb)
  have Na_6 := Lib.hid (Na_5.out.below hb)
  have No_6 := Lib.hid (No_5.out.below hb)
  have CB_6 := Lib.hid (CB_5.out.below hb)
  have Nb_6 := Lib.hid (Nb_5.out.below hb)
  have Np_6 := Lib.hid (Np_5.out.below hb)
  have Nz_6 := Lib.hid (Nz_5.out.below hb)
  clear A_5 K4_5 C1_5 KX_5 CA_5 Na_5 No_5 CB_5 Nb_5 Np_5 Nz_5
  clear hb
  obtain ⟨y0, y1, y2⟩ := KX_6.out.cells3
  have ly := KX_6.out.lt
  go_wp2_with fail
  refine (HM.out _).mono ?_
  rintro e v7 ⟨rfl, hb⟩
  clear y0 y1 y2 ly
  have A_7 := Lib.hid (A_6.out.trans (Below.mono hb A_6.out.size))
  have K4_7 := Lib.hid (K4_6.out.below hb)
  have C1_7 := Lib.hid (C1_6.out.below hb)
  have KX_7 := Lib.hid (KX_6.out.below hb)
  have CA_7 := Lib.hid (CA_6.out.below hb)
  have Na_7 := Lib.hid (Na_6.out.below hb)
  have No_7 := Lib.hid (No_6.out.below hb)
  have CB_7 := Lib.hid (CB_6.out.below hb)
  have Nb_7 := Lib.hid (Nb_6.out.below hb)
  have Np_7 := Lib.hid (Np_6.out.below hb)
  have Nz_7 := Lib.hid (Nz_6.out.below hb)
  clear A_6 K4_6 C1_6 KX_6 CA_6 Na_6 No_6 CB_6 Nb_6 Np_6 Nz_6
  clear hb
  go_wp2_with fail
  refine (alive_any _).mono ?_
  rintro e v8 ⟨rfl, hb⟩
  have A_8 := Lib.hid (A_7.out.trans (Below.mono hb A_7.out.size))
  have K4_8 := Lib.hid (K4_7.out.below hb)
  have C1_8 := Lib.hid (C1_7.out.below hb)
  have KX_8 := Lib.hid (KX_7.out.below hb)
  have CA_8 := Lib.hid (CA_7.out.below hb)
  have Na_8 := Lib.hid (Na_7.out.below hb)
  have No_8 := Lib.hid (No_7.out.below hb)
  have CB_8 := Lib.hid (CB_7.out.below hb)
  have Nb_8 := Lib.hid (Nb_7.out.below hb)
  have Np_8 := Lib.hid (Np_7.out.below hb)
  have Nz_8 := Lib.hid (Nz_7.out.below hb)
  clear A_7 K4_7 C1_7 KX_7 CA_7 Na_7 No_7 CB_7 Nb_7 Np_7 Nz_7
  clear hb
  obtain ⟨m0, m1, m2, m3, m4, m5⟩ := No_8.out.cells6
  have lm := No_8.out.lt
  obtain ⟨n0, n1, n2, n3, n4, n5⟩ := Np_8.out.cells6
  have ln := Np_8.out.lt
  obtain ⟨s0, s1, s2, s3, s4, s5⟩ := Nz_8.out.cells6
  have ls := Nz_8.out.lt
  obtain ⟨t0, t1, t2, t3, t4, t5, t6, t7, t8, t9⟩ := Na_8.out.cells10
  have lt := Na_8.out.lt
  go_wp2_with fail
  refine (empty_zero qa _ CA_8.out).mono ?_
  rintro e v9 ⟨rfl, hb⟩
  clear m0 m1 m2 m3 m4 m5 lm n0 n1 n2 n3 n4 n5 ln s0 s1 s2 s3 s4 s5 ls t0 t1 t2 t3 t4 t5 t6 t7 t8 t9 lt
  have A_9 := Lib.hid (A_8.out.trans (Below.mono hb A_8.out.size))
  have K4_9 := Lib.hid (K4_8.out.below hb)
  have C1_9 := Lib.hid (C1_8.out.below hb)
  have KX_9 := Lib.hid (KX_8.out.below hb)
  have CA_9 := Lib.hid (CA_8.out.below hb)
  have Na_9 := Lib.hid (Na_8.out.below hb)
  have No_9 := Lib.hid (No_8.out.below hb)
  have CB_9 := Lib.hid (CB_8.out.below hb)
  have Nb_9 := Lib.hid (Nb_8.out.below hb)
  have Np_9 := Lib.hid (Np_8.out.below hb)
  have Nz_9 := Lib.hid (Nz_8.out.below hb)
  clear A_8 K4_8 C1_8 KX_8 CA_8 Na_8 No_8 CB_8 Nb_8 Np_8 Nz_8
  clear hb
  obtain ⟨t0, t1, t2, t3, t4, t5, t6, t7, t8, t9⟩ := Nb_9.out.cells10
  have lt := Nb_9.out.lt
  go_wp2_with fail
  refine (empty_zero qb _ CB_9.out).mono ?_
  rintro e v10 ⟨rfl, hb⟩
  clear t0 t1 t2 t3 t4 t5 t6 t7 t8 t9 lt
  have A_10 := Lib.hid (A_9.out.trans (Below.mono hb A_9.out.size))
  have K4_10 := Lib.hid (K4_9.out.below hb)
  have C1_10 := Lib.hid (C1_9.out.below hb)
  have KX_10 := Lib.hid (KX_9.out.below hb)
  have CA_10 := Lib.hid (CA_9.out.below hb)
  have Na_10 := Lib.hid (Na_9.out.below hb)
  have No_10 := Lib.hid (No_9.out.below hb)
  have CB_10 := Lib.hid (CB_9.out.below hb)
  have Nb_10 := Lib.hid (Nb_9.out.below hb)
  have Np_10 := Lib.hid (Np_9.out.below hb)
  have Nz_10 := Lib.hid (Nz_9.out.below hb)
  clear A_9 K4_9 C1_9 KX_9 CA_9 Na_9 No_9 CB_9 Nb_9 Np_9 Nz_9
  clear hb
  go_wp2_with fail
  go_ret
  exact ⟨rfl, A_10.out⟩
end Go.Proofs.Ytfolhgpbplfilaa
namespace Go.Proofs.Ytfolhgpbplfilaa
open Go.RowKit
set_option linter.unusedSimpArgs false
set_option linter.unusedVariables false
set_option maxRecDepth 100000 in
set_option maxHeartbeats 8000000 in
theorem pass_00 (c : Chn) (q : CAt) (x : Wt) (w : World) (h : Cha w c q) (hx : WtOk x) (hr : rightC (fewC c) = true) (hmy : mayW x = true) (a ra : Chn) (o : Out) (e1 : Int) (b rb : Chn) (p : Out) (e2 : Int)
    (HS0 : ∀ W, Cha W (fewC c) (fewAt q) → Calls Try.prog 22 #[chV (fewC c) (fewAt q), wV x] W (GotP W a o e1)) (HR0 : ∀ W, Cha W (fewC c) (fewAt q) → Calls Try.prog 23 #[chV (fewC c) (fewAt q), wV x] W (GotP W b p e2))
    (HQ0 : ∀ W, Cha W (fewC c) (fewAt q) → Calls Try.prog 25 #[chV (fewC c) (fewAt q), wV x] W (GotQ W ra o e1)) (HU0 : ∀ W, Cha W (fewC c) (fewAt q) → Calls Try.prog 26 #[chV (fewC c) (fewAt q), wV x] W (GotQ W rb p e2))
    (ha : e1 = 0 ∧ SameC a ra) (hb0 : e2 = 0 ∧ SameC b rb) : Calls Try.prog 4 #[chV c q, wV x] w (Says w) := by
  have HFW := Lib.hid (fun W (H : Cha W c q) => few_any c q W H)
  unfold GotC at HFW
  obtain ⟨c1, hc1⟩ : ∃ c1, c1 = fewC c := ⟨_, rfl⟩
  obtain ⟨q1, hq1⟩ : ∃ q1, q1 = fewAt q := ⟨_, rfl⟩
  have AP1 := Lib.hid (show Ap q1 w.heap.size by rw [hq1]; exact (few_cha h).ap (Nat.le_refl _))
  rw [← hc1, ← hq1] at HFW
  rw [← hc1] at hr HS0 HR0 HQ0 HU0
  rw [← hq1] at HS0 HR0 HQ0 HU0
  have HRR := Lib.hid (fun W (H : Cha W c1 q1) => refRight_c c1 q1 W H)
  rw [hr] at HRR
  have HM := Lib.hid (fun W => refMay_any x W hx)
  rw [hmy] at HM
  have HS := Lib.hid HS0; have HR := Lib.hid HR0; have HQ := Lib.hid HQ0; have HU := Lib.hid HU0
  unfold GotP at HS HR
  unfold GotQ at HQ HU
  clear hr hmy HS0 HR0 HQ0 HU0
  obtain ⟨rfl, hs1⟩ := ha
  have HS1 := Lib.hid (fun W qa qb (H : Cha W a qa) (H2 : Cha W ra qb) => CSame_yes a ra qa qb W H H2 hs1)
  clear hs1
  obtain ⟨rfl, hs2⟩ := hb0
  have HS2 := Lib.hid (fun W qa qb (H : Cha W b qa) (H2 : Cha W rb qb) => CSame_yes b rb qa qb W H H2 hs2)
  clear hs2
  obtain ⟨ok, on, ⟨og, oc, os⟩, ot⟩ := o
  obtain ⟨pk, pn, ⟨pg, pc, ps⟩, pt⟩ := p
  have A0 := Lib.hid ((below_alloc w (.cells (chC c q) 27)).alloc (by simp) (.cells #[.int .i64 x.g, .int .i64 x.c, .int .i64 x.s] 48)); have K0 := Lib.hid ((Bx.new w (chC c q) 27).below (below_alloc _ (.cells #[.int .i64 x.g, .int .i64 x.c, .int .i64 x.s] 48))); have X0 := Lib.hid (Bx.new2 w (.cells (chC c q) 27) #[.int .i64 x.g, .int .i64 x.c, .int .i64 x.s] 48); have C0 := Lib.hid (h.below A0.out)
  clear hc1 hq1 h
  go_enter Try.func4, Try.ntmps4
  go_wp2_with fail
  refine (HFW.out _ C0.out).mono ?_
  rintro e w1 ⟨rfl, hc, hb⟩
  have A1 := Lib.hid (A0.out.trans (Below.mono hb A0.out.size)); have K1 := Lib.hid (K0.out.below hb); have X1 := Lib.hid (X0.out.below hb); have C1 := Lib.hid hc
  clear hc hb A0 K0 C0 X0
  obtain ⟨t0, t1, t2, t3, t4, t5, t6, t7, t8, t9⟩ := K1.out.cells10
  have f0 := K1.out.froz 0; have f1 := K1.out.froz 1; have f2 := K1.out.froz 2; have f3 := K1.out.froz 3; have f4 := K1.out.froz 4; have f5 := K1.out.froz 5; have f6 := K1.out.froz 6; have f7 := K1.out.froz 7; have f8 := K1.out.froz 8; have f9 := K1.out.froz 9; have l0 := K1.out.lt
  go_upto_region 2 with (fail)
  obtain ⟨X, hX⟩ : ∃ X, X = st10 w1 w.heap.size (.int .i64 c1.cap) (.bool c1.cl) (.int .i64 c1.rc) (.int .i64 c1.rf) (.slice q1.za q1.zn q1.zc) (.int .i64 c1.rk) (.int .i64 c1.sent) (.int .i64 c1.got) (.slice q1.sa q1.sn q1.sc) (.slice q1.ra q1.rn q1.rq) := ⟨_, rfl⟩
  have GX := Lib.hid (show w1.grownBy X (some w.heap.size) by rw [hX]; exact grown_st10 (World.grownBy.refl _ _) (.int .i64 c1.cap) (.bool c1.cl) (.int .i64 c1.rc) (.int .i64 c1.rf) (.slice q1.za q1.zn q1.zc) (.int .i64 c1.rk) (.int .i64 c1.sent) (.int .i64 c1.got) (.slice q1.sa q1.sn q1.sc) (.slice q1.ra q1.rn q1.rq))
  have K4_0 := Lib.hid (show Bx X w.heap.size (chC c1 q1) 27 by rw [hX]; exact K1.out.st10 (.int .i64 c1.cap) (.bool c1.cl) (.int .i64 c1.rc) (.int .i64 c1.rf) (.slice q1.za q1.zn q1.zc) (.int .i64 c1.rk) (.int .i64 c1.sent) (.int .i64 c1.got) (.slice q1.sa q1.sn q1.sc) (.slice q1.ra q1.rn q1.rq))
  have A_0 := Lib.hid (show Below w.heap.size w X by rw [hX]; exact below_st10 A1.out (Nat.le_refl _) (.int .i64 c1.cap) (.bool c1.cl) (.int .i64 c1.rc) (.int .i64 c1.rf) (.slice q1.za q1.zn q1.zc) (.int .i64 c1.rk) (.int .i64 c1.sent) (.int .i64 c1.got) (.slice q1.sa q1.sn q1.sc) (.slice q1.ra q1.rn q1.rq))
  have C1_0 := Lib.hid (C1.out.other AP1.out GX.out)
  have KX_0 := Lib.hid (X1.out.other GX.out (fun e => by have := Option.some.inj e; omega))
  have hx1 := hX.symm
  simp only [st10] at hx1
  rw [hx1]
  obtain ⟨b5, hb5⟩ : ∃ b, b = w.heap.size + 1 := ⟨_, rfl⟩
  rw [← hb5] at KX_0 ⊢
  obtain ⟨b4, hb4⟩ : ∃ b, b = w.heap.size := ⟨_, rfl⟩
  rw [← hb4] at K4_0 ⊢
  clear hx1 hX hb4 hb5 t0 t1 t2 t3 t4 t5 t6 t7 t8 t9 f0 f1 f2 f3 f4 f5 f6 f7 f8 f9 l0 K1 A1 C1 GX X1
  obtain ⟨t0, t1, t2, t3, t4, t5, t6, t7, t8, t9⟩ := K4_0.out.cells10
  have lt := K4_0.out.lt
  obtain ⟨y0, y1, y2⟩ := KX_0.out.cells3
  have ly := KX_0.out.lt
  go_wp2_with fail
  refine (HS.out _ C1_0.out).mono ?_
  rintro e v1 ⟨qa, rfl, hc, hfr, hb⟩
  clear t0 t1 t2 t3 t4 t5 t6 t7 t8 t9 lt y0 y1 y2 ly
  have A_1 := Lib.hid (A_0.out.trans (Below.mono hb A_0.out.size))
  have K4_1 := Lib.hid (K4_0.out.below hb)
  have C1_1 := Lib.hid (C1_0.out.below hb)
  have KX_1 := Lib.hid (KX_0.out.below hb)
  clear A_0 K4_0 C1_0 KX_0
  have CA_1 := Lib.hid (hc)
  clear hb hc
  clear hfr
  have hbx := (below_alloc v1 (.cells (chC a qa) 27)).alloc (by simp) (.cells (outC ⟨ok, on, ⟨og, oc, os⟩, ot⟩) 50)
  have A_2 := Lib.hid (A_1.out.trans (Below.mono hbx A_1.out.size))
  have K4_2 := Lib.hid (K4_1.out.below hbx)
  have C1_2 := Lib.hid (C1_1.out.below hbx)
  have KX_2 := Lib.hid (KX_1.out.below hbx)
  have CA_2 := Lib.hid (CA_1.out.below hbx)
  clear A_1 K4_1 C1_1 KX_1 CA_1
  have Na_2 := Lib.hid ((Bx.new v1 (chC a qa) 27).below (below_alloc _ (.cells (outC ⟨ok, on, ⟨og, oc, os⟩, ot⟩) 50)))
  have No_2 := Lib.hid (Bx.new2 v1 (.cells (chC a qa) 27) (outC ⟨ok, on, ⟨og, oc, os⟩, ot⟩) 50)
  go_upto_region 3 with (fail)
  obtain ⟨Xa, hXa⟩ : ∃ X, X = (v1.alloc (.cells (chC a qa) 27)).alloc (.cells (outC ⟨ok, on, ⟨og, oc, os⟩, ot⟩) 50) := ⟨_, rfl⟩
  obtain ⟨bo, hbbo⟩ : ∃ b, b = v1.heap.size + 1 := ⟨_, rfl⟩
  obtain ⟨ba, hbba⟩ : ∃ b, b = v1.heap.size := ⟨_, rfl⟩
  rw [← hXa] at A_2 K4_2 C1_2 KX_2 CA_2 Na_2 No_2 ⊢
  rw [← hbbo] at No_2 ⊢
  rw [← hbba] at Na_2 ⊢
  clear hXa hbba hbbo hbx
  obtain ⟨t0, t1, t2, t3, t4, t5, t6, t7, t8, t9⟩ := K4_2.out.cells10
  have lt := K4_2.out.lt
  obtain ⟨y0, y1, y2⟩ := KX_2.out.cells3
  have ly := KX_2.out.lt
  go_wp2_with fail
  refine (HR.out _ C1_2.out).mono ?_
  rintro e v3 ⟨qb, rfl, hc, hfr, hb⟩
  clear t0 t1 t2 t3 t4 t5 t6 t7 t8 t9 lt y0 y1 y2 ly
  have A_3 := Lib.hid (A_2.out.trans (Below.mono hb A_2.out.size))
  have K4_3 := Lib.hid (K4_2.out.below hb)
  have C1_3 := Lib.hid (C1_2.out.below hb)
  have KX_3 := Lib.hid (KX_2.out.below hb)
  have CA_3 := Lib.hid (CA_2.out.below hb)
  have Na_3 := Lib.hid (Na_2.out.below hb)
  have No_3 := Lib.hid (No_2.out.below hb)
  clear A_2 K4_2 C1_2 KX_2 CA_2 Na_2 No_2
  have CB_3 := Lib.hid (hc)
  clear hb hc
  clear hfr
  have hbx := (below_alloc v3 (.cells (chC b qb) 27)).alloc (by simp) (.cells (outC ⟨pk, pn, ⟨pg, pc, ps⟩, pt⟩) 50)
  have A_4 := Lib.hid (A_3.out.trans (Below.mono hbx A_3.out.size))
  have K4_4 := Lib.hid (K4_3.out.below hbx)
  have C1_4 := Lib.hid (C1_3.out.below hbx)
  have KX_4 := Lib.hid (KX_3.out.below hbx)
  have CA_4 := Lib.hid (CA_3.out.below hbx)
  have Na_4 := Lib.hid (Na_3.out.below hbx)
  have No_4 := Lib.hid (No_3.out.below hbx)
  have CB_4 := Lib.hid (CB_3.out.below hbx)
  clear A_3 K4_3 C1_3 KX_3 CA_3 Na_3 No_3 CB_3
  have Nb_4 := Lib.hid ((Bx.new v3 (chC b qb) 27).below (below_alloc _ (.cells (outC ⟨pk, pn, ⟨pg, pc, ps⟩, pt⟩) 50)))
  have Np_4 := Lib.hid (Bx.new2 v3 (.cells (chC b qb) 27) (outC ⟨pk, pn, ⟨pg, pc, ps⟩, pt⟩) 50)
  go_upto_region 4 with (fail)
  obtain ⟨Xb, hXb⟩ : ∃ X, X = (v3.alloc (.cells (chC b qb) 27)).alloc (.cells (outC ⟨pk, pn, ⟨pg, pc, ps⟩, pt⟩) 50) := ⟨_, rfl⟩
  obtain ⟨bp, hbbp⟩ : ∃ b, b = v3.heap.size + 1 := ⟨_, rfl⟩
  obtain ⟨bb, hbbb⟩ : ∃ b, b = v3.heap.size := ⟨_, rfl⟩
  rw [← hXb] at A_4 K4_4 C1_4 KX_4 CA_4 Na_4 No_4 CB_4 Nb_4 Np_4 ⊢
  rw [← hbbp] at Np_4 ⊢
  rw [← hbbb] at Nb_4 ⊢
  clear hXb hbbb hbbp hbx
  have hbx := below_alloc Xb (.cells #[.int .i64 0, .int .i64 0, .int .i64 0, .int .i64 0, .int .i64 0, .int .i64 0] 50)
  have A_5 := Lib.hid (A_4.out.trans (Below.mono hbx A_4.out.size))
  have K4_5 := Lib.hid (K4_4.out.below hbx)
  have C1_5 := Lib.hid (C1_4.out.below hbx)
  have KX_5 := Lib.hid (KX_4.out.below hbx)
  have CA_5 := Lib.hid (CA_4.out.below hbx)
  have Na_5 := Lib.hid (Na_4.out.below hbx)
  have No_5 := Lib.hid (No_4.out.below hbx)
  have CB_5 := Lib.hid (CB_4.out.below hbx)
  have Nb_5 := Lib.hid (Nb_4.out.below hbx)
  have Np_5 := Lib.hid (Np_4.out.below hbx)
  clear A_4 K4_4 C1_4 KX_4 CA_4 Na_4 No_4 CB_4 Nb_4 Np_4
  have Nz_5 := Lib.hid (Bx.new Xb #[.int .i64 0, .int .i64 0, .int .i64 0, .int .i64 0, .int .i64 0, .int .i64 0] 50)
  go_upto_region 5 with (fail)
  obtain ⟨Xz, hXz⟩ : ∃ X, X = Xb.alloc (.cells #[.int .i64 0, .int .i64 0, .int .i64 0, .int .i64 0, .int .i64 0, .int .i64 0] 50) := ⟨_, rfl⟩
  obtain ⟨bz, hbbz⟩ : ∃ b, b = Xb.heap.size := ⟨_, rfl⟩
  rw [← hXz] at A_5 K4_5 C1_5 KX_5 CA_5 Na_5 No_5 CB_5 Nb_5 Np_5 Nz_5 ⊢
  rw [← hbbz] at Nz_5 ⊢
  clear hXz hbbz hbx
  obtain ⟨t0, t1, t2, t3, t4, t5, t6, t7, t8, t9⟩ := K4_5.out.cells10
  have lt := K4_5.out.lt
  go_wp2_with fail
  refine (HRR.out _ C1_5.out).mono ?_
  rintro e v6 ⟨rfl, hb⟩
  clear t0 t1 t2 t3 t4 t5 t6 t7 t8 t9 lt
  have A_6 := Lib.hid (A_5.out.trans (Below.mono hb A_5.out.size))
  have K4_6 := Lib.hid (K4_5.out.below hb)
  have C1_6 := Lib.hid (C1_5.out.below hb)
  have KX_6 := Lib.hid (KX_5.out.below hb)
  have CA_6 := Lib.hid (CA_5.out.below hb)
  have Na_6 := Lib.hid (Na_5.out.below hb)
  have No_6 := Lib.hid (No_5.out.below hb)
  have CB_6 := Lib.hid (CB_5.out.below hb)
  have Nb_6 := Lib.hid (Nb_5.out.below hb)
  have Np_6 := Lib.hid (Np_5.out.below hb)
  have Nz_6 := Lib.hid (Nz_5.out.below hb)
  clear A_5 K4_5 C1_5 KX_5 CA_5 Na_5 No_5 CB_5 Nb_5 Np_5 Nz_5
  clear hb
  obtain ⟨y0, y1, y2⟩ := KX_6.out.cells3
  have ly := KX_6.out.lt
  go_wp2_with fail
  refine (HM.out _).mono ?_
  rintro e v7 ⟨rfl, hb⟩
  clear y0 y1 y2 ly
  have A_7 := Lib.hid (A_6.out.trans (Below.mono hb A_6.out.size))
  have K4_7 := Lib.hid (K4_6.out.below hb)
  have C1_7 := Lib.hid (C1_6.out.below hb)
  have KX_7 := Lib.hid (KX_6.out.below hb)
  have CA_7 := Lib.hid (CA_6.out.below hb)
  have Na_7 := Lib.hid (Na_6.out.below hb)
  have No_7 := Lib.hid (No_6.out.below hb)
  have CB_7 := Lib.hid (CB_6.out.below hb)
  have Nb_7 := Lib.hid (Nb_6.out.below hb)
  have Np_7 := Lib.hid (Np_6.out.below hb)
  have Nz_7 := Lib.hid (Nz_6.out.below hb)
  clear A_6 K4_6 C1_6 KX_6 CA_6 Na_6 No_6 CB_6 Nb_6 Np_6 Nz_6
  clear hb
  obtain ⟨t0, t1, t2, t3, t4, t5, t6, t7, t8, t9⟩ := K4_7.out.cells10
  have lt := K4_7.out.lt
  obtain ⟨y0, y1, y2⟩ := KX_7.out.cells3
  have ly := KX_7.out.lt
  go_wp2_with fail
  refine (HQ.out _ C1_7.out).mono ?_
  rintro e v8 ⟨qx, rfl, hc, hb⟩
  clear t0 t1 t2 t3 t4 t5 t6 t7 t8 t9 lt y0 y1 y2 ly
  have A_8 := Lib.hid (A_7.out.trans (Below.mono hb A_7.out.size))
  have K4_8 := Lib.hid (K4_7.out.below hb)
  have C1_8 := Lib.hid (C1_7.out.below hb)
  have KX_8 := Lib.hid (KX_7.out.below hb)
  have CA_8 := Lib.hid (CA_7.out.below hb)
  have Na_8 := Lib.hid (Na_7.out.below hb)
  have No_8 := Lib.hid (No_7.out.below hb)
  have CB_8 := Lib.hid (CB_7.out.below hb)
  have Nb_8 := Lib.hid (Nb_7.out.below hb)
  have Np_8 := Lib.hid (Np_7.out.below hb)
  have Nz_8 := Lib.hid (Nz_7.out.below hb)
  clear A_7 K4_7 C1_7 KX_7 CA_7 Na_7 No_7 CB_7 Nb_7 Np_7 Nz_7
  have CX_8 := Lib.hid (hc)
  clear hb hc
  have hbx := (below_alloc v8 (.cells (chC ra qx) 27)).alloc (by simp) (.cells (outC ⟨ok, on, ⟨og, oc, os⟩, ot⟩) 50)
  have A_9 := Lib.hid (A_8.out.trans (Below.mono hbx A_8.out.size))
  have K4_9 := Lib.hid (K4_8.out.below hbx)
  have C1_9 := Lib.hid (C1_8.out.below hbx)
  have KX_9 := Lib.hid (KX_8.out.below hbx)
  have CA_9 := Lib.hid (CA_8.out.below hbx)
  have Na_9 := Lib.hid (Na_8.out.below hbx)
  have No_9 := Lib.hid (No_8.out.below hbx)
  have CB_9 := Lib.hid (CB_8.out.below hbx)
  have Nb_9 := Lib.hid (Nb_8.out.below hbx)
  have Np_9 := Lib.hid (Np_8.out.below hbx)
  have Nz_9 := Lib.hid (Nz_8.out.below hbx)
  have CX_9 := Lib.hid (CX_8.out.below hbx)
  clear A_8 K4_8 C1_8 KX_8 CA_8 Na_8 No_8 CB_8 Nb_8 Np_8 Nz_8 CX_8
  have Nx_9 := Lib.hid ((Bx.new v8 (chC ra qx) 27).below (below_alloc _ (.cells (outC ⟨ok, on, ⟨og, oc, os⟩, ot⟩) 50)))
  have Nr_9 := Lib.hid (Bx.new2 v8 (.cells (chC ra qx) 27) (outC ⟨ok, on, ⟨og, oc, os⟩, ot⟩) 50)
  go_upto_region 8 with (fail)
  obtain ⟨Xx, hXx⟩ : ∃ X, X = (v8.alloc (.cells (chC ra qx) 27)).alloc (.cells (outC ⟨ok, on, ⟨og, oc, os⟩, ot⟩) 50) := ⟨_, rfl⟩
  obtain ⟨br, hbbr⟩ : ∃ b, b = v8.heap.size + 1 := ⟨_, rfl⟩
  obtain ⟨bx, hbbx⟩ : ∃ b, b = v8.heap.size := ⟨_, rfl⟩
  rw [← hXx] at A_9 K4_9 C1_9 KX_9 CA_9 Na_9 No_9 CB_9 Nb_9 Np_9 Nz_9 CX_9 Nx_9 Nr_9 ⊢
  rw [← hbbr] at Nr_9 ⊢
  rw [← hbbx] at Nx_9 ⊢
  clear hXx hbbx hbbr hbx
  obtain ⟨t0, t1, t2, t3, t4, t5, t6, t7, t8, t9⟩ := K4_9.out.cells10
  have lt := K4_9.out.lt
  obtain ⟨y0, y1, y2⟩ := KX_9.out.cells3
  have ly := KX_9.out.lt
  go_wp2_with fail
  refine (HU.out _ C1_9.out).mono ?_
  rintro e v10 ⟨qy, rfl, hc, hb⟩
  clear t0 t1 t2 t3 t4 t5 t6 t7 t8 t9 lt y0 y1 y2 ly
  have A_10 := Lib.hid (A_9.out.trans (Below.mono hb A_9.out.size))
  have K4_10 := Lib.hid (K4_9.out.below hb)
  have C1_10 := Lib.hid (C1_9.out.below hb)
  have KX_10 := Lib.hid (KX_9.out.below hb)
  have CA_10 := Lib.hid (CA_9.out.below hb)
  have Na_10 := Lib.hid (Na_9.out.below hb)
  have No_10 := Lib.hid (No_9.out.below hb)
  have CB_10 := Lib.hid (CB_9.out.below hb)
  have Nb_10 := Lib.hid (Nb_9.out.below hb)
  have Np_10 := Lib.hid (Np_9.out.below hb)
  have Nz_10 := Lib.hid (Nz_9.out.below hb)
  have CX_10 := Lib.hid (CX_9.out.below hb)
  have Nx_10 := Lib.hid (Nx_9.out.below hb)
  have Nr_10 := Lib.hid (Nr_9.out.below hb)
  clear A_9 K4_9 C1_9 KX_9 CA_9 Na_9 No_9 CB_9 Nb_9 Np_9 Nz_9 CX_9 Nx_9 Nr_9
  have CY_10 := Lib.hid (hc)
  clear hb hc
  have hbx := (below_alloc v10 (.cells (chC rb qy) 27)).alloc (by simp) (.cells (outC ⟨pk, pn, ⟨pg, pc, ps⟩, pt⟩) 50)
  have A_11 := Lib.hid (A_10.out.trans (Below.mono hbx A_10.out.size))
  have K4_11 := Lib.hid (K4_10.out.below hbx)
  have C1_11 := Lib.hid (C1_10.out.below hbx)
  have KX_11 := Lib.hid (KX_10.out.below hbx)
  have CA_11 := Lib.hid (CA_10.out.below hbx)
  have Na_11 := Lib.hid (Na_10.out.below hbx)
  have No_11 := Lib.hid (No_10.out.below hbx)
  have CB_11 := Lib.hid (CB_10.out.below hbx)
  have Nb_11 := Lib.hid (Nb_10.out.below hbx)
  have Np_11 := Lib.hid (Np_10.out.below hbx)
  have Nz_11 := Lib.hid (Nz_10.out.below hbx)
  have CX_11 := Lib.hid (CX_10.out.below hbx)
  have Nx_11 := Lib.hid (Nx_10.out.below hbx)
  have Nr_11 := Lib.hid (Nr_10.out.below hbx)
  have CY_11 := Lib.hid (CY_10.out.below hbx)
  clear A_10 K4_10 C1_10 KX_10 CA_10 Na_10 No_10 CB_10 Nb_10 Np_10 Nz_10 CX_10 Nx_10 Nr_10 CY_10
  have Nk_11 := Lib.hid ((Bx.new v10 (chC rb qy) 27).below (below_alloc _ (.cells (outC ⟨pk, pn, ⟨pg, pc, ps⟩, pt⟩) 50)))
  have Nv_11 := Lib.hid (Bx.new2 v10 (.cells (chC rb qy) 27) (outC ⟨pk, pn, ⟨pg, pc, ps⟩, pt⟩) 50)
  go_upto_region 9 with (fail)
  obtain ⟨Xk, hXk⟩ : ∃ X, X = (v10.alloc (.cells (chC rb qy) 27)).alloc (.cells (outC ⟨pk, pn, ⟨pg, pc, ps⟩, pt⟩) 50) := ⟨_, rfl⟩
  obtain ⟨bv, hbbv⟩ : ∃ b, b = v10.heap.size + 1 := ⟨_, rfl⟩
  obtain ⟨bk, hbbk⟩ : ∃ b, b = v10.heap.size := ⟨_, rfl⟩
  rw [← hXk] at A_11 K4_11 C1_11 KX_11 CA_11 Na_11 No_11 CB_11 Nb_11 Np_11 Nz_11 CX_11 Nx_11 Nr_11 CY_11 Nk_11 Nv_11 ⊢
  rw [← hbbv] at Nv_11 ⊢
  rw [← hbbk] at Nk_11 ⊢
  clear hXk hbbk hbbv hbx
  obtain ⟨m0, m1, m2, m3, m4, m5⟩ := No_11.out.cells6
  have lm := No_11.out.lt
  obtain ⟨n0, n1, n2, n3, n4, n5⟩ := Nr_11.out.cells6
  have ln := Nr_11.out.lt
  obtain ⟨s0, s1, s2, s3, s4, s5⟩ := Np_11.out.cells6
  have ls := Np_11.out.lt
  obtain ⟨u0, u1, u2, u3, u4, u5⟩ := Nv_11.out.cells6
  have lu := Nv_11.out.lt
  go_wp2_with fail
  refine (alive_any _).mono ?_
  rintro e v12 ⟨rfl, hb⟩
  clear m0 m1 m2 m3 m4 m5 lm n0 n1 n2 n3 n4 n5 ln s0 s1 s2 s3 s4 s5 ls u0 u1 u2 u3 u4 u5 lu
  have A_12 := Lib.hid (A_11.out.trans (Below.mono hb A_11.out.size))
  have K4_12 := Lib.hid (K4_11.out.below hb)
  have C1_12 := Lib.hid (C1_11.out.below hb)
  have KX_12 := Lib.hid (KX_11.out.below hb)
  have CA_12 := Lib.hid (CA_11.out.below hb)
  have Na_12 := Lib.hid (Na_11.out.below hb)
  have No_12 := Lib.hid (No_11.out.below hb)
  have CB_12 := Lib.hid (CB_11.out.below hb)
  have Nb_12 := Lib.hid (Nb_11.out.below hb)
  have Np_12 := Lib.hid (Np_11.out.below hb)
  have Nz_12 := Lib.hid (Nz_11.out.below hb)
  have CX_12 := Lib.hid (CX_11.out.below hb)
  have Nx_12 := Lib.hid (Nx_11.out.below hb)
  have Nr_12 := Lib.hid (Nr_11.out.below hb)
  have CY_12 := Lib.hid (CY_11.out.below hb)
  have Nk_12 := Lib.hid (Nk_11.out.below hb)
  have Nv_12 := Lib.hid (Nv_11.out.below hb)
  clear A_11 K4_11 C1_11 KX_11 CA_11 Na_11 No_11 CB_11 Nb_11 Np_11 Nz_11 CX_11 Nx_11 Nr_11 CY_11 Nk_11 Nv_11
  clear hb
  obtain ⟨t0, t1, t2, t3, t4, t5, t6, t7, t8, t9⟩ := Na_12.out.cells10
  have lt := Na_12.out.lt
  obtain ⟨u0, u1, u2, u3, u4, u5, u6, u7, u8, u9⟩ := Nx_12.out.cells10
  have lu := Nx_12.out.lt
  go_wp2_with fail
  refine (HS1.out _ _ _ CA_12.out CX_12.out).mono ?_
  rintro e v13 ⟨rfl, hb⟩
  clear t0 t1 t2 t3 t4 t5 t6 t7 t8 t9 lt u0 u1 u2 u3 u4 u5 u6 u7 u8 u9 lu
  have A_13 := Lib.hid (A_12.out.trans (Below.mono hb A_12.out.size))
  have K4_13 := Lib.hid (K4_12.out.below hb)
  have C1_13 := Lib.hid (C1_12.out.below hb)
  have KX_13 := Lib.hid (KX_12.out.below hb)
  have CA_13 := Lib.hid (CA_12.out.below hb)
  have Na_13 := Lib.hid (Na_12.out.below hb)
  have No_13 := Lib.hid (No_12.out.below hb)
  have CB_13 := Lib.hid (CB_12.out.below hb)
  have Nb_13 := Lib.hid (Nb_12.out.below hb)
  have Np_13 := Lib.hid (Np_12.out.below hb)
  have Nz_13 := Lib.hid (Nz_12.out.below hb)
  have CX_13 := Lib.hid (CX_12.out.below hb)
  have Nx_13 := Lib.hid (Nx_12.out.below hb)
  have Nr_13 := Lib.hid (Nr_12.out.below hb)
  have CY_13 := Lib.hid (CY_12.out.below hb)
  have Nk_13 := Lib.hid (Nk_12.out.below hb)
  have Nv_13 := Lib.hid (Nv_12.out.below hb)
  clear A_12 K4_12 C1_12 KX_12 CA_12 Na_12 No_12 CB_12 Nb_12 Np_12 Nz_12 CX_12 Nx_12 Nr_12 CY_12 Nk_12 Nv_12
  clear hb
  obtain ⟨t0, t1, t2, t3, t4, t5, t6, t7, t8, t9⟩ := Nb_13.out.cells10
  have lt := Nb_13.out.lt
  obtain ⟨u0, u1, u2, u3, u4, u5, u6, u7, u8, u9⟩ := Nk_13.out.cells10
  have lu := Nk_13.out.lt
  go_wp2_with fail
  refine (HS2.out _ _ _ CB_13.out CY_13.out).mono ?_
  rintro e v14 ⟨rfl, hb⟩
  clear t0 t1 t2 t3 t4 t5 t6 t7 t8 t9 lt u0 u1 u2 u3 u4 u5 u6 u7 u8 u9 lu
  have A_14 := Lib.hid (A_13.out.trans (Below.mono hb A_13.out.size))
  have K4_14 := Lib.hid (K4_13.out.below hb)
  have C1_14 := Lib.hid (C1_13.out.below hb)
  have KX_14 := Lib.hid (KX_13.out.below hb)
  have CA_14 := Lib.hid (CA_13.out.below hb)
  have Na_14 := Lib.hid (Na_13.out.below hb)
  have No_14 := Lib.hid (No_13.out.below hb)
  have CB_14 := Lib.hid (CB_13.out.below hb)
  have Nb_14 := Lib.hid (Nb_13.out.below hb)
  have Np_14 := Lib.hid (Np_13.out.below hb)
  have Nz_14 := Lib.hid (Nz_13.out.below hb)
  have CX_14 := Lib.hid (CX_13.out.below hb)
  have Nx_14 := Lib.hid (Nx_13.out.below hb)
  have Nr_14 := Lib.hid (Nr_13.out.below hb)
  have CY_14 := Lib.hid (CY_13.out.below hb)
  have Nk_14 := Lib.hid (Nk_13.out.below hb)
  have Nv_14 := Lib.hid (Nv_13.out.below hb)
  clear A_13 K4_13 C1_13 KX_13 CA_13 Na_13 No_13 CB_13 Nb_13 Np_13 Nz_13 CX_13 Nx_13 Nr_13 CY_13 Nk_13 Nv_13
  clear hb
  go_wp2_with fail
  go_ret
  exact ⟨rfl, A_14.out⟩
end Go.Proofs.Ytfolhgpbplfilaa
namespace Go.Proofs.Ytfolhgpbplfilaa
open Go.RowKit
set_option linter.unusedSimpArgs false
set_option linter.unusedVariables false
set_option maxRecDepth 100000 in
set_option maxHeartbeats 8000000 in
theorem pass_0n (c : Chn) (q : CAt) (x : Wt) (w : World) (h : Cha w c q) (hx : WtOk x) (hr : rightC (fewC c) = true) (hmy : mayW x = true) (a ra : Chn) (o : Out) (e1 : Int) (b rb : Chn) (p : Out) (e2 : Int)
    (HS0 : ∀ W, Cha W (fewC c) (fewAt q) → Calls Try.prog 22 #[chV (fewC c) (fewAt q), wV x] W (GotP W a o e1)) (HR0 : ∀ W, Cha W (fewC c) (fewAt q) → Calls Try.prog 23 #[chV (fewC c) (fewAt q), wV x] W (GotP W b p e2))
    (HQ0 : ∀ W, Cha W (fewC c) (fewAt q) → Calls Try.prog 25 #[chV (fewC c) (fewAt q), wV x] W (GotQ W ra o e1)) (HU0 : ∀ W, Cha W (fewC c) (fewAt q) → Calls Try.prog 26 #[chV (fewC c) (fewAt q), wV x] W (GotQ W rb p e2))
    (ha : e1 = 0 ∧ SameC a ra) (hb0 : e2 ≠ 0 ∧ b = zeroC) : Calls Try.prog 4 #[chV c q, wV x] w (Says w) := by
  have HFW := Lib.hid (fun W (H : Cha W c q) => few_any c q W H)
  unfold GotC at HFW
  obtain ⟨c1, hc1⟩ : ∃ c1, c1 = fewC c := ⟨_, rfl⟩
  obtain ⟨q1, hq1⟩ : ∃ q1, q1 = fewAt q := ⟨_, rfl⟩
  have AP1 := Lib.hid (show Ap q1 w.heap.size by rw [hq1]; exact (few_cha h).ap (Nat.le_refl _))
  rw [← hc1, ← hq1] at HFW
  rw [← hc1] at hr HS0 HR0 HQ0 HU0
  rw [← hq1] at HS0 HR0 HQ0 HU0
  have HRR := Lib.hid (fun W (H : Cha W c1 q1) => refRight_c c1 q1 W H)
  rw [hr] at HRR
  have HM := Lib.hid (fun W => refMay_any x W hx)
  rw [hmy] at HM
  have HS := Lib.hid HS0; have HR := Lib.hid HR0; have HQ := Lib.hid HQ0; have HU := Lib.hid HU0
  unfold GotP at HS HR
  unfold GotQ at HQ HU
  clear hr hmy HS0 HR0 HQ0 HU0
  obtain ⟨rfl, hs1⟩ := ha
  have HS1 := Lib.hid (fun W qa qb (H : Cha W a qa) (H2 : Cha W ra qb) => CSame_yes a ra qa qb W H H2 hs1)
  clear hs1
  obtain ⟨he2, rfl⟩ := hb0
  have hn2 : (e2 != 0) = true := by rw [bne_iff_ne]; exact he2
  have hq2' : (e2 == 0) = false := by rw [beq_eq_false_iff_ne]; exact he2
  clear he2
  obtain ⟨ok, on, ⟨og, oc, os⟩, ot⟩ := o
  obtain ⟨pk, pn, ⟨pg, pc, ps⟩, pt⟩ := p
  have A0 := Lib.hid ((below_alloc w (.cells (chC c q) 27)).alloc (by simp) (.cells #[.int .i64 x.g, .int .i64 x.c, .int .i64 x.s] 48)); have K0 := Lib.hid ((Bx.new w (chC c q) 27).below (below_alloc _ (.cells #[.int .i64 x.g, .int .i64 x.c, .int .i64 x.s] 48))); have X0 := Lib.hid (Bx.new2 w (.cells (chC c q) 27) #[.int .i64 x.g, .int .i64 x.c, .int .i64 x.s] 48); have C0 := Lib.hid (h.below A0.out)
  clear hc1 hq1 h
  go_enter Try.func4, Try.ntmps4
  go_wp2_with fail
  refine (HFW.out _ C0.out).mono ?_
  rintro e w1 ⟨rfl, hc, hb⟩
  have A1 := Lib.hid (A0.out.trans (Below.mono hb A0.out.size)); have K1 := Lib.hid (K0.out.below hb); have X1 := Lib.hid (X0.out.below hb); have C1 := Lib.hid hc
  clear hc hb A0 K0 C0 X0
  obtain ⟨t0, t1, t2, t3, t4, t5, t6, t7, t8, t9⟩ := K1.out.cells10
  have f0 := K1.out.froz 0; have f1 := K1.out.froz 1; have f2 := K1.out.froz 2; have f3 := K1.out.froz 3; have f4 := K1.out.froz 4; have f5 := K1.out.froz 5; have f6 := K1.out.froz 6; have f7 := K1.out.froz 7; have f8 := K1.out.froz 8; have f9 := K1.out.froz 9; have l0 := K1.out.lt
  go_upto_region 2 with (fail)
  obtain ⟨X, hX⟩ : ∃ X, X = st10 w1 w.heap.size (.int .i64 c1.cap) (.bool c1.cl) (.int .i64 c1.rc) (.int .i64 c1.rf) (.slice q1.za q1.zn q1.zc) (.int .i64 c1.rk) (.int .i64 c1.sent) (.int .i64 c1.got) (.slice q1.sa q1.sn q1.sc) (.slice q1.ra q1.rn q1.rq) := ⟨_, rfl⟩
  have GX := Lib.hid (show w1.grownBy X (some w.heap.size) by rw [hX]; exact grown_st10 (World.grownBy.refl _ _) (.int .i64 c1.cap) (.bool c1.cl) (.int .i64 c1.rc) (.int .i64 c1.rf) (.slice q1.za q1.zn q1.zc) (.int .i64 c1.rk) (.int .i64 c1.sent) (.int .i64 c1.got) (.slice q1.sa q1.sn q1.sc) (.slice q1.ra q1.rn q1.rq))
  have K4_0 := Lib.hid (show Bx X w.heap.size (chC c1 q1) 27 by rw [hX]; exact K1.out.st10 (.int .i64 c1.cap) (.bool c1.cl) (.int .i64 c1.rc) (.int .i64 c1.rf) (.slice q1.za q1.zn q1.zc) (.int .i64 c1.rk) (.int .i64 c1.sent) (.int .i64 c1.got) (.slice q1.sa q1.sn q1.sc) (.slice q1.ra q1.rn q1.rq))
  have A_0 := Lib.hid (show Below w.heap.size w X by rw [hX]; exact below_st10 A1.out (Nat.le_refl _) (.int .i64 c1.cap) (.bool c1.cl) (.int .i64 c1.rc) (.int .i64 c1.rf) (.slice q1.za q1.zn q1.zc) (.int .i64 c1.rk) (.int .i64 c1.sent) (.int .i64 c1.got) (.slice q1.sa q1.sn q1.sc) (.slice q1.ra q1.rn q1.rq))
  have C1_0 := Lib.hid (C1.out.other AP1.out GX.out)
  have KX_0 := Lib.hid (X1.out.other GX.out (fun e => by have := Option.some.inj e; omega))
  have hx1 := hX.symm
  simp only [st10] at hx1
  rw [hx1]
  obtain ⟨b5, hb5⟩ : ∃ b, b = w.heap.size + 1 := ⟨_, rfl⟩
  rw [← hb5] at KX_0 ⊢
  obtain ⟨b4, hb4⟩ : ∃ b, b = w.heap.size := ⟨_, rfl⟩
  rw [← hb4] at K4_0 ⊢
  clear hx1 hX hb4 hb5 t0 t1 t2 t3 t4 t5 t6 t7 t8 t9 f0 f1 f2 f3 f4 f5 f6 f7 f8 f9 l0 K1 A1 C1 GX X1
  obtain ⟨t0, t1, t2, t3, t4, t5, t6, t7, t8, t9⟩ := K4_0.out.cells10
  have lt := K4_0.out.lt
  obtain ⟨y0, y1, y2⟩ := KX_0.out.cells3
  have ly := KX_0.out.lt
  go_wp2_with fail
  refine (HS.out _ C1_0.out).mono ?_
  rintro e v1 ⟨qa, rfl, hc, hfr, hb⟩
  clear t0 t1 t2 t3 t4 t5 t6 t7 t8 t9 lt y0 y1 y2 ly
  have A_1 := Lib.hid (A_0.out.trans (Below.mono hb A_0.out.size))
  have K4_1 := Lib.hid (K4_0.out.below hb)
  have C1_1 := Lib.hid (C1_0.out.below hb)
  have KX_1 := Lib.hid (KX_0.out.below hb)
  clear A_0 K4_0 C1_0 KX_0
  have CA_1 := Lib.hid (hc)
  clear hb hc
  clear hfr
  have hbx := (below_alloc v1 (.cells (chC a qa) 27)).alloc (by simp) (.cells (outC ⟨ok, on, ⟨og, oc, os⟩, ot⟩) 50)
  have A_2 := Lib.hid (A_1.out.trans (Below.mono hbx A_1.out.size))
  have K4_2 := Lib.hid (K4_1.out.below hbx)
  have C1_2 := Lib.hid (C1_1.out.below hbx)
  have KX_2 := Lib.hid (KX_1.out.below hbx)
  have CA_2 := Lib.hid (CA_1.out.below hbx)
  clear A_1 K4_1 C1_1 KX_1 CA_1
  have Na_2 := Lib.hid ((Bx.new v1 (chC a qa) 27).below (below_alloc _ (.cells (outC ⟨ok, on, ⟨og, oc, os⟩, ot⟩) 50)))
  have No_2 := Lib.hid (Bx.new2 v1 (.cells (chC a qa) 27) (outC ⟨ok, on, ⟨og, oc, os⟩, ot⟩) 50)
  go_upto_region 3 with (fail)
  obtain ⟨Xa, hXa⟩ : ∃ X, X = (v1.alloc (.cells (chC a qa) 27)).alloc (.cells (outC ⟨ok, on, ⟨og, oc, os⟩, ot⟩) 50) := ⟨_, rfl⟩
  obtain ⟨bo, hbbo⟩ : ∃ b, b = v1.heap.size + 1 := ⟨_, rfl⟩
  obtain ⟨ba, hbba⟩ : ∃ b, b = v1.heap.size := ⟨_, rfl⟩
  rw [← hXa] at A_2 K4_2 C1_2 KX_2 CA_2 Na_2 No_2 ⊢
  rw [← hbbo] at No_2 ⊢
  rw [← hbba] at Na_2 ⊢
  clear hXa hbba hbbo hbx
  obtain ⟨t0, t1, t2, t3, t4, t5, t6, t7, t8, t9⟩ := K4_2.out.cells10
  have lt := K4_2.out.lt
  obtain ⟨y0, y1, y2⟩ := KX_2.out.cells3
  have ly := KX_2.out.lt
  go_wp2_with fail
  refine (HR.out _ C1_2.out).mono ?_
  rintro e v3 ⟨qb, rfl, hc, hfr, hb⟩
  clear t0 t1 t2 t3 t4 t5 t6 t7 t8 t9 lt y0 y1 y2 ly
  have A_3 := Lib.hid (A_2.out.trans (Below.mono hb A_2.out.size))
  have K4_3 := Lib.hid (K4_2.out.below hb)
  have C1_3 := Lib.hid (C1_2.out.below hb)
  have KX_3 := Lib.hid (KX_2.out.below hb)
  have CA_3 := Lib.hid (CA_2.out.below hb)
  have Na_3 := Lib.hid (Na_2.out.below hb)
  have No_3 := Lib.hid (No_2.out.below hb)
  clear A_2 K4_2 C1_2 KX_2 CA_2 Na_2 No_2
  have CB_3 := Lib.hid (hc)
  clear hb hc
  clear hfr
  have hbx := (below_alloc v3 (.cells (chC zeroC qb) 27)).alloc (by simp) (.cells (outC ⟨pk, pn, ⟨pg, pc, ps⟩, pt⟩) 50)
  have A_4 := Lib.hid (A_3.out.trans (Below.mono hbx A_3.out.size))
  have K4_4 := Lib.hid (K4_3.out.below hbx)
  have C1_4 := Lib.hid (C1_3.out.below hbx)
  have KX_4 := Lib.hid (KX_3.out.below hbx)
  have CA_4 := Lib.hid (CA_3.out.below hbx)
  have Na_4 := Lib.hid (Na_3.out.below hbx)
  have No_4 := Lib.hid (No_3.out.below hbx)
  have CB_4 := Lib.hid (CB_3.out.below hbx)
  clear A_3 K4_3 C1_3 KX_3 CA_3 Na_3 No_3 CB_3
  have Nb_4 := Lib.hid ((Bx.new v3 (chC zeroC qb) 27).below (below_alloc _ (.cells (outC ⟨pk, pn, ⟨pg, pc, ps⟩, pt⟩) 50)))
  have Np_4 := Lib.hid (Bx.new2 v3 (.cells (chC zeroC qb) 27) (outC ⟨pk, pn, ⟨pg, pc, ps⟩, pt⟩) 50)
  go_upto_region 4 with (fail)
  obtain ⟨Xb, hXb⟩ : ∃ X, X = (v3.alloc (.cells (chC zeroC qb) 27)).alloc (.cells (outC ⟨pk, pn, ⟨pg, pc, ps⟩, pt⟩) 50) := ⟨_, rfl⟩
  obtain ⟨bp, hbbp⟩ : ∃ b, b = v3.heap.size + 1 := ⟨_, rfl⟩
  obtain ⟨bb, hbbb⟩ : ∃ b, b = v3.heap.size := ⟨_, rfl⟩
  rw [← hXb] at A_4 K4_4 C1_4 KX_4 CA_4 Na_4 No_4 CB_4 Nb_4 Np_4 ⊢
  rw [← hbbp] at Np_4 ⊢
  rw [← hbbb] at Nb_4 ⊢
  clear hXb hbbb hbbp hbx
  have hbx := below_alloc Xb (.cells #[.int .i64 0, .int .i64 0, .int .i64 0, .int .i64 0, .int .i64 0, .int .i64 0] 50)
  have A_5 := Lib.hid (A_4.out.trans (Below.mono hbx A_4.out.size))
  have K4_5 := Lib.hid (K4_4.out.below hbx)
  have C1_5 := Lib.hid (C1_4.out.below hbx)
  have KX_5 := Lib.hid (KX_4.out.below hbx)
  have CA_5 := Lib.hid (CA_4.out.below hbx)
  have Na_5 := Lib.hid (Na_4.out.below hbx)
  have No_5 := Lib.hid (No_4.out.below hbx)
  have CB_5 := Lib.hid (CB_4.out.below hbx)
  have Nb_5 := Lib.hid (Nb_4.out.below hbx)
  have Np_5 := Lib.hid (Np_4.out.below hbx)
  clear A_4 K4_4 C1_4 KX_4 CA_4 Na_4 No_4 CB_4 Nb_4 Np_4
  have Nz_5 := Lib.hid (Bx.new Xb #[.int .i64 0, .int .i64 0, .int .i64 0, .int .i64 0, .int .i64 0, .int .i64 0] 50)
  go_upto_region 5 with (fail)
  obtain ⟨Xz, hXz⟩ : ∃ X, X = Xb.alloc (.cells #[.int .i64 0, .int .i64 0, .int .i64 0, .int .i64 0, .int .i64 0, .int .i64 0] 50) := ⟨_, rfl⟩
  obtain ⟨bz, hbbz⟩ : ∃ b, b = Xb.heap.size := ⟨_, rfl⟩
  rw [← hXz] at A_5 K4_5 C1_5 KX_5 CA_5 Na_5 No_5 CB_5 Nb_5 Np_5 Nz_5 ⊢
  rw [← hbbz] at Nz_5 ⊢
  clear hXz hbbz hbx
  obtain ⟨t0, t1, t2, t3, t4, t5, t6, t7, t8, t9⟩ := K4_5.out.cells10
  have lt := K4_5.out.lt
  go_wp2_with fail
  refine (HRR.out _ C1_5.out).mono ?_
  rintro e v6 ⟨rfl, hb⟩
  clear t0 t1 t2 t3 t4 t5 t6 t7 t8 t9 lt
  have A_6 := Lib.hid (A_5.out.trans (Below.mono hb A_5.out.size))
  have K4_6 := Lib.hid (K4_5.out.below hb)
  have C1_6 := Lib.hid (C1_5.out.below hb)
  have KX_6 := Lib.hid (KX_5.out.below hb)
  have CA_6 := Lib.hid (CA_5.out.below hb)
  have Na_6 := Lib.hid (Na_5.out.below hb)
  have No_6 := Lib.hid (No_5.out.below hb)
  have CB_6 := Lib.hid (CB_5.out.below hb)
  have Nb_6 := Lib.hid (Nb_5.out.below hb)
  have Np_6 := Lib.hid (Np_5.out.below hb)
  have Nz_6 := Lib.hid (Nz_5.out.below hb)
  clear A_5 K4_5 C1_5 KX_5 CA_5 Na_5 No_5 CB_5 Nb_5 Np_5 Nz_5
  clear hb
  obtain ⟨y0, y1, y2⟩ := KX_6.out.cells3
  have ly := KX_6.out.lt
  go_wp2_with fail
  refine (HM.out _).mono ?_
  rintro e v7 ⟨rfl, hb⟩
  clear y0 y1 y2 ly
  have A_7 := Lib.hid (A_6.out.trans (Below.mono hb A_6.out.size))
  have K4_7 := Lib.hid (K4_6.out.below hb)
  have C1_7 := Lib.hid (C1_6.out.below hb)
  have KX_7 := Lib.hid (KX_6.out.below hb)
  have CA_7 := Lib.hid (CA_6.out.below hb)
  have Na_7 := Lib.hid (Na_6.out.below hb)
  have No_7 := Lib.hid (No_6.out.below hb)
  have CB_7 := Lib.hid (CB_6.out.below hb)
  have Nb_7 := Lib.hid (Nb_6.out.below hb)
  have Np_7 := Lib.hid (Np_6.out.below hb)
  have Nz_7 := Lib.hid (Nz_6.out.below hb)
  clear A_6 K4_6 C1_6 KX_6 CA_6 Na_6 No_6 CB_6 Nb_6 Np_6 Nz_6
  clear hb
  obtain ⟨t0, t1, t2, t3, t4, t5, t6, t7, t8, t9⟩ := K4_7.out.cells10
  have lt := K4_7.out.lt
  obtain ⟨y0, y1, y2⟩ := KX_7.out.cells3
  have ly := KX_7.out.lt
  go_wp2_with fail
  refine (HQ.out _ C1_7.out).mono ?_
  rintro e v8 ⟨qx, rfl, hc, hb⟩
  clear t0 t1 t2 t3 t4 t5 t6 t7 t8 t9 lt y0 y1 y2 ly
  have A_8 := Lib.hid (A_7.out.trans (Below.mono hb A_7.out.size))
  have K4_8 := Lib.hid (K4_7.out.below hb)
  have C1_8 := Lib.hid (C1_7.out.below hb)
  have KX_8 := Lib.hid (KX_7.out.below hb)
  have CA_8 := Lib.hid (CA_7.out.below hb)
  have Na_8 := Lib.hid (Na_7.out.below hb)
  have No_8 := Lib.hid (No_7.out.below hb)
  have CB_8 := Lib.hid (CB_7.out.below hb)
  have Nb_8 := Lib.hid (Nb_7.out.below hb)
  have Np_8 := Lib.hid (Np_7.out.below hb)
  have Nz_8 := Lib.hid (Nz_7.out.below hb)
  clear A_7 K4_7 C1_7 KX_7 CA_7 Na_7 No_7 CB_7 Nb_7 Np_7 Nz_7
  have CX_8 := Lib.hid (hc)
  clear hb hc
  have hbx := (below_alloc v8 (.cells (chC ra qx) 27)).alloc (by simp) (.cells (outC ⟨ok, on, ⟨og, oc, os⟩, ot⟩) 50)
  have A_9 := Lib.hid (A_8.out.trans (Below.mono hbx A_8.out.size))
  have K4_9 := Lib.hid (K4_8.out.below hbx)
  have C1_9 := Lib.hid (C1_8.out.below hbx)
  have KX_9 := Lib.hid (KX_8.out.below hbx)
  have CA_9 := Lib.hid (CA_8.out.below hbx)
  have Na_9 := Lib.hid (Na_8.out.below hbx)
  have No_9 := Lib.hid (No_8.out.below hbx)
  have CB_9 := Lib.hid (CB_8.out.below hbx)
  have Nb_9 := Lib.hid (Nb_8.out.below hbx)
  have Np_9 := Lib.hid (Np_8.out.below hbx)
  have Nz_9 := Lib.hid (Nz_8.out.below hbx)
  have CX_9 := Lib.hid (CX_8.out.below hbx)
  clear A_8 K4_8 C1_8 KX_8 CA_8 Na_8 No_8 CB_8 Nb_8 Np_8 Nz_8 CX_8
  have Nx_9 := Lib.hid ((Bx.new v8 (chC ra qx) 27).below (below_alloc _ (.cells (outC ⟨ok, on, ⟨og, oc, os⟩, ot⟩) 50)))
  have Nr_9 := Lib.hid (Bx.new2 v8 (.cells (chC ra qx) 27) (outC ⟨ok, on, ⟨og, oc, os⟩, ot⟩) 50)
  go_upto_region 8 with (fail)
  obtain ⟨Xx, hXx⟩ : ∃ X, X = (v8.alloc (.cells (chC ra qx) 27)).alloc (.cells (outC ⟨ok, on, ⟨og, oc, os⟩, ot⟩) 50) := ⟨_, rfl⟩
  obtain ⟨br, hbbr⟩ : ∃ b, b = v8.heap.size + 1 := ⟨_, rfl⟩
  obtain ⟨bx, hbbx⟩ : ∃ b, b = v8.heap.size := ⟨_, rfl⟩
  rw [← hXx] at A_9 K4_9 C1_9 KX_9 CA_9 Na_9 No_9 CB_9 Nb_9 Np_9 Nz_9 CX_9 Nx_9 Nr_9 ⊢
  rw [← hbbr] at Nr_9 ⊢
  rw [← hbbx] at Nx_9 ⊢
  clear hXx hbbx hbbr hbx
  obtain ⟨t0, t1, t2, t3, t4, t5, t6, t7, t8, t9⟩ := K4_9.out.cells10
  have lt := K4_9.out.lt
  obtain ⟨y0, y1, y2⟩ := KX_9.out.cells3
  have ly := KX_9.out.lt
  go_wp2_with fail
  refine (HU.out _ C1_9.out).mono ?_
  rintro e v10 ⟨qy, rfl, hc, hb⟩
  clear t0 t1 t2 t3 t4 t5 t6 t7 t8 t9 lt y0 y1 y2 ly
  have A_10 := Lib.hid (A_9.out.trans (Below.mono hb A_9.out.size))
  have K4_10 := Lib.hid (K4_9.out.below hb)
  have C1_10 := Lib.hid (C1_9.out.below hb)
  have KX_10 := Lib.hid (KX_9.out.below hb)
  have CA_10 := Lib.hid (CA_9.out.below hb)
  have Na_10 := Lib.hid (Na_9.out.below hb)
  have No_10 := Lib.hid (No_9.out.below hb)
  have CB_10 := Lib.hid (CB_9.out.below hb)
  have Nb_10 := Lib.hid (Nb_9.out.below hb)
  have Np_10 := Lib.hid (Np_9.out.below hb)
  have Nz_10 := Lib.hid (Nz_9.out.below hb)
  have CX_10 := Lib.hid (CX_9.out.below hb)
  have Nx_10 := Lib.hid (Nx_9.out.below hb)
  have Nr_10 := Lib.hid (Nr_9.out.below hb)
  clear A_9 K4_9 C1_9 KX_9 CA_9 Na_9 No_9 CB_9 Nb_9 Np_9 Nz_9 CX_9 Nx_9 Nr_9
  have CY_10 := Lib.hid (hc)
  clear hb hc
  have hbx := (below_alloc v10 (.cells (chC rb qy) 27)).alloc (by simp) (.cells (outC ⟨pk, pn, ⟨pg, pc, ps⟩, pt⟩) 50)
  have A_11 := Lib.hid (A_10.out.trans (Below.mono hbx A_10.out.size))
  have K4_11 := Lib.hid (K4_10.out.below hbx)
  have C1_11 := Lib.hid (C1_10.out.below hbx)
  have KX_11 := Lib.hid (KX_10.out.below hbx)
  have CA_11 := Lib.hid (CA_10.out.below hbx)
  have Na_11 := Lib.hid (Na_10.out.below hbx)
  have No_11 := Lib.hid (No_10.out.below hbx)
  have CB_11 := Lib.hid (CB_10.out.below hbx)
  have Nb_11 := Lib.hid (Nb_10.out.below hbx)
  have Np_11 := Lib.hid (Np_10.out.below hbx)
  have Nz_11 := Lib.hid (Nz_10.out.below hbx)
  have CX_11 := Lib.hid (CX_10.out.below hbx)
  have Nx_11 := Lib.hid (Nx_10.out.below hbx)
  have Nr_11 := Lib.hid (Nr_10.out.below hbx)
  have CY_11 := Lib.hid (CY_10.out.below hbx)
  clear A_10 K4_10 C1_10 KX_10 CA_10 Na_10 No_10 CB_10 Nb_10 Np_10 Nz_10 CX_10 Nx_10 Nr_10 CY_10
  have Nk_11 := Lib.hid ((Bx.new v10 (chC rb qy) 27).below (below_alloc _ (.cells (outC ⟨pk, pn, ⟨pg, pc, ps⟩, pt⟩) 50)))
  have Nv_11 := Lib.hid (Bx.new2 v10 (.cells (chC rb qy) 27) (outC ⟨pk, pn, ⟨pg, pc, ps⟩, pt⟩) 50)
  go_upto_region 9 with (fail)
  obtain ⟨Xk, hXk⟩ : ∃ X, X = (v10.alloc (.cells (chC rb qy) 27)).alloc (.cells (outC ⟨pk, pn, ⟨pg, pc, ps⟩, pt⟩) 50) := ⟨_, rfl⟩
  obtain ⟨bv, hbbv⟩ : ∃ b, b = v10.heap.size + 1 := ⟨_, rfl⟩
  obtain ⟨bk, hbbk⟩ : ∃ b, b = v10.heap.size := ⟨_, rfl⟩
  rw [← hXk] at A_11 K4_11 C1_11 KX_11 CA_11 Na_11 No_11 CB_11 Nb_11 Np_11 Nz_11 CX_11 Nx_11 Nr_11 CY_11 Nk_11 Nv_11 ⊢
  rw [← hbbv] at Nv_11 ⊢
  rw [← hbbk] at Nk_11 ⊢
  clear hXk hbbk hbbv hbx
  have hee2 : (e2 != e2) = false := by simp
  obtain ⟨m0, m1, m2, m3, m4, m5⟩ := No_11.out.cells6
  have lm := No_11.out.lt
  obtain ⟨n0, n1, n2, n3, n4, n5⟩ := Nr_11.out.cells6
  have ln := Nr_11.out.lt
  obtain ⟨s0, s1, s2, s3, s4, s5⟩ := Np_11.out.cells6
  have ls := Np_11.out.lt
  obtain ⟨u0, u1, u2, u3, u4, u5⟩ := Nv_11.out.cells6
  have lu := Nv_11.out.lt
  go_wp2_with fail
  refine (alive_any _).mono ?_
  rintro e v12 ⟨rfl, hb⟩
  clear m0 m1 m2 m3 m4 m5 lm n0 n1 n2 n3 n4 n5 ln s0 s1 s2 s3 s4 s5 ls u0 u1 u2 u3 u4 u5 lu
  have A_12 := Lib.hid (A_11.out.trans (Below.mono hb A_11.out.size))
  have K4_12 := Lib.hid (K4_11.out.below hb)
  have C1_12 := Lib.hid (C1_11.out.below hb)
  have KX_12 := Lib.hid (KX_11.out.below hb)
  have CA_12 := Lib.hid (CA_11.out.below hb)
  have Na_12 := Lib.hid (Na_11.out.below hb)
  have No_12 := Lib.hid (No_11.out.below hb)
  have CB_12 := Lib.hid (CB_11.out.below hb)
  have Nb_12 := Lib.hid (Nb_11.out.below hb)
  have Np_12 := Lib.hid (Np_11.out.below hb)
  have Nz_12 := Lib.hid (Nz_11.out.below hb)
  have CX_12 := Lib.hid (CX_11.out.below hb)
  have Nx_12 := Lib.hid (Nx_11.out.below hb)
  have Nr_12 := Lib.hid (Nr_11.out.below hb)
  have CY_12 := Lib.hid (CY_11.out.below hb)
  have Nk_12 := Lib.hid (Nk_11.out.below hb)
  have Nv_12 := Lib.hid (Nv_11.out.below hb)
  clear A_11 K4_11 C1_11 KX_11 CA_11 Na_11 No_11 CB_11 Nb_11 Np_11 Nz_11 CX_11 Nx_11 Nr_11 CY_11 Nk_11 Nv_11
  clear hb
  obtain ⟨t0, t1, t2, t3, t4, t5, t6, t7, t8, t9⟩ := Na_12.out.cells10
  have lt := Na_12.out.lt
  obtain ⟨u0, u1, u2, u3, u4, u5, u6, u7, u8, u9⟩ := Nx_12.out.cells10
  have lu := Nx_12.out.lt
  go_wp2_with fail
  refine (HS1.out _ _ _ CA_12.out CX_12.out).mono ?_
  rintro e v13 ⟨rfl, hb⟩
  clear t0 t1 t2 t3 t4 t5 t6 t7 t8 t9 lt u0 u1 u2 u3 u4 u5 u6 u7 u8 u9 lu
  have A_13 := Lib.hid (A_12.out.trans (Below.mono hb A_12.out.size))
  have K4_13 := Lib.hid (K4_12.out.below hb)
  have C1_13 := Lib.hid (C1_12.out.below hb)
  have KX_13 := Lib.hid (KX_12.out.below hb)
  have CA_13 := Lib.hid (CA_12.out.below hb)
  have Na_13 := Lib.hid (Na_12.out.below hb)
  have No_13 := Lib.hid (No_12.out.below hb)
  have CB_13 := Lib.hid (CB_12.out.below hb)
  have Nb_13 := Lib.hid (Nb_12.out.below hb)
  have Np_13 := Lib.hid (Np_12.out.below hb)
  have Nz_13 := Lib.hid (Nz_12.out.below hb)
  have CX_13 := Lib.hid (CX_12.out.below hb)
  have Nx_13 := Lib.hid (Nx_12.out.below hb)
  have Nr_13 := Lib.hid (Nr_12.out.below hb)
  have CY_13 := Lib.hid (CY_12.out.below hb)
  have Nk_13 := Lib.hid (Nk_12.out.below hb)
  have Nv_13 := Lib.hid (Nv_12.out.below hb)
  clear A_12 K4_12 C1_12 KX_12 CA_12 Na_12 No_12 CB_12 Nb_12 Np_12 Nz_12 CX_12 Nx_12 Nr_12 CY_12 Nk_12 Nv_12
  clear hb
  obtain ⟨t0, t1, t2, t3, t4, t5, t6, t7, t8, t9⟩ := Nb_13.out.cells10
  have lt := Nb_13.out.lt
  go_wp2_with fail
  refine (empty_zero qb _ CB_13.out).mono ?_
  rintro e v14 ⟨rfl, hb⟩
  clear t0 t1 t2 t3 t4 t5 t6 t7 t8 t9 lt
  have A_14 := Lib.hid (A_13.out.trans (Below.mono hb A_13.out.size))
  have K4_14 := Lib.hid (K4_13.out.below hb)
  have C1_14 := Lib.hid (C1_13.out.below hb)
  have KX_14 := Lib.hid (KX_13.out.below hb)
  have CA_14 := Lib.hid (CA_13.out.below hb)
  have Na_14 := Lib.hid (Na_13.out.below hb)
  have No_14 := Lib.hid (No_13.out.below hb)
  have CB_14 := Lib.hid (CB_13.out.below hb)
  have Nb_14 := Lib.hid (Nb_13.out.below hb)
  have Np_14 := Lib.hid (Np_13.out.below hb)
  have Nz_14 := Lib.hid (Nz_13.out.below hb)
  have CX_14 := Lib.hid (CX_13.out.below hb)
  have Nx_14 := Lib.hid (Nx_13.out.below hb)
  have Nr_14 := Lib.hid (Nr_13.out.below hb)
  have CY_14 := Lib.hid (CY_13.out.below hb)
  have Nk_14 := Lib.hid (Nk_13.out.below hb)
  have Nv_14 := Lib.hid (Nv_13.out.below hb)
  clear A_13 K4_13 C1_13 KX_13 CA_13 Na_13 No_13 CB_13 Nb_13 Np_13 Nz_13 CX_13 Nx_13 Nr_13 CY_13 Nk_13 Nv_13
  clear hb
  go_wp2_with fail
  go_ret
  exact ⟨rfl, A_14.out⟩
end Go.Proofs.Ytfolhgpbplfilaa
namespace Go.Proofs.Ytfolhgpbplfilaa
open Go.RowKit
set_option linter.unusedSimpArgs false
set_option linter.unusedVariables false
set_option maxRecDepth 100000 in
set_option maxHeartbeats 8000000 in
theorem pass_n0 (c : Chn) (q : CAt) (x : Wt) (w : World) (h : Cha w c q) (hx : WtOk x) (hr : rightC (fewC c) = true) (hmy : mayW x = true) (a ra : Chn) (o : Out) (e1 : Int) (b rb : Chn) (p : Out) (e2 : Int)
    (HS0 : ∀ W, Cha W (fewC c) (fewAt q) → Calls Try.prog 22 #[chV (fewC c) (fewAt q), wV x] W (GotP W a o e1)) (HR0 : ∀ W, Cha W (fewC c) (fewAt q) → Calls Try.prog 23 #[chV (fewC c) (fewAt q), wV x] W (GotP W b p e2))
    (HQ0 : ∀ W, Cha W (fewC c) (fewAt q) → Calls Try.prog 25 #[chV (fewC c) (fewAt q), wV x] W (GotQ W ra o e1)) (HU0 : ∀ W, Cha W (fewC c) (fewAt q) → Calls Try.prog 26 #[chV (fewC c) (fewAt q), wV x] W (GotQ W rb p e2))
    (ha : e1 ≠ 0 ∧ a = zeroC) (hb0 : e2 = 0 ∧ SameC b rb) : Calls Try.prog 4 #[chV c q, wV x] w (Says w) := by
  have HFW := Lib.hid (fun W (H : Cha W c q) => few_any c q W H)
  unfold GotC at HFW
  obtain ⟨c1, hc1⟩ : ∃ c1, c1 = fewC c := ⟨_, rfl⟩
  obtain ⟨q1, hq1⟩ : ∃ q1, q1 = fewAt q := ⟨_, rfl⟩
  have AP1 := Lib.hid (show Ap q1 w.heap.size by rw [hq1]; exact (few_cha h).ap (Nat.le_refl _))
  rw [← hc1, ← hq1] at HFW
  rw [← hc1] at hr HS0 HR0 HQ0 HU0
  rw [← hq1] at HS0 HR0 HQ0 HU0
  have HRR := Lib.hid (fun W (H : Cha W c1 q1) => refRight_c c1 q1 W H)
  rw [hr] at HRR
  have HM := Lib.hid (fun W => refMay_any x W hx)
  rw [hmy] at HM
  have HS := Lib.hid HS0; have HR := Lib.hid HR0; have HQ := Lib.hid HQ0; have HU := Lib.hid HU0
  unfold GotP at HS HR
  unfold GotQ at HQ HU
  clear hr hmy HS0 HR0 HQ0 HU0
  obtain ⟨he1, rfl⟩ := ha
  have hn1 : (e1 != 0) = true := by rw [bne_iff_ne]; exact he1
  have hq1' : (e1 == 0) = false := by rw [beq_eq_false_iff_ne]; exact he1
  clear he1
  obtain ⟨rfl, hs2⟩ := hb0
  have HS2 := Lib.hid (fun W qa qb (H : Cha W b qa) (H2 : Cha W rb qb) => CSame_yes b rb qa qb W H H2 hs2)
  clear hs2
  obtain ⟨ok, on, ⟨og, oc, os⟩, ot⟩ := o
  obtain ⟨pk, pn, ⟨pg, pc, ps⟩, pt⟩ := p
  have A0 := Lib.hid ((below_alloc w (.cells (chC c q) 27)).alloc (by simp) (.cells #[.int .i64 x.g, .int .i64 x.c, .int .i64 x.s] 48)); have K0 := Lib.hid ((Bx.new w (chC c q) 27).below (below_alloc _ (.cells #[.int .i64 x.g, .int .i64 x.c, .int .i64 x.s] 48))); have X0 := Lib.hid (Bx.new2 w (.cells (chC c q) 27) #[.int .i64 x.g, .int .i64 x.c, .int .i64 x.s] 48); have C0 := Lib.hid (h.below A0.out)
  clear hc1 hq1 h
  go_enter Try.func4, Try.ntmps4
  go_wp2_with fail
  refine (HFW.out _ C0.out).mono ?_
  rintro e w1 ⟨rfl, hc, hb⟩
  have A1 := Lib.hid (A0.out.trans (Below.mono hb A0.out.size)); have K1 := Lib.hid (K0.out.below hb); have X1 := Lib.hid (X0.out.below hb); have C1 := Lib.hid hc
  clear hc hb A0 K0 C0 X0
  obtain ⟨t0, t1, t2, t3, t4, t5, t6, t7, t8, t9⟩ := K1.out.cells10
  have f0 := K1.out.froz 0; have f1 := K1.out.froz 1; have f2 := K1.out.froz 2; have f3 := K1.out.froz 3; have f4 := K1.out.froz 4; have f5 := K1.out.froz 5; have f6 := K1.out.froz 6; have f7 := K1.out.froz 7; have f8 := K1.out.froz 8; have f9 := K1.out.froz 9; have l0 := K1.out.lt
  go_upto_region 2 with (fail)
  obtain ⟨X, hX⟩ : ∃ X, X = st10 w1 w.heap.size (.int .i64 c1.cap) (.bool c1.cl) (.int .i64 c1.rc) (.int .i64 c1.rf) (.slice q1.za q1.zn q1.zc) (.int .i64 c1.rk) (.int .i64 c1.sent) (.int .i64 c1.got) (.slice q1.sa q1.sn q1.sc) (.slice q1.ra q1.rn q1.rq) := ⟨_, rfl⟩
  have GX := Lib.hid (show w1.grownBy X (some w.heap.size) by rw [hX]; exact grown_st10 (World.grownBy.refl _ _) (.int .i64 c1.cap) (.bool c1.cl) (.int .i64 c1.rc) (.int .i64 c1.rf) (.slice q1.za q1.zn q1.zc) (.int .i64 c1.rk) (.int .i64 c1.sent) (.int .i64 c1.got) (.slice q1.sa q1.sn q1.sc) (.slice q1.ra q1.rn q1.rq))
  have K4_0 := Lib.hid (show Bx X w.heap.size (chC c1 q1) 27 by rw [hX]; exact K1.out.st10 (.int .i64 c1.cap) (.bool c1.cl) (.int .i64 c1.rc) (.int .i64 c1.rf) (.slice q1.za q1.zn q1.zc) (.int .i64 c1.rk) (.int .i64 c1.sent) (.int .i64 c1.got) (.slice q1.sa q1.sn q1.sc) (.slice q1.ra q1.rn q1.rq))
  have A_0 := Lib.hid (show Below w.heap.size w X by rw [hX]; exact below_st10 A1.out (Nat.le_refl _) (.int .i64 c1.cap) (.bool c1.cl) (.int .i64 c1.rc) (.int .i64 c1.rf) (.slice q1.za q1.zn q1.zc) (.int .i64 c1.rk) (.int .i64 c1.sent) (.int .i64 c1.got) (.slice q1.sa q1.sn q1.sc) (.slice q1.ra q1.rn q1.rq))
  have C1_0 := Lib.hid (C1.out.other AP1.out GX.out)
  have KX_0 := Lib.hid (X1.out.other GX.out (fun e => by have := Option.some.inj e; omega))
  have hx1 := hX.symm
  simp only [st10] at hx1
  rw [hx1]
  obtain ⟨b5, hb5⟩ : ∃ b, b = w.heap.size + 1 := ⟨_, rfl⟩
  rw [← hb5] at KX_0 ⊢
  obtain ⟨b4, hb4⟩ : ∃ b, b = w.heap.size := ⟨_, rfl⟩
  rw [← hb4] at K4_0 ⊢
  clear hx1 hX hb4 hb5 t0 t1 t2 t3 t4 t5 t6 t7 t8 t9 f0 f1 f2 f3 f4 f5 f6 f7 f8 f9 l0 K1 A1 C1 GX X1
  obtain ⟨t0, t1, t2, t3, t4, t5, t6, t7, t8, t9⟩ := K4_0.out.cells10
  have lt := K4_0.out.lt
  obtain ⟨y0, y1, y2⟩ := KX_0.out.cells3
  have ly := KX_0.out.lt
  go_wp2_with fail
  refine (HS.out _ C1_0.out).mono ?_
  rintro e v1 ⟨qa, rfl, hc, hfr, hb⟩
  clear t0 t1 t2 t3 t4 t5 t6 t7 t8 t9 lt y0 y1 y2 ly
  have A_1 := Lib.hid (A_0.out.trans (Below.mono hb A_0.out.size))
  have K4_1 := Lib.hid (K4_0.out.below hb)
  have C1_1 := Lib.hid (C1_0.out.below hb)
  have KX_1 := Lib.hid (KX_0.out.below hb)
  clear A_0 K4_0 C1_0 KX_0
  have CA_1 := Lib.hid (hc)
  clear hb hc
  clear hfr
  have hbx := (below_alloc v1 (.cells (chC zeroC qa) 27)).alloc (by simp) (.cells (outC ⟨ok, on, ⟨og, oc, os⟩, ot⟩) 50)
  have A_2 := Lib.hid (A_1.out.trans (Below.mono hbx A_1.out.size))
  have K4_2 := Lib.hid (K4_1.out.below hbx)
  have C1_2 := Lib.hid (C1_1.out.below hbx)
  have KX_2 := Lib.hid (KX_1.out.below hbx)
  have CA_2 := Lib.hid (CA_1.out.below hbx)
  clear A_1 K4_1 C1_1 KX_1 CA_1
  have Na_2 := Lib.hid ((Bx.new v1 (chC zeroC qa) 27).below (below_alloc _ (.cells (outC ⟨ok, on, ⟨og, oc, os⟩, ot⟩) 50)))
  have No_2 := Lib.hid (Bx.new2 v1 (.cells (chC zeroC qa) 27) (outC ⟨ok, on, ⟨og, oc, os⟩, ot⟩) 50)
  go_upto_region 3 with (fail)
  obtain ⟨Xa, hXa⟩ : ∃ X, X = (v1.alloc (.cells (chC zeroC qa) 27)).alloc (.cells (outC ⟨ok, on, ⟨og, oc, os⟩, ot⟩) 50) := ⟨_, rfl⟩
  obtain ⟨bo, hbbo⟩ : ∃ b, b = v1.heap.size + 1 := ⟨_, rfl⟩
  obtain ⟨ba, hbba⟩ : ∃ b, b = v1.heap.size := ⟨_, rfl⟩
  rw [← hXa] at A_2 K4_2 C1_2 KX_2 CA_2 Na_2 No_2 ⊢
  rw [← hbbo] at No_2 ⊢
  rw [← hbba] at Na_2 ⊢
  clear hXa hbba hbbo hbx
  obtain ⟨t0, t1, t2, t3, t4, t5, t6, t7, t8, t9⟩ := K4_2.out.cells10
  have lt := K4_2.out.lt
  obtain ⟨y0, y1, y2⟩ := KX_2.out.cells3
  have ly := KX_2.out.lt
  go_wp2_with fail
  refine (HR.out _ C1_2.out).mono ?_
  rintro e v3 ⟨qb, rfl, hc, hfr, hb⟩
  clear t0 t1 t2 t3 t4 t5 t6 t7 t8 t9 lt y0 y1 y2 ly
  have A_3 := Lib.hid (A_2.out.trans (Below.mono hb A_2.out.size))
  have K4_3 := Lib.hid (K4_2.out.below hb)
  have C1_3 := Lib.hid (C1_2.out.below hb)
  have KX_3 := Lib.hid (KX_2.out.below hb)
  have CA_3 := Lib.hid (CA_2.out.below hb)
  have Na_3 := Lib.hid (Na_2.out.below hb)
  have No_3 := Lib.hid (No_2.out.below hb)
  clear A_2 K4_2 C1_2 KX_2 CA_2 Na_2 No_2
  have CB_3 := Lib.hid (hc)
  clear hb hc
  clear hfr
  have hbx := (below_alloc v3 (.cells (chC b qb) 27)).alloc (by simp) (.cells (outC ⟨pk, pn, ⟨pg, pc, ps⟩, pt⟩) 50)
  have A_4 := Lib.hid (A_3.out.trans (Below.mono hbx A_3.out.size))
  have K4_4 := Lib.hid (K4_3.out.below hbx)
  have C1_4 := Lib.hid (C1_3.out.below hbx)
  have KX_4 := Lib.hid (KX_3.out.below hbx)
  have CA_4 := Lib.hid (CA_3.out.below hbx)
  have Na_4 := Lib.hid (Na_3.out.below hbx)
  have No_4 := Lib.hid (No_3.out.below hbx)
  have CB_4 := Lib.hid (CB_3.out.below hbx)
  clear A_3 K4_3 C1_3 KX_3 CA_3 Na_3 No_3 CB_3
  have Nb_4 := Lib.hid ((Bx.new v3 (chC b qb) 27).below (below_alloc _ (.cells (outC ⟨pk, pn, ⟨pg, pc, ps⟩, pt⟩) 50)))
  have Np_4 := Lib.hid (Bx.new2 v3 (.cells (chC b qb) 27) (outC ⟨pk, pn, ⟨pg, pc, ps⟩, pt⟩) 50)
  go_upto_region 4 with (fail)
  obtain ⟨Xb, hXb⟩ : ∃ X, X = (v3.alloc (.cells (chC b qb) 27)).alloc (.cells (outC ⟨pk, pn, ⟨pg, pc, ps⟩, pt⟩) 50) := ⟨_, rfl⟩
  obtain ⟨bp, hbbp⟩ : ∃ b, b = v3.heap.size + 1 := ⟨_, rfl⟩
  obtain ⟨bb, hbbb⟩ : ∃ b, b = v3.heap.size := ⟨_, rfl⟩
  rw [← hXb] at A_4 K4_4 C1_4 KX_4 CA_4 Na_4 No_4 CB_4 Nb_4 Np_4 ⊢
  rw [← hbbp] at Np_4 ⊢
  rw [← hbbb] at Nb_4 ⊢
  clear hXb hbbb hbbp hbx
  have hbx := below_alloc Xb (.cells #[.int .i64 0, .int .i64 0, .int .i64 0, .int .i64 0, .int .i64 0, .int .i64 0] 50)
  have A_5 := Lib.hid (A_4.out.trans (Below.mono hbx A_4.out.size))
  have K4_5 := Lib.hid (K4_4.out.below hbx)
  have C1_5 := Lib.hid (C1_4.out.below hbx)
  have KX_5 := Lib.hid (KX_4.out.below hbx)
  have CA_5 := Lib.hid (CA_4.out.below hbx)
  have Na_5 := Lib.hid (Na_4.out.below hbx)
  have No_5 := Lib.hid (No_4.out.below hbx)
  have CB_5 := Lib.hid (CB_4.out.below hbx)
  have Nb_5 := Lib.hid (Nb_4.out.below hbx)
  have Np_5 := Lib.hid (Np_4.out.below hbx)
  clear A_4 K4_4 C1_4 KX_4 CA_4 Na_4 No_4 CB_4 Nb_4 Np_4
  have Nz_5 := Lib.hid (Bx.new Xb #[.int .i64 0, .int .i64 0, .int .i64 0, .int .i64 0, .int .i64 0, .int .i64 0] 50)
  go_upto_region 5 with (fail)
  obtain ⟨Xz, hXz⟩ : ∃ X, X = Xb.alloc (.cells #[.int .i64 0, .int .i64 0, .int .i64 0, .int .i64 0, .int .i64 0, .int .i64 0] 50) := ⟨_, rfl⟩
  obtain ⟨bz, hbbz⟩ : ∃ b, b = Xb.heap.size := ⟨_, rfl⟩
  rw [← hXz] at A_5 K4_5 C1_5 KX_5 CA_5 Na_5 No_5 CB_5 Nb_5 Np_5 Nz_5 ⊢
  rw [← hbbz] at Nz_5 ⊢
  clear hXz hbbz hbx
  obtain ⟨t0, t1, t2, t3, t4, t5, t6, t7, t8, t9⟩ := K4_5.out.cells10
  have lt := K4_5.out.lt
  go_wp2_with fail
  refine (HRR.out _ C1_5.out).mono ?_
  rintro e v6 ⟨rfl, hb⟩
  clear t0 t1 t2 t3 t4 t5 t6 t7 t8 t9 lt
  have A_6 := Lib.hid (A_5.out.trans (Below.mono hb A_5.out.size))
  have K4_6 := Lib.hid (K4_5.out.below hb)
  have C1_6 := Lib.hid (C1_5.out.below hb)
  have KX_6 := Lib.hid (KX_5.out.below hb)
  have CA_6 := Lib.hid (CA_5.out.below hb)
  have Na_6 := Lib.hid (Na_5.out.below hb)
  have No_6 := Lib.hid (No_5.out.below hb)
  have CB_6 := Lib.hid (CB_5.out.below hb)
  have Nb_6 := Lib.hid (Nb_5.out.below hb)
  have Np_6 := Lib.hid (Np_5.out.below hb)
  have Nz_6 := Lib.hid (Nz_5.out.below hb)
  clear A_5 K4_5 C1_5 KX_5 CA_5 Na_5 No_5 CB_5 Nb_5 Np_5 Nz_5
  clear hb
  obtain ⟨y0, y1, y2⟩ := KX_6.out.cells3
  have ly := KX_6.out.lt
  go_wp2_with fail
  refine (HM.out _).mono ?_
  rintro e v7 ⟨rfl, hb⟩
  clear y0 y1 y2 ly
  have A_7 := Lib.hid (A_6.out.trans (Below.mono hb A_6.out.size))
  have K4_7 := Lib.hid (K4_6.out.below hb)
  have C1_7 := Lib.hid (C1_6.out.below hb)
  have KX_7 := Lib.hid (KX_6.out.below hb)
  have CA_7 := Lib.hid (CA_6.out.below hb)
  have Na_7 := Lib.hid (Na_6.out.below hb)
  have No_7 := Lib.hid (No_6.out.below hb)
  have CB_7 := Lib.hid (CB_6.out.below hb)
  have Nb_7 := Lib.hid (Nb_6.out.below hb)
  have Np_7 := Lib.hid (Np_6.out.below hb)
  have Nz_7 := Lib.hid (Nz_6.out.below hb)
  clear A_6 K4_6 C1_6 KX_6 CA_6 Na_6 No_6 CB_6 Nb_6 Np_6 Nz_6
  clear hb
  obtain ⟨t0, t1, t2, t3, t4, t5, t6, t7, t8, t9⟩ := K4_7.out.cells10
  have lt := K4_7.out.lt
  obtain ⟨y0, y1, y2⟩ := KX_7.out.cells3
  have ly := KX_7.out.lt
  go_wp2_with fail
  refine (HQ.out _ C1_7.out).mono ?_
  rintro e v8 ⟨qx, rfl, hc, hb⟩
  clear t0 t1 t2 t3 t4 t5 t6 t7 t8 t9 lt y0 y1 y2 ly
  have A_8 := Lib.hid (A_7.out.trans (Below.mono hb A_7.out.size))
  have K4_8 := Lib.hid (K4_7.out.below hb)
  have C1_8 := Lib.hid (C1_7.out.below hb)
  have KX_8 := Lib.hid (KX_7.out.below hb)
  have CA_8 := Lib.hid (CA_7.out.below hb)
  have Na_8 := Lib.hid (Na_7.out.below hb)
  have No_8 := Lib.hid (No_7.out.below hb)
  have CB_8 := Lib.hid (CB_7.out.below hb)
  have Nb_8 := Lib.hid (Nb_7.out.below hb)
  have Np_8 := Lib.hid (Np_7.out.below hb)
  have Nz_8 := Lib.hid (Nz_7.out.below hb)
  clear A_7 K4_7 C1_7 KX_7 CA_7 Na_7 No_7 CB_7 Nb_7 Np_7 Nz_7
  have CX_8 := Lib.hid (hc)
  clear hb hc
  have hbx := (below_alloc v8 (.cells (chC ra qx) 27)).alloc (by simp) (.cells (outC ⟨ok, on, ⟨og, oc, os⟩, ot⟩) 50)
  have A_9 := Lib.hid (A_8.out.trans (Below.mono hbx A_8.out.size))
  have K4_9 := Lib.hid (K4_8.out.below hbx)
  have C1_9 := Lib.hid (C1_8.out.below hbx)
  have KX_9 := Lib.hid (KX_8.out.below hbx)
  have CA_9 := Lib.hid (CA_8.out.below hbx)
  have Na_9 := Lib.hid (Na_8.out.below hbx)
  have No_9 := Lib.hid (No_8.out.below hbx)
  have CB_9 := Lib.hid (CB_8.out.below hbx)
  have Nb_9 := Lib.hid (Nb_8.out.below hbx)
  have Np_9 := Lib.hid (Np_8.out.below hbx)
  have Nz_9 := Lib.hid (Nz_8.out.below hbx)
  have CX_9 := Lib.hid (CX_8.out.below hbx)
  clear A_8 K4_8 C1_8 KX_8 CA_8 Na_8 No_8 CB_8 Nb_8 Np_8 Nz_8 CX_8
  have Nx_9 := Lib.hid ((Bx.new v8 (chC ra qx) 27).below (below_alloc _ (.cells (outC ⟨ok, on, ⟨og, oc, os⟩, ot⟩) 50)))
  have Nr_9 := Lib.hid (Bx.new2 v8 (.cells (chC ra qx) 27) (outC ⟨ok, on, ⟨og, oc, os⟩, ot⟩) 50)
  go_upto_region 8 with (fail)
  obtain ⟨Xx, hXx⟩ : ∃ X, X = (v8.alloc (.cells (chC ra qx) 27)).alloc (.cells (outC ⟨ok, on, ⟨og, oc, os⟩, ot⟩) 50) := ⟨_, rfl⟩
  obtain ⟨br, hbbr⟩ : ∃ b, b = v8.heap.size + 1 := ⟨_, rfl⟩
  obtain ⟨bx, hbbx⟩ : ∃ b, b = v8.heap.size := ⟨_, rfl⟩
  rw [← hXx] at A_9 K4_9 C1_9 KX_9 CA_9 Na_9 No_9 CB_9 Nb_9 Np_9 Nz_9 CX_9 Nx_9 Nr_9 ⊢
  rw [← hbbr] at Nr_9 ⊢
  rw [← hbbx] at Nx_9 ⊢
  clear hXx hbbx hbbr hbx
  obtain ⟨t0, t1, t2, t3, t4, t5, t6, t7, t8, t9⟩ := K4_9.out.cells10
  have lt := K4_9.out.lt
  obtain ⟨y0, y1, y2⟩ := KX_9.out.cells3
  have ly := KX_9.out.lt
  go_wp2_with fail
  refine (HU.out _ C1_9.out).mono ?_
  rintro e v10 ⟨qy, rfl, hc, hb⟩
  clear t0 t1 t2 t3 t4 t5 t6 t7 t8 t9 lt y0 y1 y2 ly
  have A_10 := Lib.hid (A_9.out.trans (Below.mono hb A_9.out.size))
  have K4_10 := Lib.hid (K4_9.out.below hb)
  have C1_10 := Lib.hid (C1_9.out.below hb)
  have KX_10 := Lib.hid (KX_9.out.below hb)
  have CA_10 := Lib.hid (CA_9.out.below hb)
  have Na_10 := Lib.hid (Na_9.out.below hb)
  have No_10 := Lib.hid (No_9.out.below hb)
  have CB_10 := Lib.hid (CB_9.out.below hb)
  have Nb_10 := Lib.hid (Nb_9.out.below hb)
  have Np_10 := Lib.hid (Np_9.out.below hb)
  have Nz_10 := Lib.hid (Nz_9.out.below hb)
  have CX_10 := Lib.hid (CX_9.out.below hb)
  have Nx_10 := Lib.hid (Nx_9.out.below hb)
  have Nr_10 := Lib.hid (Nr_9.out.below hb)
  clear A_9 K4_9 C1_9 KX_9 CA_9 Na_9 No_9 CB_9 Nb_9 Np_9 Nz_9 CX_9 Nx_9 Nr_9
  have CY_10 := Lib.hid (hc)
  clear hb hc
  have hbx := (below_alloc v10 (.cells (chC rb qy) 27)).alloc (by simp) (.cells (outC ⟨pk, pn, ⟨pg, pc, ps⟩, pt⟩) 50)
  have A_11 := Lib.hid (A_10.out.trans (Below.mono hbx A_10.out.size))
  have K4_11 := Lib.hid (K4_10.out.below hbx)
  have C1_11 := Lib.hid (C1_10.out.below hbx)
  have KX_11 := Lib.hid (KX_10.out.below hbx)
  have CA_11 := Lib.hid (CA_10.out.below hbx)
  have Na_11 := Lib.hid (Na_10.out.below hbx)
  have No_11 := Lib.hid (No_10.out.below hbx)
  have CB_11 := Lib.hid (CB_10.out.below hbx)
  have Nb_11 := Lib.hid (Nb_10.out.below hbx)
  have Np_11 := Lib.hid (Np_10.out.below hbx)
  have Nz_11 := Lib.hid (Nz_10.out.below hbx)
  have CX_11 := Lib.hid (CX_10.out.below hbx)
  have Nx_11 := Lib.hid (Nx_10.out.below hbx)
  have Nr_11 := Lib.hid (Nr_10.out.below hbx)
  have CY_11 := Lib.hid (CY_10.out.below hbx)
  clear A_10 K4_10 C1_10 KX_10 CA_10 Na_10 No_10 CB_10 Nb_10 Np_10 Nz_10 CX_10 Nx_10 Nr_10 CY_10
  have Nk_11 := Lib.hid ((Bx.new v10 (chC rb qy) 27).below (below_alloc _ (.cells (outC ⟨pk, pn, ⟨pg, pc, ps⟩, pt⟩) 50)))
  have Nv_11 := Lib.hid (Bx.new2 v10 (.cells (chC rb qy) 27) (outC ⟨pk, pn, ⟨pg, pc, ps⟩, pt⟩) 50)
  go_upto_region 9 with (fail)
  obtain ⟨Xk, hXk⟩ : ∃ X, X = (v10.alloc (.cells (chC rb qy) 27)).alloc (.cells (outC ⟨pk, pn, ⟨pg, pc, ps⟩, pt⟩) 50) := ⟨_, rfl⟩
  obtain ⟨bv, hbbv⟩ : ∃ b, b = v10.heap.size + 1 := ⟨_, rfl⟩
  obtain ⟨bk, hbbk⟩ : ∃ b, b = v10.heap.size := ⟨_, rfl⟩
  rw [← hXk] at A_11 K4_11 C1_11 KX_11 CA_11 Na_11 No_11 CB_11 Nb_11 Np_11 Nz_11 CX_11 Nx_11 Nr_11 CY_11 Nk_11 Nv_11 ⊢
  rw [← hbbv] at Nv_11 ⊢
  rw [← hbbk] at Nk_11 ⊢
  clear hXk hbbk hbbv hbx
  have hee1 : (e1 != e1) = false := by simp
  obtain ⟨m0, m1, m2, m3, m4, m5⟩ := No_11.out.cells6
  have lm := No_11.out.lt
  obtain ⟨n0, n1, n2, n3, n4, n5⟩ := Nr_11.out.cells6
  have ln := Nr_11.out.lt
  obtain ⟨s0, s1, s2, s3, s4, s5⟩ := Np_11.out.cells6
  have ls := Np_11.out.lt
  obtain ⟨u0, u1, u2, u3, u4, u5⟩ := Nv_11.out.cells6
  have lu := Nv_11.out.lt
  go_wp2_with fail
  refine (alive_any _).mono ?_
  rintro e v12 ⟨rfl, hb⟩
  clear m0 m1 m2 m3 m4 m5 lm n0 n1 n2 n3 n4 n5 ln s0 s1 s2 s3 s4 s5 ls u0 u1 u2 u3 u4 u5 lu
  have A_12 := Lib.hid (A_11.out.trans (Below.mono hb A_11.out.size))
  have K4_12 := Lib.hid (K4_11.out.below hb)
  have C1_12 := Lib.hid (C1_11.out.below hb)
  have KX_12 := Lib.hid (KX_11.out.below hb)
  have CA_12 := Lib.hid (CA_11.out.below hb)
  have Na_12 := Lib.hid (Na_11.out.below hb)
  have No_12 := Lib.hid (No_11.out.below hb)
  have CB_12 := Lib.hid (CB_11.out.below hb)
  have Nb_12 := Lib.hid (Nb_11.out.below hb)
  have Np_12 := Lib.hid (Np_11.out.below hb)
  have Nz_12 := Lib.hid (Nz_11.out.below hb)
  have CX_12 := Lib.hid (CX_11.out.below hb)
  have Nx_12 := Lib.hid (Nx_11.out.below hb)
  have Nr_12 := Lib.hid (Nr_11.out.below hb)
  have CY_12 := Lib.hid (CY_11.out.below hb)
  have Nk_12 := Lib.hid (Nk_11.out.below hb)
  have Nv_12 := Lib.hid (Nv_11.out.below hb)
  clear A_11 K4_11 C1_11 KX_11 CA_11 Na_11 No_11 CB_11 Nb_11 Np_11 Nz_11 CX_11 Nx_11 Nr_11 CY_11 Nk_11 Nv_11
  clear hb
  obtain ⟨t0, t1, t2, t3, t4, t5, t6, t7, t8, t9⟩ := Na_12.out.cells10
  have lt := Na_12.out.lt
  go_wp2_with fail
  refine (empty_zero qa _ CA_12.out).mono ?_
  rintro e v13 ⟨rfl, hb⟩
  clear t0 t1 t2 t3 t4 t5 t6 t7 t8 t9 lt
  have A_13 := Lib.hid (A_12.out.trans (Below.mono hb A_12.out.size))
  have K4_13 := Lib.hid (K4_12.out.below hb)
  have C1_13 := Lib.hid (C1_12.out.below hb)
  have KX_13 := Lib.hid (KX_12.out.below hb)
  have CA_13 := Lib.hid (CA_12.out.below hb)
  have Na_13 := Lib.hid (Na_12.out.below hb)
  have No_13 := Lib.hid (No_12.out.below hb)
  have CB_13 := Lib.hid (CB_12.out.below hb)
  have Nb_13 := Lib.hid (Nb_12.out.below hb)
  have Np_13 := Lib.hid (Np_12.out.below hb)
  have Nz_13 := Lib.hid (Nz_12.out.below hb)
  have CX_13 := Lib.hid (CX_12.out.below hb)
  have Nx_13 := Lib.hid (Nx_12.out.below hb)
  have Nr_13 := Lib.hid (Nr_12.out.below hb)
  have CY_13 := Lib.hid (CY_12.out.below hb)
  have Nk_13 := Lib.hid (Nk_12.out.below hb)
  have Nv_13 := Lib.hid (Nv_12.out.below hb)
  clear A_12 K4_12 C1_12 KX_12 CA_12 Na_12 No_12 CB_12 Nb_12 Np_12 Nz_12 CX_12 Nx_12 Nr_12 CY_12 Nk_12 Nv_12
  clear hb
  obtain ⟨t0, t1, t2, t3, t4, t5, t6, t7, t8, t9⟩ := Nb_13.out.cells10
  have lt := Nb_13.out.lt
  obtain ⟨u0, u1, u2, u3, u4, u5, u6, u7, u8, u9⟩ := Nk_13.out.cells10
  have lu := Nk_13.out.lt
  go_wp2_with fail
  refine (HS2.out _ _ _ CB_13.out CY_13.out).mono ?_
  rintro e v14 ⟨rfl, hb⟩
  clear t0 t1 t2 t3 t4 t5 t6 t7 t8 t9 lt u0 u1 u2 u3 u4 u5 u6 u7 u8 u9 lu
  have A_14 := Lib.hid (A_13.out.trans (Below.mono hb A_13.out.size))
  have K4_14 := Lib.hid (K4_13.out.below hb)
  have C1_14 := Lib.hid (C1_13.out.below hb)
  have KX_14 := Lib.hid (KX_13.out.below hb)
  have CA_14 := Lib.hid (CA_13.out.below hb)
  have Na_14 := Lib.hid (Na_13.out.below hb)
  have No_14 := Lib.hid (No_13.out.below hb)
  have CB_14 := Lib.hid (CB_13.out.below hb)
  have Nb_14 := Lib.hid (Nb_13.out.below hb)
  have Np_14 := Lib.hid (Np_13.out.below hb)
  have Nz_14 := Lib.hid (Nz_13.out.below hb)
  have CX_14 := Lib.hid (CX_13.out.below hb)
  have Nx_14 := Lib.hid (Nx_13.out.below hb)
  have Nr_14 := Lib.hid (Nr_13.out.below hb)
  have CY_14 := Lib.hid (CY_13.out.below hb)
  have Nk_14 := Lib.hid (Nk_13.out.below hb)
  have Nv_14 := Lib.hid (Nv_13.out.below hb)
  clear A_13 K4_13 C1_13 KX_13 CA_13 Na_13 No_13 CB_13 Nb_13 Np_13 Nz_13 CX_13 Nx_13 Nr_13 CY_13 Nk_13 Nv_13
  clear hb
  go_wp2_with fail
  go_ret
  exact ⟨rfl, A_14.out⟩
end Go.Proofs.Ytfolhgpbplfilaa
namespace Go.Proofs.Ytfolhgpbplfilaa
open Go.RowKit
set_option linter.unusedSimpArgs false
set_option linter.unusedVariables false
set_option maxRecDepth 100000 in
set_option maxHeartbeats 8000000 in
theorem pass_nn (c : Chn) (q : CAt) (x : Wt) (w : World) (h : Cha w c q) (hx : WtOk x) (hr : rightC (fewC c) = true) (hmy : mayW x = true) (a ra : Chn) (o : Out) (e1 : Int) (b rb : Chn) (p : Out) (e2 : Int)
    (HS0 : ∀ W, Cha W (fewC c) (fewAt q) → Calls Try.prog 22 #[chV (fewC c) (fewAt q), wV x] W (GotP W a o e1)) (HR0 : ∀ W, Cha W (fewC c) (fewAt q) → Calls Try.prog 23 #[chV (fewC c) (fewAt q), wV x] W (GotP W b p e2))
    (HQ0 : ∀ W, Cha W (fewC c) (fewAt q) → Calls Try.prog 25 #[chV (fewC c) (fewAt q), wV x] W (GotQ W ra o e1)) (HU0 : ∀ W, Cha W (fewC c) (fewAt q) → Calls Try.prog 26 #[chV (fewC c) (fewAt q), wV x] W (GotQ W rb p e2))
    (ha : e1 ≠ 0 ∧ a = zeroC) (hb0 : e2 ≠ 0 ∧ b = zeroC) : Calls Try.prog 4 #[chV c q, wV x] w (Says w) := by
  have HFW := Lib.hid (fun W (H : Cha W c q) => few_any c q W H)
  unfold GotC at HFW
  obtain ⟨c1, hc1⟩ : ∃ c1, c1 = fewC c := ⟨_, rfl⟩
  obtain ⟨q1, hq1⟩ : ∃ q1, q1 = fewAt q := ⟨_, rfl⟩
  have AP1 := Lib.hid (show Ap q1 w.heap.size by rw [hq1]; exact (few_cha h).ap (Nat.le_refl _))
  rw [← hc1, ← hq1] at HFW
  rw [← hc1] at hr HS0 HR0 HQ0 HU0
  rw [← hq1] at HS0 HR0 HQ0 HU0
  have HRR := Lib.hid (fun W (H : Cha W c1 q1) => refRight_c c1 q1 W H)
  rw [hr] at HRR
  have HM := Lib.hid (fun W => refMay_any x W hx)
  rw [hmy] at HM
  have HS := Lib.hid HS0; have HR := Lib.hid HR0; have HQ := Lib.hid HQ0; have HU := Lib.hid HU0
  unfold GotP at HS HR
  unfold GotQ at HQ HU
  clear hr hmy HS0 HR0 HQ0 HU0
  obtain ⟨he1, rfl⟩ := ha
  have hn1 : (e1 != 0) = true := by rw [bne_iff_ne]; exact he1
  have hq1' : (e1 == 0) = false := by rw [beq_eq_false_iff_ne]; exact he1
  clear he1
  obtain ⟨he2, rfl⟩ := hb0
  have hn2 : (e2 != 0) = true := by rw [bne_iff_ne]; exact he2
  have hq2' : (e2 == 0) = false := by rw [beq_eq_false_iff_ne]; exact he2
  clear he2
  obtain ⟨ok, on, ⟨og, oc, os⟩, ot⟩ := o
  obtain ⟨pk, pn, ⟨pg, pc, ps⟩, pt⟩ := p
  have A0 := Lib.hid ((below_alloc w (.cells (chC c q) 27)).alloc (by simp) (.cells #[.int .i64 x.g, .int .i64 x.c, .int .i64 x.s] 48)); have K0 := Lib.hid ((Bx.new w (chC c q) 27).below (below_alloc _ (.cells #[.int .i64 x.g, .int .i64 x.c, .int .i64 x.s] 48))); have X0 := Lib.hid (Bx.new2 w (.cells (chC c q) 27) #[.int .i64 x.g, .int .i64 x.c, .int .i64 x.s] 48); have C0 := Lib.hid (h.below A0.out)
  clear hc1 hq1 h
  go_enter Try.func4, Try.ntmps4
  go_wp2_with fail
  refine (HFW.out _ C0.out).mono ?_
  rintro e w1 ⟨rfl, hc, hb⟩
  have A1 := Lib.hid (A0.out.trans (Below.mono hb A0.out.size)); have K1 := Lib.hid (K0.out.below hb); have X1 := Lib.hid (X0.out.below hb); have C1 := Lib.hid hc
  clear hc hb A0 K0 C0 X0
  obtain ⟨t0, t1, t2, t3, t4, t5, t6, t7, t8, t9⟩ := K1.out.cells10
  have f0 := K1.out.froz 0; have f1 := K1.out.froz 1; have f2 := K1.out.froz 2; have f3 := K1.out.froz 3; have f4 := K1.out.froz 4; have f5 := K1.out.froz 5; have f6 := K1.out.froz 6; have f7 := K1.out.froz 7; have f8 := K1.out.froz 8; have f9 := K1.out.froz 9; have l0 := K1.out.lt
  go_upto_region 2 with (fail)
  obtain ⟨X, hX⟩ : ∃ X, X = st10 w1 w.heap.size (.int .i64 c1.cap) (.bool c1.cl) (.int .i64 c1.rc) (.int .i64 c1.rf) (.slice q1.za q1.zn q1.zc) (.int .i64 c1.rk) (.int .i64 c1.sent) (.int .i64 c1.got) (.slice q1.sa q1.sn q1.sc) (.slice q1.ra q1.rn q1.rq) := ⟨_, rfl⟩
  have GX := Lib.hid (show w1.grownBy X (some w.heap.size) by rw [hX]; exact grown_st10 (World.grownBy.refl _ _) (.int .i64 c1.cap) (.bool c1.cl) (.int .i64 c1.rc) (.int .i64 c1.rf) (.slice q1.za q1.zn q1.zc) (.int .i64 c1.rk) (.int .i64 c1.sent) (.int .i64 c1.got) (.slice q1.sa q1.sn q1.sc) (.slice q1.ra q1.rn q1.rq))
  have K4_0 := Lib.hid (show Bx X w.heap.size (chC c1 q1) 27 by rw [hX]; exact K1.out.st10 (.int .i64 c1.cap) (.bool c1.cl) (.int .i64 c1.rc) (.int .i64 c1.rf) (.slice q1.za q1.zn q1.zc) (.int .i64 c1.rk) (.int .i64 c1.sent) (.int .i64 c1.got) (.slice q1.sa q1.sn q1.sc) (.slice q1.ra q1.rn q1.rq))
  have A_0 := Lib.hid (show Below w.heap.size w X by rw [hX]; exact below_st10 A1.out (Nat.le_refl _) (.int .i64 c1.cap) (.bool c1.cl) (.int .i64 c1.rc) (.int .i64 c1.rf) (.slice q1.za q1.zn q1.zc) (.int .i64 c1.rk) (.int .i64 c1.sent) (.int .i64 c1.got) (.slice q1.sa q1.sn q1.sc) (.slice q1.ra q1.rn q1.rq))
  have C1_0 := Lib.hid (C1.out.other AP1.out GX.out)
  have KX_0 := Lib.hid (X1.out.other GX.out (fun e => by have := Option.some.inj e; omega))
  have hx1 := hX.symm
  simp only [st10] at hx1
  rw [hx1]
  obtain ⟨b5, hb5⟩ : ∃ b, b = w.heap.size + 1 := ⟨_, rfl⟩
  rw [← hb5] at KX_0 ⊢
  obtain ⟨b4, hb4⟩ : ∃ b, b = w.heap.size := ⟨_, rfl⟩
  rw [← hb4] at K4_0 ⊢
  clear hx1 hX hb4 hb5 t0 t1 t2 t3 t4 t5 t6 t7 t8 t9 f0 f1 f2 f3 f4 f5 f6 f7 f8 f9 l0 K1 A1 C1 GX X1
  obtain ⟨t0, t1, t2, t3, t4, t5, t6, t7, t8, t9⟩ := K4_0.out.cells10
  have lt := K4_0.out.lt
  obtain ⟨y0, y1, y2⟩ := KX_0.out.cells3
  have ly := KX_0.out.lt
  go_wp2_with fail
  refine (HS.out _ C1_0.out).mono ?_
  rintro e v1 ⟨qa, rfl, hc, hfr, hb⟩
  clear t0 t1 t2 t3 t4 t5 t6 t7 t8 t9 lt y0 y1 y2 ly
  have A_1 := Lib.hid (A_0.out.trans (Below.mono hb A_0.out.size))
  have K4_1 := Lib.hid (K4_0.out.below hb)
  have C1_1 := Lib.hid (C1_0.out.below hb)
  have KX_1 := Lib.hid (KX_0.out.below hb)
  clear A_0 K4_0 C1_0 KX_0
  have CA_1 := Lib.hid (hc)
  clear hb hc
  clear hfr
  have hbx := (below_alloc v1 (.cells (chC zeroC qa) 27)).alloc (by simp) (.cells (outC ⟨ok, on, ⟨og, oc, os⟩, ot⟩) 50)
  have A_2 := Lib.hid (A_1.out.trans (Below.mono hbx A_1.out.size))
  have K4_2 := Lib.hid (K4_1.out.below hbx)
  have C1_2 := Lib.hid (C1_1.out.below hbx)
  have KX_2 := Lib.hid (KX_1.out.below hbx)
  have CA_2 := Lib.hid (CA_1.out.below hbx)
  clear A_1 K4_1 C1_1 KX_1 CA_1
  have Na_2 := Lib.hid ((Bx.new v1 (chC zeroC qa) 27).below (below_alloc _ (.cells (outC ⟨ok, on, ⟨og, oc, os⟩, ot⟩) 50)))
  have No_2 := Lib.hid (Bx.new2 v1 (.cells (chC zeroC qa) 27) (outC ⟨ok, on, ⟨og, oc, os⟩, ot⟩) 50)
  go_upto_region 3 with (fail)
  obtain ⟨Xa, hXa⟩ : ∃ X, X = (v1.alloc (.cells (chC zeroC qa) 27)).alloc (.cells (outC ⟨ok, on, ⟨og, oc, os⟩, ot⟩) 50) := ⟨_, rfl⟩
  obtain ⟨bo, hbbo⟩ : ∃ b, b = v1.heap.size + 1 := ⟨_, rfl⟩
  obtain ⟨ba, hbba⟩ : ∃ b, b = v1.heap.size := ⟨_, rfl⟩
  rw [← hXa] at A_2 K4_2 C1_2 KX_2 CA_2 Na_2 No_2 ⊢
  rw [← hbbo] at No_2 ⊢
  rw [← hbba] at Na_2 ⊢
  clear hXa hbba hbbo hbx
  obtain ⟨t0, t1, t2, t3, t4, t5, t6, t7, t8, t9⟩ := K4_2.out.cells10
  have lt := K4_2.out.lt
  obtain ⟨y0, y1, y2⟩ := KX_2.out.cells3
  have ly := KX_2.out.lt
  go_wp2_with fail
  refine (HR.out _ C1_2.out).mono ?_
  rintro e v3 ⟨qb, rfl, hc, hfr, hb⟩
  clear t0 t1 t2 t3 t4 t5 t6 t7 t8 t9 lt y0 y1 y2 ly
  have A_3 := Lib.hid (A_2.out.trans (Below.mono hb A_2.out.size))
  have K4_3 := Lib.hid (K4_2.out.below hb)
  have C1_3 := Lib.hid (C1_2.out.below hb)
  have KX_3 := Lib.hid (KX_2.out.below hb)
  have CA_3 := Lib.hid (CA_2.out.below hb)
  have Na_3 := Lib.hid (Na_2.out.below hb)
  have No_3 := Lib.hid (No_2.out.below hb)
  clear A_2 K4_2 C1_2 KX_2 CA_2 Na_2 No_2
  have CB_3 := Lib.hid (hc)
  clear hb hc
  clear hfr
  have hbx := (below_alloc v3 (.cells (chC zeroC qb) 27)).alloc (by simp) (.cells (outC ⟨pk, pn, ⟨pg, pc, ps⟩, pt⟩) 50)
  have A_4 := Lib.hid (A_3.out.trans (Below.mono hbx A_3.out.size))
  have K4_4 := Lib.hid (K4_3.out.below hbx)
  have C1_4 := Lib.hid (C1_3.out.below hbx)
  have KX_4 := Lib.hid (KX_3.out.below hbx)
  have CA_4 := Lib.hid (CA_3.out.below hbx)
  have Na_4 := Lib.hid (Na_3.out.below hbx)
  have No_4 := Lib.hid (No_3.out.below hbx)
  have CB_4 := Lib.hid (CB_3.out.below hbx)
  clear A_3 K4_3 C1_3 KX_3 CA_3 Na_3 No_3 CB_3
  have Nb_4 := Lib.hid ((Bx.new v3 (chC zeroC qb) 27).below (below_alloc _ (.cells (outC ⟨pk, pn, ⟨pg, pc, ps⟩, pt⟩) 50)))
  have Np_4 := Lib.hid (Bx.new2 v3 (.cells (chC zeroC qb) 27) (outC ⟨pk, pn, ⟨pg, pc, ps⟩, pt⟩) 50)
  go_upto_region 4 with (fail)
  obtain ⟨Xb, hXb⟩ : ∃ X, X = (v3.alloc (.cells (chC zeroC qb) 27)).alloc (.cells (outC ⟨pk, pn, ⟨pg, pc, ps⟩, pt⟩) 50) := ⟨_, rfl⟩
  obtain ⟨bp, hbbp⟩ : ∃ b, b = v3.heap.size + 1 := ⟨_, rfl⟩
  obtain ⟨bb, hbbb⟩ : ∃ b, b = v3.heap.size := ⟨_, rfl⟩
  rw [← hXb] at A_4 K4_4 C1_4 KX_4 CA_4 Na_4 No_4 CB_4 Nb_4 Np_4 ⊢
  rw [← hbbp] at Np_4 ⊢
  rw [← hbbb] at Nb_4 ⊢
  clear hXb hbbb hbbp hbx
  have hbx := below_alloc Xb (.cells #[.int .i64 0, .int .i64 0, .int .i64 0, .int .i64 0, .int .i64 0, .int .i64 0] 50)
  have A_5 := Lib.hid (A_4.out.trans (Below.mono hbx A_4.out.size))
  have K4_5 := Lib.hid (K4_4.out.below hbx)
  have C1_5 := Lib.hid (C1_4.out.below hbx)
  have KX_5 := Lib.hid (KX_4.out.below hbx)
  have CA_5 := Lib.hid (CA_4.out.below hbx)
  have Na_5 := Lib.hid (Na_4.out.below hbx)
  have No_5 := Lib.hid (No_4.out.below hbx)
  have CB_5 := Lib.hid (CB_4.out.below hbx)
  have Nb_5 := Lib.hid (Nb_4.out.below hbx)
  have Np_5 := Lib.hid (Np_4.out.below hbx)
  clear A_4 K4_4 C1_4 KX_4 CA_4 Na_4 No_4 CB_4 Nb_4 Np_4
  have Nz_5 := Lib.hid (Bx.new Xb #[.int .i64 0, .int .i64 0, .int .i64 0, .int .i64 0, .int .i64 0, .int .i64 0] 50)
  go_upto_region 5 with (fail)
  obtain ⟨Xz, hXz⟩ : ∃ X, X = Xb.alloc (.cells #[.int .i64 0, .int .i64 0, .int .i64 0, .int .i64 0, .int .i64 0, .int .i64 0] 50) := ⟨_, rfl⟩
  obtain ⟨bz, hbbz⟩ : ∃ b, b = Xb.heap.size := ⟨_, rfl⟩
  rw [← hXz] at A_5 K4_5 C1_5 KX_5 CA_5 Na_5 No_5 CB_5 Nb_5 Np_5 Nz_5 ⊢
  rw [← hbbz] at Nz_5 ⊢
  clear hXz hbbz hbx
  obtain ⟨t0, t1, t2, t3, t4, t5, t6, t7, t8, t9⟩ := K4_5.out.cells10
  have lt := K4_5.out.lt
  go_wp2_with fail
  refine (HRR.out _ C1_5.out).mono ?_
  rintro e v6 ⟨rfl, hb⟩
  clear t0 t1 t2 t3 t4 t5 t6 t7 t8 t9 lt
  have A_6 := Lib.hid (A_5.out.trans (Below.mono hb A_5.out.size))
  have K4_6 := Lib.hid (K4_5.out.below hb)
  have C1_6 := Lib.hid (C1_5.out.below hb)
  have KX_6 := Lib.hid (KX_5.out.below hb)
  have CA_6 := Lib.hid (CA_5.out.below hb)
  have Na_6 := Lib.hid (Na_5.out.below hb)
  have No_6 := Lib.hid (No_5.out.below hb)
  have CB_6 := Lib.hid (CB_5.out.below hb)
  have Nb_6 := Lib.hid (Nb_5.out.below hb)
  have Np_6 := Lib.hid (Np_5.out.below hb)
  have Nz_6 := Lib.hid (Nz_5.out.below hb)
  clear A_5 K4_5 C1_5 KX_5 CA_5 Na_5 No_5 CB_5 Nb_5 Np_5 Nz_5
  clear hb
  obtain ⟨y0, y1, y2⟩ := KX_6.out.cells3
  have ly := KX_6.out.lt
  go_wp2_with fail
  refine (HM.out _).mono ?_
  rintro e v7 ⟨rfl, hb⟩
  clear y0 y1 y2 ly
  have A_7 := Lib.hid (A_6.out.trans (Below.mono hb A_6.out.size))
  have K4_7 := Lib.hid (K4_6.out.below hb)
  have C1_7 := Lib.hid (C1_6.out.below hb)
  have KX_7 := Lib.hid (KX_6.out.below hb)
  have CA_7 := Lib.hid (CA_6.out.below hb)
  have Na_7 := Lib.hid (Na_6.out.below hb)
  have No_7 := Lib.hid (No_6.out.below hb)
  have CB_7 := Lib.hid (CB_6.out.below hb)
  have Nb_7 := Lib.hid (Nb_6.out.below hb)
  have Np_7 := Lib.hid (Np_6.out.below hb)
  have Nz_7 := Lib.hid (Nz_6.out.below hb)
  clear A_6 K4_6 C1_6 KX_6 CA_6 Na_6 No_6 CB_6 Nb_6 Np_6 Nz_6
  clear hb
  obtain ⟨t0, t1, t2, t3, t4, t5, t6, t7, t8, t9⟩ := K4_7.out.cells10
  have lt := K4_7.out.lt
  obtain ⟨y0, y1, y2⟩ := KX_7.out.cells3
  have ly := KX_7.out.lt
  go_wp2_with fail
  refine (HQ.out _ C1_7.out).mono ?_
  rintro e v8 ⟨qx, rfl, hc, hb⟩
  clear t0 t1 t2 t3 t4 t5 t6 t7 t8 t9 lt y0 y1 y2 ly
  have A_8 := Lib.hid (A_7.out.trans (Below.mono hb A_7.out.size))
  have K4_8 := Lib.hid (K4_7.out.below hb)
  have C1_8 := Lib.hid (C1_7.out.below hb)
  have KX_8 := Lib.hid (KX_7.out.below hb)
  have CA_8 := Lib.hid (CA_7.out.below hb)
  have Na_8 := Lib.hid (Na_7.out.below hb)
  have No_8 := Lib.hid (No_7.out.below hb)
  have CB_8 := Lib.hid (CB_7.out.below hb)
  have Nb_8 := Lib.hid (Nb_7.out.below hb)
  have Np_8 := Lib.hid (Np_7.out.below hb)
  have Nz_8 := Lib.hid (Nz_7.out.below hb)
  clear A_7 K4_7 C1_7 KX_7 CA_7 Na_7 No_7 CB_7 Nb_7 Np_7 Nz_7
  have CX_8 := Lib.hid (hc)
  clear hb hc
  have hbx := (below_alloc v8 (.cells (chC ra qx) 27)).alloc (by simp) (.cells (outC ⟨ok, on, ⟨og, oc, os⟩, ot⟩) 50)
  have A_9 := Lib.hid (A_8.out.trans (Below.mono hbx A_8.out.size))
  have K4_9 := Lib.hid (K4_8.out.below hbx)
  have C1_9 := Lib.hid (C1_8.out.below hbx)
  have KX_9 := Lib.hid (KX_8.out.below hbx)
  have CA_9 := Lib.hid (CA_8.out.below hbx)
  have Na_9 := Lib.hid (Na_8.out.below hbx)
  have No_9 := Lib.hid (No_8.out.below hbx)
  have CB_9 := Lib.hid (CB_8.out.below hbx)
  have Nb_9 := Lib.hid (Nb_8.out.below hbx)
  have Np_9 := Lib.hid (Np_8.out.below hbx)
  have Nz_9 := Lib.hid (Nz_8.out.below hbx)
  have CX_9 := Lib.hid (CX_8.out.below hbx)
  clear A_8 K4_8 C1_8 KX_8 CA_8 Na_8 No_8 CB_8 Nb_8 Np_8 Nz_8 CX_8
  have Nx_9 := Lib.hid ((Bx.new v8 (chC ra qx) 27).below (below_alloc _ (.cells (outC ⟨ok, on, ⟨og, oc, os⟩, ot⟩) 50)))
  have Nr_9 := Lib.hid (Bx.new2 v8 (.cells (chC ra qx) 27) (outC ⟨ok, on, ⟨og, oc, os⟩, ot⟩) 50)
  go_upto_region 8 with (fail)
  obtain ⟨Xx, hXx⟩ : ∃ X, X = (v8.alloc (.cells (chC ra qx) 27)).alloc (.cells (outC ⟨ok, on, ⟨og, oc, os⟩, ot⟩) 50) := ⟨_, rfl⟩
  obtain ⟨br, hbbr⟩ : ∃ b, b = v8.heap.size + 1 := ⟨_, rfl⟩
  obtain ⟨bx, hbbx⟩ : ∃ b, b = v8.heap.size := ⟨_, rfl⟩
  rw [← hXx] at A_9 K4_9 C1_9 KX_9 CA_9 Na_9 No_9 CB_9 Nb_9 Np_9 Nz_9 CX_9 Nx_9 Nr_9 ⊢
  rw [← hbbr] at Nr_9 ⊢
  rw [← hbbx] at Nx_9 ⊢
  clear hXx hbbx hbbr hbx
  obtain ⟨t0, t1, t2, t3, t4, t5, t6, t7, t8, t9⟩ := K4_9.out.cells10
  have lt := K4_9.out.lt
  obtain ⟨y0, y1, y2⟩ := KX_9.out.cells3
  have ly := KX_9.out.lt
  go_wp2_with fail
  refine (HU.out _ C1_9.out).mono ?_
  rintro e v10 ⟨qy, rfl, hc, hb⟩
  clear t0 t1 t2 t3 t4 t5 t6 t7 t8 t9 lt y0 y1 y2 ly
  have A_10 := Lib.hid (A_9.out.trans (Below.mono hb A_9.out.size))
  have K4_10 := Lib.hid (K4_9.out.below hb)
  have C1_10 := Lib.hid (C1_9.out.below hb)
  have KX_10 := Lib.hid (KX_9.out.below hb)
  have CA_10 := Lib.hid (CA_9.out.below hb)
  have Na_10 := Lib.hid (Na_9.out.below hb)
  have No_10 := Lib.hid (No_9.out.below hb)
  have CB_10 := Lib.hid (CB_9.out.below hb)
  have Nb_10 := Lib.hid (Nb_9.out.below hb)
  have Np_10 := Lib.hid (Np_9.out.below hb)
  have Nz_10 := Lib.hid (Nz_9.out.below hb)
  have CX_10 := Lib.hid (CX_9.out.below hb)
  have Nx_10 := Lib.hid (Nx_9.out.below hb)
  have Nr_10 := Lib.hid (Nr_9.out.below hb)
  clear A_9 K4_9 C1_9 KX_9 CA_9 Na_9 No_9 CB_9 Nb_9 Np_9 Nz_9 CX_9 Nx_9 Nr_9
  have CY_10 := Lib.hid (hc)
  clear hb hc
  have hbx := (below_alloc v10 (.cells (chC rb qy) 27)).alloc (by simp) (.cells (outC ⟨pk, pn, ⟨pg, pc, ps⟩, pt⟩) 50)
  have A_11 := Lib.hid (A_10.out.trans (Below.mono hbx A_10.out.size))
  have K4_11 := Lib.hid (K4_10.out.below hbx)
  have C1_11 := Lib.hid (C1_10.out.below hbx)
  have KX_11 := Lib.hid (KX_10.out.below hbx)
  have CA_11 := Lib.hid (CA_10.out.below hbx)
  have Na_11 := Lib.hid (Na_10.out.below hbx)
  have No_11 := Lib.hid (No_10.out.below hbx)
  have CB_11 := Lib.hid (CB_10.out.below hbx)
  have Nb_11 := Lib.hid (Nb_10.out.below hbx)
  have Np_11 := Lib.hid (Np_10.out.below hbx)
  have Nz_11 := Lib.hid (Nz_10.out.below hbx)
  have CX_11 := Lib.hid (CX_10.out.below hbx)
  have Nx_11 := Lib.hid (Nx_10.out.below hbx)
  have Nr_11 := Lib.hid (Nr_10.out.below hbx)
  have CY_11 := Lib.hid (CY_10.out.below hbx)
  clear A_10 K4_10 C1_10 KX_10 CA_10 Na_10 No_10 CB_10 Nb_10 Np_10 Nz_10 CX_10 Nx_10 Nr_10 CY_10
  have Nk_11 := Lib.hid ((Bx.new v10 (chC rb qy) 27).below (below_alloc _ (.cells (outC ⟨pk, pn, ⟨pg, pc, ps⟩, pt⟩) 50)))
  have Nv_11 := Lib.hid (Bx.new2 v10 (.cells (chC rb qy) 27) (outC ⟨pk, pn, ⟨pg, pc, ps⟩, pt⟩) 50)
  go_upto_region 9 with (fail)
  obtain ⟨Xk, hXk⟩ : ∃ X, X = (v10.alloc (.cells (chC rb qy) 27)).alloc (.cells (outC ⟨pk, pn, ⟨pg, pc, ps⟩, pt⟩) 50) := ⟨_, rfl⟩
  obtain ⟨bv, hbbv⟩ : ∃ b, b = v10.heap.size + 1 := ⟨_, rfl⟩
  obtain ⟨bk, hbbk⟩ : ∃ b, b = v10.heap.size := ⟨_, rfl⟩
  rw [← hXk] at A_11 K4_11 C1_11 KX_11 CA_11 Na_11 No_11 CB_11 Nb_11 Np_11 Nz_11 CX_11 Nx_11 Nr_11 CY_11 Nk_11 Nv_11 ⊢
  rw [← hbbv] at Nv_11 ⊢
  rw [← hbbk] at Nk_11 ⊢
  clear hXk hbbk hbbv hbx
  have hee1 : (e1 != e1) = false := by simp
  have hee2 : (e2 != e2) = false := by simp
  obtain ⟨m0, m1, m2, m3, m4, m5⟩ := No_11.out.cells6
  have lm := No_11.out.lt
  obtain ⟨n0, n1, n2, n3, n4, n5⟩ := Nr_11.out.cells6
  have ln := Nr_11.out.lt
  obtain ⟨s0, s1, s2, s3, s4, s5⟩ := Np_11.out.cells6
  have ls := Np_11.out.lt
  obtain ⟨u0, u1, u2, u3, u4, u5⟩ := Nv_11.out.cells6
  have lu := Nv_11.out.lt
  go_wp2_with fail
  refine (alive_any _).mono ?_
  rintro e v12 ⟨rfl, hb⟩
  clear m0 m1 m2 m3 m4 m5 lm n0 n1 n2 n3 n4 n5 ln s0 s1 s2 s3 s4 s5 ls u0 u1 u2 u3 u4 u5 lu
  have A_12 := Lib.hid (A_11.out.trans (Below.mono hb A_11.out.size))
  have K4_12 := Lib.hid (K4_11.out.below hb)
  have C1_12 := Lib.hid (C1_11.out.below hb)
  have KX_12 := Lib.hid (KX_11.out.below hb)
  have CA_12 := Lib.hid (CA_11.out.below hb)
  have Na_12 := Lib.hid (Na_11.out.below hb)
  have No_12 := Lib.hid (No_11.out.below hb)
  have CB_12 := Lib.hid (CB_11.out.below hb)
  have Nb_12 := Lib.hid (Nb_11.out.below hb)
  have Np_12 := Lib.hid (Np_11.out.below hb)
  have Nz_12 := Lib.hid (Nz_11.out.below hb)
  have CX_12 := Lib.hid (CX_11.out.below hb)
  have Nx_12 := Lib.hid (Nx_11.out.below hb)
  have Nr_12 := Lib.hid (Nr_11.out.below hb)
  have CY_12 := Lib.hid (CY_11.out.below hb)
  have Nk_12 := Lib.hid (Nk_11.out.below hb)
  have Nv_12 := Lib.hid (Nv_11.out.below hb)
  clear A_11 K4_11 C1_11 KX_11 CA_11 Na_11 No_11 CB_11 Nb_11 Np_11 Nz_11 CX_11 Nx_11 Nr_11 CY_11 Nk_11 Nv_11
  clear hb
  obtain ⟨t0, t1, t2, t3, t4, t5, t6, t7, t8, t9⟩ := Na_12.out.cells10
  have lt := Na_12.out.lt
  go_wp2_with fail
  refine (empty_zero qa _ CA_12.out).mono ?_
  rintro e v13 ⟨rfl, hb⟩
  clear t0 t1 t2 t3 t4 t5 t6 t7 t8 t9 lt
  have A_13 := Lib.hid (A_12.out.trans (Below.mono hb A_12.out.size))
  have K4_13 := Lib.hid (K4_12.out.below hb)
  have C1_13 := Lib.hid (C1_12.out.below hb)
  have KX_13 := Lib.hid (KX_12.out.below hb)
  have CA_13 := Lib.hid (CA_12.out.below hb)
  have Na_13 := Lib.hid (Na_12.out.below hb)
  have No_13 := Lib.hid (No_12.out.below hb)
  have CB_13 := Lib.hid (CB_12.out.below hb)
  have Nb_13 := Lib.hid (Nb_12.out.below hb)
  have Np_13 := Lib.hid (Np_12.out.below hb)
  have Nz_13 := Lib.hid (Nz_12.out.below hb)
  have CX_13 := Lib.hid (CX_12.out.below hb)
  have Nx_13 := Lib.hid (Nx_12.out.below hb)
  have Nr_13 := Lib.hid (Nr_12.out.below hb)
  have CY_13 := Lib.hid (CY_12.out.below hb)
  have Nk_13 := Lib.hid (Nk_12.out.below hb)
  have Nv_13 := Lib.hid (Nv_12.out.below hb)
  clear A_12 K4_12 C1_12 KX_12 CA_12 Na_12 No_12 CB_12 Nb_12 Np_12 Nz_12 CX_12 Nx_12 Nr_12 CY_12 Nk_12 Nv_12
  clear hb
  obtain ⟨t0, t1, t2, t3, t4, t5, t6, t7, t8, t9⟩ := Nb_13.out.cells10
  have lt := Nb_13.out.lt
  go_wp2_with fail
  refine (empty_zero qb _ CB_13.out).mono ?_
  rintro e v14 ⟨rfl, hb⟩
  clear t0 t1 t2 t3 t4 t5 t6 t7 t8 t9 lt
  have A_14 := Lib.hid (A_13.out.trans (Below.mono hb A_13.out.size))
  have K4_14 := Lib.hid (K4_13.out.below hb)
  have C1_14 := Lib.hid (C1_13.out.below hb)
  have KX_14 := Lib.hid (KX_13.out.below hb)
  have CA_14 := Lib.hid (CA_13.out.below hb)
  have Na_14 := Lib.hid (Na_13.out.below hb)
  have No_14 := Lib.hid (No_13.out.below hb)
  have CB_14 := Lib.hid (CB_13.out.below hb)
  have Nb_14 := Lib.hid (Nb_13.out.below hb)
  have Np_14 := Lib.hid (Np_13.out.below hb)
  have Nz_14 := Lib.hid (Nz_13.out.below hb)
  have CX_14 := Lib.hid (CX_13.out.below hb)
  have Nx_14 := Lib.hid (Nx_13.out.below hb)
  have Nr_14 := Lib.hid (Nr_13.out.below hb)
  have CY_14 := Lib.hid (CY_13.out.below hb)
  have Nk_14 := Lib.hid (Nk_13.out.below hb)
  have Nv_14 := Lib.hid (Nv_13.out.below hb)
  clear A_13 K4_13 C1_13 KX_13 CA_13 Na_13 No_13 CB_13 Nb_13 Np_13 Nz_13 CX_13 Nx_13 Nr_13 CY_13 Nk_13 Nv_13
  clear hb
  go_wp2_with fail
  go_ret
  exact ⟨rfl, A_14.out⟩
end Go.Proofs.Ytfolhgpbplfilaa
namespace Go.Proofs.Ytfolhgpbplfilaa
open Go.RowKit
set_option linter.unusedSimpArgs false
set_option linter.unusedVariables false
theorem pass_any (c : Chn) (q : CAt) (x : Wt) (w : World) (h : Cha w c q) (hx : WtOk x) : Calls Try.prog 4 #[chV c q, wV x] w (Says w) := by
  cases hr : rightC (fewC c) with
  | false => exact pass_badr c q x w h hx hr
  | true =>
    cases hmy : mayW x with
    | false => exact pass_badm c q x w h hx hr hmy
    | true =>
      obtain ⟨m, hm⟩ : ∃ m : Nat, (m : Int) = max (fewC c).cap 0 := ⟨(max (fewC c).cap 0).toNat, by omega⟩
      have ag1 := send_agree x hr hm
      have ag2 := recv_agree x hr hm
      have HS := fun W (H : Cha W (fewC c) (fewAt q)) => Send_any (fewC c) (fewAt q) x W H hx hr hmy
      have HR := fun W (H : Cha W (fewC c) (fewAt q)) => Recv_any (fewC c) (fewAt q) x W H hx hr hmy
      have HQ := fun W (H : Cha W (fewC c) (fewAt q)) => refSend_any (fewC c) (fewAt q) m x W H hx hr hm
      have HU := fun W (H : Cha W (fewC c) (fewAt q)) => refRecv_any (fewC c) (fewAt q) m x W H hx hr hm
      rw [ag1.1] at HQ
      rw [ag2.1] at HU
      by_cases h1 : (sendZ (fewC c) x).2.2 = 0
      · by_cases h2 : (recvZ (fewC c) x).2.2 = 0
        · exact pass_00 c q x w h hx hr hmy _ _ _ _ _ _ _ _ HS HR HQ HU ⟨h1, ag1.2.1 h1⟩ ⟨h2, ag2.2.1 h2⟩
        · exact pass_0n c q x w h hx hr hmy _ _ _ _ _ _ _ _ HS HR HQ HU ⟨h1, ag1.2.1 h1⟩ ⟨h2, ag2.2.2 h2⟩
      · by_cases h2 : (recvZ (fewC c) x).2.2 = 0
        · exact pass_n0 c q x w h hx hr hmy _ _ _ _ _ _ _ _ HS HR HQ HU ⟨h1, ag1.2.2 h1⟩ ⟨h2, ag2.2.1 h2⟩
        · exact pass_nn c q x w h hx hr hmy _ _ _ _ _ _ _ _ HS HR HQ HU ⟨h1, ag1.2.2 h1⟩ ⟨h2, ag2.2.2 h2⟩
end Go.Proofs.Ytfolhgpbplfilaa
namespace Go.Proofs.Ytfolhgpbplfilaa.chansPass
open Go.ChangeShapes Go.WideShapes Go.ChangeAt Go.RowKit
open Go.ChangeMaps (open_string shut_string)
set_option linter.unusedVariables false

theorem own : ownKnob Try.prog.godebug = none := by kernel_rfl
theorem laidOut : laidOutB Try.prog = true := by kernel_rfl

/-! the row -/
set_option maxRecDepth 100000 in
theorem lifted (os : Os) (started : os.Started) (H : Type) (enc : TypeId × Value → H) :
    ReturnsInHanded {} Try.checked os 4 .any (Rows.chansPassSpec.pre6 enc Try.prog Try.f4 Rows.chansPassRow.domain false) (Rows.chansPassSpec.post enc Try.prog Try.f4 false true false false) := by
  refine returnsInHanded_of_change (C := Try.checked) own started (by kernel_rfl) Try.func4
    (ChangeSpec.witness6 (enc := enc) (C := Try.checked) false ⟨#[], #[.agg #[.int .i64 0, .bool false, .int .i64 0, .int .i64 0, .slice none 0 0, .int .i64 0, .int .i64 0, .int .i64 0, .slice none 0 0, .slice none 0 0], .agg #[.int .i64 0, .int .i64 0, .int .i64 0]], []⟩ 8 (by kernel_rfl) (by kernel_rfl) (by kernel_rfl) (by kernel_rfl)) ?_
  intro W base args ds gs before hval0 hW hcnd _
  have hval : ∀ (j : Nat) t v, Try.f4.params[j]? = some t → args[j]? = some v → Value.okWide Try.prog W .any base t v := hval0
  have hW' := hW
  obtain ⟨p, q, hA0, hV, rfl, hfz, hnd⟩ := hW
  have hA : DataW.TrodAll enc Try.prog W 0 (fun _ => true) true Try.f4.params.toList args.toList ds p := hA0
  rw [Try.params4] at hA hval
  obtain ⟨v0, vs0, d0, ds0, p0, q0, hargs, rfl, rfl, h0, r0⟩ := trodAll_cons hA
  obtain ⟨v1, vs1, d1, ds1, p1, q1, rfl, rfl, rfl, h1, r1⟩ := trodAll_cons r0
  obtain ⟨rfl, rfl, rfl⟩ := trodAll_nil r1
  obtain rfl : args = #[v0, v1] := by cases args; simp_all
  obtain ⟨rfl, rfl⟩ := trodVars_none hV
  have lt0 : ∀ x ∈ p0, x.block < W.heap.size := by obtain ⟨m, hm⟩ := h0; exact DataW.trod_lt m _ _ _ hm
  have lt1 : ∀ x ∈ p1, x.block < W.heap.size := by obtain ⟨m, hm⟩ := h1; exact DataW.trod_lt m _ _ _ hm
  obtain ⟨x0, z0, rfl, w0⟩ := chan_open (hval 0 27 v0 rfl rfl) h0
  obtain ⟨x1, rfl, w1⟩ := wait_open (hval 1 48 v1 rfl rfl) h1
  clear hA0 hval0
  refine (pass_any x0 z0 x1 W w0 w1).mono fun e W' ⟨he, bel⟩ => ?_
  subst he
  exact ⟨_, rfl, _, _, _, [], _, [], hW', trodAll_mk1 (shut_bool Try.underlying4 _), (trodAll_cons_mk (Below.trod laidOut (by kernel_rfl) (of_decide_eq_true (by kernel_rfl)) h0 bel lt0) (trodAll_cons_mk (Below.trod laidOut (by kernel_rfl) (of_decide_eq_true (by kernel_rfl)) h1 bel lt1) trodAll_mk0)), rfl, bel.frame _, fun h => by cases h⟩

theorem over : Rows.chansPassRow.holds Try.pinned (OpenSpec.ofChange Rows.chansPassSpec) :=
  OpenClaim.holds_of_wide 4 Try.f4 rfl rfl rfl rfl rfl rfl rfl ⟨rfl, rfl, rfl, rfl, rfl⟩ rfl rfl rfl rfl rfl (by kernel_rfl) Try.func4 (by kernel_rfl)
    (of_decide_eq_true (by kernel_rfl)) (by unfold Func.isWrapper; first | (rw [if_pos (by decide +kernel)]; kernel_rfl) | (rw [if_neg (by decide +kernel)]; exact ⟨rfl, rfl⟩))
    (fun os started H enc _ => lifted os started H enc)

/-- the statement -/
theorem proved : Rows.ChansPassSaid := over
#print axioms proved
end Go.Proofs.Ytfolhgpbplfilaa.chansPass
