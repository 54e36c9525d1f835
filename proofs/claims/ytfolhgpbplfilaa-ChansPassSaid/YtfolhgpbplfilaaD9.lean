/- alive; what refusals leave. -/
import Derived.Test.YtfolhgpbplfilaaD5
import Derived.Test.YtfolhgpbplfilaaD4
import Derived.Test.YtfolhgpbplfilaaC4
import Derived.Test.YtfolhgpbplfilaaD7
namespace Go.Proofs.Ytfolhgpbplfilaa
open Go.RowKit
theorem right_newC (n : Int) (h : -1 ≤ n) (h3 : n ≤ 3) : rightC (newC n) = true := by
  have hk : ((max n 0).toNat : Int) = max n 0 := by omega
  refine of_good (n := (max n 0).toNat) (f := 0) (k := 0) ⟨h, h3, by simp only [newC]; omega, by simp only [newC]; omega, rfl, rfl, by omega, by simp [newC], by omega, by omega, by simp [newC], by simp [newC], by simp [newC], by simp [newC], ?_, right_nil, right_nil, fun _ => ⟨rfl, rfl, rfl, rfl⟩, fun _ => ⟨rfl, rfl⟩, fun h => absurd rfl h, fun h => absurd rfl h⟩
  simp [takenL, upto, runL]
theorem good_pop {c : Chn} {n f k : Nat} (g : Good c n f (k + 1)) (hs : c.sends = []) (hcap : 0 ≤ c.cap) : Good (popC c) n ((f + 1) % n) k := by
  have hn : k + 1 ≤ n := g.kl
  have hf : f < n := by have := g.fl; omega
  have hrf : c.rf.toNat = f := by rw [g.rfn]; rfl
  have hrk : c.rk.toNat - 1 = k := by rw [g.rkn]; rfl
  have hrc : c.rc.toNat = n := by rw [g.rcn]; rfl
  have hit := g.items
  rw [taken_pop n f k c.zs g.zl hf hn, runL_cons] at hit
  have hsg := g.sg
  refine ⟨g.cap0, g.cap3, g.rcn, g.rcm, ?_, ?_, g.n3, ?_, ?_, by omega, g.s0, g.sm, ?_, ?_, ?_, g.sends, g.recvs, fun h => absurd h (by show ¬ c.cap < 0; omega), fun h => g.clo h, fun h => absurd hs h, fun h => ?_⟩
  · simp only [popC]; rw [hrf, hrc]
  · simp only [popC]; rw [hrk]
  · simp only [popC]; rw [List.length_set]; exact g.zl
  · have := Nat.mod_lt (f + 1) (show 0 < n by omega); omega
  · simp only [popC]; have := g.g0; omega
  · simp only [popC]; omega
  · simp only [popC]; rw [hrf]; simp only [List.cons.injEq] at hit; exact hit.2
  · have := g.emp h; omega
theorem right_close {c : Chn} (h : rightC c = true) (hp : panicC c = false) : rightC (closeC c) = true ∧ c.sends = [] ∧ 0 ≤ c.cap ∧ c.cl = false := by
  simp only [panicC, Bool.or_eq_false_iff, decide_eq_false_iff_not, Bool.not_eq_false', List.isEmpty_iff] at hp
  obtain ⟨hcap, hcl, hs⟩ := hp
  obtain ⟨n, f, k, g⟩ := good_of h
  refine ⟨of_good (n := n) (f := f) (k := k) ⟨g.cap0, g.cap3, g.rcn, g.rcm, g.rfn, g.rkn, g.n3, g.zl, g.fl, g.kl, g.s0, g.sm, g.g0, g.sg, g.items, g.sends, right_nil, fun h => absurd h hcap, fun _ => ⟨hs, rfl⟩, fun h => absurd hs h, fun h => absurd rfl h⟩, hs, by omega, hcl⟩
end Go.Proofs.Ytfolhgpbplfilaa
namespace Go.Proofs.Ytfolhgpbplfilaa
open Go.RowKit
def al1 : Chn := ⟨0, false, 0, 0, [], 0, 0, 0, [], [⟨2, 0, 0⟩]⟩
def al2 : Chn := ⟨0, false, 0, 0, [], 0, 1, 1, [], []⟩
theorem al_recv : recvZ (newC 0) ⟨2, 0, 0⟩ = (al1, aloneO 0, 0) := by rfl
theorem al_send : sendZ al1 ⟨1, 0, 0⟩ = (al2, ⟨1, 0, ⟨2, 0, 0⟩, 0⟩, 0) := by rfl
theorem al1_right : rightC al1 = true :=
  of_good (n := 0) (f := 0) (k := 0) ⟨by decide, by decide, rfl, rfl, rfl, rfl, by omega, rfl, by omega, by omega, by decide, by decide, by decide, rfl, rfl, right_nil, right_snoc right_nil (by simp) (by decide) (by decide), fun h => absurd h (by decide), fun h => absurd h (by decide), fun h => absurd rfl h, fun _ => rfl⟩
set_option maxRecDepth 100000 in
set_option maxHeartbeats 4000000 in
theorem alive_any (w : World) : Calls Try.prog 14 #[] w fun e w' => e = .returned (.bool true) ∧ Below w.heap.size w w' := by
  have HN := Lib.hid (show ∀ W, Calls Try.prog 8 #[.int .i64 0] W (fun e w' => ∃ q, e = .returned (.tuple #[.agg #[.int .i64 0, .bool false, .int .i64 0, .int .i64 0, .slice q.za q.zn q.zc, .int .i64 0, .int .i64 0, .int .i64 0, .slice q.sa q.sn q.sc, .slice q.ra q.rn q.rq], .int .i64 0]) ∧ Cha w' (newC 0) q ∧ (∀ B, B < W.heap.size → Ap q B) ∧ Below W.heap.size W w') from fun W => CNew_ok 0 W (by omega) (by omega))
  have HR := Lib.hid (show ∀ W q, Cha W (newC 0) q → Calls Try.prog 23 #[.agg #[.int .i64 0, .bool false, .int .i64 0, .int .i64 0, .slice q.za q.zn q.zc, .int .i64 0, .int .i64 0, .int .i64 0, .slice q.sa q.sn q.sc, .slice q.ra q.rn q.rq], .agg #[.int .i64 2, .int .i64 0, .int .i64 0]] W (fun e w' => ∃ q', e = .returned (.tuple #[.agg #[.int .i64 0, .bool false, .int .i64 0, .int .i64 0, .slice q'.za q'.zn q'.zc, .int .i64 0, .int .i64 0, .int .i64 0, .slice q'.sa q'.sn q'.sc, .slice q'.ra q'.rn q'.rq], .agg #[.int .i64 0, .int .i64 0, .int .i64 (-1), .int .i64 0, .int .i64 0, .int .i64 0], .int .i64 0]) ∧ Cha w' al1 q' ∧ (∀ B, B < W.heap.size → Ap q' B) ∧ Below W.heap.size W w') from fun W q Hq => by
    have := Recv_any (newC 0) q ⟨2, 0, 0⟩ W Hq ⟨⟨by simp, by simp⟩, ⟨by simp, by simp⟩, ⟨by simp, by simp⟩⟩ (right_newC 0 (by omega) (by omega)) (by decide)
    rw [al_recv] at this; exact this)
  have HS := Lib.hid (show ∀ W q, Cha W al1 q → Calls Try.prog 22 #[.agg #[.int .i64 0, .bool false, .int .i64 0, .int .i64 0, .slice q.za q.zn q.zc, .int .i64 0, .int .i64 0, .int .i64 0, .slice q.sa q.sn q.sc, .slice q.ra q.rn q.rq], .agg #[.int .i64 1, .int .i64 0, .int .i64 0]] W (fun e w' => ∃ q', e = .returned (.tuple #[.agg #[.int .i64 0, .bool false, .int .i64 0, .int .i64 0, .slice q'.za q'.zn q'.zc, .int .i64 0, .int .i64 1, .int .i64 1, .slice q'.sa q'.sn q'.sc, .slice q'.ra q'.rn q'.rq], .agg #[.int .i64 1, .int .i64 0, .int .i64 2, .int .i64 0, .int .i64 0, .int .i64 0], .int .i64 0]) ∧ Cha w' al2 q' ∧ (∀ B, B < W.heap.size → Ap q' B) ∧ Below W.heap.size W w') from fun W q Hq => by
    have := Send_any al1 q ⟨1, 0, 0⟩ W Hq ⟨⟨by simp, by simp⟩, ⟨by simp, by simp⟩, ⟨by simp, by simp⟩⟩ al1_right (by decide)
    rw [al_send] at this; exact this)
  go_enter Try.func14, Try.ntmps14
  go_wp2_with fail
  refine (HN.out _).mono ?_
  rintro e w1 ⟨q0, rfl, hc, _, hb⟩
  have A1 := Lib.hid hb; have C1 := Lib.hid hc
  clear hc hb
  have A2 := Lib.hid (A1.out.alloc A1.out.size (.cells #[.int .i64 0, .bool false, .int .i64 0, .int .i64 0, .slice q0.za q0.zn q0.zc, .int .i64 0, .int .i64 0, .int .i64 0, .slice q0.sa q0.sn q0.sc, .slice q0.ra q0.rn q0.rq] 27)); have C2 := Lib.hid (C1.out.below (below_alloc w1 (.cells #[.int .i64 0, .bool false, .int .i64 0, .int .i64 0, .slice q0.za q0.zn q0.zc, .int .i64 0, .int .i64 0, .int .i64 0, .slice q0.sa q0.sn q0.sc, .slice q0.ra q0.rn q0.rq] 27))); have K2 := Lib.hid (Bx.new w1 #[.int .i64 0, .bool false, .int .i64 0, .int .i64 0, .slice q0.za q0.zn q0.zc, .int .i64 0, .int .i64 0, .int .i64 0, .slice q0.sa q0.sn q0.sc, .slice q0.ra q0.rn q0.rq] 27); have AP2 := Lib.hid (C1.out.ap (Nat.le_refl _))
  go_upto_region 2 with (fail)
  obtain ⟨X, hX⟩ : ∃ X, X = w1.alloc (.cells #[.int .i64 0, .bool false, .int .i64 0, .int .i64 0, .slice q0.za q0.zn q0.zc, .int .i64 0, .int .i64 0, .int .i64 0, .slice q0.sa q0.sn q0.sc, .slice q0.ra q0.rn q0.rq] 27) := ⟨_, rfl⟩
  obtain ⟨b0, h0⟩ : ∃ b, b = w1.heap.size := ⟨_, rfl⟩
  have HB0 := Lib.hid (show w.heap.size ≤ b0 by rw [h0]; exact A1.out.size)
  rw [← hX] at A2 C2 K2 ⊢
  rw [← h0] at K2 AP2 ⊢
  clear hX h0
  obtain ⟨t0, t1, t2, t3, t4, t5, t6, t7, t8, t9⟩ := K2.out.cells10
  have l0 := K2.out.lt
  go_wp2_with fail
  refine (HR.out _ _ C2.out).mono ?_
  rintro e w3 ⟨q3, rfl, hc, hfr, hb⟩
  have A3 := Lib.hid (A2.out.trans (Below.mono hb A2.out.size)); have C3 := Lib.hid hc; have K3 := Lib.hid (K2.out.below hb); have AP3 := Lib.hid (hfr b0 K2.out.lt)
  clear hc hb hfr t0 t1 t2 t3 t4 t5 t6 t7 t8 t9 l0
  obtain ⟨t0, t1, t2, t3, t4, t5, t6, t7, t8, t9⟩ := K3.out.cells10
  have f0 := K3.out.froz 0; have f1 := K3.out.froz 1; have f2 := K3.out.froz 2; have f3 := K3.out.froz 3; have f4 := K3.out.froz 4; have f5 := K3.out.froz 5; have f6 := K3.out.froz 6; have f7 := K3.out.froz 7; have f8 := K3.out.froz 8; have f9 := K3.out.froz 9; have l0 := K3.out.lt
  go_upto_region 3 with (fail)
  obtain ⟨X4, hX4⟩ : ∃ X, X = (st10 w3 b0 (.int .i64 0) (.bool false) (.int .i64 0) (.int .i64 0) (.slice q3.za q3.zn q3.zc) (.int .i64 0) (.int .i64 0) (.int .i64 0) (.slice q3.sa q3.sn q3.sc) (.slice q3.ra q3.rn q3.rq)).alloc (.cells (aloneC 0) 50) := ⟨_, rfl⟩
  obtain ⟨b3, hb3⟩ : ∃ b, b = w3.heap.size := ⟨_, rfl⟩
  have G4 := Lib.hid (show w3.grownBy X4 (some b0) by rw [hX4]; exact grow_alloc (grown_st10 (World.grownBy.refl _ _) (.int .i64 0) (.bool false) (.int .i64 0) (.int .i64 0) (.slice q3.za q3.zn q3.zc) (.int .i64 0) (.int .i64 0) (.int .i64 0) (.slice q3.sa q3.sn q3.sc) (.slice q3.ra q3.rn q3.rq)) _)
  have K4 := Lib.hid (show Bx X4 b0 #[.int .i64 0, .bool false, .int .i64 0, .int .i64 0, .slice q3.za q3.zn q3.zc, .int .i64 0, .int .i64 0, .int .i64 0, .slice q3.sa q3.sn q3.sc, .slice q3.ra q3.rn q3.rq] 27 by rw [hX4]; exact (K3.out.st10 (.int .i64 0) (.bool false) (.int .i64 0) (.int .i64 0) (.slice q3.za q3.zn q3.zc) (.int .i64 0) (.int .i64 0) (.int .i64 0) (.slice q3.sa q3.sn q3.sc) (.slice q3.ra q3.rn q3.rq)).below (below_alloc _ _))
  have O4 := Lib.hid (show Bx X4 b3 (aloneC 0) 50 by
    have := Bx.new (st10 w3 b0 (.int .i64 0) (.bool false) (.int .i64 0) (.int .i64 0) (.slice q3.za q3.zn q3.zc) (.int .i64 0) (.int .i64 0) (.int .i64 0) (.slice q3.sa q3.sn q3.sc) (.slice q3.ra q3.rn q3.rq)) (aloneC 0) 50
    rw [hX4, hb3]; simpa using this)
  have A4 := Lib.hid (show Below w.heap.size w X4 from A3.out.grown G4.out A3.out.size (fun k hk => by cases hk; exact HB0.out))
  have C4 := Lib.hid (C3.out.other AP3.out G4.out)
  have hx4 := hX4.symm
  simp only [st10] at hx4
  rw [hx4, ← hb3]
  have n03 : b0 ≠ b3 := by omega
  have n30 : b3 ≠ b0 := by omega
  have HB3 := Lib.hid (show w.heap.size ≤ b3 by rw [hb3]; exact A3.out.size)
  clear hx4 hX4 hb3 t0 t1 t2 t3 t4 t5 t6 t7 t8 t9 f0 f1 f2 f3 f4 f5 f6 f7 f8 f9 l0
  obtain ⟨t0, t1, t2, t3, t4, t5, t6, t7, t8, t9⟩ := K4.out.cells10
  have l0 := K4.out.lt
  go_wp2_with fail
  refine (HS.out _ _ C4.out).mono ?_
  rintro e w5 ⟨q5, rfl, hc, hfr, hb⟩
  have A5 := Lib.hid (A4.out.trans (Below.mono hb A4.out.size)); have K5 := Lib.hid (K4.out.below hb); have O5 := Lib.hid (O4.out.below hb)
  clear hc hb hfr t0 t1 t2 t3 t4 t5 t6 t7 t8 t9 l0
  obtain ⟨t0, t1, t2, t3, t4, t5, t6, t7, t8, t9⟩ := K5.out.cells10
  obtain ⟨o0, o1, o2, o3, o4, o5⟩ := O5.out.cells6
  have f0 := K5.out.froz 0; have f1 := K5.out.froz 1; have f2 := K5.out.froz 2; have f3 := K5.out.froz 3; have f4 := K5.out.froz 4; have f5 := K5.out.froz 5; have f6 := K5.out.froz 6; have f7 := K5.out.froz 7; have f8 := K5.out.froz 8; have f9 := K5.out.froz 9; have l0 := K5.out.lt; have lo := O5.out.lt
  go_upto_region 4 with (fail)
  obtain ⟨X6, hX6⟩ : ∃ X, X = (st10 w5 b0 (.int .i64 0) (.bool false) (.int .i64 0) (.int .i64 0) (.slice q5.za q5.zn q5.zc) (.int .i64 0) (.int .i64 1) (.int .i64 1) (.slice q5.sa q5.sn q5.sc) (.slice q5.ra q5.rn q5.rq)).alloc (.cells (outC ⟨1, 0, ⟨2, 0, 0⟩, 0⟩) 50) := ⟨_, rfl⟩
  obtain ⟨b5, hb5⟩ : ∃ b, b = w5.heap.size := ⟨_, rfl⟩
  have G6 := Lib.hid (show w5.grownBy X6 (some b0) by rw [hX6]; exact grow_alloc (grown_st10 (World.grownBy.refl _ _) (.int .i64 0) (.bool false) (.int .i64 0) (.int .i64 0) (.slice q5.za q5.zn q5.zc) (.int .i64 0) (.int .i64 1) (.int .i64 1) (.slice q5.sa q5.sn q5.sc) (.slice q5.ra q5.rn q5.rq)) _)
  have K6 := Lib.hid (show Bx X6 b0 #[.int .i64 0, .bool false, .int .i64 0, .int .i64 0, .slice q5.za q5.zn q5.zc, .int .i64 0, .int .i64 1, .int .i64 1, .slice q5.sa q5.sn q5.sc, .slice q5.ra q5.rn q5.rq] 27 by rw [hX6]; exact (K5.out.st10 (.int .i64 0) (.bool false) (.int .i64 0) (.int .i64 0) (.slice q5.za q5.zn q5.zc) (.int .i64 0) (.int .i64 1) (.int .i64 1) (.slice q5.sa q5.sn q5.sc) (.slice q5.ra q5.rn q5.rq)).below (below_alloc _ _))
  have O6 := Lib.hid (show Bx X6 b5 (outC ⟨1, 0, ⟨2, 0, 0⟩, 0⟩) 50 by
    have := Bx.new (st10 w5 b0 (.int .i64 0) (.bool false) (.int .i64 0) (.int .i64 0) (.slice q5.za q5.zn q5.zc) (.int .i64 0) (.int .i64 1) (.int .i64 1) (.slice q5.sa q5.sn q5.sc) (.slice q5.ra q5.rn q5.rq)) (outC ⟨1, 0, ⟨2, 0, 0⟩, 0⟩) 50
    rw [hX6, hb5]; simpa using this)
  have P6 := Lib.hid (O5.out.other G6.out (fun e => n30 (by cases e; rfl)))
  have A6 := Lib.hid (show Below w.heap.size w X6 from A5.out.grown G6.out A5.out.size (fun k hk => by cases hk; exact HB0.out))
  have hx6 := hX6.symm
  simp only [st10] at hx6
  rw [hx6, ← hb5]
  clear hx6 hX6 hb5 t0 t1 t2 t3 t4 t5 t6 t7 t8 t9 f0 f1 f2 f3 f4 f5 f6 f7 f8 f9 l0 o0 o1 o2 o3 o4 o5 lo
  obtain ⟨t0, t1, t2, t3, t4, t5, t6, t7, t8, t9⟩ := K6.out.cells10
  obtain ⟨o0, o1, o2, o3, o4, o5⟩ := P6.out.cells6
  obtain ⟨s0, s1, s2, s3, s4, s5⟩ := O6.out.cells6
  go_wp2_with fail
  go_ret
  exact ⟨rfl, A6.out⟩
end Go.Proofs.Ytfolhgpbplfilaa
