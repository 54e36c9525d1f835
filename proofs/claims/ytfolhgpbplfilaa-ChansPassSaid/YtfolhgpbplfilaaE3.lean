/- Same: are two channels? -/
import Derived.Test.YtfolhgpbplfilaaD5
import Derived.Test.YtfolhgpbplfilaaRIs
namespace Go.Proofs.Ytfolhgpbplfilaa
open Go.RowKit
set_option linter.unusedSimpArgs false
set_option linter.unusedVariables false
/-- a channel's ring may be: so many places, from there on, so many taken -/
structure Rg (c : Chn) (n f k : Nat) : Prop where
  rc : c.rc = (n : Int)
  rf : c.rf = (f : Int)
  rk : c.rk = (k : Int)
  zl : c.zs.length = n
  n8 : n ≤ 8
  fl : f < max n 1
  kl : k ≤ n
theorem Good.rg {c : Chn} {n f k : Nat} (g : Good c n f k) : Rg c n f k := ⟨g.rcn, g.rfn, g.rkn, g.zl, by have := g.n3; omega, g.fl, g.kl⟩
/-- the same, whatever the rings' places are -/
structure SameC (a b : Chn) : Prop where
  cap : a.cap = b.cap
  cl : a.cl = b.cl
  sent : a.sent = b.sent
  got : a.got = b.got
  sends : a.sends = b.sends
  recvs : a.recvs = b.recvs
  ring : ∃ n fa fb k, Rg a n fa k ∧ Rg b n fb k ∧ takenL n fa k a.zs = takenL n fb k b.zs
set_option maxRecDepth 100000 in
set_option maxHeartbeats 4000000 in
theorem CSame_yes (a b : Chn) (qa qb : CAt) (w : World) (ha : Cha w a qa) (hb : Cha w b qb) (hs : SameC a b) : Calls Try.prog 16 #[chV a qa, chV b qb] w fun e w' => e = .returned (.bool true) ∧ Below w.heap.size w w' := by
  obtain ⟨n, fa, fb, k, ra, rb, hit⟩ := hs.ring
  have e1 := hs.cap; have e2 := hs.cl; have e3 := hs.sent; have e4 := hs.got; have e5 := hs.sends; have e6 := hs.recvs
  obtain ⟨acap, acl, arc, arf, azs, ark, asent, agot, asends, arecvs⟩ := a
  obtain ⟨bcap, bcl, brc, brf, bzs, brk, bsent, bgot, bsends, brecvs⟩ := b
  obtain ⟨r1, r2, r3, r4, r5, r6, r7⟩ := ra
  obtain ⟨u1, u2, u3, u4, u5, u6, u7⟩ := rb
  simp only at e1 e2 e3 e4 e5 e6 hit r1 r2 r3 r4 u1 u2 u3 u4
  subst e1; subst e2; subst e3; subst e4; subst e5; subst e6; subst r1; subst r2; subst r3; subst u1; subst u2; subst u3
  have hzna : qa.zn = n := by rw [← r4]; exact ha.zs.len_eq.symm
  have hznb : qb.zn = n := by rw [← u4]; exact hb.zs.len_eq.symm
  have HSS1 := Lib.hid (fun W a1 n1 c1 a2 n2 c2 L (h1 : Wts W a1 n1 c1 L) (h2 : Wts W a2 n2 c2 L) => Same_any a1 n1 c1 L a2 n2 c2 L W h1 h2)
  simp only [decide_true] at HSS1
  have HRR := Lib.hid (show ∀ W, Calls Try.prog 27 #[.agg #[.int .i64 (n : Int), .int .i64 (fb : Int), .slice qb.za qb.zn qb.zc, .int .i64 (k : Int)]] W (fun e w' => e = .returned (.bool true) ∧ Below W.heap.size W w') from fun W => by
    have := r_refRight_any (n : Int) (fb : Int) (k : Int) qb.za qb.zn qb.zc W ⟨by omega, by omega⟩ ⟨by omega, by omega⟩ ⟨by omega, by omega⟩ (by omega)
    rw [show rightZ (n : Int) (fb : Int) qb.zn (k : Int) = true by rw [rightZ, decide_eq_true_eq]; omega] at this
    exact this)
  have HIT := Lib.hid (show ∀ W, Ints W qb.za qb.zn qb.zc bzs → Calls Try.prog 39 #[.agg #[.int .i64 (n : Int), .int .i64 (fb : Int), .slice qb.za qb.zn qb.zc, .int .i64 (k : Int)]] W (GotInts W (takenL n fb k bzs)) from fun W hI => by
    have := refItems_ok n fb k qb.za qb.zc bzs W (by rw [← hznb]; exact hI) u5 u6 u7
    rw [hznb]; exact this)
  unfold GotInts at HIT
  have HIS := Lib.hid (show ∀ W la lc, Ints W qa.za qa.zn qa.zc azs → Ints W la k lc (takenL n fb k bzs) → Calls Try.prog 38 #[.agg #[.int .i64 (n : Int), .int .i64 (fa : Int), .slice qa.za qa.zn qa.zc, .int .i64 (k : Int)], .int .i64 (n : Int), .slice la k lc] W (fun e w' => e = .returned (.bool true) ∧ Below W.heap.size W w') from fun W la lc hI hL => by
    have := Is_yes n fa k qa.za qa.zc azs la lc W (by rw [← hzna]; exact hI) r5 r6 r7 (by rw [hit]; exact hL)
    rw [hzna]; exact this)
  have AX := Lib.hid ((below_alloc w (.cells (chC ⟨acap, acl, n, fa, azs, k, asent, agot, asends, arecvs⟩ qa) 27)).alloc (by simp) (.cells (chC ⟨acap, acl, n, fb, bzs, k, asent, agot, asends, arecvs⟩ qb) 27))
  have KA := Lib.hid ((Bx.new w (chC ⟨acap, acl, n, fa, azs, k, asent, agot, asends, arecvs⟩ qa) 27).below (below_alloc _ (.cells (chC ⟨acap, acl, n, fb, bzs, k, asent, agot, asends, arecvs⟩ qb) 27)))
  have KB := Lib.hid (Bx.new2 w (.cells (chC ⟨acap, acl, n, fa, azs, k, asent, agot, asends, arecvs⟩ qa) 27) (chC ⟨acap, acl, n, fb, bzs, k, asent, agot, asends, arecvs⟩ qb) 27)
  have CA0 := Lib.hid (ha.below AX.out); have CB0 := Lib.hid (hb.below AX.out)
  have hcl0 : (acl != acl) = false := by simp
  have hn1 : (acap != acap) = false := by simp
  have hn2 : (asent != asent) = false := by simp
  have hn3 : (agot != agot) = false := by simp
  clear ha hb hs hit r4 r5 r6 r7 u4 u5 u6 u7 hzna hznb
  go_enter Try.func16, Try.ntmps16
  go_upto_region 1 with (fail)
  obtain ⟨X, hX⟩ : ∃ X, X = (w.alloc (.cells (chC ⟨acap, acl, n, fa, azs, k, asent, agot, asends, arecvs⟩ qa) 27)).alloc (.cells (chC ⟨acap, acl, n, fb, bzs, k, asent, agot, asends, arecvs⟩ qb) 27) := ⟨_, rfl⟩
  obtain ⟨bb, hbb⟩ : ∃ b, b = w.heap.size + 1 := ⟨_, rfl⟩
  obtain ⟨ba, hba⟩ : ∃ b, b = w.heap.size := ⟨_, rfl⟩
  rw [← hX] at AX KA KB CA0 CB0 ⊢
  rw [← hbb] at KB ⊢
  rw [← hba] at KA ⊢
  clear hX hbb hba
  obtain ⟨s0, s1, s2, s3, s4, s5, s6, s7, s8, s9⟩ := KA.out.cells10
  obtain ⟨t0, t1, t2, t3, t4, t5, t6, t7, t8, t9⟩ := KB.out.cells10
  go_wp2_with fail
  refine (HSS1.out _ _ _ _ _ _ _ _ CA0.out.sends CB0.out.sends).mono ?_
  rintro e w2 ⟨rfl, hb⟩
  have A2 := Lib.hid (AX.out.trans (Below.mono hb AX.out.size)); have KA2 := Lib.hid (KA.out.below hb); have KB2 := Lib.hid (KB.out.below hb); have CA2 := Lib.hid (CA0.out.below hb); have CB2 := Lib.hid (CB0.out.below hb)
  clear hb s0 s1 s2 s3 s4 s5 s6 s7 s8 s9 t0 t1 t2 t3 t4 t5 t6 t7 t8 t9
  obtain ⟨s0, s1, s2, s3, s4, s5, s6, s7, s8, s9⟩ := KA2.out.cells10
  obtain ⟨t0, t1, t2, t3, t4, t5, t6, t7, t8, t9⟩ := KB2.out.cells10
  go_wp2_with fail
  refine (HSS1.out _ _ _ _ _ _ _ _ CA2.out.recvs CB2.out.recvs).mono ?_
  rintro e W3 ⟨rfl, hb⟩
  have A3 := Lib.hid (A2.out.trans (Below.mono hb A2.out.size)); have KA3 := Lib.hid (KA2.out.below hb); have KB3 := Lib.hid (KB2.out.below hb); have CA := Lib.hid (CA2.out.below hb); have CB := Lib.hid (CB2.out.below hb)
  clear hb s0 s1 s2 s3 s4 s5 s6 s7 s8 s9 t0 t1 t2 t3 t4 t5 t6 t7 t8 t9
  go_wp2_with fail
  have HSS : Hid (∀ W, Below W3.heap.size W3 W → W.cell? ⟨ba, 2, none⟩ = some (.int .i64 (n : Int)) ∧ W.cell? ⟨ba, 3, none⟩ = some (.int .i64 (fa : Int)) ∧ W.cell? ⟨ba, 4, none⟩ = some (.slice qa.za qa.zn qa.zc) ∧ W.cell? ⟨ba, 5, none⟩ = some (.int .i64 (k : Int)) ∧ W.cell? ⟨bb, 2, none⟩ = some (.int .i64 (n : Int)) ∧ W.cell? ⟨bb, 3, none⟩ = some (.int .i64 (fb : Int)) ∧ W.cell? ⟨bb, 4, none⟩ = some (.slice qb.za qb.zn qb.zc) ∧ W.cell? ⟨bb, 5, none⟩ = some (.int .i64 (k : Int))) := Lib.hid (fun W hb => by
    obtain ⟨s0, s1, s2, s3, s4, s5, s6, s7, s8, s9⟩ := (KA3.out.below hb).cells10
    obtain ⟨t0, t1, t2, t3, t4, t5, t6, t7, t8, t9⟩ := (KB3.out.below hb).cells10
    exact ⟨s2, s3, s4, s5, t2, t3, t4, t5⟩)
  refine wp_region_held_drew (S := (fun W => W.cell? ⟨ba, 2, none⟩ = some (.int .i64 (n : Int)) ∧ W.cell? ⟨ba, 3, none⟩ = some (.int .i64 (fa : Int)) ∧ W.cell? ⟨ba, 4, none⟩ = some (.slice qa.za qa.zn qa.zc) ∧ W.cell? ⟨ba, 5, none⟩ = some (.int .i64 (k : Int)) ∧ W.cell? ⟨bb, 2, none⟩ = some (.int .i64 (n : Int)) ∧ W.cell? ⟨bb, 3, none⟩ = some (.int .i64 (fb : Int)) ∧ W.cell? ⟨bb, 4, none⟩ = some (.slice qb.za qb.zn qb.zc) ∧ W.cell? ⟨bb, 5, none⟩ = some (.int .i64 (k : Int)))) (by kernel_rfl) ?_ (fun hHeld => ?_)
  · exact HSS.out _ ((Below.refl _ _).drew)
  refine wpAnyH_take (i := 0) (v := ?_) rfl (by kernel_rfl) (by kernel_rfl) (by kernel_rfl) (fun _ _ _ h => h) (Or.inl ⟨by rfl, ?_⟩) (by assumption) ?_
  rotate_left
  · (intro w hSw; (try dsimp only at hSw); go_simp; try with_reducible rfl)
  (try simp only [Act.put, List.getElem_toArray, List.getElem_cons_zero, List.getElem_cons_succ, List.setIfInBounds_toArray, List.set_cons_zero, List.set_cons_succ])
  refine wpAnyH_take (i := 1) (v := ?_) rfl (by kernel_rfl) (by kernel_rfl) (by kernel_rfl) (fun _ _ _ h => h) (Or.inl ⟨by rfl, ?_⟩) (by assumption) ?_
  rotate_left
  · (intro w hSw; (try dsimp only at hSw); go_simp; try with_reducible rfl)
  (try simp only [Act.put, List.getElem_toArray, List.getElem_cons_zero, List.getElem_cons_succ, List.setIfInBounds_toArray, List.set_cons_zero, List.set_cons_succ])
  refine wpAnyH_ready (rs := [2]) (by kernel_rfl) (by simp) ?_
  refine AllReadyH.cons (o := _) rfl (fun K hK => ?_) AllReadyH.nil
  go_simp
  refine (HRR.out _).mono ?_
  rintro e we ⟨rfl, hbe⟩
  have BE := Lib.hid (show Below W3.heap.size W3 we from ((Below.refl _ _).drew).trans hbe)
  clear hbe
  refine hK.out _ _ ?_ (fun hHeld => ?_)
  · exact HSS.out _ BE.out
  clear hK K
  (try simp only [Act.put, List.getElem_toArray, List.getElem_cons_zero, List.getElem_cons_succ, List.setIfInBounds_toArray, List.set_cons_zero, List.set_cons_succ])
  refine wpAnyH_take (i := 3) (v := ?_) rfl (by kernel_rfl) (by kernel_rfl) (by kernel_rfl) (fun _ _ _ h => h) (Or.inl ⟨by rfl, ?_⟩) (by assumption) ?_
  rotate_left
  · (intro w hSw; (try dsimp only at hSw); go_simp; try with_reducible rfl)
  (try simp only [Act.put, List.getElem_toArray, List.getElem_cons_zero, List.getElem_cons_succ, List.setIfInBounds_toArray, List.set_cons_zero, List.set_cons_succ])
  refine wpAnyH_take (i := 4) (v := ?_) rfl (by kernel_rfl) (by kernel_rfl) (by kernel_rfl) (fun _ _ _ h => h) (Or.inl ⟨by rfl, ?_⟩) (by assumption) ?_
  rotate_left
  · (intro w hSw; (try dsimp only at hSw); go_simp; try with_reducible rfl)
  (try simp only [Act.put, List.getElem_toArray, List.getElem_cons_zero, List.getElem_cons_succ, List.setIfInBounds_toArray, List.set_cons_zero, List.set_cons_succ])
  refine wpAnyH_take (i := 5) (v := ?_) rfl (by kernel_rfl) (by kernel_rfl) (by kernel_rfl) (fun _ _ _ h => h) (Or.inl ⟨by rfl, ?_⟩) (by assumption) ?_
  rotate_left
  · (intro w hSw; (try dsimp only at hSw); go_simp; try with_reducible rfl)
  (try simp only [Act.put, List.getElem_toArray, List.getElem_cons_zero, List.getElem_cons_succ, List.setIfInBounds_toArray, List.set_cons_zero, List.set_cons_succ])
  refine wpAnyH_take (i := 6) (v := ?_) rfl (by kernel_rfl) (by kernel_rfl) (by kernel_rfl) (fun _ _ _ h => h) (Or.inl ⟨by rfl, ?_⟩) (by assumption) ?_
  rotate_left
  · (intro w hSw; (try dsimp only at hSw); go_simp; try with_reducible rfl)
  (try simp only [Act.put, List.getElem_toArray, List.getElem_cons_zero, List.getElem_cons_succ, List.setIfInBounds_toArray, List.set_cons_zero, List.set_cons_succ])
  refine wpAnyH_take (i := 7) (v := ?_) rfl (by kernel_rfl) (by kernel_rfl) (by kernel_rfl) (fun _ _ _ h => h) (Or.inl ⟨by rfl, ?_⟩) (by assumption) ?_
  rotate_left
  · (intro w hSw; (try dsimp only at hSw); go_simp; try with_reducible rfl)
  (try simp only [Act.put, List.getElem_toArray, List.getElem_cons_zero, List.getElem_cons_succ, List.setIfInBounds_toArray, List.set_cons_zero, List.set_cons_succ])
  refine wpAnyH_take (i := 8) (v := ?_) rfl (by kernel_rfl) (by kernel_rfl) (by kernel_rfl) (fun _ _ _ h => h) (Or.inl ⟨by rfl, ?_⟩) (by assumption) ?_
  rotate_left
  · (intro w hSw; (try dsimp only at hSw); go_simp; try with_reducible rfl)
  (try simp only [Act.put, List.getElem_toArray, List.getElem_cons_zero, List.getElem_cons_succ, List.setIfInBounds_toArray, List.set_cons_zero, List.set_cons_succ])
  refine wpAnyH_take (i := 9) (v := ?_) rfl (by kernel_rfl) (by kernel_rfl) (by kernel_rfl) (fun _ _ _ h => h) (Or.inl ⟨by rfl, ?_⟩) (by assumption) ?_
  rotate_left
  · (intro w hSw; (try dsimp only at hSw); go_simp; try with_reducible rfl)
  (try simp only [Act.put, List.getElem_toArray, List.getElem_cons_zero, List.getElem_cons_succ, List.setIfInBounds_toArray, List.set_cons_zero, List.set_cons_succ])
  refine wpAnyH_take (i := 10) (v := ?_) rfl (by kernel_rfl) (by kernel_rfl) (by kernel_rfl) (fun _ _ _ h => h) (Or.inl ⟨by rfl, ?_⟩) (by assumption) ?_
  rotate_left
  · (intro w hSw; (try dsimp only at hSw); go_simp; try with_reducible rfl)
  (try simp only [Act.put, List.getElem_toArray, List.getElem_cons_zero, List.getElem_cons_succ, List.setIfInBounds_toArray, List.set_cons_zero, List.set_cons_succ])
  refine wpAnyH_ready (rs := [11]) (by kernel_rfl) (by simp) ?_
  refine AllReadyH.cons (o := _) rfl (fun K hK => ?_) AllReadyH.nil
  go_simp
  refine (HIT.out _ (CB.out.zs.below BE.out)).mono ?_
  rintro e wf ⟨la, ln, lc, rfl, hli, hbf⟩
  obtain rfl : ln = k := by have h1 := hli.len_eq; rw [taken_len] at h1; exact h1.symm
  have BF := Lib.hid (show Below W3.heap.size W3 wf from BE.out.trans (Below.mono hbf BE.out.size))
  have HLI := Lib.hid hli
  clear hbf hli
  refine hK.out _ _ ?_ (fun hHeld => ?_)
  · exact HSS.out _ BF.out
  clear hK K
  (try simp only [Act.put, List.getElem_toArray, List.getElem_cons_zero, List.getElem_cons_succ, List.setIfInBounds_toArray, List.set_cons_zero, List.set_cons_succ])
  refine wpAnyH_ready (rs := [12]) (by kernel_rfl) (by simp) ?_
  refine AllReadyH.cons (o := _) rfl (fun K hK => ?_) AllReadyH.nil
  go_simp
  refine (HIS.out _ la lc (CA.out.zs.below BF.out) HLI.out).mono ?_
  rintro e wg ⟨rfl, hbg⟩
  have BG := Lib.hid (show Below W3.heap.size W3 wg from BF.out.trans (Below.mono hbg BF.out.size))
  clear hbg
  refine hK.out _ _ ?_ (fun hHeld => ?_)
  · exact HSS.out _ BG.out
  clear hK K
  (try simp only [Act.put, List.getElem_toArray, List.getElem_cons_zero, List.getElem_cons_succ, List.setIfInBounds_toArray, List.set_cons_zero, List.set_cons_succ])
  refine wpAnyH_take (i := 13) (v := ?_) rfl (by kernel_rfl) (by kernel_rfl) (by kernel_rfl) (fun _ _ _ h => h) (Or.inl ⟨by rfl, ?_⟩) (by assumption) ?_
  rotate_left
  · (intro w hSw; (try dsimp only at hSw); go_simp; try with_reducible rfl)
  (try simp only [Act.put, List.getElem_toArray, List.getElem_cons_zero, List.getElem_cons_succ, List.setIfInBounds_toArray, List.set_cons_zero, List.set_cons_succ])
  refine wpAnyH_take (i := 14) (v := ?_) rfl (by kernel_rfl) (by kernel_rfl) (by kernel_rfl) (fun _ _ _ h => h) (Or.inl ⟨by rfl, ?_⟩) (by assumption) ?_
  rotate_left
  · (intro w hSw; (try dsimp only at hSw); go_simp; try with_reducible rfl)
  (try simp only [Act.put, List.getElem_toArray, List.getElem_cons_zero, List.getElem_cons_succ, List.setIfInBounds_toArray, List.set_cons_zero, List.set_cons_succ])
  refine wpAnyH_done (by kernel_rfl) ?_ _
  go_wp2_with fail
  go_ret
  exact ⟨rfl, A3.out.trans (Below.mono BG.out A3.out.size)⟩
end Go.Proofs.Ytfolhgpbplfilaa
