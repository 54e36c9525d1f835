/- The reference: Ready, New. -/
import Derived.Test.YtfolhgpbplfilaaE4
namespace Go.Proofs.Ytfolhgpbplfilaa
open Go.RowKit
set_option linter.unusedSimpArgs false
set_option linter.unusedVariables false
set_option maxRecDepth 100000 in
set_option maxHeartbeats 4000000 in
theorem refReady_any (c : Chn) (q : CAt) (send : Bool) (g : Int) (w : World) (h : Cha w c q) (hr : rightC c = true) : Calls Try.prog 20 #[chV c q, .bool send, .int .i64 g] w fun e w' => e = .returned (.bool (readyZ c send g)) ∧ Below w.heap.size w w' := by
  obtain ⟨n, f, k, gd⟩ := good_of hr
  have AX := Lib.hid (below_alloc w (.cells (chC c q) 27))
  have K0 := Lib.hid (Bx.new w (chC c q) 27)
  have HX0 := Lib.hid (h.below AX.out)
  have HF := Lib.hid (fun W a len cap L (hL : Wts W a len cap L) => refFirst_any a len cap L g W hL)
  have hcm := gd.cap0
  have hrc : c.cap < 0 ∨ c.rc = c.cap := by have := gd.rcn; have := gd.rcm; omega
  have HRC := Lib.hid hrc
  clear hrc gd hr h
  go_enter Try.func20, Try.ntmps20
  go_upto_region 1 with (fail)
  obtain ⟨X, hX⟩ : ∃ X, X = w.alloc (.cells (chC c q) 27) := ⟨_, rfl⟩
  rw [← hX] at AX K0 HX0 ⊢
  obtain ⟨b0, h0⟩ : ∃ b, b = w.heap.size := ⟨_, rfl⟩
  rw [← h0] at K0 ⊢
  clear hX h0
  obtain ⟨t0, t1, t2, t3, t4, t5, t6, t7, t8, t9⟩ := K0.out.cells10
  by_cases hn : c.cap = -1
  · have hcb : (c.cap == -1) = true := by rw [beq_iff_eq]; exact hn
    have RF := Lib.hid (show readyZ c send g = false by unfold readyZ; rw [if_pos (by omega)])
    clear hn
    go_wp2_with fail
    go_ret
    exact ⟨ret_bool RF.out.symm, AX.out⟩
  have hcb : (c.cap == -1) = false := by rw [beq_eq_false_iff_ne]; exact hn
  have hnn : ¬ c.cap < 0 := by omega
  have HRE := Lib.hid (HRC.out.resolve_left hnn)
  cases hcl : c.cl with
  | true =>
    have RF := Lib.hid (show readyZ c send g = true by unfold readyZ; rw [if_neg hnn, if_pos hcl])
    rw [hcl] at t1
    clear hcl hn hnn
    go_wp2_with fail
    go_ret
    exact ⟨ret_bool RF.out.symm, AX.out⟩
  | false =>
    have RF := Lib.hid (show readyZ c send g = if send = true then decide (c.rk < c.rc) || someB (firstW c.recvs g) else decide (0 < c.rk) || someB (firstW c.sends g) by unfold readyZ; rw [if_neg hnn, if_neg (by rw [hcl]; decide)])
    rw [hcl] at t1
    clear hcl hn hnn
    cases send with
    | true =>
      rw [if_pos rfl, HRE.out] at RF
      go_wp2_with fail
      refine (HF.out _ _ _ _ _ HX0.out.recvs).mono ?_
      rintro e w2 ⟨⟨i, rfl, hi⟩, hb⟩
      have A2 := Lib.hid (AX.out.trans (Below.mono hb AX.out.size)); have K2 := Lib.hid (K0.out.below hb)
      clear hb t0 t1 t2 t3 t4 t5 t6 t7 t8 t9
      obtain ⟨t0, t1, t2, t3, t4, t5, t6, t7, t8, t9⟩ := K2.out.cells10
      rcases hi with ⟨rfl, hf⟩ | ⟨j, x, rfl, hj, hx, hf⟩
      · rw [hf] at RF
        clear hf
        by_cases hk : c.rk < c.cap
        all_goals
          go_wp2_with fail
          go_ret
          exact ⟨ret_bool (by rw [RF.out]; first | (rw [decide_eq_true hk]; rfl) | (rw [decide_eq_false (by omega)]; rfl)), A2.out⟩
      · rw [hf] at RF
        clear hf hx
        go_wp2_with fail
        go_ret
        exact ⟨ret_bool (by rw [RF.out]; simp [someB]), A2.out⟩
    | false =>
      rw [if_neg (by decide)] at RF
      by_cases hk : 0 < c.rk
      · go_wp2_with fail
        go_ret
        exact ⟨ret_bool (by rw [RF.out, decide_eq_true hk]; rfl), AX.out⟩
      · rw [decide_eq_false hk, Bool.false_or] at RF
        go_wp2_with fail
        refine (HF.out _ _ _ _ _ HX0.out.sends).mono ?_
        rintro e w2 ⟨⟨i, rfl, hi⟩, hb⟩
        have A2 := Lib.hid (AX.out.trans (Below.mono hb AX.out.size)); have K2 := Lib.hid (K0.out.below hb)
        clear hb t0 t1 t2 t3 t4 t5 t6 t7 t8 t9
        rcases hi with ⟨rfl, hf⟩ | ⟨j, x, rfl, hj, hx, hf⟩
        · rw [hf] at RF
          clear hf
          go_wp2_with fail
          go_ret
          exact ⟨ret_bool (by rw [RF.out]; rfl), A2.out⟩
        · rw [hf] at RF
          clear hf hx
          go_wp2_with fail
          go_ret
          exact ⟨ret_bool (by rw [RF.out]; rfl), A2.out⟩
theorem Own.setOther {w : World} {base : Nat} {v : Value} {L : List Int} (h : Own w base v L) {b : Nat} (hb : b < base) (i : Nat) (x : Value) : Own (w.setCell ⟨b, i, none⟩ x) base v L := by
  refine ⟨h.1, ?_⟩
  rcases h.2 with h0 | ⟨g, cap, cur, hv, hg, hh, r⟩
  · exact .inl h0
  · exact .inr ⟨g, cap, cur, hv, hg, by rw [Below.heap_setCell _ _ _ _ (show g ≠ b by omega)]; exact hh, r⟩
theorem Own.belowO {w w' : World} {base : Nat} {v : Value} {L : List Int} (h : Own w base v L) (hb : Below w.heap.size w w') : Own w' base v L := by
  refine ⟨h.1, ?_⟩
  rcases h.2 with h0 | ⟨g, cap, cur, hv, hg, hh, r⟩
  · exact .inl h0
  · exact .inr ⟨g, cap, cur, hv, hg, (hb.block _ (Array.getElem?_eq_some_iff.1 hh).1).trans hh, r⟩
theorem i64_0 : I64 0 := ⟨by decide, by decide⟩
theorem rep_i64 (k i : Nat) : I64 (en (List.replicate k (0 : Int)) i) := by
  by_cases hi : i < k
  · rw [en_get _ i (by simpa using hi), List.getElem_replicate]; exact ⟨by omega, by omega⟩
  · rw [en_of_le _ i (by simp; omega)]; exact ⟨by omega, by omega⟩
set_option maxRecDepth 100000 in
set_option maxHeartbeats 4000000 in
theorem refNew_any (n : Int) (m : Nat) (w : World) (h : -1 ≤ n) (h3 : n ≤ 3) (hm : (m : Int) = max n 0) : Calls Try.prog 17 #[.int .i64 n] w fun e w' => ∃ q, e = .returned (chV (newC n) q) ∧ Cha w' (newC n) q ∧ Below w.heap.size w w' := by
  have HNC := Lib.hid (show newC n = ⟨n, false, (m : Int), 0, List.replicate m 0, 0, 0, 0, [], []⟩ by unfold newC; rw [← hm]; rfl)
  have HCHA := Lib.hid (fun (W : World) (a : Option Addr) (cap : Nat) (H : Ints W a m cap (List.replicate m 0)) => (⟨⟨by show -9223372036854775808 ≤ n; omega, by show n ≤ 9223372036854775807; omega⟩, ⟨by show -9223372036854775808 ≤ (m : Int); omega, by show (m : Int) ≤ 9223372036854775807; omega⟩, i64_0, i64_0, i64_0, i64_0, H, Wts.nil _, Wts.nil _⟩ : Cha W ⟨n, false, (m : Int), 0, List.replicate m 0, 0, 0, 0, [], []⟩ ⟨a, m, cap, none, 0, 0, none, 0, 0⟩))
  have A1 := Lib.hid ((below_alloc w (.cells zero10 27)).alloc (by simp) (.cells #[.int .i64 n, .bool false, .int .i64 m, .int .i64 0, .slice none 0 0, .int .i64 0, .int .i64 0, .int .i64 0, .slice none 0 0, .slice none 0 0] 27))
  have K0 := Lib.hid ((Bx.new w zero10 27).below (below_alloc _ (.cells #[.int .i64 n, .bool false, .int .i64 m, .int .i64 0, .slice none 0 0, .int .i64 0, .int .i64 0, .int .i64 0, .slice none 0 0, .slice none 0 0] 27)))
  have K1 := Lib.hid (Bx.new2 w (.cells zero10 27) #[.int .i64 n, .bool false, .int .i64 m, .int .i64 0, .slice none 0 0, .int .i64 0, .int .i64 0, .int .i64 0, .slice none 0 0, .slice none 0 0] 27)
  have hcs : (n = -1 ∧ m = 0) ∨ n = (m : Int) := by omega
  have hm3 : m ≤ 3 := by omega
  obtain ⟨X, hX⟩ : ∃ X, X = (w.alloc (.cells zero10 27)).alloc (.cells #[.int .i64 n, .bool false, .int .i64 m, .int .i64 0, .slice none 0 0, .int .i64 0, .int .i64 0, .int .i64 0, .slice none 0 0, .slice none 0 0] 27) := ⟨_, rfl⟩
  rw [← hX] at A1 K0 K1
  obtain ⟨b1, h1⟩ : ∃ b, b = w.heap.size + 1 := ⟨_, rfl⟩
  obtain ⟨b0, h0⟩ : ∃ b, b = w.heap.size := ⟨_, rfl⟩
  have HBW := Lib.hid (show w.heap.size ≤ b0 ∧ w.heap.size ≤ b1 by omega)
  have HSX := Lib.hid (show b0 < X.heap.size ∧ b1 < X.heap.size by rw [hX, h0, h1, World.size_alloc, World.size_alloc]; omega)
  have n01 : b0 ≠ b1 := by omega
  have n10 : b1 ≠ b0 := by omega
  rw [← h1] at K1
  rw [← h0] at K0
  have HX := Lib.hid hX; have H0 := Lib.hid h0; have H1 := Lib.hid h1
  clear hX h0 h1 hm
  rcases hcs with ⟨rfl, rfl⟩ | rfl
  · have e0 : ((0 : Nat) : Int) = 0 := rfl
    rw [e0] at HX K1
    go_enter Try.func17, Try.ntmps17
    go_upto_region 2 with (fail)
    rw [← HX.out, ← H1.out]
    try rw [← H0.out]
    obtain ⟨t0, t1, t2, t3, t4, t5, t6, t7, t8, t9⟩ := K1.out.cells10
    obtain ⟨u0, u1, u2, u3, u4, u5, u6, u7, u8, u9⟩ := K0.out.cells10
    have l0 := K0.out.lt; have f0 := K0.out.froz 0; have f1 := K0.out.froz 1; have f2 := K0.out.froz 2; have f3 := K0.out.froz 3; have f4 := K0.out.froz 4; have f5 := K0.out.froz 5; have f6 := K0.out.froz 6; have f7 := K0.out.froz 7; have f8 := K0.out.froz 8; have f9 := K0.out.froz 9
    have E1 := Lib.hid (K0.out.st10 (.int .i64 (-1)) (.bool false) (.int .i64 0) (.int .i64 0) (.slice none 0 0) (.int .i64 0) (.int .i64 0) (.int .i64 0) (.slice none 0 0) (.slice none 0 0))
    have E3 := Lib.hid (below_st10 A1.out HBW.out.1 (.int .i64 (-1)) (.bool false) (.int .i64 0) (.int .i64 0) (.slice none 0 0) (.int .i64 0) (.int .i64 0) (.int .i64 0) (.slice none 0 0) (.slice none 0 0))
    go_wp2_with fail
    go_loopw [4] (fun i wr => i = .int .i64 0 ∧ X = wr) (fun _ _ => 0)
    case atStart => exact ⟨rfl, rfl⟩
    case round =>
      obtain ⟨rfl, rfl⟩ := hrel
      go_wp2_with fail
      exact bodyPost_ret (v := .agg #[.int .i64 (-1), .bool false, .int .i64 0, .int .i64 0, .slice none 0 0, .int .i64 0, .int .i64 0, .int .i64 0, .slice none 0 0, .slice none 0 0]) (by rw [res1_c Try.results17 _ (by rfl) (E1.out.load Try.underlying27 infC)]) rfl ⟨⟨none, 0, 0, none, 0, 0, none, 0, 0⟩, by rw [HNC.out]; rfl, by rw [HNC.out]; exact HCHA.out _ _ _ (Ints.nil _), E3.out⟩
  · go_enter Try.func17, Try.ntmps17
    go_upto_region 2 with (fail)
    rw [← HX.out, ← H1.out]
    try rw [← H0.out]
    go_wp2_with fail
    go_loopw [4] (fun i wr => ∃ (k : Nat) (a : Option Addr) (cap : Nat), k ≤ m ∧ i = .int .i64 k ∧ Bx wr b1 #[.int .i64 m, .bool false, .int .i64 m, .int .i64 0, .slice a k cap, .int .i64 0, .int .i64 0, .int .i64 0, .slice none 0 0, .slice none 0 0] 27 ∧ Own wr X.heap.size (.slice a k cap) (List.replicate k 0) ∧ Bx wr b0 zero10 27 ∧ Below w.heap.size w wr ∧ X.heap.size ≤ wr.heap.size) (fun i _ => m - (intOf i).toNat)
    case atStart => exact ⟨0, none, 0, Nat.zero_le _, rfl, K1.out, ⟨rfl, .inl ⟨rfl, rfl⟩⟩, K0.out, A1.out, Nat.le_refl _⟩
    case round =>
      obtain ⟨k, a, cap, hk, rfl, hbx, hown, hb0, hbw, hsz⟩ := hrel
      have KR := Lib.hid hbx; have HO := Lib.hid hown; have KZ := Lib.hid hb0; have AR := Lib.hid hbw; have HSZ := Lib.hid hsz
      clear hbx hown hb0 hbw hsz
      by_cases hlt : k < m
      · have hlt' : (k : Int) < (m : Int) := by omega
        obtain ⟨t0, t1, t2, t3, t4, t5, t6, t7, t8, t9⟩ := Bx.cells10 KR.out
        have HLN := Lib.hid (show (List.replicate k (0 : Int)).length ≤ 1000000 by simp; omega)
        have HRS := Lib.hid (show List.replicate (k + 1) (0 : Int) = List.replicate k 0 ++ [0] from List.replicate_succ')
        go_upto_region 5 with (fail)
        have KPT := Lib.hid (fun (v' : Value) (w' : World) (ho : Hid (Own w' X.heap.size v' (List.replicate k 0 ++ [0]))) (hb : Hid (Below X.heap.size wr w')) => show ∃ a' cap', v' = .slice a' (k + 1) cap' ∧ Hid (Own w' X.heap.size (.slice a' (k + 1) cap') (List.replicate (k + 1) 0)) ∧ Hid (Bx w' b1 #[.int .i64 m, .bool false, .int .i64 m, .int .i64 0, .slice a k cap, .int .i64 0, .int .i64 0, .int .i64 0, .slice none 0 0, .slice none 0 0] 27) ∧ Hid (Bx w' b0 zero10 27) ∧ Hid (Below w.heap.size w w') ∧ Hid (X.heap.size ≤ w'.heap.size) from by
          have ho1 := ho.out
          rw [← HRS.out] at ho1
          obtain ⟨a', cap', hv, _⟩ := Own.ints ho1 (rep_i64 _)
          rw [List.length_replicate] at hv
          subst hv
          exact ⟨a', cap', rfl, ho1, (hb.out.block b1 HSX.out.2).trans KR.out, (hb.out.block b0 HSX.out.1).trans KZ.out, AR.out.trans (Below.mono hb.out A1.out.size), Nat.le_trans HSZ.out hb.out.size⟩)
        clear t0 t1 t2 t3 t5 t6 t7 t8 t9
        go_wp2_with (at_builtin; refine app1 rfl _ _ rfl X.heap.size _ (List.replicate k 0) rfl HO.out 0 rfl HLN.out wr (Below.mono (Below.refl _ _) HSZ.out) HSZ.out ?_; intro v' w' hown' hb'; obtain ⟨a', cap', rfl, HO', KR', KZ', AR', HS'⟩ := KPT.out v' w' hown' hb'; clear hown' hb' KPT t4; have t4 := Bx.cell KR'.out 4 rfl; have l1 := Bx.lt KR'.out; have f4 := Bx.froz KR'.out 4)
        go_roundw
        case rel => exact ⟨k + 1, a', cap', by omega, by go_num, Bx.set KR'.out 4 _, HO'.out.setOther HSX.out.2 4 _, (show Bx _ _ _ _ from (Below.heap_setCell _ _ _ _ (show b0 ≠ b1 by have := H0.out; have := H1.out; omega)).trans KZ'.out), AR'.out.setCell HBW.out.2 _, by have := HS'.out; simpa using this⟩
        case measure => simp [intOf]; omega
      · obtain rfl : k = m := by omega
        obtain ⟨a', cap', hv, hi⟩ := Own.ints HO.out (rep_i64 _)
        rw [List.length_replicate] at hv hi
        cases hv
        have HI := Lib.hid hi
        clear hi
        obtain ⟨t0, t1, t2, t3, t4, t5, t6, t7, t8, t9⟩ := Bx.cells10 KR.out
        obtain ⟨u0, u1, u2, u3, u4, u5, u6, u7, u8, u9⟩ := Bx.cells10 KZ.out
        have l0 := Bx.lt KZ.out; have f0 := Bx.froz KZ.out 0; have f1 := Bx.froz KZ.out 1; have f2 := Bx.froz KZ.out 2; have f3 := Bx.froz KZ.out 3; have f4 := Bx.froz KZ.out 4; have f5 := Bx.froz KZ.out 5; have f6 := Bx.froz KZ.out 6; have f7 := Bx.froz KZ.out 7; have f8 := Bx.froz KZ.out 8; have f9 := Bx.froz KZ.out 9
        have E1 := Lib.hid (Bx.st10 KZ.out (.int .i64 k) (.bool false) (.int .i64 k) (.int .i64 0) (.slice a k cap) (.int .i64 0) (.int .i64 0) (.int .i64 0) (.slice none 0 0) (.slice none 0 0))
        have E3 := Lib.hid (below_st10 AR.out HBW.out.1 (.int .i64 k) (.bool false) (.int .i64 k) (.int .i64 0) (.slice a k cap) (.int .i64 0) (.int .i64 0) (.int .i64 0) (.slice none 0 0) (.slice none 0 0))
        have EI := Lib.hid (HI.out.other (B := b0) (fun y hy _ => by
          have := HO.out.2
          rcases this with ⟨hv, hn⟩ | ⟨g, cp, cur, hv, hg, _⟩
          · cases hv; cases hy
          · rw [List.length_replicate] at hv; cases hv; cases hy; have := HSX.out.1; show g ≠ b0; omega) (grown_st10 (World.grownBy.refl wr (some b0)) (.int .i64 k) (.bool false) (.int .i64 k) (.int .i64 0) (.slice a k cap) (.int .i64 0) (.int .i64 0) (.int .i64 0) (.slice none 0 0) (.slice none 0 0)))
        go_wp2_with fail
        exact bodyPost_ret (v := .agg #[.int .i64 k, .bool false, .int .i64 k, .int .i64 0, .slice a k cap, .int .i64 0, .int .i64 0, .int .i64 0, .slice none 0 0, .slice none 0 0]) (by rw [res1_c Try.results17 _ (by rfl) (E1.out.load Try.underlying27 infC)]) rfl ⟨⟨a, k, cap, none, 0, 0, none, 0, 0⟩, by rw [HNC.out], by rw [HNC.out]; exact HCHA.out _ _ _ EI.out, E3.out⟩
end Go.Proofs.Ytfolhgpbplfilaa
