/- The reference: Numbers. -/
import Derived.Test.YtddkckppmjcclaaN3
namespace Go.Proofs.Ytddkckppmjcclaa
open Go.RowKit
set_option linter.unusedSimpArgs false
set_option linter.unusedVariables false
theorem step_appN2 {ops : Array Oper} {o : Oper} {a : Act} {K : Act → World → Prop} {Q : Exit → Act → World → Prop} {E : Prop} {wr : World} (hgd : Region.wanted o (yielded ops a.tmps) = true) (s x : Operand)
    (ho : o.op = .call { callee := .builtin .append, args := #[s, x], argTypes := #[22, 22] }) (base : Nat) (v : Value) (L : List Int) (hs : a.eval s = v) (hown : OwnN wr base v L) (n : Int)
    (hx : a.eval x = .slice (some ⟨wr.heap.size, 0, none⟩) 1 1) (hlen : L.length ≤ 100000) (w0 : World) (hb : Below base w0 wr) (hbase : base ≤ wr.heap.size) (b7 : Nat) (cs : Array Value) (t : TypeId) (h7 : Bx wr b7 cs t) (ht : t ≠ 3)
    (h : ∀ v' w', Hid (OwnN w' base v' (L ++ [n])) → Hid (Below base w0 w') → Hid (Bx w' b7 cs t) → K (a.put o.dst v') w') :
    if Region.wanted o (yielded ops a.tmps) = true then Oper.wp Try.prog o a (wr.alloc (.cells #[.int .i64 n] 3)) K Q else E := by
  rw [if_pos hgd]
  obtain ⟨v', w', hrun, ho', hg⟩ := run_appG enc1_len (by decide) enc1_one 22 3 8 _ Try.underlying22 inf3n rfl (by decide) (wr.alloc (.cells #[.int .i64 n] 3)) o.type base v L (OwnR.below hown (below_alloc wr _)) ⟨wr.heap.size, 0, none⟩ 1 1 [n] (recs_oneG (t := 3) (heap_alloc_new wr _)) hlen (by omega) (by simp; omega)
  unfold Oper.wp
  simp [execOp, ho, resolve, invoke, builtin, hs, hx, hrun, Result.andThen]
  refine h v' w' ho' (Below.grown (hb.alloc hbase _) hg (by simp; omega) (fun r hr => OwnR.lt hown r hr)) ?_
  have h8 := h7.below (below_alloc wr (.cells #[.int .i64 n] 3))
  exact (hg.block b7 h8.lt (fun e => own_apart hown h7 ht b7 e.symm rfl)).trans h8
set_option maxRecDepth 100000 in
set_option maxHeartbeats 8000000 in
theorem refNumbers_any (p : Pr) (q : PAt) (w : World) (h : Prg w p q) (hr : rightP p = true) :
    Calls Try.prog 22 #[prV p q] w (GotInts w (numL p)) := by
  have X_0 := Lib.hid (Bx.new w (prC p q) 26)
  have B_0 := Lib.hid (below_alloc w (.cells (prC p q) 26))
  have P_0 := Lib.hid (h.below B_0.out)
  have HIO := Lib.hid h.ins_ok
  obtain ⟨ht, hbk⟩ := right_parts hr
  have HCO := Lib.hid (caps_ok ht); have HSO := Lib.hid (sels_ok ht)
  have HCN := Lib.hid h.caps.len_eq
  have hc4 : q.cn ≤ 4 := by
    have h1 := (tab_parts ht).1
    unfold SizeA at h1
    have h2 := h.caps.len_eq
    omega
  have HSZ := Lib.hid h.szs
  have HB4I := Lib.hid (show ∀ i, I64 (en [p.mu, p.on, p.va, (q.sn : Int)] i) from i64_list (fun x hx => by
    simp at hx
    rcases hx with rfl | rfl | rfl | rfl
    · exact h.mu
    · exact h.on
    · exact h.va
    · have := h.sels.caps; unfold maxLen at this; exact ⟨by omega, by omega⟩))
  have HP64 := Lib.hid (show I64 p.mu ∧ I64 p.on ∧ I64 p.va from ⟨h.mu, h.on, h.va⟩)
  go_enter Try.func22, Try.ntmps22
  obtain ⟨BX, hBX⟩ : ∃ x, x = w.heap.size := ⟨_, rfl⟩
  rw [← hBX] at X_0
  have HBX := Lib.hid hBX
  clear hBX
  obtain ⟨w1, hw1⟩ : ∃ w1, w1 = w.alloc (.cells (prC p q) 26) := ⟨_, rfl⟩
  rw [← hw1] at X_0 B_0 P_0
  go_upto_region 1 with (fail)
  rw [← hw1]
  try rw [← HBX.out]
  clear hw1 h hr
  obtain ⟨x0, x1, x2, x3, x4, x5⟩ := X_0.out.cells6
  go_upto_region 2 with (fail)
  clear x0 x1 x2 x3 x4 x5
  have O_0 := Lib.hid (own_lit1 w1 q.cn)
  have B_1 := Lib.hid (below_alloc w1 (.cells #[.int .i64 q.cn] 3))
  obtain ⟨w2, hw2⟩ : ∃ x, x = w1.alloc (.cells #[.int .i64 q.cn] 3) := ⟨_, rfl⟩
  have HSZ2 := Lib.hid (show w1.heap.size + 1 = w2.heap.size by rw [hw2]; simp)
  rw [← hw2] at O_0 B_1 ⊢
  obtain ⟨B0, hB0⟩ : ∃ x, x = w1.heap.size := ⟨_, rfl⟩
  have HB0 := Lib.hid hB0
  rw [← hB0] at O_0 B_1 HSZ2 ⊢
  clear hw2 hB0
  have HKP := Lib.hid (fun W (H : Below B0 w2 W) => show Below w1.heap.size w1 W by rw [← HB0.out]; exact B_1.out.trans H)
  obtain ⟨x0, x1, x2, x3, x4, x5⟩ := (X_0.out.below (HKP.out _ (Below.refl _ _))).cells6
  go_wp2_with fail
  clear x0 x1 x2 x3 x4 x5
  go_loopw [3, 21] (fun u i wr => ∃ k : Nat, k ≤ q.cn ∧ i = .int .i64 k ∧ OwnN wr B0 u ([(q.cn : Int)] ++ (p.caps.take k).map (· + 1)) ∧ Below B0 w2 wr) (fun _ i _ => q.cn - (intOf i).toNat)
  case atStart => exact ⟨0, Nat.zero_le _, rfl, O_0.out, Below.refl _ _⟩
  case round =>
    clear O_0
    obtain ⟨k, hk, rfl, hown, hbw⟩ := hrel
    have HO := Lib.hid hown; have HW := Lib.hid hbw
    clear hown hbw
    have HZ := Lib.hid (show B0 ≤ wr.heap.size by have := HSZ2.out; have := HW.out.size; omega)
    by_cases hlt : k < q.cn
    · have hlt' : (k : Int) < (q.cn : Int) := by omega
      obtain ⟨b, off, hca, hc⟩ := (P_0.out.caps.below (HKP.out _ HW.out)).cell k hlt
      have HM := Lib.hid (map_snocI (get_en (L := p.caps) (k := k) (by rw [HCN.out]; exact hlt)) (· + 1))
      have hcb := P_0.out.caps.bound k
      obtain ⟨hn1, hn3⟩ := HCO.out _ (en_mem p.caps k (by rw [HCN.out]; exact hlt))
      obtain ⟨n, hn⟩ : ∃ n, n = en p.caps k := ⟨_, rfl⟩
      rw [← hn] at hc hcb HM hn1 hn3
      clear hn
      have HL := Lib.hid (show ([(q.cn : Int)] ++ (p.caps.take k).map (· + 1)).length ≤ 100000 by simp; omega)
      rw [hca]
      clear hca hcb
      go_wp2_with (at_builtin; refine appN1 rfl _ _ rfl B0 _ _ rfl HO.out (n + 1) rfl HL.out w2 HW.out HZ.out ?_; intro v' w3 ho hb3 hz3)
      go_roundw
      case rel => exact ⟨k + 1, by omega, by go_num, by rw [HM.out, ← List.append_assoc]; exact ho.out, hb3.out⟩
      case measure => simp [intOf]; omega
    · have hke : k = q.cn := by omega
      subst hke
      have HT := Lib.hid (show p.caps.take q.cn = p.caps from List.take_of_length_le (by rw [HCN.out]; exact Nat.le_refl _))
      have hO := HO.out
      rw [HT.out] at hO
      have HO1 := Lib.hid hO
      clear hO HO HT
      have HL := Lib.hid (show ([(q.cn : Int)] ++ p.caps.map (· + 1)).length ≤ 100000 by simp; have := HCN.out; omega)
      obtain ⟨x0, x1, x2, x3, x4, x5⟩ := (X_0.out.below (HKP.out _ HW.out)).cells6
      clear x0 x1 x2 x3 x4 x5
      have HL0 := Lib.hid (show (([(q.cn : Int)] ++ p.caps.map (· + 1))).length ≤ 100000 by have h1 := HCN.out; simp only [List.length_append, List.length_map, List.length_singleton]; omega)
      obtain ⟨x0, x1, x2, x3, x4, x5⟩ := (X_0.out.below (HKP.out _ HW.out)).cells6
      go_upto_region 8 with (at_builtin; refine appN1 rfl _ _ rfl B0 _ ([(q.cn : Int)] ++ p.caps.map (· + 1)) rfl HO1.out p.mu rfl HL0.out w2 HW.out HZ.out ?_; intro va0 wa0 oa0 ba0 za0)
      clear x0 x1 x2 x3 x4 x5
      have SA0 := Lib.hid (show B0 ≤ wa0.heap.size from Nat.le_trans HZ.out za0.out)
      have HL1 := Lib.hid (show ((([(q.cn : Int)] ++ p.caps.map (· + 1)) ++ [(p.mu : Int)])).length ≤ 100000 by have h1 := HCN.out; simp only [List.length_append, List.length_map, List.length_singleton]; omega)
      obtain ⟨x0, x1, x2, x3, x4, x5⟩ := (X_0.out.below (HKP.out _ ba0.out)).cells6
      go_upto_region 9 with (at_builtin; refine appN1 rfl _ _ rfl B0 _ (([(q.cn : Int)] ++ p.caps.map (· + 1)) ++ [(p.mu : Int)]) rfl oa0.out p.on rfl HL1.out w2 ba0.out SA0.out ?_; intro va1 wa1 oa1 ba1 za1)
      clear x0 x1 x2 x3 x4 x5
      have SA1 := Lib.hid (show B0 ≤ wa1.heap.size from Nat.le_trans SA0.out za1.out)
      have HL2 := Lib.hid (show (((([(q.cn : Int)] ++ p.caps.map (· + 1)) ++ [(p.mu : Int)]) ++ [(p.on : Int)])).length ≤ 100000 by have h1 := HCN.out; simp only [List.length_append, List.length_map, List.length_singleton]; omega)
      obtain ⟨x0, x1, x2, x3, x4, x5⟩ := (X_0.out.below (HKP.out _ ba1.out)).cells6
      go_upto_region 10 with (at_builtin; refine appN1 rfl _ _ rfl B0 _ ((([(q.cn : Int)] ++ p.caps.map (· + 1)) ++ [(p.mu : Int)]) ++ [(p.on : Int)]) rfl oa1.out p.va rfl HL2.out w2 ba1.out SA1.out ?_; intro va2 wa2 oa2 ba2 za2)
      clear x0 x1 x2 x3 x4 x5
      have SA2 := Lib.hid (show B0 ≤ wa2.heap.size from Nat.le_trans SA1.out za2.out)
      have HL3 := Lib.hid (show ((((([(q.cn : Int)] ++ p.caps.map (· + 1)) ++ [(p.mu : Int)]) ++ [(p.on : Int)]) ++ [(p.va : Int)])).length ≤ 100000 by have h1 := HCN.out; simp only [List.length_append, List.length_map, List.length_singleton]; omega)
      obtain ⟨x0, x1, x2, x3, x4, x5⟩ := (X_0.out.below (HKP.out _ ba2.out)).cells6
      go_upto_region 11 with (at_builtin; refine appN1 rfl _ _ rfl B0 _ (((([(q.cn : Int)] ++ p.caps.map (· + 1)) ++ [(p.mu : Int)]) ++ [(p.on : Int)]) ++ [(p.va : Int)]) rfl oa2.out q.sn rfl HL3.out w2 ba2.out SA2.out ?_; intro va3 wa3 oa3 ba3 za3)
      clear x0 x1 x2 x3 x4 x5
      have SA3 := Lib.hid (show B0 ≤ wa3.heap.size from Nat.le_trans SA2.out za3.out)
      have O4 := Lib.hid (show OwnN wa3 B0 va3 (headN p) from by
        have h1 := oa3.out
        rw [show [(q.cn : Int)] ++ p.caps.map (· + 1) ++ [p.mu] ++ [p.on] ++ [p.va] ++ [(q.sn : Int)] = headN p by unfold headN; rw [HCN.out, HSZ.out.sn]; simp] at h1
        exact h1)
      have W4 := Lib.hid (show Below B0 w2 wa3 from ba3.out)
      clear oa0 oa1 oa2 oa3 ba0 ba1 ba2 ba3 za0 za1 za2 za3 SA0 SA1 SA2 SA3
      obtain ⟨x0, x1, x2, x3, x4, x5⟩ := (X_0.out.below (HKP.out _ W4.out)).cells6
      have hs4 : q.sn ≤ 4 := (szB_not HSZ.out (tab_parts ht).2).2.2.1
      have hb6 : q.bn ≤ 6 := (szB_not HSZ.out (tab_parts ht).2).2.2.2.2
      have hc4' : p.caps.length ≤ 4 := by rw [HCN.out]; exact hc4
      have HC4 := Lib.hid hc4'
      clear ht hc4'
      go_wp2_with fail
      clear x0 x1 x2 x3 x4 x5
      have HLS := Lib.hid (show ∀ k, (headN p ++ (p.sels.take k).flatMap selN).length ≤ 1000 from fun k => by
        have h1 := flat_len_le (f := selN) (m := 5) (L := p.sels.take k) (fun s hs => by
          have := (HSO.out s (List.mem_of_mem_take hs)).1
          simp [selN]; omega)
        have h2 := List.length_take_le k p.sels
        have h3 := List.length_take_le' k p.sels
        have h4 := HSZ.out.sn
        have h5 := HC4.out
        rw [List.length_append]
        have h6 : (headN p).length ≤ 20 := by simp [headN]; omega
        omega)
      go_loopw [3, 55] (fun u i wr => ∃ k : Nat, k ≤ q.sn ∧ i = .int .i64 k ∧ OwnN wr B0 u (headN p ++ (p.sels.take k).flatMap selN) ∧ Below B0 w2 wr) (fun _ i _ => q.sn - (intOf i).toNat)
      case atStart => exact ⟨0, Nat.zero_le _, rfl, by simpa using O4.out, W4.out⟩
      case round =>
        clear O4 W4 HO1 HW HZ
        obtain ⟨k, hk, rfl, hown, hbw⟩ := hrel
        have HO := Lib.hid hown; have HW := Lib.hid hbw
        clear hown hbw
        have HZ := Lib.hid (show B0 ≤ wr.heap.size by have := HSZ2.out; have := HW.out.size; omega)
        by_cases hlt : k < q.sn
        · have hlt' : (k : Int) < (q.sn : Int) := by omega
          obtain ⟨x, b, off, ca, cn, cc, hx, hsa, d0', d1', hcs⟩ := P_0.out.sels.at k hlt
          have d0 := ((HKP.out _ HW.out).cell (p := ⟨b, off + k * 2, none⟩) (World.block_lt_of_cell? _ _ d0')).trans d0'
          have d1 := ((HKP.out _ HW.out).cell (p := ⟨b, off + k * 2 + 1, none⟩) (World.block_lt_of_cell? _ _ d1')).trans d1'
          have HX := Lib.hid (flat_snocI hx selN)
          obtain ⟨hcl, hch⟩ := HSO.out x (List.mem_of_getElem? hx)
          have hcnl := hcs.recs.len_eq
          have hcn4 : cn ≤ 4 := by omega
          have HCS := Lib.hid hcs; have HCH := Lib.hid hch; have HCL := Lib.hid hcnl
          clear d0' d1' hx hcs hch hcnl hcl
          obtain ⟨bd, hbd⟩ : ∃ bd : Int, bd = (if x.d = true then 1 else 0) := ⟨_, rfl⟩
          have hbd0 : 0 ≤ bd := by rw [hbd]; split <;> decide
          have hbd1 : bd ≤ 1 := by rw [hbd]; split <;> decide
          have HBT := Lib.hid (fun W => bit_any x.d W)
          rw [← hbd] at HBT
          have HBD := Lib.hid hbd
          clear hbd
          rw [hsa]
          clear hsa
          have BX5 := Lib.hid (Bx.new wr #[.slice ca cn cc, .bool x.d] 47)
          have BB5 := Lib.hid (below_alloc wr (.cells #[.slice ca cn cc, .bool x.d] 47))
          have HLK := Lib.hid (show (headN p ++ (p.sels.take k).flatMap selN).length ≤ 100000 from Nat.le_trans (HLS.out k) (by decide))
          go_upto_region 14 with (fail)
          have HO5 := Lib.hid (OwnR.below HO.out BB5.out)
          have HW5 := Lib.hid (HW.out.trans (Below.mono BB5.out HZ.out))
          have HZ5 := Lib.hid (show B0 ≤ (wr.alloc (.cells #[.slice ca cn cc, .bool x.d] 47)).heap.size by have := HZ.out; simp; omega)
          obtain ⟨w5, hw5⟩ : ∃ w5, w5 = wr.alloc (.cells #[.slice ca cn cc, .bool x.d] 47) := ⟨_, rfl⟩
          obtain ⟨b7, hb7⟩ : ∃ b7, b7 = wr.heap.size := ⟨_, rfl⟩
          rw [← hw5] at BX5 BB5 HO5 HW5 HZ5 ⊢
          rw [← hb7] at BX5 ⊢
          clear hw5 hb7 BB5 d0 d1 HO HW HZ
          obtain ⟨pn, hpn⟩ : ∃ pn, pn = pairN cn x.d := ⟨_, rfl⟩
          have HPN := Lib.hid hpn
          have HP2 := Lib.hid (show 2 * (cn : Int) + bd = pn by rw [HBD.out, hpn, pairN])
          clear hpn
          obtain ⟨L0, hL0⟩ : ∃ L0, L0 = headN p ++ (p.sels.take k).flatMap selN := ⟨_, rfl⟩
          rw [← hL0] at HO5 HLK
          have HL0 := Lib.hid hL0
          clear hL0
          have HSS := Lib.hid (show ∀ W, Bx W b7 #[.slice ca cn cc, .bool x.d] 47 → (fun W => Bx W b7 #[.slice ca cn cc, .bool x.d] 47 ∧ W.cell? ⟨b7, 0, none⟩ = some (.slice ca cn cc) ∧ W.cell? ⟨b7, 1, none⟩ = some (.bool x.d)) W from fun W hb => ⟨hb, Bx.cell hb 0 rfl, Bx.cell hb 1 rfl⟩)
          have HWR := Lib.hid (show IntKind.i64.wrap (IntKind.i64.wrap (2 * (cn : Int)) + bd) = pn from by rw [← HP2.out, IntWalk.i64_in (2 * (cn : Int)) ⟨by omega, by omega⟩, IntWalk.i64_in (2 * (cn : Int) + bd) ⟨by omega, by omega⟩])
          have BX6 := Lib.hid (BX5.out.below (Below.refl w5.heap.size w5).drew)
          have HO6 := Lib.hid (OwnR.below HO5.out (Below.refl w5.heap.size w5).drew)
          have HW6 := Lib.hid (HW5.out.drew)
          have HZ6 := Lib.hid (show B0 ≤ w5.drew.heap.size from HZ5.out)
          refine wp_region_held_drew (S := (fun W => Bx W b7 #[.slice ca cn cc, .bool x.d] 47 ∧ W.cell? ⟨b7, 0, none⟩ = some (.slice ca cn cc) ∧ W.cell? ⟨b7, 1, none⟩ = some (.bool x.d))) (by kernel_rfl) (HSS.out _ BX6.out) (fun hHeld => ?_)
          (try simp only [Act.put, List.getElem_toArray, List.getElem_cons_zero, List.getElem_cons_succ, List.setIfInBounds_toArray, List.set_cons_zero, List.set_cons_succ])
          refine wpAnyH_take (i := 0) (v := ?_) rfl (by kernel_rfl) (by kernel_rfl) (by kernel_rfl) (fun _ _ _ h => h) (Or.inl ⟨by rfl, ?_⟩) (by assumption) ?_
          rotate_left
          · (intro w hSw; (try dsimp only at hSw); go_simp; try with_reducible rfl)
          (try simp only [Act.put, List.getElem_toArray, List.getElem_cons_zero, List.getElem_cons_succ, List.setIfInBounds_toArray, List.set_cons_zero, List.set_cons_succ])
          refine wpAnyH_take (i := 1) (v := ?_) rfl (by kernel_rfl) (by kernel_rfl) (by kernel_rfl) (fun _ _ _ h => h) (Or.inl ⟨by rfl, ?_⟩) (by assumption) ?_
          rotate_left
          · (intro w hSw; (try dsimp only at hSw); go_simp; try with_reducible rfl)
          (try simp only [Act.put, List.getElem_toArray, List.getElem_cons_zero, List.getElem_cons_succ, List.setIfInBounds_toArray, List.set_cons_zero, List.set_cons_succ])
          refine wpAnyH_take (i := 2) (v := ?_) rfl (by kernel_rfl) (by kernel_rfl) (by kernel_rfl) (fun _ _ _ h => h) (Or.inl ⟨by rfl, ?_⟩) (by assumption) ?_
          rotate_left
          · (intro w hSw; (try dsimp only at hSw); go_simp; try with_reducible rfl)
          (try simp only [Act.put, List.getElem_toArray, List.getElem_cons_zero, List.getElem_cons_succ, List.setIfInBounds_toArray, List.set_cons_zero, List.set_cons_succ])
          refine wpAnyH_take (i := 3) (v := ?_) rfl (by kernel_rfl) (by kernel_rfl) (by kernel_rfl) (fun _ _ _ h => h) (Or.inl ⟨by rfl, ?_⟩) (by assumption) ?_
          rotate_left
          · (intro w hSw; (try dsimp only at hSw); go_simp; try with_reducible rfl)
          (try simp only [Act.put, List.getElem_toArray, List.getElem_cons_zero, List.getElem_cons_succ, List.setIfInBounds_toArray, List.set_cons_zero, List.set_cons_succ])
          refine wpAnyH_take (i := 4) (v := ?_) rfl (by kernel_rfl) (by kernel_rfl) (by kernel_rfl) (fun _ _ _ h => h) (Or.inl ⟨by rfl, ?_⟩) (by assumption) ?_
          rotate_left
          · (intro w hSw; (try dsimp only at hSw); go_simp; try with_reducible rfl)
          (try simp only [Act.put, List.getElem_toArray, List.getElem_cons_zero, List.getElem_cons_succ, List.setIfInBounds_toArray, List.set_cons_zero, List.set_cons_succ])
          refine wpAnyH_take (i := 5) (v := ?_) rfl (by kernel_rfl) (by kernel_rfl) (by kernel_rfl) (fun _ _ _ h => h) (Or.inl ⟨by rfl, ?_⟩) (by assumption) ?_
          rotate_left
          · (intro w hSw; (try dsimp only at hSw); go_simp; try with_reducible rfl)
          (try simp only [Act.put, List.getElem_toArray, List.getElem_cons_zero, List.getElem_cons_succ, List.setIfInBounds_toArray, List.set_cons_zero, List.set_cons_succ])
          refine wpAnyH_take (i := 6) (v := ?_) rfl (by kernel_rfl) (by kernel_rfl) (by kernel_rfl) (fun _ _ _ h => h) (Or.inl ⟨by rfl, ?_⟩) (by assumption) ?_
          rotate_left
          · (intro w hSw; (try dsimp only at hSw); go_simp; try with_reducible rfl)
          (try simp only [Act.put, List.getElem_toArray, List.getElem_cons_zero, List.getElem_cons_succ, List.setIfInBounds_toArray, List.set_cons_zero, List.set_cons_succ])
          refine wpAnyH_ready (rs := [7]) (by kernel_rfl) (by simp) ?_
          refine AllReadyH.cons (o := _) rfl (fun K hK => ?_) AllReadyH.nil
          go_simp
          refine (HBT.out _).mono ?_
          rintro e w6 ⟨rfl, rfl⟩
          clear hHeld
          refine hK.out _ _ (HSS.out _ BX6.out) (fun hHeld => ?_)
          clear hK K
          (try simp only [Act.put, List.getElem_toArray, List.getElem_cons_zero, List.getElem_cons_succ, List.setIfInBounds_toArray, List.set_cons_zero, List.set_cons_succ])
          refine wpAnyH_take (i := 8) (v := ?_) rfl (by kernel_rfl) (by kernel_rfl) (by kernel_rfl) (fun _ _ _ h => h) (Or.inl ⟨by rfl, ?_⟩) (by assumption) ?_
          rotate_left
          · (intro w hSw; (try dsimp only at hSw); go_simp; try with_reducible rfl)
          (try simp only [Act.put, List.getElem_toArray, List.getElem_cons_zero, List.getElem_cons_succ, List.setIfInBounds_toArray, List.set_cons_zero, List.set_cons_succ])
          refine wpAnyH_ready (rs := [9]) (by kernel_rfl) (by simp) ?_
          refine AllReadyH.cons (o := _) rfl (fun K hK => ?_) AllReadyH.nil
          go_simp
          clear hHeld
          rw [HWR.out]
          refine hK.out _ _ (HSS.out _ (BX6.out.below (below_alloc _ _))) (fun hHeld => ?_)
          clear hK K
          (try simp only [Act.put, List.getElem_toArray, List.getElem_cons_zero, List.getElem_cons_succ, List.setIfInBounds_toArray, List.set_cons_zero, List.set_cons_succ])
          refine wpAnyH_ready (rs := [10]) (by kernel_rfl) (by simp) ?_
          refine AllReadyH.cons (o := _) rfl (fun K hK => ?_) AllReadyH.nil
          refine step_appN2 (wr := w5.drew) (by first | rfl | kernel_rfl) (.tmp 59) (.tmp 68) (by rfl) B0 _ _ (by rfl) HO6.out pn (by rfl) HLK.out w2 HW6.out HZ6.out b7 _ 47 BX6.out (by decide) ?_
          intro v7 w7 ho7 hb7 hx7
          clear hHeld
          refine hK.out _ _ (HSS.out _ hx7.out) (fun hHeld => ?_)
          clear hK K
          (try simp only [Act.put, List.getElem_toArray, List.getElem_cons_zero, List.getElem_cons_succ, List.setIfInBounds_toArray, List.set_cons_zero, List.set_cons_succ])
          refine wpAnyH_take (i := 11) (v := ?_) rfl (by kernel_rfl) (by kernel_rfl) (by kernel_rfl) (fun _ _ _ h => h) (Or.inl ⟨by rfl, ?_⟩) (by assumption) ?_
          rotate_left
          · (intro w hSw; (try dsimp only at hSw); go_simp; try with_reducible rfl)
          (try simp only [Act.put, List.getElem_toArray, List.getElem_cons_zero, List.getElem_cons_succ, List.setIfInBounds_toArray, List.set_cons_zero, List.set_cons_succ])
          refine wpAnyH_done (by kernel_rfl) ?_ _
          clear hHeld HSS BX6 HO6 HW6 HZ6
          have c0 := Bx.cell hx7.out 0 rfl
          have HLM := Lib.hid (show ∀ j, (L0 ++ [pn] ++ (x.cs.take j).map (fun c => pairN c.chan c.send)).length ≤ 100000 from fun j => by
            have := HLK.out; have h2 := List.length_take_le j x.cs; have h3 := HCL.out; have h4 := HLS.out k; rw [← HL0.out] at h4; simp; omega)
          go_wp2_with fail
          clear c0
          go_loopw [3, 73] (fun u i wr => ∃ j : Nat, j ≤ cn ∧ i = .int .i64 j ∧ OwnN wr B0 u (L0 ++ [pn] ++ (x.cs.take j).map (fun c => pairN c.chan c.send)) ∧ Below B0 w2 wr) (fun _ i _ => cn - (intOf i).toNat)
          case atStart => exact ⟨0, Nat.zero_le _, rfl, by simpa using ho7.out, hb7.out⟩
          case round =>
            clear ho7 hb7 hx7 HO5 HW5 HZ5 BX5
            obtain ⟨j, hj, rfl, hown, hbw⟩ := hrel
            have HO := Lib.hid hown; have HW := Lib.hid hbw
            clear hown hbw
            have HZ := Lib.hid (show B0 ≤ wr.heap.size by have := HSZ2.out; have := HW.out.size; omega)
            by_cases hlj : j < cn
            · have hlj' : (j : Int) < (cn : Int) := by omega
              obtain ⟨y, b3, o3, hy, hyok, hca3, e0, e1⟩ := (HCS.out.below (HKP.out _ HW.out)).at j hlj
              obtain ⟨hy0, hy1⟩ := HCH.out y (List.mem_of_getElem? hy)
              have HM := Lib.hid (map_snocI hy (fun c => pairN c.chan c.send))
              obtain ⟨bd, hbd⟩ : ∃ bd : Int, bd = (if y.send = true then 1 else 0) := ⟨_, rfl⟩
              have hbd0 : 0 ≤ bd := by rw [hbd]; split <;> decide
              have hbd1 : bd ≤ 1 := by rw [hbd]; split <;> decide
              have HBT := Lib.hid (fun W => bit_any y.send W)
              rw [← hbd] at HBT
              have hy4 : y.chan ≤ 4 := by have := HC4.out; omega
              clear hy hyok hy1
              have BX5 := Lib.hid (Bx.new wr #[.bool y.send, .int .i64 y.chan] 71)
              have BB5 := Lib.hid (below_alloc wr (.cells #[.bool y.send, .int .i64 y.chan] 71))
              have HLK := Lib.hid (HLM.out j)
              rw [hca3]
              clear hca3
              obtain ⟨pn2, hpn⟩ : ∃ pn2, pn2 = pairN y.chan y.send := ⟨_, rfl⟩
              have HP2 := Lib.hid (show 2 * y.chan + bd = pn2 by rw [hbd, hpn, pairN])
              rw [← hpn] at HM
              clear hpn hbd
              go_upto_region 18 with (fail)
              have HO5 := Lib.hid (OwnR.below HO.out BB5.out)
              have HW5 := Lib.hid (HW.out.trans (Below.mono BB5.out HZ.out))
              have HZ5 := Lib.hid (show B0 ≤ (wr.alloc (.cells #[.bool y.send, .int .i64 y.chan] 71)).heap.size by have := HZ.out; simp; omega)
              obtain ⟨w5, hw5⟩ : ∃ w5, w5 = wr.alloc (.cells #[.bool y.send, .int .i64 y.chan] 71) := ⟨_, rfl⟩
              obtain ⟨b7, hb7⟩ : ∃ b7, b7 = wr.heap.size := ⟨_, rfl⟩
              rw [← hw5] at BX5 BB5 HO5 HW5 HZ5 ⊢
              rw [← hb7] at BX5 ⊢
              clear hw5 hb7 BB5 e0 e1
              have HSS := Lib.hid (show ∀ W, Bx W b7 #[.bool y.send, .int .i64 y.chan] 71 → (fun W => Bx W b7 #[.bool y.send, .int .i64 y.chan] 71 ∧ W.cell? ⟨b7, 0, none⟩ = some (.bool y.send) ∧ W.cell? ⟨b7, 1, none⟩ = some (.int .i64 y.chan)) W from fun W hb => ⟨hb, Bx.cell hb 0 rfl, Bx.cell hb 1 rfl⟩)
              have HWR := Lib.hid (show IntKind.i64.wrap (IntKind.i64.wrap (2 * y.chan) + bd) = pn2 from by rw [← HP2.out, IntWalk.i64_in (2 * y.chan) ⟨by omega, by omega⟩, IntWalk.i64_in (2 * y.chan + bd) ⟨by omega, by omega⟩])
              have BX6 := Lib.hid (BX5.out.below (Below.refl w5.heap.size w5).drew)
              have HO6 := Lib.hid (OwnR.below HO5.out (Below.refl w5.heap.size w5).drew)
              have HW6 := Lib.hid (HW5.out.drew)
              have HZ6 := Lib.hid (show B0 ≤ w5.drew.heap.size from HZ5.out)
              refine wp_region_held_drew (S := (fun W => Bx W b7 #[.bool y.send, .int .i64 y.chan] 71 ∧ W.cell? ⟨b7, 0, none⟩ = some (.bool y.send) ∧ W.cell? ⟨b7, 1, none⟩ = some (.int .i64 y.chan))) (by kernel_rfl) (HSS.out _ BX6.out) (fun hHeld => ?_)
              (try simp only [Act.put, List.getElem_toArray, List.getElem_cons_zero, List.getElem_cons_succ, List.setIfInBounds_toArray, List.set_cons_zero, List.set_cons_succ])
              refine wpAnyH_take (i := 0) (v := ?_) rfl (by kernel_rfl) (by kernel_rfl) (by kernel_rfl) (fun _ _ _ h => h) (Or.inl ⟨by rfl, ?_⟩) (by assumption) ?_
              rotate_left
              · (intro w hSw; (try dsimp only at hSw); go_simp; try with_reducible rfl)
              (try simp only [Act.put, List.getElem_toArray, List.getElem_cons_zero, List.getElem_cons_succ, List.setIfInBounds_toArray, List.set_cons_zero, List.set_cons_succ])
              refine wpAnyH_take (i := 1) (v := ?_) rfl (by kernel_rfl) (by kernel_rfl) (by kernel_rfl) (fun _ _ _ h => h) (Or.inl ⟨by rfl, ?_⟩) (by assumption) ?_
              rotate_left
              · (intro w hSw; (try dsimp only at hSw); go_simp; try with_reducible rfl)
              (try simp only [Act.put, List.getElem_toArray, List.getElem_cons_zero, List.getElem_cons_succ, List.setIfInBounds_toArray, List.set_cons_zero, List.set_cons_succ])
              refine wpAnyH_take (i := 2) (v := ?_) rfl (by kernel_rfl) (by kernel_rfl) (by kernel_rfl) (fun _ _ _ h => h) (Or.inl ⟨by rfl, ?_⟩) (by assumption) ?_
              rotate_left
              · (intro w hSw; (try dsimp only at hSw); go_simp; try with_reducible rfl)
              (try simp only [Act.put, List.getElem_toArray, List.getElem_cons_zero, List.getElem_cons_succ, List.setIfInBounds_toArray, List.set_cons_zero, List.set_cons_succ])
              refine wpAnyH_take (i := 3) (v := ?_) rfl (by kernel_rfl) (by kernel_rfl) (by kernel_rfl) (fun _ _ _ h => h) (Or.inl ⟨by rfl, ?_⟩) (by assumption) ?_
              rotate_left
              · (intro w hSw; (try dsimp only at hSw); go_simp; try with_reducible rfl)
              (try simp only [Act.put, List.getElem_toArray, List.getElem_cons_zero, List.getElem_cons_succ, List.setIfInBounds_toArray, List.set_cons_zero, List.set_cons_succ])
              refine wpAnyH_take (i := 4) (v := ?_) rfl (by kernel_rfl) (by kernel_rfl) (by kernel_rfl) (fun _ _ _ h => h) (Or.inl ⟨by rfl, ?_⟩) (by assumption) ?_
              rotate_left
              · (intro w hSw; (try dsimp only at hSw); go_simp; try with_reducible rfl)
              (try simp only [Act.put, List.getElem_toArray, List.getElem_cons_zero, List.getElem_cons_succ, List.setIfInBounds_toArray, List.set_cons_zero, List.set_cons_succ])
              refine wpAnyH_take (i := 5) (v := ?_) rfl (by kernel_rfl) (by kernel_rfl) (by kernel_rfl) (fun _ _ _ h => h) (Or.inl ⟨by rfl, ?_⟩) (by assumption) ?_
              rotate_left
              · (intro w hSw; (try dsimp only at hSw); go_simp; try with_reducible rfl)
              (try simp only [Act.put, List.getElem_toArray, List.getElem_cons_zero, List.getElem_cons_succ, List.setIfInBounds_toArray, List.set_cons_zero, List.set_cons_succ])
              refine wpAnyH_ready (rs := [6]) (by kernel_rfl) (by simp) ?_
              refine AllReadyH.cons (o := _) rfl (fun K hK => ?_) AllReadyH.nil
              go_simp
              refine (HBT.out _).mono ?_
              rintro e w6 ⟨rfl, rfl⟩
              clear hHeld
              refine hK.out _ _ (HSS.out _ BX6.out) (fun hHeld => ?_)
              clear hK K
              (try simp only [Act.put, List.getElem_toArray, List.getElem_cons_zero, List.getElem_cons_succ, List.setIfInBounds_toArray, List.set_cons_zero, List.set_cons_succ])
              refine wpAnyH_take (i := 7) (v := ?_) rfl (by kernel_rfl) (by kernel_rfl) (by kernel_rfl) (fun _ _ _ h => h) (Or.inl ⟨by rfl, ?_⟩) (by assumption) ?_
              rotate_left
              · (intro w hSw; (try dsimp only at hSw); go_simp; try with_reducible rfl)
              (try simp only [Act.put, List.getElem_toArray, List.getElem_cons_zero, List.getElem_cons_succ, List.setIfInBounds_toArray, List.set_cons_zero, List.set_cons_succ])
              refine wpAnyH_ready (rs := [8]) (by kernel_rfl) (by simp) ?_
              refine AllReadyH.cons (o := _) rfl (fun K hK => ?_) AllReadyH.nil
              go_simp
              clear hHeld
              rw [HWR.out]
              refine hK.out _ _ (HSS.out _ (BX6.out.below (below_alloc _ _))) (fun hHeld => ?_)
              clear hK K
              (try simp only [Act.put, List.getElem_toArray, List.getElem_cons_zero, List.getElem_cons_succ, List.setIfInBounds_toArray, List.set_cons_zero, List.set_cons_succ])
              refine wpAnyH_ready (rs := [9]) (by kernel_rfl) (by simp) ?_
              refine AllReadyH.cons (o := _) rfl (fun K hK => ?_) AllReadyH.nil
              refine step_appN2 (wr := w5.drew) (by first | rfl | kernel_rfl) (.tmp 77) (.tmp 85) (by rfl) B0 _ _ (by rfl) HO6.out pn2 (by rfl) HLK.out w2 HW6.out HZ6.out b7 _ 71 BX6.out (by decide) ?_
              intro v8 w8 ho8 hb8 hx8
              clear hHeld
              refine hK.out _ _ (HSS.out _ hx8.out) (fun hHeld => ?_)
              clear hK K
              (try simp only [Act.put, List.getElem_toArray, List.getElem_cons_zero, List.getElem_cons_succ, List.setIfInBounds_toArray, List.set_cons_zero, List.set_cons_succ])
              refine wpAnyH_take (i := 10) (v := ?_) rfl (by kernel_rfl) (by kernel_rfl) (by kernel_rfl) (fun _ _ _ h => h) (Or.inl ⟨by rfl, ?_⟩) (by assumption) ?_
              rotate_left
              · (intro w hSw; (try dsimp only at hSw); go_simp; try with_reducible rfl)
              (try simp only [Act.put, List.getElem_toArray, List.getElem_cons_zero, List.getElem_cons_succ, List.setIfInBounds_toArray, List.set_cons_zero, List.set_cons_succ])
              refine wpAnyH_done (by kernel_rfl) ?_ _
              clear hHeld HSS BX6 HO6 HW6 HZ6
              clear HO5 HW5 HZ5 BX5 HBT HLK HP2 hx8
              go_wp2_with fail
              go_roundw
              case rel => exact ⟨j + 1, by omega, by go_num, by rw [HM.out, ← List.append_assoc]; exact ho8.out, hb8.out⟩
              case measure => simp [intOf]; omega
            · have hje : j = cn := by omega
              subst hje
              have R := Lib.hid (show L0 ++ [pn] ++ (x.cs.take j).map (fun c => pairN c.chan c.send) = headN p ++ (p.sels.take (k + 1)).flatMap selN by
                rw [HX.out, List.take_of_length_le (by rw [HCL.out]; exact Nat.le_refl _), HL0.out, HPN.out, ← HCL.out, selN]
                simp)
              go_wp2_with fail
              go_roundw
              case rel => exact ⟨k + 1, by omega, by go_num, by rw [← R.out]; exact HO.out, HW.out⟩
              case measure => simp [intOf]; omega
        · have hke : k = q.sn := by omega
          subst hke
          have HT := Lib.hid (show p.sels.take q.sn = p.sels from List.take_of_length_le (by rw [HSZ.out.sn]; exact Nat.le_refl _))
          have HLK := Lib.hid (show (headN p ++ p.sels.flatMap selN).length ≤ 1000 from by have := HLS.out q.sn; rw [HT.out] at this; exact this)
          have hO := HO.out
          rw [HT.out] at hO
          have HO1 := Lib.hid hO
          clear hO HO HT
          have HLK2 := Lib.hid (Nat.le_trans HLK.out (show 1000 ≤ 100000 by decide))
          obtain ⟨x0, x1, x2, x3, x4, x5⟩ := (X_0.out.below (HKP.out _ HW.out)).cells6
          obtain ⟨L0, hL0⟩ : ∃ L0, L0 = headN p ++ p.sels.flatMap selN := ⟨_, rfl⟩
          rw [← hL0] at HO1 HLK HLK2
          have HL0 := Lib.hid hL0
          clear hL0
          go_upto_region 22 with (at_builtin; refine appN1 rfl _ _ rfl B0 _ L0 rfl HO1.out q.bn rfl HLK2.out w2 HW.out HZ.out ?_; intro v9 w9 ho9 hb9 hz9)
          clear x0 x1 x2 x3 x4 x5
          obtain ⟨x0, x1, x2, x3, x4, x5⟩ := (X_0.out.below (HKP.out _ hb9.out)).cells6
          go_wp2_with fail
          clear x0 x1 x2 x3 x4 x5
          have HLB := Lib.hid (show ∀ m x j, m < q.bn → p.blks[m]? = some x → (L0 ++ [(q.bn : Int)] ++ (p.blks.take m).flatMap blkN ++ [(x.length : Int)] ++ (x.take j).flatMap insN).length ≤ 100000 from fun m x j hm hx => by
            have h1 := flat_len_le (f := blkN) (m := 100) (L := p.blks.take m) (fun s hs => by
              have h0 := (blk_parts (hbk s (List.mem_of_mem_take hs))).1
              have h3 := flat_len_le (f := insN) (m := 3) (L := s) (fun y _ => by unfold insN; split <;> (try split) <;> simp)
              simp only [blkN, List.length_cons]; omega)
            have h2 := List.length_take_le m p.blks
            have h3 := flat_len_le (f := insN) (m := 3) (L := x.take j) (fun y _ => by unfold insN; split <;> (try split) <;> simp)
            have h4 := List.length_take_le' j x
            have h5 := (blk_parts (hbk x (List.mem_of_getElem? hx))).1
            have h6 := HLK.out
            have h7 := List.length_take_le' m p.blks
            simp only [List.length_append, List.length_singleton]
            omega)
          go_loopw [3, 98] (fun u i wr => ∃ m : Nat, m ≤ q.bn ∧ i = .int .i64 m ∧ OwnN wr B0 u (L0 ++ [(q.bn : Int)] ++ (p.blks.take m).flatMap blkN) ∧ Below B0 w2 wr) (fun _ i _ => q.bn - (intOf i).toNat)
          case atStart => exact ⟨0, Nat.zero_le _, rfl, by simpa using ho9.out, hb9.out⟩
          case round =>
            clear ho9 hb9 hz9 HO1 HW HZ
            obtain ⟨m, hm, rfl, hown, hbw⟩ := hrel
            have HO := Lib.hid hown; have HW := Lib.hid hbw
            clear hown hbw
            have HZ := Lib.hid (show B0 ≤ wr.heap.size by have := HSZ2.out; have := HW.out.size; omega)
            by_cases hlm : m < q.bn
            · have hlm' : (m : Int) < (q.bn : Int) := by omega
              obtain ⟨x, b, off, ca, cn, cc, hx, hba, d0', hblk⟩ := P_0.out.blks.at m hlm
              have d0 := ((HKP.out _ HW.out).cell (p := ⟨b, off + m, none⟩) (World.block_lt_of_cell? _ _ d0')).trans d0'
              have HX := Lib.hid (flat_snocI hx blkN)
              have HCL := Lib.hid hblk.recs.len_eq
              have HC := Lib.hid hblk
              have hc24 : cn ≤ 24 := by rw [← hblk.recs.len_eq]; exact (blk_parts (hbk x (List.mem_of_getElem? hx))).1
              have HLJ := Lib.hid (fun j => HLB.out m x j hlm hx)
              clear d0' hx hblk
              rw [hba]
              clear hba
              obtain ⟨L1, hL1⟩ : ∃ L1, L1 = L0 ++ [(q.bn : Int)] ++ (p.blks.take m).flatMap blkN := ⟨_, rfl⟩
              rw [← hL1] at HO HLJ
              have HL1 := Lib.hid hL1
              clear hL1
              rw [HCL.out] at HLJ
              have HLN := Lib.hid (show L1.length ≤ 100000 from by have := HLJ.out 0; simp at this; omega)
              go_wp2_with (at_builtin; refine appN1 rfl _ _ rfl B0 _ L1 rfl HO.out cn rfl HLN.out w2 HW.out HZ.out ?_; intro v7 w7 ho7 hb7 hz7)
              clear d0
              go_loopw [3, 109] (fun u i wr => ∃ j : Nat, j ≤ cn ∧ i = .int .i64 j ∧ OwnN wr B0 u (L1 ++ [(cn : Int)] ++ (x.take j).flatMap insN) ∧ Below B0 w2 wr) (fun _ i _ => cn - (intOf i).toNat)
              case atStart => exact ⟨0, Nat.zero_le _, rfl, by simpa using ho7.out, hb7.out⟩
              case round =>
                clear ho7 hb7 hz7 HO HW HZ
                obtain ⟨j, hj, rfl, hown, hbw⟩ := hrel
                have HO := Lib.hid hown; have HW := Lib.hid hbw
                clear hown hbw
                have HZ := Lib.hid (show B0 ≤ wr.heap.size by have := HSZ2.out; have := HW.out.size; omega)
                by_cases hlj : j < cn
                · have hlj' : (j : Int) < (cn : Int) := by omega
                  obtain ⟨y, b3, o3, hy, hyok, hca3, e0, e1, e2⟩ := (HC.out.below (HKP.out _ HW.out)).at j hlj
                  have HM := Lib.hid (flat_snocI hy insN)
                  have BB := Lib.hid (below_alloc wr (.cells #[.int .i64 y.op, .int .i64 y.a, .int .i64 y.b] 44))
                  have HWR := Lib.hid (refInstrN_any y (wr.alloc (.cells #[.int .i64 y.op, .int .i64 y.a, .int .i64 y.b] 44)) hyok)
                  unfold NewInts at HWR
                  have HO5 := Lib.hid (OwnR.below HO.out BB.out)
                  have HW5 := Lib.hid (HW.out.trans (Below.mono BB.out HZ.out))
                  have HZ5 := Lib.hid (show B0 ≤ (wr.alloc (.cells #[.int .i64 y.op, .int .i64 y.a, .int .i64 y.b] 44)).heap.size by have := HZ.out; simp; omega)
                  have HLJJ := Lib.hid (HLJ.out j)
                  clear hy hyok
                  rw [hca3]
                  clear hca3
                  go_wp2_with fail
                  refine HWR.out.mono ?_
                  rintro e w6 ⟨g6, n6, rfl, hi6, hb6⟩
                  have HO6 := Lib.hid (OwnR.below HO5.out hb6)
                  have HW6 := Lib.hid (HW5.out.trans (Below.mono hb6 HZ5.out))
                  have HZ6 := Lib.hid (Nat.le_trans HZ5.out hb6.size)
                  have HI6 := Lib.hid hi6
                  have hn6 : n6 ≤ 3 := by rw [← hi6.len_eq]; unfold insN; split <;> (try split) <;> simp
                  clear hi6 hb6 e0 e1 e2 BB HO5 HW5 HZ5
                  go_wp2_with (at_builtin; refine wpList_appG enc1_len (by decide) enc1_one 22 3 8 _ Try.underlying22 inf3n rfl (by decide) rfl _ _ rfl B0 _ _ rfl HO6.out _ n6 n6 (insN y) rfl (Ints.recs HI6.out) HLJJ.out (by omega) HZ6.out ?_; intro v8 w8 ho8 hg8)
                  have HB8 := Lib.hid (show Below B0 w2 w8 from Below.grown HW6.out hg8.out HZ6.out (fun r hr => OwnR.lt HO6.out r hr))
                  clear hg8
                  go_roundw
                  case rel => exact ⟨j + 1, by omega, by go_num, by rw [HM.out, ← List.append_assoc]; exact ho8.out, HB8.out⟩
                  case measure => simp [intOf]; omega
                · have hje : j = cn := by omega
                  subst hje
                  have R := Lib.hid (show L1 ++ [(j : Int)] ++ (x.take j).flatMap insN = L0 ++ [(q.bn : Int)] ++ (p.blks.take (m + 1)).flatMap blkN by
                    rw [HX.out, List.take_of_length_le (by rw [HCL.out]; exact Nat.le_refl _), HL1.out, ← HCL.out, blkN]
                    simp)
                  go_wp2_with fail
                  go_roundw
                  case rel => exact ⟨m + 1, by omega, by go_num, by rw [← R.out]; exact HO.out, HW.out⟩
                  case measure => simp [intOf]; omega
            · have hme : m = q.bn := by omega
              subst hme
              have R := Lib.hid (show L0 ++ [(q.bn : Int)] ++ (p.blks.take q.bn).flatMap blkN = numL p by
                rw [List.take_of_length_le (by rw [HSZ.out.bn]; exact Nat.le_refl _), HL0.out, ← HSZ.out.bn, numL])
              have HNI := Lib.hid (numL_i64 p hbk HIO.out HCO.out HSO.out HP64.out HC4.out (by have := HSZ.out.sn; omega) (by have := HSZ.out.bn; omega))
              have hO := HO.out
              rw [R.out] at hO
              obtain ⟨ra, rc, rfl, hi⟩ := OwnN.ints hO HNI.out
              have HI := Lib.hid hi
              clear hi hO
              go_wp2_with fail
              go_ret
              exact ⟨ra, _, rc, rfl, HI.out, B_0.out.trans (Below.mono (HKP.out _ HW.out) B_0.out.size)⟩
end Go.Proofs.Ytddkckppmjcclaa
