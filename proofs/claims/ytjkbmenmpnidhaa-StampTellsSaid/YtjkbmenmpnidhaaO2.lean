/- What an event waits for, handed on one by one: the closure of others. -/
import Derived.Test.YtjkbmenmpnidhaaO1
import Derived.BigRegionIn
import Derived.Stop.RegionWithIn
namespace Go.Proofs.Ytjkbmenmpnidhaa
open Go.RowKit Go.Shelf
attribute [local go_sem] Oper.semAt_some
set_option linter.unusedSimpArgs false
set_option linter.unusedVariables false
set_option maxRecDepth 100000 in
set_option maxHeartbeats 8000000 in
theorem others_no (n N : Nat) (hn : 2 ≤ n) (l B eb bb : Nat) (fix : Nat → Prop) (p : BP) (caps : List Int) (L : List Ev) (x0 x1 x2 x3 x4 : Int) (J Jx : List Int → World → Prop) (W : World) (hE : Bx W eb #[.int .i64 x0, .int .i64 x1, .int .i64 x2, .int .i64 x3, .int .i64 x4] 48) (hK : Bx W bb (bkC p) 41) (hb : Book W p caps L) (k0 : ¬ x1 = 0) (k5 : ¬ x1 = 5) (k3 : ¬ x1 = 3) (k6 : ¬ x1 = 6) (k15 : ¬ x1 = 15) (k11 : ¬ x1 = 11)
    (hJ : ∀ s A C, J s A → Kept (itP B) A C → J s C) (hY : ∀ pre x W1, J pre W1 → pre.length < N → YieldAt Fence.wide (n - 1) Try.prog l (encI x) W1 fun e W' => (e = .returned (.bool true) ∧ J (pre ++ [x]) W' ∧ Kept (rdP fix B) W1 W') ∨ (e = .returned (.bool false) ∧ Jx (pre ++ [x]) W' ∧ Kept (rdP fix B) W1 W')) (h0 : J [] W)  :
    CallsIn Fence.wide n Try.prog 77 #[.func (.yield l) #[] #[], .pointer (some ⟨eb, 0, none⟩), .pointer (some ⟨bb, 0, none⟩)] W fun e W' => (∃ v, e = .returned v) ∧ (J [] W' ∨ ∃ pre, Jx pre W') := by
  have h1n : 1 ≤ n := by omega
  have h2n : 1 ≤ n - 1 := by omega
  obtain ⟨z0, z1, z2, z3, z4⟩ := hE.cells5
  obtain ⟨u0, u1, u2⟩ := hK.cells3
  obtain ⟨k01, k02⟩ := ne_facts k0
  obtain ⟨k51, k52⟩ := ne_facts k5
  obtain ⟨k31, k32⟩ := ne_facts k3
  obtain ⟨k61, k62⟩ := ne_facts k6
  obtain ⟨kf1, kf2⟩ := ne_facts k15
  obtain ⟨ke1, ke2⟩ := ne_facts k11
  refine callsIn_of_wp Try.func77 rfl trivial ?_ rfl
  simp only [Try.ntmps77, List.size_toArray, List.length_cons, List.length_nil, Nat.reduceAdd, Nat.reduceSub, Array.replicate_succ, Array.replicate_zero, List.push_toArray, List.append_toArray, List.nil_append, List.cons_append]
  gi_wp2
  go_end0
  exact ⟨⟨_, rfl⟩, .inl h0⟩
def aheadOf (w : World) (mb : Nat) : Nat := match w.cell? ⟨mb, 2, none⟩ with
  | some (.int .i64 z) => z.toNat
  | _ => 0
set_option maxRecDepth 100000 in
set_option maxHeartbeats 8000000 in
theorem others_11 (n N : Nat) (hn : 2 ≤ n) (l B eb bb : Nat) (fix : Nat → Prop) (p : BP) (caps : List Int) (L : List Ev) (x0 x2 x3 x4 : Int) (J Jx : List Int → World → Prop) (W : World) (hE : Bx W eb #[.int .i64 x0, .int .i64 11, .int .i64 x2, .int .i64 x3, .int .i64 x4] 48) (hK : Bx W bb (bkC p) 41) (hb : Book W p caps L) (w0 : World) (hb0 : Book w0 p caps L) (hw : Below w0.heap.size w0 W) (hf0 : ∀ k, k < w0.heap.size → fix k) (hw0 : w0.heap.size ≤ B) (hx2 : I64 x2) (hfew : L.length ≤ 1000) (hBW : B ≤ W.heap.size) (hfe : fix eb) (hfb : fix bb) (hme : eb ≠ W.heap.size) (hmk : bb ≠ W.heap.size)
    (hJ : ∀ s A C, J s A → Kept (itP B) A C → J s C) (hY : ∀ pre x W1, J pre W1 → pre.length < N → YieldAt Fence.wide (n - 1) Try.prog l (encI x) W1 fun e W' => (e = .returned (.bool true) ∧ J (pre ++ [x]) W' ∧ Kept (rdP fix B) W1 W') ∨ (e = .returned (.bool false) ∧ Jx (pre ++ [x]) W' ∧ Kept (rdP fix B) W1 W')) (h0 : J [] W) (hN : (unlZ L x2).length ≤ N) :
    CallsIn Fence.wide n Try.prog 77 #[.func (.yield l) #[] #[], .pointer (some ⟨eb, 0, none⟩), .pointer (some ⟨bb, 0, none⟩)] W fun e W' => (∃ v, e = .returned v) ∧ (J (unlZ L x2) W' ∨ ∃ pre, Jx pre W') := by
  have h1n : 1 ≤ n := by omega
  have h2n : 1 ≤ n - 1 := by omega
  obtain ⟨z0, z1, z2, z3, z4⟩ := hE.cells5
  obtain ⟨u0, u1, u2⟩ := hK.cells3
  have HS := Lib.hid (fun V (q : Nat) (hq : q ≤ 1000) (hbk : Book V p caps L) => callsIn_wide (n := n - 1) |>.2 (place_any p caps L 12 x2 (q : Int) V hbk ⟨by decide, by decide⟩ hx2 ⟨by omega, by omega⟩))
  unfold IntTo bkV bkC at HS
  have htot := cntZ_le L 12 x2 L.length
  obtain ⟨tot, ht⟩ : ∃ t : Nat, (t : Int) = cntZ L 12 x2 L.length := ⟨(cntZ L 12 x2 L.length).toNat, by omega⟩
  have ht1 : tot ≤ 1000 := by omega
  have HU := Lib.hid (show unlZ L x2 = unlK L x2 tot by unfold unlZ unlK; rw [← ht, Int.toNat_natCast])
  have HH := Lib.hid (fun (q : Nat) (hq : q < tot) => place_has (L := L) (kd := 12) (ob := x2) (q := q) (by omega))
  have HNO := Lib.hid (place_not (L := L) (kd := 12) (ob := x2) (q := tot) (by omega))
  have HNN := Lib.hid (show tot ≤ N by rw [HU.out, unlK_len] at hN; exact hN)
  rw [HU.out]
  have HJ := Lib.hid hJ
  have HY := Lib.hid hY
  have HB0 := Lib.hid hb0
  have HF := Lib.hid hf0
  have BW := Lib.hid (hw.trans (Below.mono (below_alloc W (.cells #[.int .i64 12, .int .i64 x2, .int .i64 0] 59)) hw.size))
  have JW := Lib.hid (hJ _ _ _ h0 (Kept.alloc _ W (.cells #[.int .i64 12, .int .i64 x2, .int .i64 0] 59)))
  have MW := Lib.hid (Bx.new W #[.int .i64 12, .int .i64 x2, .int .i64 0] 59)
  have EW := Lib.hid (hE.below (below_alloc W (.cells #[.int .i64 12, .int .i64 x2, .int .i64 0] 59)))
  have KW := Lib.hid (hK.below (below_alloc W (.cells #[.int .i64 12, .int .i64 x2, .int .i64 0] 59)))
  have hsz := hw.size
  obtain ⟨t0, t1, t2⟩ := (hK.below (below_alloc W (.cells #[.int .i64 12, .int .i64 x2, .int .i64 0] 59))).cells3
  clear hJ hY h0 hE hK htot ht hb0 hf0 hw HU hN hb
  obtain ⟨mb, hmb⟩ : ∃ z, z = W.heap.size := ⟨_, rfl⟩
  obtain ⟨V0, hV0⟩ : ∃ V, V = W.alloc (.cells #[.int .i64 12, .int .i64 x2, .int .i64 0] 59) := ⟨_, rfl⟩
  rw [← hV0] at BW JW MW EW KW
  rw [← hmb] at MW
  have HMB := Lib.hid hmb; have HV0 := Lib.hid hV0
  have hmB : B ≤ mb := by omega
  have hm0 : w0.heap.size ≤ mb := by omega
  have hme : eb ≠ mb := by omega
  have hmk : bb ≠ mb := by omega
  clear hmb hV0
  obtain ⟨ca, cn, cc, a, n2, c, M⟩ := p
  unfold bkC at KW
  dsimp only at KW HS u0 u1 u2 t0 t1 t2
  refine callsIn_of_wp Try.func77 rfl trivial ?_ rfl
  simp only [Try.ntmps77, List.size_toArray, List.length_cons, List.length_nil, Nat.reduceAdd, Nat.reduceSub, Array.replicate_succ, Array.replicate_zero, List.push_toArray, List.append_toArray, List.nil_append, List.cons_append]
  gi_wp2_with (refine ⟨trivial, ?_⟩; gi_at_call 79; rw [← HV0.out, ← HMB.out]; refine (HS.out V0 0 (by omega) (HB0.out.below BW.out)).mono ?_; rintro e W1 ⟨rfl, hbel⟩; have B1 := Lib.hid (BW.out.trans (Below.mono hbel BW.out.size)); have J1 := Lib.hid (HJ.out _ _ _ JW.out (kept_of_below hbel)); have M1 := Lib.hid (MW.out.below hbel); have E1 := Lib.hid (EW.out.below hbel); have K1 := Lib.hid (KW.out.below hbel); clear hbel BW JW MW EW KW z0 z1 z2 z3 z4 u0 u1 u2 t0 t1 t2)
  gi_loopw [5] (fun k wr => ∃ q : Nat, q ≤ tot ∧ k = .int .i64 (placeZ L 12 x2 (q : Int)) ∧ J (unlK L x2 q) wr ∧ Below w0.heap.size w0 wr ∧ Bx wr mb #[.int .i64 12, .int .i64 x2, .int .i64 (q : Int)] 59 ∧ Bx wr eb #[.int .i64 x0, .int .i64 11, .int .i64 x2, .int .i64 x3, .int .i64 x4] 48 ∧ Bx wr bb #[.slice ca cn cc, .slice a n2 c, .map (some M)] 41) (fun _ wr => tot - aheadOf wr mb)
  case atStart => exact ⟨0, Nat.zero_le _, rfl, J1.out, B1.out, M1.out, E1.out, K1.out⟩
  case round =>
    obtain ⟨q, hq, rfl, hj, hbw, hm, he, hk⟩ := hrel
    have HJ1 := Lib.hid hj; have HB1 := Lib.hid hbw; have HM1 := Lib.hid hm; have HE1 := Lib.hid he; have HK1 := Lib.hid hk
    have hah : aheadOf wr mb = q := by unfold aheadOf; rw [Bx.cell hm 2 rfl]; simp
    have HAH := Lib.hid hah
    clear hj hbw hm he hk hah
    by_cases hlt : q < tot
    · have hz := HH.out q hlt
      obtain ⟨z, hze⟩ : ∃ z, z = placeZ L 12 x2 (q : Int) := ⟨_, rfl⟩
      have HZE := Lib.hid hze
      rw [← hze] at hz ⊢
      clear hze
      obtain ⟨fn, tmps, assign, body, hy, hR⟩ := HY.out _ z wr HJ1.out (by rw [unlK_len]; have := HNN.out; omega)
      have HR := Lib.hid (RoundIn.both hR)
      clear hR
      gi_wp2
      refine HR.out.mono ?_
      rintro e W3 ⟨b, rfl, hb⟩
      rcases hb.out with ⟨rfl, hj3, hk3⟩ | ⟨rfl, hjx3, _⟩
      · have J3 := Lib.hid hj3
        have B3 := Lib.hid (HB1.out.trans (hk3.below (fun k o hk _ => .inl (HF.out k hk)) HB1.out.size))
        have M3 := Lib.hid (HM1.out.keptR hk3 (.inr ⟨hmB, by decide⟩)); have E3 := Lib.hid (HE1.out.keptR hk3 (.inl hfe)); have K3 := Lib.hid (HK1.out.keptR hk3 (.inl hfb))
        clear hj3 hk3 hb hy HJ1 HB1 HM1 HE1 HK1 HR
        obtain ⟨m0, m1, m2⟩ := M3.out.cells3
        obtain ⟨u0, u1, u2⟩ := K3.out.cells3
        have ml := M3.out.lt
        have f2 := M3.out.froz 2
        -- the box behind the store
        have J4 := Lib.hid (HJ.out _ _ _ J3.out (Kept.setCell (i := 2) (.int .i64 ((q : Int) + 1)) M3.out (fun h => by rcases h with h | h; omega; simp [isRow] at h)))
        have B4 := Lib.hid (B3.out.setCell (p := ⟨mb, 2, none⟩) hm0 (.int .i64 ((q : Int) + 1)))
        have M4 := Lib.hid (M3.out.set 2 (.int .i64 ((q : Int) + 1)))
        have E4 := Lib.hid (E3.out.other (grow_setCell W3 mb 2 (.int .i64 ((q : Int) + 1))) (some_ne hme))
        have K4 := Lib.hid (K3.out.other (grow_setCell W3 mb 2 (.int .i64 ((q : Int) + 1))) (some_ne hmk))
        have hwr : IntKind.i64.wrap ((q : Int) + 1) = (q : Int) + 1 := by rw [IntKind.wrap_i64]; omega
        have hql := HH.out
        have HS4 := Lib.hid (HS.out (W3.setCell ⟨mb, 2, none⟩ (.int .i64 ((q : Int) + 1))) (q + 1) (by omega) (HB0.out.below B4.out))
        rw [show ((q + 1 : Nat) : Int) = (q : Int) + 1 by omega] at HS4
        have HUS := Lib.hid (show unlK L x2 q ++ [z] = unlK L x2 (q + 1) by rw [HZE.out]; exact unlK_succ L x2 q)
        obtain ⟨n0, n1, n2'⟩ := M4.out.cells3
        obtain ⟨v0, v1, v2⟩ := K4.out.cells3
        clear hql
        gi_wp2_with (refine ⟨trivial, ?_⟩; gi_at_call 79; refine HS4.out.mono ?_; rintro e W5 ⟨rfl, hbel⟩; have B5 := Lib.hid (B4.out.trans (Below.mono hbel B4.out.size)); have J5 := Lib.hid (HJ.out _ _ _ J4.out (kept_of_below hbel)); have M5 := Lib.hid (M4.out.below hbel); have E5 := Lib.hid (E4.out.below hbel); have K5 := Lib.hid (K4.out.below hbel); clear hbel)
        have hah5 : aheadOf W5 mb = q + 1 := by unfold aheadOf; rw [Bx.cell M5.out 2 rfl]; first | (simp; done) | (simp; omega)
        go_roundw
        case rel => exact ⟨q + 1, by omega, by first | rfl | simp, by rw [← HUS.out]; exact J5.out, B5.out, by rw [show ((q + 1 : Nat) : Int) = (q : Int) + 1 by omega]; exact M5.out, E5.out, K5.out⟩
        case measure => rw [hah5, HAH.out]; omega
      · have HX := Lib.hid hjx3
        clear hb hjx3
        gi_wp2
        go_end0
        exact ⟨⟨_, rfl⟩, .inr ⟨_, HX.out⟩⟩
    · have hqe : q = tot := by omega
      subst hqe
      have hz := HNO.out
      rw [hz]
      clear hz
      gi_wp2
      all_goals refine ⟨fun _ h => (by cases h), ?_⟩
      all_goals gi_wp2
      all_goals go_end0
      all_goals exact ⟨⟨_, rfl⟩, .inl HJ1.out⟩
end Go.Proofs.Ytjkbmenmpnidhaa
