/- Wrong: the program. -/
import Derived.Test.YtjkbmenmpnidhaaC4
namespace Go.Proofs.Ytjkbmenmpnidhaa
open Go.RowKit Go.Maps
set_option linter.unusedSimpArgs false
set_option linter.unusedVariables false
abbrev lsI (g : Nat) : List Int := List.replicate g (-1) ++ List.replicate (8 - g) 0
theorem lsI_next (g : Nat) (hg : g < 8) : (lsI g).set g (-1) = lsI (g + 1) := by
  rcases (show g = 0 ∨ g = 1 ∨ g = 2 ∨ g = 3 ∨ g = 4 ∨ g = 5 ∨ g = 6 ∨ g = 7 by omega) with rfl | rfl | rfl | rfl | rfl | rfl | rfl | rfl <;> rfl
theorem lsI_len (g : Nat) (hg : g ≤ 8) : (lsI g).length = 8 := by simp; omega
theorem lsI_all (L : List Ev) : lsI 8 = lastsZ L 0 := rfl
set_option maxRecDepth 100000 in
theorem ask_enters (q : Nat) (hq : q < 18) (args : Array Value) (w : World) : (callFunc (askFn q) args).run Try.prog w = .ok (.enter (askFn q) args) w := by
  match q, hq with
  | 0, _ => first | rfl | kernel_rfl
  | 1, _ => first | rfl | kernel_rfl
  | 2, _ => first | rfl | kernel_rfl
  | 3, _ => first | rfl | kernel_rfl
  | 4, _ => first | rfl | kernel_rfl
  | 5, _ => first | rfl | kernel_rfl
  | 6, _ => first | rfl | kernel_rfl
  | 7, _ => first | rfl | kernel_rfl
  | 8, _ => first | rfl | kernel_rfl
  | 9, _ => first | rfl | kernel_rfl
  | 10, _ => first | rfl | kernel_rfl
  | 11, _ => first | rfl | kernel_rfl
  | 12, _ => first | rfl | kernel_rfl
  | 13, _ => first | rfl | kernel_rfl
  | 14, _ => first | rfl | kernel_rfl
  | 15, _ => first | rfl | kernel_rfl
  | 16, _ => first | rfl | kernel_rfl
  | 17, _ => first | rfl | kernel_rfl
  | q + 18, h18 => exact absurd h18 (by omega)
/-- the judge at event k -/
structure Wk (w W : World) (J M b : Nat) (ca : Option Addr) (cn cc : Nat) (caps : List Int) (L : List Ev) (k : Nat) : Prop where
  jd : ∃ aa ac, Jd W J ⟨ca, cn, cc, aa, ac, M⟩ caps L k
  bel : Below w.heap.size w W
  tb : Tb W b (.map (asksL 18).toArray 18)
theorem good_parts {caps : List Int} {L : List Ev} {k : Nat} {x : Ev} (q : Nat) (hq : x.kind = (q : Int)) (h18 : q < 18) : goodB caps L k x = (placedB L k x && askB caps L k x) := by
  unfold goodB
  rw [decide_eq_true (by omega)]
  simp
theorem placed_pl {L : List Ev} {k : Nat} {x : Ev} (h : placedB L k x = true) : 0 ≤ x.g ∧ x.g < 8 ∧ x.start < (k : Int) := by
  unfold placedB at h
  have := of_decide_eq_true h
  omega
theorem ask_do {caps : List Int} {L : List Ev} {k : Nat} {x : Ev} (h : askB caps L k x = true) (h13 : x.kind = 13) : 0 ≤ x.obj ∧ x.obj < 2 := by
  unfold askB at h
  rw [h13] at h
  have h2 : (bareB x && inB x 2) = true := h
  rw [Bool.and_eq_true] at h2
  exact of_decide_eq_true h2.2
set_option maxRecDepth 100000 in
set_option maxHeartbeats 8000000 in
theorem Wrong_bad (ca : Option Addr) (cn cc : Nat) (caps : List Int) (a : Option Addr) (n c : Nat) (w : World) (hcp : Ints w ca cn cc caps) (hok : capsB caps = false) : Calls Try.prog 28 #[.slice ca cn cc, .slice a n c] w (PairI w 0 1) := by
  have hcl := hcp.len_eq
  by_cases hlen : 4 < cn
  · have hcn : (4 : Int) < (cn : Int) := by omega
    go_enter Try.func28, Try.ntmps28
    go_wp2_with fail
    go_ret2
    exact ⟨rfl, Below.refl _ _⟩
  have hcn : ¬ (4 : Int) < (cn : Int) := by omega
  have HX := Lib.hid (show ∃ q, q < cn ∧ ¬ (-1 ≤ en caps q ∧ en caps q ≤ 3) from by
    unfold capsB at hok
    rw [decide_eq_true (show caps.length ≤ 4 by omega), Bool.and_true] at hok
    obtain ⟨v, hv, hv2⟩ := List.all_eq_false.1 hok
    obtain ⟨q, hq, rfl⟩ := List.getElem_of_mem hv
    refine ⟨q, by omega, ?_⟩
    have e : en caps q = caps[q] := by unfold en; rw [List.getD_eq_getElem?_getD, List.getElem?_eq_getElem hq]; rfl
    rw [e]
    simpa using hv2)
  have C := Lib.hid hcp
  clear hcp hok
  go_enter Try.func28, Try.ntmps28
  go_wp2_with fail
  go_loopw [7, 20] (fun v j wr => ∃ k : Nat, k ≤ cn ∧ j = .int .i64 k ∧ (∀ q, q < k → -1 ≤ en caps q ∧ en caps q ≤ 3) ∧ wr = w) (fun _ j _ => cn - (intOf j).toNat)
  case atStart => exact ⟨0, Nat.zero_le _, rfl, fun q h => absurd h (Nat.not_lt_zero _), rfl⟩
  case round =>
    obtain ⟨k, hk, rfl, hno, rfl⟩ := hrel
    have HN := Lib.hid hno
    clear hno
    have hlt : k < cn := by
      rcases Nat.lt_or_ge k cn with h | h
      · exact h
      · obtain ⟨q, h1, h2⟩ := HX.out
        exact absurd (HN.out q (by omega)) h2
    have hlt' : (k : Int) < (cn : Int) := by omega
    obtain ⟨b, off, hce, hcv⟩ := C.out.cell k hlt
    cases hce
    obtain ⟨v, hv⟩ : ∃ v, v = en caps k := ⟨_, rfl⟩
    rw [← hv] at hcv
    have HV := Lib.hid hv
    clear hv
    by_cases h1 : v < -1
    · go_wp2_with fail
      go_ret2
      exact ⟨rfl, Below.refl _ _⟩
    · by_cases h2 : (3 : Int) < v
      · go_wp2_with fail
        go_ret2
        exact ⟨rfl, Below.refl _ _⟩
      · have HB := Lib.hid (show -1 ≤ v ∧ v ≤ 3 from ⟨by omega, by omega⟩)
        go_wp2_with fail
        go_roundw
        case rel => exact ⟨k + 1, by omega, by go_num, fun q hq => by
          by_cases e : q = k
          · subst e; rw [← HV.out]; exact HB.out
          · exact HN.out q (by omega), by first | trivial | rfl⟩
        case measure => simp [intOf]; omega
set_option maxRecDepth 100000 in
set_option maxHeartbeats 8000000 in
theorem Wrong_ok (ca : Option Addr) (cn cc : Nat) (caps : List Int) (a : Option Addr) (n c : Nat) (L : List Ev) (w : World) (hcp : Ints w ca cn cc caps) (hok : capsB caps = true) (h : Evs w a n c L) (hn : n ≤ 1000) : Calls Try.prog 28 #[.slice ca cn cc, .slice a n c] w (PairI w (wrongZ caps L) 0) := by
  have hcl := hcp.len_eq
  have hlen : cn ≤ 4 := by
    unfold capsB at hok
    rw [Bool.and_eq_true] at hok
    have := of_decide_eq_true hok.2
    omega
  have hcn : ¬ (4 : Int) < (cn : Int) := by omega
  have HR := Lib.hid (show ∀ q, q < cn → -1 ≤ en caps q ∧ en caps q ≤ 3 from fun q hq => by
    unfold capsB at hok
    rw [Bool.and_eq_true] at hok
    exact of_decide_eq_true (List.all_eq_true.1 hok.1 _ (en_mem caps q (by omega))))
  have HC3 := Lib.hid (caps_le hok)
  have HL := Lib.hid h.recs.len_eq
  have hle := h.recs.len_le
  have hlc := h.recs.le_cap
  have H := Lib.hid h
  have C := Lib.hid hcp
  clear h hcp hok
  go_enter Try.func28, Try.ntmps28
  go_wp2_with fail
  go_loopw [7, 20] (fun v j wr => ∃ k : Nat, k ≤ cn ∧ j = .int .i64 k ∧ wr = w) (fun _ j _ => cn - (intOf j).toNat)
  case atStart => exact ⟨0, Nat.zero_le _, rfl, rfl⟩
  case round =>
    obtain ⟨k, hk, rfl, hw⟩ := hrel
    have hw' := hw.symm
    subst hw'
    clear hw
    by_cases hlt : k < cn
    · have hlt' : (k : Int) < (cn : Int) := by omega
      obtain ⟨b, off, hce, hcv⟩ := C.out.cell k hlt
      cases hce
      have hr := HR.out k hlt
      have h1 : ¬ en caps k < -1 := by omega
      have h2 : ¬ (3 : Int) < en caps k := by omega
      go_wp2_with fail
      go_roundw
      case rel => exact ⟨k + 1, by omega, by go_num, by first | trivial | rfl⟩
      case measure => simp [intOf]; omega
    · have hke : k = cn := by omega
      subst hke
      have rm : (Instr.makeMap 71 none).run Try.prog w = .ok (.map (some w.heap.size)) (w.alloc (.map #[] 0)) := by first | rfl | simp [Instr.makeMap, World.alloc]
      go_wp2_with fail
      clear rm HR
      clear hlt hcn hk
      obtain ⟨M, hM⟩ : ∃ M, M = w.heap.size := ⟨_, rfl⟩
      have A0 := Lib.hid ((below_alloc w (.map #[] 0)).trans ((below_alloc (w.alloc (.map #[] 0)) (.cells #[Value.slice ca k cc, Value.slice none 0 0, Value.int .i64 0, Value.int .i64 0, Value.int .i64 0, Value.int .i64 0, Value.int .i64 0, Value.int .i64 0, Value.int .i64 0, Value.int .i64 0, Value.map (some w.heap.size), Value.int .i64 0, Value.int .i64 0] 75)).mono (by rw [World.size_alloc]; omega)))
      have Q0 := Lib.hid (show Jb ((w.alloc (.map #[] 0)).alloc (.cells #[Value.slice ca k cc, Value.slice none 0 0, Value.int .i64 0, Value.int .i64 0, Value.int .i64 0, Value.int .i64 0, Value.int .i64 0, Value.int .i64 0, Value.int .i64 0, Value.int .i64 0, Value.map (some w.heap.size), Value.int .i64 0, Value.int .i64 0] 75)) (w.heap.size + 1) (.slice ca k cc) (.slice none 0 0) (lsI 0) w.heap.size 0 [0, 0] (fun _ _ => 0) from
        ⟨Bx.new2 w _ _ _, (Cnt.made w).below (below_alloc (w.alloc (.map #[] 0)) _), rfl, rfl⟩)
      obtain ⟨v0, hv0⟩ : ∃ v, v = ((w.alloc (.map #[] 0)).alloc (.cells #[Value.slice ca k cc, Value.slice none 0 0, Value.int .i64 0, Value.int .i64 0, Value.int .i64 0, Value.int .i64 0, Value.int .i64 0, Value.int .i64 0, Value.int .i64 0, Value.int .i64 0, Value.map (some w.heap.size), Value.int .i64 0, Value.int .i64 0] 75)) := ⟨_, rfl⟩
      rw [← hv0] at A0 Q0 ⊢
      clear hv0
      rw [← hM] at Q0 ⊢
      obtain ⟨J, hJ⟩ : ∃ J, J = M + 1 := ⟨_, rfl⟩
      rw [← hJ] at Q0 ⊢
      have hMw : w.heap.size ≤ M := by omega
      have hJw : w.heap.size ≤ J := by omega
      clear hM hJ
      go_loopw [35] (fun j wr => ∃ g : Nat, g ≤ 8 ∧ j = .int .i64 g ∧ Below w.heap.size w wr ∧ Jb wr J (.slice ca k cc) (.slice none 0 0) (lsI g) M 0 [0, 0] (fun _ _ => 0)) (fun j _ => 8 - (intOf j).toNat)
      case atStart => exact ⟨0, by omega, rfl, A0.out, Q0.out⟩
      case round =>
        obtain ⟨g, hg, rfl, hb, hq⟩ := hrel
        have A1 := Lib.hid hb
        have Q1 := Lib.hid hq
        clear hb hq A0 Q0
        by_cases hlt : g < 8
        · have hlt' : (g : Int) < 8 := by omega
          have hg0 : (0 : Int) ≤ (g : Int) := by omega
          obtain ⟨old, hold⟩ := jc_lastAt _ _ _ _ _ Q1.out.l8 g hlt
          have hcell := Bx.cell Q1.out.box (2 + g) hold
          have hfz := Bx.froz Q1.out.box (2 + g)
          have A2 := Lib.hid (Below.setCell (p := ⟨J, 2 + g, none⟩) A1.out hJw (.int .i64 (-1)))
          have Q2 := Lib.hid (Q1.out.setLast g hlt (-1))
          rw [lsI_next g hlt] at Q2
          clear hold
          go_wp2_with fail
          go_roundw
          case rel => exact ⟨g + 1, by omega, by go_num, A2.out, Q2.out⟩
          case measure => simp [intOf]; omega
        · have hge : g = 8 := by omega
          subst hge
          go_wp2_with fail
          refine (asks_any _).mono ?_
          rintro e y ⟨rfl, hy⟩
          have hys := below_alloc wr (.map (asksL 18).toArray 18)
          obtain ⟨b, hb⟩ : ∃ b, b = wr.heap.size := ⟨_, rfl⟩
          have hT : Tb (wr.alloc (.map (asksL 18).toArray 18)) b (.map (asksL 18).toArray 18) := by rw [hb]; exact heap_alloc_new wr _
          rw [← hy] at hys hT
          rw [← hb]
          have hbJ : b ≠ J := by rw [hb]; exact Nat.ne_of_gt Q1.out.box.lt
          have hbM : b ≠ M := by rw [hb]; exact Nat.ne_of_gt Q1.out.cnt.lt
          have A2 := Lib.hid (A1.out.trans (hys.mono A1.out.size))
          have Q2 := Lib.hid (Q1.out.below hys)
          have W0 := Lib.hid (show Wk w y J M b ca k cc caps L 0 from ⟨⟨none, 0, Q2.out.box, C.out.below A2.out, Evs.nil y, Q2.out.cnt⟩, A2.out, hT⟩)
          clear hys hT hb hy A1 Q1 A2 Q2 hg hlt
          go_wp2_with fail
          go_loopw [47] (fun j wr => ∃ i : Nat, i ≤ n ∧ j = .int .i64 i ∧ (∀ q, q < i → badZ caps L q = false) ∧ Wk w wr J M b ca k cc caps L i) (fun j _ => n - (intOf j).toNat)
          case atStart => exact ⟨0, Nat.zero_le _, rfl, fun q hq => absurd hq (Nat.not_lt_zero _), W0.out⟩
          case round =>
            obtain ⟨i, hi, rfl, hno, hw⟩ := hrel
            have HN := Lib.hid hno
            have HW := Lib.hid hw
            clear hno hw W0
            by_cases hlt : i < n
            · have hlt' : (i : Int) < (n : Int) := by omega
              obtain ⟨aa, ac, hjd⟩ := HW.out.jd
              have HE := Lib.hid (H.out.below HW.out.bel)
              obtain ⟨eb, eo, hok, he, c0, c1, c2, c3, c4⟩ := HE.out.at i hlt
              cases he
              have HBG := Lib.hid (bad_good caps L i HN.out)
              have hys := below_alloc wr (.cells (evC (evAt L i)) 48)
              have K_0 := Lib.hid (Bx.new wr (evC (evAt L i)) 48)
              have D_0 := Lib.hid (hjd.below hys)
              have T_0 := Lib.hid (HW.out.tb.below hys)
              have A_0 := Lib.hid (HW.out.bel.trans (hys.mono HW.out.bel.size))
              obtain ⟨x, hx⟩ : ∃ x, x = evAt L i := ⟨_, rfl⟩
              rw [← hx] at hok c0 c1 c2 c3 c4 HBG K_0 D_0 T_0 A_0
              have HX := Lib.hid hx
              have HP := Lib.hid (fun W h => placed_any J ⟨ca, k, cc, aa, ac, M⟩ caps L i x W h hok)
              have HQ := Lib.hid (fun q (hq : x.kind = ((q : Nat) : Int)) h18 hpl W h => ask_any J ⟨ca, k, cc, aa, ac, M⟩ caps L i x W h hok (by omega) HC3.out hpl q hq h18)
              have HT := Lib.hid (fun W h hg hd hB hT eb2 ec2 hE2 hE3 hE4 => note_any J ⟨ca, k, cc, aa, ac, M⟩ caps L i x (some ⟨eb, eo, none⟩) c w W (by omega) h hx.symm hok hg hd hB hJw hMw b (.map (asksL 18).toArray 18) hT hbJ hbM eb2 ec2 hE2 hE3 hE4)
              have HWA := Lib.hid (fun h : badZ caps L i = true => wrong_at HN.out (by rw [HL.out]; exact hlt) h)
              have HPL := Lib.hid (fun h : placedB L i x = true => placed_pl h)
              have HAD := Lib.hid (fun (h : askB caps L i x = true) h13 => ask_do h h13)
              have HGP := Lib.hid (fun q (hq : x.kind = ((q : Nat) : Int)) h18 => good_parts (caps := caps) (L := L) (k := i) (x := x) q hq h18)
              have HKD := Lib.hid hok.2.1
              have HGN := Lib.hid (fun h : ¬ (0 ≤ x.kind ∧ x.kind < 18) => show goodB caps L i x = false by unfold goodB; rw [decide_eq_false h]; rfl)
              have hjl := hjd.box.lt
              have hml := hjd.cnt.lt
              clear hys hx hjd
              unfold BoolTo evV evC at HP HQ
              unfold evV evC at HT
              unfold evC at K_0 D_0 T_0 A_0
              obtain ⟨x0, kd, x2, x3, x4⟩ := x
              dsimp only at hok c0 c1 c2 c3 c4 K_0 D_0 T_0 A_0 HP HQ HT HPL HAD HGP HKD HGN
              obtain ⟨e0, he0⟩ : ∃ z, z = wr.heap.size := ⟨_, rfl⟩
              obtain ⟨v0, hv0⟩ : ∃ z, z = wr.alloc (.cells #[.int .i64 x0, .int .i64 kd, .int .i64 x2, .int .i64 x3, .int .i64 x4] 48) := ⟨_, rfl⟩
              rw [← hv0] at K_0 D_0 T_0 A_0
              rw [← he0] at K_0
              have hJe : J ≠ e0 := by rw [he0]; exact Nat.ne_of_lt hjl
              have hMe : M ≠ e0 := by rw [he0]; exact Nat.ne_of_lt hml
              have HE0 := Lib.hid he0; have HV0 := Lib.hid hv0
              clear he0 hv0 hok
              go_upto_region 19 with (fail)
              rw [← HV0.out, ← HE0.out]
              clear c0 c1 c2 c3 c4
              by_cases hr : 0 ≤ kd ∧ kd < 18
              · obtain ⟨q, hq⟩ : ∃ q : Nat, kd = (q : Int) := ⟨kd.toNat, by omega⟩
                have hq18 : q < 18 := by omega
                subst hq
                have HG := Lib.hid (HGP.out q rfl hq18)
                have HQ2 := Lib.hid (HQ.out q rfl hq18)
                have hl := asks_look T_0.out q hq18
                obtain ⟨f, hf⟩ : ∃ f, f = askFn q := ⟨_, rfl⟩
                have HEN := Lib.hid (ask_enters q hq18)
                rw [← hf] at hl HQ2 HEN
                have HAD2 := Lib.hid (fun (h : askB caps L i ⟨x0, (q : Int), x2, x3, x4⟩ = true) => HAD.out h)
                clear hf hr HQ HGP hq18 HGN HKD HAD
                obtain ⟨pb, hpb⟩ : ∃ z, z = placedB L i ⟨x0, (q : Int), x2, x3, x4⟩ := ⟨_, rfl⟩
                obtain ⟨ab, hab⟩ : ∃ z, z = askB caps L i ⟨x0, (q : Int), x2, x3, x4⟩ := ⟨_, rfl⟩
                rw [← hpb] at HP HG HPL
                rw [← hab] at HQ2 HG HAD2
                clear hpb hab
                obtain ⟨z0, z1, z2, z3, z4⟩ := Bx.cells5 K_0.out
                go_wp2_with fail
                clear hl z0 z1 z2 z3 z4
                refine (HP.out _ D_0.out).mono ?_
                rintro e y ⟨rfl, hb⟩
                have K_1 := Lib.hid (K_0.out.below hb)
                have D_1 := Lib.hid (D_0.out.below hb)
                have T_1 := Lib.hid (T_0.out.below hb)
                have A_1 := Lib.hid (A_0.out.trans (hb.mono A_0.out.size))
                clear hb K_0 D_0 T_0 A_0
                cases pb with
                | false =>
                  have HZ := Lib.hid (HWA.out (by rw [HBG.out, HG.out]; rfl))
                  obtain ⟨z0, z1, z2, z3, z4⟩ := Bx.cells5 K_1.out
                  go_wp2_with fail
                  go_ret2
                  exact ⟨ret_int_err HZ.out.symm rfl, A_1.out⟩
                | true =>
                  have HQ3 := Lib.hid (HQ2.out (HPL.out rfl))
                  obtain ⟨z0, z1, z2, z3, z4⟩ := Bx.cells5 K_1.out
                  have hen := HEN.out
                  go_wp2_with fail
                  clear z0 z1 z2 z3 z4 hen
                  refine (HQ3.out _ D_1.out).mono ?_
                  rintro e y2 ⟨rfl, hb⟩
                  have K_2 := Lib.hid (K_1.out.below hb)
                  have D_2 := Lib.hid (D_1.out.below hb)
                  have T_2 := Lib.hid (T_1.out.below hb)
                  have A_2 := Lib.hid (A_1.out.trans (hb.mono A_1.out.size))
                  clear hb K_1 D_1 T_1 A_1
                  cases ab with
                  | false =>
                    have HZ := Lib.hid (HWA.out (by rw [HBG.out, HG.out]; rfl))
                    obtain ⟨z0, z1, z2, z3, z4⟩ := Bx.cells5 K_2.out
                    go_wp2_with fail
                    go_ret2
                    exact ⟨ret_int_err HZ.out.symm rfl, A_2.out⟩
                  | true =>
                    have HZ := Lib.hid (show badZ caps L i = false by rw [HBG.out, HG.out]; rfl)
                    obtain ⟨z0, z1, z2, z3, z4⟩ := Bx.cells5 K_2.out
                    go_upto_region 22 with (fail)
                    clear z0 z1 z2 z3 z4
                    have hbd : Below y2.heap.size y2 y2.drew := (Below.refl _ _).drew
                    have K_3 := Lib.hid (K_2.out.below hbd)
                    have D_3 := Lib.hid (D_2.out.below hbd)
                    have T_3 := Lib.hid (T_2.out.below hbd)
                    have A_3 := Lib.hid (A_2.out.drew)
                    clear hbd K_2 D_2 T_2 A_2
                    have hfx : IntKind.i64.wrap ((i : Int) + 1) = (i : Int) + 1 := by rw [IntKind.wrap_i64]; omega
                    have hi1 : (i : Int) + 1 ≤ (c : Int) := by omega
                    have hi2 : (0 : Int) ≤ (i : Int) + 1 := by omega
                    have hi3 : ((i : Int) + 1).toNat = i + 1 := by omega
                    refine wp_region_held_drew (S := (fun V => V.cell? ⟨e0, 0, none⟩ = some (.int .i64 x0) ∧ V.cell? ⟨e0, 1, none⟩ = some (.int .i64 (q : Int)) ∧ V.cell? ⟨e0, 2, none⟩ = some (.int .i64 x2) ∧ V.cell? ⟨e0, 3, none⟩ = some (.int .i64 x3) ∧ V.cell? ⟨e0, 4, none⟩ = some (.int .i64 x4))) (by kernel_rfl) (Bx.cells5 K_3.out) (fun hHeld => ?_)
                    (try simp only [Act.put, List.getElem_toArray, List.getElem_cons_zero, List.getElem_cons_succ, List.setIfInBounds_toArray, List.set_cons_zero, List.set_cons_succ])
                    refine takes [0, 1, 2, 3, 4, 5] (by kernel_rfl) (fun _ _ _ _ _ h => h) (by assumption) ?_
                    iterate 6 (refine ally_cons (v := ?_) rfl (Or.inl ⟨?_, fun w hSw => ?_⟩) ?_; rotate_left; rfl; ((try dsimp only at hSw); go_simp; try with_reducible rfl); (try simp only [Act.put, List.getElem_toArray, List.getElem_cons_zero, List.getElem_cons_succ, List.setIfInBounds_toArray, List.set_cons_zero, List.set_cons_succ, hfx]))
                    refine ally_nil ?_
                    refine wpAnyH_ready (rs := [6]) (by kernel_rfl) (by simp) ?_
                    refine AllReadyH.cons (o := _) rfl (fun K hK => ?_) AllReadyH.nil
                    go_simp
                    refine (HT.out _ D_3.out ⟨(HPL.out trivial).1, (HPL.out trivial).2.1⟩ (HAD2.out trivial) A_3.out T_3.out e0 _ K_3.out (Ne.symm hJe) (Ne.symm hMe)).mono ?_
                    rintro e y3 ⟨rfl, hA, hQ, hT3, hK3⟩
                    have K_4 := Lib.hid (show Bx y3 e0 _ 48 from hK3)
                    have HW2 := Lib.hid (show Wk w y3 J M b ca k cc caps L (i + 1) from ⟨⟨some ⟨eb, eo, none⟩, c, hQ.box, C.out.below hA, by have := (H.out.below hA).take (i + 1); rwa [show min n (i + 1) = i + 1 by omega] at this, hQ.cnt⟩, hA, hT3⟩)
                    clear hA hQ hT3 hK3 hHeld
                    refine hK.out _ _ (Bx.cells5 K_4.out) (fun hHeld => ?_)
                    clear hK K
                    (try simp only [Act.put, List.getElem_toArray, List.getElem_cons_zero, List.getElem_cons_succ, List.setIfInBounds_toArray, List.set_cons_zero, List.set_cons_succ])
                    refine wpAnyH_done (by kernel_rfl) ?_ _
                    clear hHeld
                    go_wp2_with fail
                    go_roundw
                    case rel => exact ⟨i + 1, by omega, by go_num, fun j hj => by
                      by_cases e : j = i
                      · subst e; exact HZ.out
                      · exact HN.out j (by omega), HW2.out⟩
                    case measure => simp [intOf]; omega
              · have HZ := Lib.hid (HWA.out (by rw [HBG.out, HGN.out hr]; rfl))
                obtain ⟨z, hl⟩ := asks_none T_0.out kd HKD.out (by omega)
                obtain ⟨z0, z1, z2, z3, z4⟩ := Bx.cells5 K_0.out
                go_wp2_with fail
                go_ret2
                exact ⟨ret_int_err HZ.out.symm rfl, A_0.out⟩
            · have hie : i = n := by omega
              have HZ := Lib.hid (wrong_none (caps := caps) (l := L) (fun j hj => HN.out j (by rw [HL.out] at hj; omega)))
              have HB := Lib.hid HW.out.bel
              go_wp2_with fail
              go_ret2
              exact ⟨ret_int_err HZ.out.symm rfl, HB.out⟩
end Go.Proofs.Ytjkbmenmpnidhaa
