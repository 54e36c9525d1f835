/- Reading a select: the program. -/
import Derived.Test.YtddkckppmjcclaaD3
namespace Go.Proofs.Ytddkckppmjcclaa
open Go.RowKit
set_option linter.unusedSimpArgs false
set_option linter.unusedVariables false
theorem pairP_ok {T : List Int} (hT : Byt T) {i : Nat} (hi : i ≤ T.length) {p : Int × Bool} {j : Nat} (h : pairP T i = .ok p j) : j ≤ T.length ∧ 0 ≤ p.1 ∧ p.1 ≤ 2147483647 := by
  unfold pairP at h
  cases h1 : nP T i with
  | no c => rw [h1] at h; cases h
  | ok o j1 =>
    rw [h1] at h; simp only [Res.bind] at h
    obtain ⟨_, hj, ho, ho2⟩ := nP_ok hT hi h1
    cases h; exact ⟨hj, by show 0 ≤ o / 2; omega, by show o / 2 ≤ _; omega⟩
theorem casP_eq {T : List Int} {i : Nat} {x : Cas} {j : Nat} (h : casP T i = .ok x j) : ∃ p, pairP T i = .ok p j ∧ x = ⟨p.2, p.1⟩ := by
  unfold casP at h
  cases h1 : pairP T i with
  | no c => rw [h1] at h; cases h
  | ok p j1 => rw [h1] at h; simp only [Res.bind] at h; cases h; exact ⟨p, rfl, rfl⟩
theorem casP_no {T : List Int} {i : Nat} {c : Int} (h : casP T i = .no c) : pairP T i = .no c := by
  unfold casP at h
  cases h1 : pairP T i with
  | no c => rw [h1] at h; cases h; rfl
  | ok p j1 => rw [h1] at h; cases h
/-- a select that is read, of the call's own -/
def RepSel (base : Nat) (w' : World) (v : Value) (x : Sel) : Prop := ∃ r : RSel, v = .agg #[.slice r.a r.n r.c, .bool r.d] ∧ r.d = x.d ∧ OwnR 71 2 encC w' base (.slice r.a r.n r.c) x.cs ∧ x.cs.length ≤ 4 ∧ ∀ c ∈ x.cs, CasOk c
theorem infC71 : (Try.prog.info? 71).map (fun i => (i.zero, i.size, i.bytes)) = some (some (.agg #[.bool false, .int .i64 0]), 2, 16) := by kernel_rfl
set_option maxRecDepth 100000 in
set_option maxHeartbeats 8000000 in
theorem choice_any (s : ByteArray) (B i : Nat) (w : World) (h : Rd w B s i) (hi : i ≤ (tx s).length) (hs : s.size ≤ 100000) :
    Calls Try.prog 51 #[.pointer (some ⟨B, 0, none⟩)] w (Post w B s (selP (tx s) i) (RepSel w.heap.size)) := by
  obtain ⟨Q, hQ⟩ : ∃ Q, Q = Post w B s (selP (tx s) i) (RepSel w.heap.size) := ⟨_, rfl⟩
  rw [← hQ]
  have HQ := Lib.hid hQ
  clear hQ
  have hT := tx_byt s
  have K0 := Lib.hid (Bx.new w #[.slice none 0 0, .bool false] 47)
  have R0 := Lib.hid (Rd.below h (below_alloc w (.cells #[.slice none 0 0, .bool false] 47)))
  have G0 := Lib.hid (World.grownBy_alloc w (.cells #[.slice none 0 0, .bool false] 47) (some B))
  have HBL := Lib.hid (Rd.lt h)
  have hB0 : w.heap.size ≠ B := by have := HBL.out; omega
  clear h
  obtain ⟨b0, hb0⟩ : ∃ b0, b0 = w.heap.size := ⟨_, rfl⟩
  obtain ⟨w0, hw0⟩ : ∃ w0, w0 = w.alloc (.cells #[.slice none 0 0, .bool false] 47) := ⟨_, rfl⟩
  have HB0 := Lib.hid hb0
  have HW0 := Lib.hid hw0
  rw [← hw0] at K0 R0 G0
  rw [← hb0] at K0 hB0
  clear hw0 hb0
  cases hz : pairP (tx s) i with
  | no c =>
    have N1 := Lib.hid (fun W H => pair_no s B i W H hi hs hz)
    have HP := Lib.hid (show selP (tx s) i = .no c by unfold selP; rw [hz]; rfl)
    unfold GaveUp gaveUp at N1
    clear hi hz hT
    go_enter Try.func51, Try.ntmps51
    go_upto_region 1 with (fail)
    rw [← HW0.out, ← HB0.out]
    go_wp2_with fail
    refine (N1.out _ R0.out).mono ?_
    rintro e wz ⟨rfl, hg⟩
    refine ⟨rfl, ?_⟩
    rw [HQ.out]; exact Post.no HP.out (G0.out.trans hg)
  | ok p j0 =>
    obtain ⟨n, d⟩ := p
    obtain ⟨hj0, hn0, hn1⟩ := pairP_ok hT hi hz
    dsimp only at hn0 hn1
    have N1 := Lib.hid (fun W H => pair_ok s B i W H hi hs hz)
    dsimp only at N1
    unfold GotV at N1
    by_cases h4 : 4 < n
    · have HP := Lib.hid (show selP (tx s) i = .no 2 by unfold selP; rw [hz]; simp only [Res.bind]; rw [if_pos h4])
      have HL := Lib.hid (fun W => limit_no n 4 W h4)
      unfold gaveUp at HL
      clear hi hz hT hj0
      go_enter Try.func51, Try.ntmps51
      go_upto_region 1 with (fail)
      rw [← HW0.out, ← HB0.out]
      go_wp2_with fail
      refine (N1.out _ R0.out).mono ?_
      rintro e w1 ⟨rfl, hr, hg⟩
      have G1 := Lib.hid (G0.out.trans hg)
      clear hr hg
      go_wp2_with fail
      refine (HL.out _).mono ?_
      rintro e w2 ⟨rfl, rfl⟩
      refine ⟨rfl, ?_⟩
      rw [HQ.out]; exact Post.no HP.out G1.out
    · obtain ⟨m, rfl⟩ : ∃ m : Nat, n = (m : Int) := ⟨n.toNat, by omega⟩
      have HP := Lib.hid (show selP (tx s) i = (repP (casP (tx s)) m j0).bind fun l j' => .ok ⟨l, d⟩ j' by unfold selP; rw [hz]; simp only [Res.bind]; rw [if_neg h4]; rfl)
      have HL := Lib.hid (fun W => limit_ok (m : Int) 4 W (by omega))
      have hm4 : m ≤ 4 := by omega
      have HJ0 := Lib.hid hj0; have HT := Lib.hid hT
      clear hi hz hT hj0 h4 hn0 hn1
      go_enter Try.func51, Try.ntmps51
      go_upto_region 1 with (fail)
      rw [← HW0.out, ← HB0.out]
      go_wp2_with fail
      refine (N1.out _ R0.out).mono ?_
      rintro e w1 ⟨rfl, hr, hg⟩
      have R1 := Lib.hid hr; have G1 := Lib.hid (G0.out.trans hg); have K0_1 := Lib.hid (K0.out.other hg (some_ne hB0))
      clear hr hg K0 R0 G0
      go_wp2_with fail
      refine (HL.out _).mono ?_
      rintro e w2 ⟨rfl, rfl⟩
      have K1 := Lib.hid (Bx.new w1 #[.slice none 0 0, .bool d] 47)
      have hBl : B < w1.heap.size := Rd.lt R1.out
      have hb01 : b0 < w1.heap.size := Bx.lt K0_1.out
      have R2 := Lib.hid (R1.out.below (below_alloc w1 (.cells #[.slice none 0 0, .bool d] 47)))
      have K0_2 := Lib.hid (K0_1.out.below (below_alloc w1 (.cells #[.slice none 0 0, .bool d] 47)))
      have G2 := Lib.hid (grow_alloc G1.out (.cells #[.slice none 0 0, .bool d] 47))
      go_upto_region 4 with (fail)
      obtain ⟨b1, hb1⟩ : ∃ b1, b1 = w1.heap.size := ⟨_, rfl⟩
      obtain ⟨w2, hw2⟩ : ∃ w2, w2 = w1.alloc (.cells #[.slice none 0 0, .bool d] 47) := ⟨_, rfl⟩
      have hB1 : b1 ≠ B := by omega
      have h10 : b1 ≠ b0 := by omega
      have h01 : b0 ≠ b1 := by omega
      have HB1 := Lib.hid (show w.heap.size ≤ b1 by have := HB0.out; omega)
      rw [← hw2] at K1 R2 K0_2 G2 ⊢
      rw [← hb1] at K1 ⊢
      clear hw2 hb1 hBl hb01 R1 G1 K0_1 N1 HL
      go_wp2_with fail
      go_loopw [18] (fun i wr => ∃ k : Nat, k ≤ m ∧ i = .int .i64 k ∧ ∃ L j v, repP (casP (tx s)) k j0 = .ok L j ∧ j ≤ (tx s).length ∧ (∀ x ∈ L, CasOk x) ∧ OwnR 71 2 encC wr w.heap.size v L ∧ Bx wr b1 #[v, .bool d] 47 ∧ Bx wr b0 #[.slice none 0 0, .bool false] 47 ∧ Rd wr B s j ∧ w.grownBy wr (some B)) (fun i _ => m - (intOf i).toNat)
      case atStart => exact ⟨0, Nat.zero_le _, rfl, [], j0, _, rfl, HJ0.out, fun x hx => by simp at hx, ownG_nil _ _ _, K1.out, K0_2.out, R2.out, G2.out⟩
      case round =>
        clear R2 G2 K1 K0_2
        obtain ⟨k, hk, rfl, L, j, v, hrep, hj, hok, hown, hk1, hk0, hr, hg⟩ := hrel
        obtain ⟨ra, rc, rfl, _⟩ := OwnR.recs encC_len hown
        have HREP := Lib.hid hrep; have HJ := Lib.hid hj; have HOK := Lib.hid hok; have HO := Lib.hid hown; have R1 := Lib.hid hr; have G1 := Lib.hid hg; have K0 := Lib.hid hk0; have K1 := Lib.hid hk1
        have HLN := Lib.hid (repP_len hrep)
        clear hrep hok hown hr hg hk0 hk1
        by_cases hlt : k < m
        · have hlt' : (k : Int) < (m : Int) := by omega
          cases hf : casP (tx s) j with
          | no c =>
            have N2 := Lib.hid (pair_no s B j wr R1.out hj hs (casP_no hf))
            have HR := Lib.hid (show selP (tx s) i = .no c by rw [HP.out, repP_no HREP.out hf hlt]; rfl)
            unfold GaveUp gaveUp at N2
            clear hj hf
            go_wp2_with fail
            refine N2.out.mono ?_
            rintro e wz ⟨rfl, hg⟩
            refine ⟨rfl, ?_⟩
            rw [HQ.out]; exact Post.no HR.out (G1.out.trans hg)
          | ok x j' =>
            obtain ⟨⟨cn, cb⟩, hp, rfl⟩ := casP_eq hf
            dsimp only at hf
            have N2 := Lib.hid (pair_ok s B j wr R1.out hj hs hp)
            have HR := Lib.hid (repP_ok HREP.out hf)
            have HX := Lib.hid (pairP_ok HT.out hj hp)
            dsimp only at N2 HX
            unfold GotV at N2
            clear hj hf hp
            go_wp2_with fail
            refine N2.out.mono ?_
            rintro e w2 ⟨rfl, hr, hg⟩
            have K1_2 := Lib.hid (K1.out.other hg (some_ne hB1)); have K0_2 := Lib.hid (K0.out.other hg (some_ne hB0))
            obtain ⟨x0, x1⟩ := K1_2.out.cells2
            have BA := Lib.hid (below_alloc w2 (.cells #[.bool cb, .int .i64 cn] 71))
            have R2 := Lib.hid (hr.below BA.out)
            have G2 := Lib.hid (grow_alloc (G1.out.trans hg) (.cells #[.bool cb, .int .i64 cn] 71))
            have O2 := Lib.hid (OwnR.below (OwnR.low HO.out hg HBL.out) BA.out)
            have K1_3 := Lib.hid (K1_2.out.below BA.out); have K0_3 := Lib.hid (K0_2.out.below BA.out)
            have HZ := Lib.hid (show w.heap.size ≤ (w2.alloc (.cells #[.bool cb, .int .i64 cn] 71)).heap.size from G2.out.size)
            have S2 := Lib.hid (recs_oneG (k := 2) (enc := encC) (x := ⟨cb, cn⟩) (t := 71) (heap_alloc_new w2 (.cells #[.bool cb, .int .i64 cn] 71)))
            have HL1 := Lib.hid (show L.length ≤ 100000 by rw [HLN.out]; omega)
            clear hr hg N2 R1 G1 HO K0 K1
            go_upto_region 8 with (at_builtin; refine wpList_appG encC_len (by decide) encC_one 45 71 16 _ Try.underlying45 infC71 rfl (by decide) rfl _ _ rfl w.heap.size _ L rfl O2.out ⟨w2.heap.size, 0, none⟩ 1 1 [(⟨cb, cn⟩ : Cas)] rfl S2.out HL1.out (by decide) HZ.out ?_; intro v3 w3 ho3 hg3; obtain ⟨ra3, rc3, rfl, _⟩ := OwnR.recs encC_len ho3.out; have k1 := K1_3.out.other hg3.out (ownR_apart O2.out K1_3.out (by decide)); have l1 := Bx.lt k1; have f1 := Bx.froz k1 0; obtain ⟨y0, y1⟩ := k1.cells2)
            have HO3 := Lib.hid (show OwnR 71 2 encC w3 w.heap.size (.slice ra3 (L.length + 1) rc3) (L ++ [(⟨cb, cn⟩ : Cas)]) from by have := ho3.out; rwa [List.length_append, List.length_singleton] at this)
            have K1_4 := Lib.hid (K1_3.out.other hg3.out (ownR_apart O2.out K1_3.out (by decide)))
            have K0_4 := Lib.hid (K0_3.out.other hg3.out (ownR_apart O2.out K0_3.out (by decide)))
            have R4 := Lib.hid (R2.out.other hg3.out (ownR_apart O2.out R2.out (by decide)))
            have G4 := Lib.hid (grow_own O2.out G2.out hg3.out (Nat.le_refl _))
            have K1_5 := Lib.hid (K1_4.out.set 0 (.slice ra3 (L.length + 1) rc3))
            have K0_5 := Lib.hid (K0_4.out.other (grow_setCell w3 b1 0 (.slice ra3 (L.length + 1) rc3)) (some_ne h01))
            have R5 := Lib.hid (R4.out.other (grow_setCell w3 b1 0 (.slice ra3 (L.length + 1) rc3)) (some_ne hB1.symm))
            have G5 := Lib.hid (grow_local G4.out (grow_setCell w3 b1 0 (.slice ra3 (L.length + 1) rc3)) HB1.out)
            have O5 := Lib.hid (OwnR.other HO3.out (grow_setCell w3 b1 0 (.slice ra3 (L.length + 1) rc3)) (fun r hr e => (ownR_apart HO3.out K1_4.out (by decide)) (by rw [hr]; exact e.symm)))
            go_wp2_with fail
            go_roundw
            case rel => exact ⟨k + 1, by omega, by go_num, L ++ [(⟨cb, cn⟩ : Cas)], j', _, HR.out, HX.out.1, fun y hy => by rcases List.mem_append.1 hy with h1 | h1; exact HOK.out y h1; simp at h1; subst h1; exact i64m HX.out.2.1 HX.out.2.2, O5.out, K1_5.out, K0_5.out, R5.out, G5.out⟩
            case measure => simp [intOf]; omega
        · have hke : k = m := by omega
          subst hke
          have HR := Lib.hid (show selP (tx s) i = .ok ⟨L, d⟩ j by rw [HP.out, HREP.out]; rfl)
          obtain ⟨x0, x1⟩ := K1.out.cells2
          obtain ⟨z0, z1⟩ := K0.out.cells2
          have l0 := Bx.lt K0.out; have f0 := Bx.froz K0.out 0; have f1 := Bx.froz K0.out 1
          have HE := Lib.hid (K0.out.st2 (.slice ra L.length rc) (.bool d))
          have GE := Lib.hid (grow_local G1.out (grown_st2 (World.grownBy.refl wr (some b0)) (.slice ra L.length rc) (.bool d)) (by rw [HB0.out]; exact Nat.le_refl _))
          have RE := Lib.hid (R1.out.other (grown_st2 (World.grownBy.refl wr (some b0)) (.slice ra L.length rc) (.bool d)) (some_ne hB0.symm))
          have OE := Lib.hid (OwnR.other HO.out (grown_st2 (World.grownBy.refl wr (some b0)) (.slice ra L.length rc) (.bool d)) (fun r hr e => (ownR_apart HO.out K0.out (by decide)) (by rw [hr]; exact e.symm)))
          go_wp2_with fail
          refine bodyPost_ret (v := .agg #[.slice ra L.length rc, .bool d]) (by first | rw [res_c0 Try.results51 _ (by rfl) (Bx.load HE.out Try.underlying47 inf47)] | skip) rfl ?_
          rw [HQ.out]; exact Post.ok HR.out ⟨⟨ra, L.length, rc, d⟩, rfl, rfl, OE.out, by show L.length ≤ 4; rw [HLN.out]; exact hm4, HOK.out⟩ RE.out GE.out
end Go.Proofs.Ytddkckppmjcclaa
