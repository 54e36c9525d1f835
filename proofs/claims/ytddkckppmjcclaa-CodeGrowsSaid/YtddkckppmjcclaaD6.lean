/- Reading a program: the walk. -/
import Derived.Test.YtddkckppmjcclaaD5
namespace Go.Proofs.Ytddkckppmjcclaa
open Go.RowKit
set_option linter.unusedSimpArgs false
set_option linter.unusedVariables false
theorem capP_ok' {T : List Int} (hT : Byt T) {i : Nat} (hi : i ≤ T.length) {x : Int} {j : Nat} (h : capP T i = .ok x j) : ∃ n, nP T i = .ok n j ∧ x = n - 1 ∧ j ≤ T.length ∧ 0 ≤ n ∧ n ≤ 2147483647 := by
  obtain ⟨h1, h2, h3, h4⟩ := capP_ok hT hi h
  exact ⟨x + 1, h1, by omega, h2, by omega, by omega⟩
theorem choice_ok (s : ByteArray) (B i : Nat) (w : World) (h : Rd w B s i) (hi : i ≤ (tx s).length) (hs : s.size ≤ 100000) {x : Sel} {j : Nat} (hn : selP (tx s) i = .ok x j) :
    Calls Try.prog 51 #[.pointer (some ⟨B, 0, none⟩)] w fun e w' => ∃ r : RSel, e = .returned (.agg #[.slice r.a r.n r.c, .bool r.d]) ∧ OSel w' w.heap.size r x ∧ Rd w' B s j ∧ w.grownBy w' (some B) := by
  refine (choice_any s B i w h hi hs).mono ?_
  rw [hn]
  rintro e w' ⟨v, rfl, ⟨r, rfl, hd, ho, hl, hc⟩, h2, h3⟩
  exact ⟨r, rfl, ⟨hd, ho, hl, hc⟩, h2, h3⟩
theorem choice_no (s : ByteArray) (B i : Nat) (w : World) (h : Rd w B s i) (hi : i ≤ (tx s).length) (hs : s.size ≤ 100000) {c : Int} (hn : selP (tx s) i = .no c) :
    Calls Try.prog 51 #[.pointer (some ⟨B, 0, none⟩)] w (GaveUp w B c) := by
  refine (choice_any s B i w h hi hs).mono ?_
  rw [hn]
  exact fun e w' h => h
theorem block_ok (s : ByteArray) (B i : Nat) (w : World) (h : Rd w B s i) (hi : i ≤ (tx s).length) (hs : s.size ≤ 100000) {x : List Ins} {j : Nat} (hn : blkP (tx s) i = .ok x j) :
    Calls Try.prog 52 #[.pointer (some ⟨B, 0, none⟩)] w fun e w' => ∃ r : RBlk, e = .returned (.slice r.a r.n r.c) ∧ OBlk w' w.heap.size r x ∧ Rd w' B s j ∧ w.grownBy w' (some B) := by
  refine (block_any s B i w h hi hs).mono ?_
  rw [hn]
  rintro e w' ⟨v, rfl, ⟨ho, hl, hc⟩, h2, h3⟩
  obtain ⟨a, c, rfl, _⟩ := OwnR.recs encI_len ho
  exact ⟨⟨a, x.length, c⟩, rfl, ⟨ho, hl, hc⟩, h2, h3⟩
theorem block_no (s : ByteArray) (B i : Nat) (w : World) (h : Rd w B s i) (hi : i ≤ (tx s).length) (hs : s.size ≤ 100000) {c : Int} (hn : blkP (tx s) i = .no c) :
    Calls Try.prog 52 #[.pointer (some ⟨B, 0, none⟩)] w (GaveUp w B c) := by
  refine (block_any s B i w h hi hs).mono ?_
  rw [hn]
  exact fun e w' h => h
theorem OSel.mono {w : World} {b b' : Nat} {r : RSel} {x : Sel} (h : OSel w b r x) (hb : b' ≤ b) : OSel w b' r x := ⟨h.1, World.ownsRow.mono' h.2.1 hb, h.2.2⟩
theorem OBlk.mono {w : World} {b b' : Nat} {r : RBlk} {x : List Ins} (h : OBlk w b r x) (hb : b' ≤ b) : OBlk w b' r x := ⟨World.ownsRow.mono' h.1 hb, h.2⟩
theorem OSel.below {w w' : World} {base : Nat} {r : RSel} {x : Sel} (h : OSel w base r x) (hb : Below w.heap.size w w') : OSel w' base r x := h.away (grow_of_below hb) Away.none
theorem OBlk.below {w w' : World} {base : Nat} {r : RBlk} {x : List Ins} (h : OBlk w base r x) (hb : Below w.heap.size w w') : OBlk w' base r x := h.away (grow_of_below hb) Away.none
set_option maxRecDepth 100000 in
set_option maxHeartbeats 40000000 in
theorem program_any (s : ByteArray) (B i : Nat) (w : World) (h : Rd w B s i) (hi : i ≤ (tx s).length) (hs : s.size ≤ 100000) :
    Calls Try.prog 40 #[.pointer (some ⟨B, 0, none⟩)] w (Post w B s (prgP (tx s) i) (RepPr w.heap.size)) := by
  obtain ⟨Q, hQ⟩ : ∃ Q, Q = Post w B s (prgP (tx s) i) (RepPr w.heap.size) := ⟨_, rfl⟩
  rw [← hQ]
  have HQ := Lib.hid hQ
  clear hQ
  have HT := Lib.hid (tx_byt s)
  have HBL := Lib.hid (Rd.lt h)
  have hB0 : w.heap.size ≠ B := by have := HBL.out; omega
  have hB1 : w.heap.size + 1 ≠ B := by have := HBL.out; omega
  have K0 := Lib.hid ((Bx.new w #[.slice none 0 0, .int .i64 0, .int .i64 0, .int .i64 0, .slice none 0 0, .slice none 0 0] 26).below (below_alloc _ (.cells #[.slice none 0 0, .int .i64 0, .int .i64 0, .int .i64 0, .slice none 0 0, .slice none 0 0] 26)))
  have K1 := Lib.hid (Bx.new2 w (.cells #[.slice none 0 0, .int .i64 0, .int .i64 0, .int .i64 0, .slice none 0 0, .slice none 0 0] 26) #[.slice none 0 0, .int .i64 0, .int .i64 0, .int .i64 0, .slice none 0 0, .slice none 0 0] 26)
  have RB := Lib.hid ((Rd.below h (below_alloc w (.cells #[.slice none 0 0, .int .i64 0, .int .i64 0, .int .i64 0, .slice none 0 0, .slice none 0 0] 26))).below (below_alloc _ (.cells #[.slice none 0 0, .int .i64 0, .int .i64 0, .int .i64 0, .slice none 0 0, .slice none 0 0] 26)))
  have GB := Lib.hid (grow_alloc (World.grownBy_alloc w (.cells #[.slice none 0 0, .int .i64 0, .int .i64 0, .int .i64 0, .slice none 0 0, .slice none 0 0] 26) (some B)) (.cells #[.slice none 0 0, .int .i64 0, .int .i64 0, .int .i64 0, .slice none 0 0, .slice none 0 0] 26))
  have HJ := Lib.hid hi
  clear h hi
  obtain ⟨b0, hb0⟩ : ∃ b0, b0 = w.heap.size := ⟨_, rfl⟩
  obtain ⟨b1, hb1⟩ : ∃ b1, b1 = w.heap.size + 1 := ⟨_, rfl⟩
  obtain ⟨w1, hw1⟩ : ∃ w1, w1 = (w.alloc (.cells #[.slice none 0 0, .int .i64 0, .int .i64 0, .int .i64 0, .slice none 0 0, .slice none 0 0] 26)).alloc (.cells #[.slice none 0 0, .int .i64 0, .int .i64 0, .int .i64 0, .slice none 0 0, .slice none 0 0] 26) := ⟨_, rfl⟩
  have HB0 := Lib.hid hb0; have HBB := Lib.hid hb1; have HW1 := Lib.hid hw1
  have HB1 := Lib.hid (show w.heap.size ≤ b1 by omega)
  have h01 : b0 ≠ b1 := by omega
  have h10 : b1 ≠ b0 := by omega
  rw [← hw1] at K0 K1 RB GB
  rw [← hb0] at K0 hB0
  rw [← hb1] at K1 hB1
  clear hw1 hb0 hb1
  have HP0 := Lib.hid (prgP_eq (tx s) i)
  cases hz : sizeP (tx s) 4 i with
  | no c =>
    have N1 := Lib.hid (fun W H => size_no s B i 4 W H HJ.out hs hz)
    have HP := Lib.hid (show prgP (tx s) i = .no c by rw [HP0.out, hz]; rfl)
    unfold GaveUp gaveUp at N1
    clear hz
    go_enter Try.func40, Try.ntmps40
    go_upto_region 2 with (fail)
    rw [← HW1.out, ← HBB.out, ← HB0.out]
    go_wp2_with fail
    refine (N1.out _ RB.out).mono ?_
    rintro e wz ⟨rfl, hg⟩
    refine ⟨rfl, ?_⟩
    rw [HQ.out]; exact Post.no HP.out (GB.out.trans hg)
  | ok n j0 =>
    obtain ⟨hj0, hn0, hn4⟩ := sizeP_ok HT.out HJ.out hz
    obtain ⟨m, rfl⟩ : ∃ m : Nat, n = (m : Int) := ⟨n.toNat, by omega⟩
    have N1 := Lib.hid (fun W H => size_ok s B i 4 W H HJ.out hs hz)
    have HP1 := Lib.hid (show prgP (tx s) i = (repP (capP (tx s)) m j0).bind fun caps j1 => prg2 (tx s) caps j1 by rw [HP0.out, hz]; rfl)
    unfold GotV at N1
    have hm4 : m ≤ 4 := by omega
    clear HJ
    have HJ := Lib.hid hj0
    clear hz hj0 hn0 hn4
    go_enter Try.func40, Try.ntmps40
    go_upto_region 2 with (fail)
    rw [← HW1.out, ← HBB.out, ← HB0.out]
    go_wp2_with fail
    refine (N1.out _ RB.out).mono ?_
    rintro e w2 ⟨rfl, hr, hg⟩
    have RBn := Lib.hid hr; have GBn := Lib.hid (GB.out.trans hg); have K0n := Lib.hid (K0.out.other hg (some_ne hB0)); have K1n := Lib.hid (K1.out.other hg (some_ne hB1))
    clear hr hg N1 RB GB K0 K1
    have RB := RBn; have GB := GBn; have K0 := K0n; have K1 := K1n
    clear RBn GBn K0n K1n
    go_wp2_with fail
    go_loopw [6] (fun i wr => ∃ k : Nat, k ≤ m ∧ i = .int .i64 k ∧ ∃ L j v, repP (capP (tx s)) k j0 = .ok L j ∧ j ≤ (tx s).length ∧ (∀ x ∈ L, I64 x) ∧ OwnN wr w.heap.size (v) L ∧ Bx wr b1 #[v, .int .i64 0, .int .i64 0, .int .i64 0, .slice none 0 0, .slice none 0 0] 26 ∧ Bx wr b0 #[.slice none 0 0, .int .i64 0, .int .i64 0, .int .i64 0, .slice none 0 0, .slice none 0 0] 26 ∧ Rd wr B s j ∧ w.grownBy wr (some B)) (fun i _ => m - (intOf i).toNat)
    case atStart => exact ⟨0, Nat.zero_le _, rfl, [], j0, _, rfl, HJ.out, fun x hx => by simp at hx, ownG_nil _ _ _, K1.out, K0.out, RB.out, GB.out⟩
    case round =>
      clear RB GB K1 K0 HJ
      obtain ⟨k, hk, rfl, L, j, v, hrep, hj, hok, hown, hk1, hk0, hr, hg⟩ := hrel
      obtain ⟨ra, rc, rfl, _⟩ := OwnR.recs enc1_len hown
      have HREP := Lib.hid hrep; have HJ := Lib.hid hj; have HOK := Lib.hid hok; have HO := Lib.hid hown; have RB := Lib.hid hr; have GB := Lib.hid hg; have K0 := Lib.hid hk0; have K1 := Lib.hid hk1
      have HLN := Lib.hid (repP_len hrep)
      clear hrep hok hown hr hg hk0 hk1
      by_cases hlt : k < m
      · have hlt' : (k : Int) < (m : Int) := by omega
        cases hf : capP (tx s) j with
        | no c =>
          have N2 := Lib.hid (fun W H => number_no s B j W H hj hs (capP_no hf))
          have HR := Lib.hid (show prgP (tx s) i = .no c by rw [HP1.out, repP_no HREP.out hf hlt]; rfl)
          unfold GaveUp gaveUp at N2
          clear hj hf
          have KC := Lib.hid K1.out.cells6
          go_upto_region 4 with (fail)
          refine wp_region_held_drew (S := (fun _ => True)) (by kernel_rfl) (trivial) (fun hHeld => ?_)
          (try simp only [Act.put, List.getElem_toArray, List.getElem_cons_zero, List.getElem_cons_succ, List.setIfInBounds_toArray, List.set_cons_zero, List.set_cons_succ])
          refine wpAnyH_take (i := 0) (v := ?_) rfl (by kernel_rfl) (by kernel_rfl) (by kernel_rfl) (fun _ _ _ h => h) (Or.inl ⟨by rfl, ?_⟩) (by assumption) ?_
          rotate_left
          · (intro w hSw; (try dsimp only at hSw); go_simp; try with_reducible rfl)
          (try simp only [Act.put, List.getElem_toArray, List.getElem_cons_zero, List.getElem_cons_succ, List.setIfInBounds_toArray, List.set_cons_zero, List.set_cons_succ])
          refine wpAnyH_take (i := 2) (v := ?_) rfl (by kernel_rfl) (by kernel_rfl) (by kernel_rfl) (fun _ _ _ h => h) (Or.inl ⟨by rfl, ?_⟩) (by assumption) ?_
          rotate_left
          · (intro w hSw; (try dsimp only at hSw); go_simp; try with_reducible rfl)
          (try simp only [Act.put, List.getElem_toArray, List.getElem_cons_zero, List.getElem_cons_succ, List.setIfInBounds_toArray, List.set_cons_zero, List.set_cons_succ])
          refine wpAnyH_ready (rs := [1, 3]) (by kernel_rfl) (by simp) ?_
          refine AllReadyH.cons (o := _) rfl (fun K hK => ?_) (AllReadyH.cons (o := _) rfl (fun K hK => ?_) AllReadyH.nil)
          ·
            obtain ⟨c0, c1, c2, c3, c4, c5⟩ := Bx.cells6 (show Bx wr.drew b1 _ 26 from K1.out)
            go_simp
            clear c0 c1 c2 c3 c4 c5
            clear hHeld
            refine hK.out _ _ trivial (fun hHeld => ?_)
            clear hK K
            (try simp only [Act.put, List.getElem_toArray, List.getElem_cons_zero, List.getElem_cons_succ, List.setIfInBounds_toArray, List.set_cons_zero, List.set_cons_succ])
            refine wpAnyH_ready (rs := [3]) (by kernel_rfl) (by simp) ?_
            refine AllReadyH.cons (o := _) rfl (fun K hK => ?_) AllReadyH.nil
            go_simp
            refine (N2.out wr.drew RB.out).mono ?_
            rintro e wz ⟨rfl, hg⟩
            refine ⟨rfl, ?_⟩
            rw [HQ.out]; exact Post.no HR.out ((grow_drew GB.out).trans hg)
          · skip
            go_simp
            refine (N2.out wr.drew RB.out).mono ?_
            rintro e wz ⟨rfl, hg⟩
            refine ⟨rfl, ?_⟩
            rw [HQ.out]; exact Post.no HR.out ((grow_drew GB.out).trans hg)
        | ok x j' =>
          obtain ⟨n, hp, rfl, hj2, hn0, hn1⟩ := capP_ok' HT.out hj hf
          have N2 := Lib.hid (fun W H => number_ok s B j W H hj hs hp)
          have HN1 := Lib.hid (show I64 (n - 1) from ⟨by omega, by omega⟩)
          have HWR := Lib.hid (show IntKind.i64.wrap (n - 1) = n - 1 from IntWalk.i64_in (n - 1) ⟨by omega, by omega⟩)
          unfold GotV at N2
          have HJ2 := Lib.hid hj2
          have HR := Lib.hid (repP_ok HREP.out hf)
          clear hj hf hp hj2
          go_upto_region 4 with (fail)
          refine wp_region_held_drew (S := (fun _ => True)) (by kernel_rfl) (trivial) (fun hHeld => ?_)
          (try simp only [Act.put, List.getElem_toArray, List.getElem_cons_zero, List.getElem_cons_succ, List.setIfInBounds_toArray, List.set_cons_zero, List.set_cons_succ])
          refine wpAnyH_take (i := 0) (v := ?_) rfl (by kernel_rfl) (by kernel_rfl) (by kernel_rfl) (fun _ _ _ h => h) (Or.inl ⟨by rfl, ?_⟩) (by assumption) ?_
          rotate_left
          · (intro w hSw; (try dsimp only at hSw); go_simp; try with_reducible rfl)
          (try simp only [Act.put, List.getElem_toArray, List.getElem_cons_zero, List.getElem_cons_succ, List.setIfInBounds_toArray, List.set_cons_zero, List.set_cons_succ])
          refine wpAnyH_take (i := 2) (v := ?_) rfl (by kernel_rfl) (by kernel_rfl) (by kernel_rfl) (fun _ _ _ h => h) (Or.inl ⟨by rfl, ?_⟩) (by assumption) ?_
          rotate_left
          · (intro w hSw; (try dsimp only at hSw); go_simp; try with_reducible rfl)
          (try simp only [Act.put, List.getElem_toArray, List.getElem_cons_zero, List.getElem_cons_succ, List.setIfInBounds_toArray, List.set_cons_zero, List.set_cons_succ])
          refine wpAnyH_ready (rs := [1, 3]) (by kernel_rfl) (by simp) ?_
          refine AllReadyH.cons (o := _) rfl (fun K hK => ?_) (AllReadyH.cons (o := _) rfl (fun K hK => ?_) AllReadyH.nil)
          · skip
            obtain ⟨c0, c1, c2, c3, c4, c5⟩ := Bx.cells6 (show Bx wr.drew b1 _ 26 from K1.out)
            go_simp
            clear c0 c1 c2 c3 c4 c5
            clear hHeld
            refine hK.out _ _ trivial (fun hHeld => ?_)
            clear hK K
            (try simp only [Act.put, List.getElem_toArray, List.getElem_cons_zero, List.getElem_cons_succ, List.setIfInBounds_toArray, List.set_cons_zero, List.set_cons_succ])
            refine wpAnyH_ready (rs := [3]) (by kernel_rfl) (by simp) ?_
            refine AllReadyH.cons (o := _) rfl (fun K hK => ?_) AllReadyH.nil
            go_simp
            refine (N2.out wr.drew RB.out).mono ?_
            rintro e w2 ⟨rfl, hr, hg⟩
            have HG2 := Lib.hid ((grow_drew (World.grownBy.refl wr (some B))).trans hg)
            have K1_2 := Lib.hid (K1.out.other HG2.out (some_ne hB1)); have K0_2 := Lib.hid (K0.out.other HG2.out (some_ne hB0)); have R2 := Lib.hid hr; have G2 := Lib.hid (GB.out.trans HG2.out)
            have O2 := Lib.hid (OwnR.away HO.out HG2.out (Away.low HBL.out))
            clear hr hg HG2 N2
            clear hHeld
            refine hK.out _ _ trivial (fun hHeld => ?_)
            clear hK K
            (try simp only [Act.put, List.getElem_toArray, List.getElem_cons_zero, List.getElem_cons_succ, List.setIfInBounds_toArray, List.set_cons_zero, List.set_cons_succ])
            refine wpAnyH_take (i := 4) (v := ?_) rfl (by kernel_rfl) (by kernel_rfl) (by kernel_rfl) (fun _ _ _ h => h) (Or.inl ⟨by rfl, ?_⟩) (by assumption) ?_
            rotate_left
            · (intro w hSw; (try dsimp only at hSw); go_simp; try with_reducible rfl)
            (try simp only [Act.put, List.getElem_toArray, List.getElem_cons_zero, List.getElem_cons_succ, List.setIfInBounds_toArray, List.set_cons_zero, List.set_cons_succ])
            have BA := Lib.hid (below_alloc w2 (.cells #[.int .i64 (n - 1)] 3))
            have S2 := Lib.hid (recs_oneG (k := 1) (enc := enc1) (x := n - 1) (t := 3) (heap_alloc_new w2 (.cells #[.int .i64 (n - 1)] 3)))
            have R3 := Lib.hid (R2.out.below BA.out); have G3 := Lib.hid (grow_alloc G2.out (.cells #[.int .i64 (n - 1)] 3)); have K1_3 := Lib.hid (K1_2.out.below BA.out); have K0_3 := Lib.hid (K0_2.out.below BA.out)
            have O3 := Lib.hid (OwnR.below O2.out BA.out)
            have HZ := Lib.hid (show w.heap.size ≤ (w2.alloc (.cells #[.int .i64 (n - 1)] 3)).heap.size from G3.out.size)
            clear R2 G2 K0_2 O2 BA
            refine wpAnyH_ready (rs := [5]) (by kernel_rfl) (by simp) ?_
            refine AllReadyH.cons (o := _) rfl (fun K hK => ?_) AllReadyH.nil
            go_simp
            try rw [HWR.out]
            clear hHeld
            refine hK.out _ _ (trivial) (fun hHeld => ?_)
            clear hK K
            (try simp only [Act.put, List.getElem_toArray, List.getElem_cons_zero, List.getElem_cons_succ, List.setIfInBounds_toArray, List.set_cons_zero, List.set_cons_succ])
            clear K1_2
            obtain ⟨w3, hw3⟩ : ∃ w3, w3 = w2.alloc (.cells #[.int .i64 (n - 1)] 3) := ⟨_, rfl⟩
            obtain ⟨g3, hg3⟩ : ∃ g3, g3 = w2.heap.size := ⟨_, rfl⟩
            rw [← hw3] at S2 R3 G3 K1_3 K0_3 O3 HZ ⊢
            rw [← hg3] at S2 ⊢
            clear hw3 hg3
            have HL1 := Lib.hid (show L.length ≤ 100000 by rw [HLN.out]; omega)
            refine wpAnyH_ready (rs := [6]) (by kernel_rfl) (by simp) ?_
            refine AllReadyH.cons (o := _) rfl (fun K hK => ?_) AllReadyH.nil
            refine step_appG enc1_len (by decide) enc1_one 22 3 8 _ Try.underlying22 inf3n rfl (by decide) (w := w3) (by first | rfl | kernel_rfl) (.tmp 9) (.tmp 13) (by rfl) w.heap.size _ L (by rfl) O3.out ⟨g3, 0, none⟩ 1 1 [(n - 1)] (by rfl) S2.out HL1.out (by decide) HZ.out ?_
            intro v4 w4 ho4 hg4
            clear hHeld
            refine hK.out _ _ trivial (fun hHeld => ?_)
            clear hK K
            (try simp only [Act.put, List.getElem_toArray, List.getElem_cons_zero, List.getElem_cons_succ, List.setIfInBounds_toArray, List.set_cons_zero, List.set_cons_succ])
            obtain ⟨ra4, rc4, rfl, _⟩ := OwnR.recs enc1_len ho4.out
            have K1_4 := Lib.hid (K1_3.out.other hg4.out (ownR_apart O3.out K1_3.out (by decide))); have K0_4 := Lib.hid (K0_3.out.other hg4.out (ownR_apart O3.out K0_3.out (by decide))); have R4 := Lib.hid (R3.out.other hg4.out (ownR_apart O3.out R3.out (by decide))); have G4 := Lib.hid (grow_own O3.out G3.out hg4.out (Nat.le_refl _))
            have O4 := Lib.hid (show OwnN w4 w.heap.size (.slice ra4 (L.length + 1) rc4) (L ++ [n - 1]) from by have := ho4.out; rwa [List.length_append, List.length_singleton] at this)
            refine wpAnyH_take (i := 7) (v := ?_) rfl (by kernel_rfl) (by kernel_rfl) (by kernel_rfl) (fun _ _ _ h => h) (Or.inl ⟨by rfl, ?_⟩) (by assumption) ?_
            rotate_left
            · (intro w hSw; (try dsimp only at hSw); go_simp; try with_reducible rfl)
            (try simp only [Act.put, List.getElem_toArray, List.getElem_cons_zero, List.getElem_cons_succ, List.setIfInBounds_toArray, List.set_cons_zero, List.set_cons_succ])
            have l1 := Bx.lt K1_4.out
            have f1 := Bx.froz K1_4.out 0
            obtain ⟨c0, c1, c2, c3, c4, c5⟩ := K1_4.out.cells6
            refine wpAnyH_ready (rs := [8]) (by kernel_rfl) (by simp) ?_
            refine AllReadyH.cons (o := _) rfl (fun K hK => ?_) AllReadyH.nil
            go_simp
            clear c0 c1 c2 c3 c4 c5 f1 l1
            clear hHeld
            refine hK.out _ _ (trivial) (fun hHeld => ?_)
            clear hK K
            (try simp only [Act.put, List.getElem_toArray, List.getElem_cons_zero, List.getElem_cons_succ, List.setIfInBounds_toArray, List.set_cons_zero, List.set_cons_succ])
            refine wpAnyH_done (by kernel_rfl) ?_ _
            clear hHeld
            have K1_5 := Lib.hid (K1_4.out.set 0 (.slice ra4 (L.length + 1) rc4)); have K0_5 := Lib.hid (K0_4.out.other (grow_setCell w4 b1 0 (.slice ra4 (L.length + 1) rc4)) (some_ne h01)); have R5 := Lib.hid (R4.out.other (grow_setCell w4 b1 0 (.slice ra4 (L.length + 1) rc4)) (some_ne hB1.symm)); have G5 := Lib.hid (grow_local G4.out (grow_setCell w4 b1 0 (.slice ra4 (L.length + 1) rc4)) HB1.out)
            have O5 := Lib.hid (OwnR.away O4.out (grow_setCell w4 b1 0 (.slice ra4 (L.length + 1) rc4)) (Away.box K1_4.out (by decide)))
            go_wp2_with fail
            go_roundw
            case rel => exact ⟨k + 1, by omega, by go_num, L ++ [n - 1], j', _, HR.out, HJ2.out, fun y hy => by rcases List.mem_append.1 hy with h1 | h1; exact HOK.out y h1; simp at h1; subst h1; exact HN1.out, O5.out, K1_5.out, K0_5.out, R5.out, G5.out⟩
            case measure => simp [intOf]; omega
          · skip
            go_simp
            refine (N2.out wr.drew RB.out).mono ?_
            rintro e w2 ⟨rfl, hr, hg⟩
            have HG2 := Lib.hid ((grow_drew (World.grownBy.refl wr (some B))).trans hg)
            have K1_2 := Lib.hid (K1.out.other HG2.out (some_ne hB1)); have K0_2 := Lib.hid (K0.out.other HG2.out (some_ne hB0)); have R2 := Lib.hid hr; have G2 := Lib.hid (GB.out.trans HG2.out)
            have O2 := Lib.hid (OwnR.away HO.out HG2.out (Away.low HBL.out))
            clear hr hg HG2 N2
            clear hHeld
            refine hK.out _ _ trivial (fun hHeld => ?_)
            clear hK K
            (try simp only [Act.put, List.getElem_toArray, List.getElem_cons_zero, List.getElem_cons_succ, List.setIfInBounds_toArray, List.set_cons_zero, List.set_cons_succ])
            refine wpAnyH_take (i := 4) (v := ?_) rfl (by kernel_rfl) (by kernel_rfl) (by kernel_rfl) (fun _ _ _ h => h) (Or.inl ⟨by rfl, ?_⟩) (by assumption) ?_
            rotate_left
            · (intro w hSw; (try dsimp only at hSw); go_simp; try with_reducible rfl)
            (try simp only [Act.put, List.getElem_toArray, List.getElem_cons_zero, List.getElem_cons_succ, List.setIfInBounds_toArray, List.set_cons_zero, List.set_cons_succ])
            have BA := Lib.hid (below_alloc w2 (.cells #[.int .i64 (n - 1)] 3))
            have S2 := Lib.hid (recs_oneG (k := 1) (enc := enc1) (x := n - 1) (t := 3) (heap_alloc_new w2 (.cells #[.int .i64 (n - 1)] 3)))
            have R3 := Lib.hid (R2.out.below BA.out); have G3 := Lib.hid (grow_alloc G2.out (.cells #[.int .i64 (n - 1)] 3)); have K1_3 := Lib.hid (K1_2.out.below BA.out); have K0_3 := Lib.hid (K0_2.out.below BA.out)
            have O3 := Lib.hid (OwnR.below O2.out BA.out)
            have HZ := Lib.hid (show w.heap.size ≤ (w2.alloc (.cells #[.int .i64 (n - 1)] 3)).heap.size from G3.out.size)
            clear R2 G2 K0_2 O2 BA
            refine wpAnyH_ready (rs := [1, 5]) (by kernel_rfl) (by simp) ?_
            refine AllReadyH.cons (o := _) rfl (fun K hK => ?_) (AllReadyH.cons (o := _) rfl (fun K hK => ?_) AllReadyH.nil)
            · skip
              obtain ⟨c0, c1, c2, c3, c4, c5⟩ := Bx.cells6 (show Bx w2 b1 _ 26 from K1_2.out)
              go_simp
              clear c0 c1 c2 c3 c4 c5
              clear hHeld
              refine hK.out _ _ trivial (fun hHeld => ?_)
              clear hK K
              (try simp only [Act.put, List.getElem_toArray, List.getElem_cons_zero, List.getElem_cons_succ, List.setIfInBounds_toArray, List.set_cons_zero, List.set_cons_succ])
              refine wpAnyH_ready (rs := [5]) (by kernel_rfl) (by simp) ?_
              refine AllReadyH.cons (o := _) rfl (fun K hK => ?_) AllReadyH.nil
              go_simp
              try rw [HWR.out]
              clear hHeld
              refine hK.out _ _ (trivial) (fun hHeld => ?_)
              clear hK K
              (try simp only [Act.put, List.getElem_toArray, List.getElem_cons_zero, List.getElem_cons_succ, List.setIfInBounds_toArray, List.set_cons_zero, List.set_cons_succ])
              clear K1_2
              obtain ⟨w3, hw3⟩ : ∃ w3, w3 = w2.alloc (.cells #[.int .i64 (n - 1)] 3) := ⟨_, rfl⟩
              obtain ⟨g3, hg3⟩ : ∃ g3, g3 = w2.heap.size := ⟨_, rfl⟩
              rw [← hw3] at S2 R3 G3 K1_3 K0_3 O3 HZ ⊢
              rw [← hg3] at S2 ⊢
              clear hw3 hg3
              have HL1 := Lib.hid (show L.length ≤ 100000 by rw [HLN.out]; omega)
              refine wpAnyH_ready (rs := [6]) (by kernel_rfl) (by simp) ?_
              refine AllReadyH.cons (o := _) rfl (fun K hK => ?_) AllReadyH.nil
              refine step_appG enc1_len (by decide) enc1_one 22 3 8 _ Try.underlying22 inf3n rfl (by decide) (w := w3) (by first | rfl | kernel_rfl) (.tmp 9) (.tmp 13) (by rfl) w.heap.size _ L (by rfl) O3.out ⟨g3, 0, none⟩ 1 1 [(n - 1)] (by rfl) S2.out HL1.out (by decide) HZ.out ?_
              intro v4 w4 ho4 hg4
              clear hHeld
              refine hK.out _ _ trivial (fun hHeld => ?_)
              clear hK K
              (try simp only [Act.put, List.getElem_toArray, List.getElem_cons_zero, List.getElem_cons_succ, List.setIfInBounds_toArray, List.set_cons_zero, List.set_cons_succ])
              obtain ⟨ra4, rc4, rfl, _⟩ := OwnR.recs enc1_len ho4.out
              have K1_4 := Lib.hid (K1_3.out.other hg4.out (ownR_apart O3.out K1_3.out (by decide))); have K0_4 := Lib.hid (K0_3.out.other hg4.out (ownR_apart O3.out K0_3.out (by decide))); have R4 := Lib.hid (R3.out.other hg4.out (ownR_apart O3.out R3.out (by decide))); have G4 := Lib.hid (grow_own O3.out G3.out hg4.out (Nat.le_refl _))
              have O4 := Lib.hid (show OwnN w4 w.heap.size (.slice ra4 (L.length + 1) rc4) (L ++ [n - 1]) from by have := ho4.out; rwa [List.length_append, List.length_singleton] at this)
              refine wpAnyH_take (i := 7) (v := ?_) rfl (by kernel_rfl) (by kernel_rfl) (by kernel_rfl) (fun _ _ _ h => h) (Or.inl ⟨by rfl, ?_⟩) (by assumption) ?_
              rotate_left
              · (intro w hSw; (try dsimp only at hSw); go_simp; try with_reducible rfl)
              (try simp only [Act.put, List.getElem_toArray, List.getElem_cons_zero, List.getElem_cons_succ, List.setIfInBounds_toArray, List.set_cons_zero, List.set_cons_succ])
              have l1 := Bx.lt K1_4.out
              have f1 := Bx.froz K1_4.out 0
              obtain ⟨c0, c1, c2, c3, c4, c5⟩ := K1_4.out.cells6
              refine wpAnyH_ready (rs := [8]) (by kernel_rfl) (by simp) ?_
              refine AllReadyH.cons (o := _) rfl (fun K hK => ?_) AllReadyH.nil
              go_simp
              clear c0 c1 c2 c3 c4 c5 f1 l1
              clear hHeld
              refine hK.out _ _ (trivial) (fun hHeld => ?_)
              clear hK K
              (try simp only [Act.put, List.getElem_toArray, List.getElem_cons_zero, List.getElem_cons_succ, List.setIfInBounds_toArray, List.set_cons_zero, List.set_cons_succ])
              refine wpAnyH_done (by kernel_rfl) ?_ _
              clear hHeld
              have K1_5 := Lib.hid (K1_4.out.set 0 (.slice ra4 (L.length + 1) rc4)); have K0_5 := Lib.hid (K0_4.out.other (grow_setCell w4 b1 0 (.slice ra4 (L.length + 1) rc4)) (some_ne h01)); have R5 := Lib.hid (R4.out.other (grow_setCell w4 b1 0 (.slice ra4 (L.length + 1) rc4)) (some_ne hB1.symm)); have G5 := Lib.hid (grow_local G4.out (grow_setCell w4 b1 0 (.slice ra4 (L.length + 1) rc4)) HB1.out)
              have O5 := Lib.hid (OwnR.away O4.out (grow_setCell w4 b1 0 (.slice ra4 (L.length + 1) rc4)) (Away.box K1_4.out (by decide)))
              go_wp2_with fail
              go_roundw
              case rel => exact ⟨k + 1, by omega, by go_num, L ++ [n - 1], j', _, HR.out, HJ2.out, fun y hy => by rcases List.mem_append.1 hy with h1 | h1; exact HOK.out y h1; simp at h1; subst h1; exact HN1.out, O5.out, K1_5.out, K0_5.out, R5.out, G5.out⟩
              case measure => simp [intOf]; omega
            · skip
              go_simp
              try rw [HWR.out]
              clear hHeld
              refine hK.out _ _ trivial (fun hHeld => ?_)
              clear hK K
              (try simp only [Act.put, List.getElem_toArray, List.getElem_cons_zero, List.getElem_cons_succ, List.setIfInBounds_toArray, List.set_cons_zero, List.set_cons_succ])
              clear K1_2
              obtain ⟨w3, hw3⟩ : ∃ w3, w3 = w2.alloc (.cells #[.int .i64 (n - 1)] 3) := ⟨_, rfl⟩
              obtain ⟨g3, hg3⟩ : ∃ g3, g3 = w2.heap.size := ⟨_, rfl⟩
              rw [← hw3] at S2 R3 G3 K1_3 K0_3 O3 HZ ⊢
              rw [← hg3] at S2 ⊢
              clear hw3 hg3
              refine wpAnyH_ready (rs := [1]) (by kernel_rfl) (by simp) ?_
              refine AllReadyH.cons (o := _) rfl (fun K hK => ?_) AllReadyH.nil
              obtain ⟨c0, c1, c2, c3, c4, c5⟩ := Bx.cells6 (show Bx w3 b1 _ 26 from K1_3.out)
              go_simp
              clear c0 c1 c2 c3 c4 c5
              clear hHeld
              refine hK.out _ _ trivial (fun hHeld => ?_)
              clear hK K
              (try simp only [Act.put, List.getElem_toArray, List.getElem_cons_zero, List.getElem_cons_succ, List.setIfInBounds_toArray, List.set_cons_zero, List.set_cons_succ])
              have HL1 := Lib.hid (show L.length ≤ 100000 by rw [HLN.out]; omega)
              refine wpAnyH_ready (rs := [6]) (by kernel_rfl) (by simp) ?_
              refine AllReadyH.cons (o := _) rfl (fun K hK => ?_) AllReadyH.nil
              refine step_appG enc1_len (by decide) enc1_one 22 3 8 _ Try.underlying22 inf3n rfl (by decide) (w := w3) (by first | rfl | kernel_rfl) (.tmp 9) (.tmp 13) (by rfl) w.heap.size _ L (by rfl) O3.out ⟨g3, 0, none⟩ 1 1 [(n - 1)] (by rfl) S2.out HL1.out (by decide) HZ.out ?_
              intro v4 w4 ho4 hg4
              clear hHeld
              refine hK.out _ _ trivial (fun hHeld => ?_)
              clear hK K
              (try simp only [Act.put, List.getElem_toArray, List.getElem_cons_zero, List.getElem_cons_succ, List.setIfInBounds_toArray, List.set_cons_zero, List.set_cons_succ])
              obtain ⟨ra4, rc4, rfl, _⟩ := OwnR.recs enc1_len ho4.out
              have K1_4 := Lib.hid (K1_3.out.other hg4.out (ownR_apart O3.out K1_3.out (by decide))); have K0_4 := Lib.hid (K0_3.out.other hg4.out (ownR_apart O3.out K0_3.out (by decide))); have R4 := Lib.hid (R3.out.other hg4.out (ownR_apart O3.out R3.out (by decide))); have G4 := Lib.hid (grow_own O3.out G3.out hg4.out (Nat.le_refl _))
              have O4 := Lib.hid (show OwnN w4 w.heap.size (.slice ra4 (L.length + 1) rc4) (L ++ [n - 1]) from by have := ho4.out; rwa [List.length_append, List.length_singleton] at this)
              refine wpAnyH_take (i := 7) (v := ?_) rfl (by kernel_rfl) (by kernel_rfl) (by kernel_rfl) (fun _ _ _ h => h) (Or.inl ⟨by rfl, ?_⟩) (by assumption) ?_
              rotate_left
              · (intro w hSw; (try dsimp only at hSw); go_simp; try with_reducible rfl)
              (try simp only [Act.put, List.getElem_toArray, List.getElem_cons_zero, List.getElem_cons_succ, List.setIfInBounds_toArray, List.set_cons_zero, List.set_cons_succ])
              have l1 := Bx.lt K1_4.out
              have f1 := Bx.froz K1_4.out 0
              obtain ⟨c0, c1, c2, c3, c4, c5⟩ := K1_4.out.cells6
              refine wpAnyH_ready (rs := [8]) (by kernel_rfl) (by simp) ?_
              refine AllReadyH.cons (o := _) rfl (fun K hK => ?_) AllReadyH.nil
              go_simp
              clear c0 c1 c2 c3 c4 c5 f1 l1
              clear hHeld
              refine hK.out _ _ (trivial) (fun hHeld => ?_)
              clear hK K
              (try simp only [Act.put, List.getElem_toArray, List.getElem_cons_zero, List.getElem_cons_succ, List.setIfInBounds_toArray, List.set_cons_zero, List.set_cons_succ])
              refine wpAnyH_done (by kernel_rfl) ?_ _
              clear hHeld
              have K1_5 := Lib.hid (K1_4.out.set 0 (.slice ra4 (L.length + 1) rc4)); have K0_5 := Lib.hid (K0_4.out.other (grow_setCell w4 b1 0 (.slice ra4 (L.length + 1) rc4)) (some_ne h01)); have R5 := Lib.hid (R4.out.other (grow_setCell w4 b1 0 (.slice ra4 (L.length + 1) rc4)) (some_ne hB1.symm)); have G5 := Lib.hid (grow_local G4.out (grow_setCell w4 b1 0 (.slice ra4 (L.length + 1) rc4)) HB1.out)
              have O5 := Lib.hid (OwnR.away O4.out (grow_setCell w4 b1 0 (.slice ra4 (L.length + 1) rc4)) (Away.box K1_4.out (by decide)))
              go_wp2_with fail
              go_roundw
              case rel => exact ⟨k + 1, by omega, by go_num, L ++ [n - 1], j', _, HR.out, HJ2.out, fun y hy => by rcases List.mem_append.1 hy with h1 | h1; exact HOK.out y h1; simp at h1; subst h1; exact HN1.out, O5.out, K1_5.out, K0_5.out, R5.out, G5.out⟩
              case measure => simp [intOf]; omega
      · have hke : k = m := by omega
        subst hke
        have HC4 := Lib.hid (show L.length ≤ 4 by rw [HLN.out]; exact hm4)
        have HP1b := Lib.hid (show prgP (tx s) i = prg2 (tx s) L j by rw [HP1.out, HREP.out]; rfl)
        have HCI := HOK
        have OC := HO
        clear HO HREP HLN hm4 HOK
        obtain ⟨caps, hcaps⟩ : ∃ caps, caps = L := ⟨_, rfl⟩
        obtain ⟨ca, hca⟩ : ∃ ca, ca = ra := ⟨_, rfl⟩
        obtain ⟨cc, hcc⟩ : ∃ cc, cc = rc := ⟨_, rfl⟩
        obtain ⟨cn, hcn⟩ : ∃ cn, cn = L.length := ⟨_, rfl⟩
        rw [← hcn] at OC K1
        clear hcn
        subst hcaps hca hcc
        cases hmu : nP (tx s) j with
        | no c =>
          have N1 := Lib.hid (fun W H => number_no s B j W H HJ.out hs hmu)
          have HP := Lib.hid (show prgP (tx s) i = .no c by rw [HP1b.out]; simp only [prg2, hmu, Res.bind])
          unfold GaveUp gaveUp at N1
          clear hmu
          go_wp2_with fail
          refine (N1.out _ RB.out).mono ?_
          rintro e wz ⟨rfl, hg⟩
          refine ⟨rfl, ?_⟩
          rw [HQ.out]; exact Post.no HP.out (GB.out.trans hg)
        | ok mu ja =>
          have Nmu := Lib.hid (fun W H => number_ok s B j W H HJ.out hs hmu)
          unfold GotV at Nmu
          obtain ⟨_, hjn, hmu0, hmu1⟩ := nP_ok HT.out HJ.out hmu
          have HJmu := HJ
          clear HJ
          have HJ := Lib.hid hjn
          clear hjn
          cases hon : nP (tx s) ja with
          | no c =>
            have N1 := Lib.hid (fun W H => number_no s B ja W H HJ.out hs hon)
            have HP := Lib.hid (show prgP (tx s) i = .no c by rw [HP1b.out]; simp only [prg2, hmu, hon, Res.bind])
            unfold GaveUp gaveUp at N1
            clear hmu hon
            go_wp2_with fail
            refine (Nmu.out _ RB.out).mono ?_
            rintro e w2 ⟨rfl, hr, hg⟩
            have GBn := Lib.hid (GB.out.trans hg); have RBn := Lib.hid hr
            clear hr hg RB GB
            have GB := GBn; have RB := RBn
            clear GBn RBn
            go_wp2_with fail
            refine (N1.out _ RB.out).mono ?_
            rintro e wz ⟨rfl, hg⟩
            refine ⟨rfl, ?_⟩
            rw [HQ.out]; exact Post.no HP.out (GB.out.trans hg)
          | ok on jb =>
            have Non := Lib.hid (fun W H => number_ok s B ja W H HJ.out hs hon)
            unfold GotV at Non
            obtain ⟨_, hjn, hon0, hon1⟩ := nP_ok HT.out HJ.out hon
            have HJon := HJ
            clear HJ
            have HJ := Lib.hid hjn
            clear hjn
            cases hva : nP (tx s) jb with
            | no c =>
              have N1 := Lib.hid (fun W H => number_no s B jb W H HJ.out hs hva)
              have HP := Lib.hid (show prgP (tx s) i = .no c by rw [HP1b.out]; simp only [prg2, hmu, hon, hva, Res.bind])
              unfold GaveUp gaveUp at N1
              clear hmu hon hva
              go_wp2_with fail
              refine (Nmu.out _ RB.out).mono ?_
              rintro e w2 ⟨rfl, hr, hg⟩
              have GBn := Lib.hid (GB.out.trans hg); have RBn := Lib.hid hr
              clear hr hg RB GB
              have GB := GBn; have RB := RBn
              clear GBn RBn
              go_wp2_with fail
              refine (Non.out _ RB.out).mono ?_
              rintro e w2 ⟨rfl, hr, hg⟩
              have GBn := Lib.hid (GB.out.trans hg); have RBn := Lib.hid hr
              clear hr hg RB GB
              have GB := GBn; have RB := RBn
              clear GBn RBn
              go_wp2_with fail
              refine (N1.out _ RB.out).mono ?_
              rintro e wz ⟨rfl, hg⟩
              refine ⟨rfl, ?_⟩
              rw [HQ.out]; exact Post.no HP.out (GB.out.trans hg)
            | ok va jc =>
              have Nva := Lib.hid (fun W H => number_ok s B jb W H HJ.out hs hva)
              unfold GotV at Nva
              obtain ⟨_, hjn, hva0, hva1⟩ := nP_ok HT.out HJ.out hva
              have HJva := HJ
              clear HJ
              have HJ := Lib.hid hjn
              clear hjn
              have HMU := Lib.hid (show I64 mu ∧ I64 on ∧ I64 va from ⟨i64m hmu0 hmu1, i64m hon0 hon1, i64m hva0 hva1⟩)
              have HP1c := Lib.hid (show prgP (tx s) i = (sizeP (tx s) 4 jc).bind fun m j5 => (repP (selP (tx s)) m.toNat j5).bind fun sels j6 => prg4 (tx s) caps mu on va sels j6 by rw [HP1b.out]; unfold prg2; rw [hmu]; simp only [Res.bind]; rw [hon]; simp only [Res.bind]; rw [hva]; rfl)
              clear hmu hon hva hmu0 hmu1 hon0 hon1 hva0 hva1
              go_wp2_with fail
              refine (Nmu.out _ RB.out).mono ?_
              rintro e w2 ⟨rfl, hr, hg⟩
              have GBn := Lib.hid (GB.out.trans hg); have RBn := Lib.hid hr; have K0n := Lib.hid (K0.out.other hg (some_ne hB0)); have K1n := Lib.hid (K1.out.other hg (some_ne hB1)); have OCn := Lib.hid (OwnR.away OC.out hg (Away.low HBL.out))
              clear hr hg RB GB K0 K1 OC
              have GB := GBn; have RB := RBn; have K0 := K0n; have K1 := K1n; have OC := OCn
              clear GBn RBn K0n K1n OCn Nmu
              go_wp2_with fail
              refine (Non.out _ RB.out).mono ?_
              rintro e w2 ⟨rfl, hr, hg⟩
              have GBn := Lib.hid (GB.out.trans hg); have RBn := Lib.hid hr; have K0n := Lib.hid (K0.out.other hg (some_ne hB0)); have K1n := Lib.hid (K1.out.other hg (some_ne hB1)); have OCn := Lib.hid (OwnR.away OC.out hg (Away.low HBL.out))
              clear hr hg RB GB K0 K1 OC
              have GB := GBn; have RB := RBn; have K0 := K0n; have K1 := K1n; have OC := OCn
              clear GBn RBn K0n K1n OCn Non
              go_wp2_with fail
              refine (Nva.out _ RB.out).mono ?_
              rintro e w2 ⟨rfl, hr, hg⟩
              have GBn := Lib.hid (GB.out.trans hg); have RBn := Lib.hid hr; have K0n := Lib.hid (K0.out.other hg (some_ne hB0)); have K1n := Lib.hid (K1.out.other hg (some_ne hB1)); have OCn := Lib.hid (OwnR.away OC.out hg (Away.low HBL.out))
              clear hr hg RB GB K0 K1 OC
              have GB := GBn; have RB := RBn; have K0 := K0n; have K1 := K1n; have OC := OCn
              clear GBn RBn K0n K1n OCn Nva
              have l1 := Bx.lt K1.out
              have f1 := Bx.froz K1.out 1; have f2 := Bx.froz K1.out 2; have f3 := Bx.froz K1.out 3
              obtain ⟨x0, x1, x2, x3, x4, x5⟩ := K1.out.cells6
              go_upto_region 7 with (fail)
              clear x0 x1 x2 x3 x4 x5 f1 f2 f3 l1
              obtain ⟨wq, hwq⟩ : ∃ wq, wq = w2 := ⟨_, rfl⟩
              have SG := Lib.hid (grow_set (grow_set (grow_set (World.grownBy.refl w2 (some b1)) 1 (.int .i64 mu)) 2 (.int .i64 on)) 3 (.int .i64 va))
              have K1n := Lib.hid (show Bx (((w2.setCell ⟨b1, 1, none⟩ (.int .i64 mu)).setCell ⟨b1, 2, none⟩ (.int .i64 on)).setCell ⟨b1, 3, none⟩ (.int .i64 va)) b1 #[.slice ca cn cc, .int .i64 mu, .int .i64 on, .int .i64 va, .slice none 0 0, .slice none 0 0] 26 from ((K1.out.set 1 (.int .i64 mu)).set 2 (.int .i64 on)).set 3 (.int .i64 va))
              have K0n := Lib.hid (K0.out.other SG.out (some_ne h01)); have RBn := Lib.hid (RB.out.other SG.out (some_ne hB1.symm)); have GBn := Lib.hid (grow_local GB.out SG.out HB1.out)
              have OCn := Lib.hid (OwnR.away OC.out SG.out (Away.box K1.out (by decide)))
              obtain ⟨w5, hw5⟩ : ∃ w5, w5 = ((w2.setCell ⟨b1, 1, none⟩ (.int .i64 mu)).setCell ⟨b1, 2, none⟩ (.int .i64 on)).setCell ⟨b1, 3, none⟩ (.int .i64 va) := ⟨_, rfl⟩
              rw [← hw5] at K1n K0n RBn GBn OCn ⊢
              clear hw5 hwq wq RB GB K0 K1 OC SG
              have GB := GBn; have RB := RBn; have K0 := K0n; have K1 := K1n; have OC := OCn
              clear GBn RBn K0n K1n OCn
              cases hz : sizeP (tx s) 4 jc with
              | no c =>
                have N1 := Lib.hid (fun W H => size_no s B jc 4 W H HJ.out hs hz)
                have HP := Lib.hid (show prgP (tx s) i = .no c by rw [HP1c.out, hz]; rfl)
                unfold GaveUp gaveUp at N1
                clear hz
                go_wp2_with fail
                refine (N1.out _ RB.out).mono ?_
                rintro e wz ⟨rfl, hg⟩
                refine ⟨rfl, ?_⟩
                rw [HQ.out]; exact Post.no HP.out (GB.out.trans hg)
              | ok n j0 =>
                obtain ⟨hj0, hn0, hn4⟩ := sizeP_ok HT.out HJ.out hz
                obtain ⟨m, rfl⟩ : ∃ m : Nat, n = (m : Int) := ⟨n.toNat, by omega⟩
                have N1 := Lib.hid (fun W H => size_ok s B jc 4 W H HJ.out hs hz)
                have HP2 := Lib.hid (show prgP (tx s) i = (repP (selP (tx s)) m j0).bind fun sels j6 => prg4 (tx s) caps mu on va sels j6 by rw [HP1c.out, hz]; rfl)
                unfold GotV at N1
                have hm4 : m ≤ 4 := by omega
                clear HJ
                have HJ := Lib.hid hj0
                clear hz hj0 hn0 hn4
                go_wp2_with fail
                refine (N1.out _ RB.out).mono ?_
                rintro e w2 ⟨rfl, hr, hg⟩
                have RBn := Lib.hid hr; have GBn := Lib.hid (GB.out.trans hg); have K0n := Lib.hid (K0.out.other hg (some_ne hB0)); have K1n := Lib.hid (K1.out.other hg (some_ne hB1))
                have OCn := Lib.hid (OwnR.away OC.out hg (Away.low HBL.out))
                clear hr hg N1 RB GB K0 K1 OC
                have RB := RBn; have GB := GBn; have K0 := K0n; have K1 := K1n; have OC := OCn
                clear RBn GBn K0n K1n OCn
                go_wp2_with fail
                go_loopw [28] (fun i wr => ∃ k : Nat, k ≤ m ∧ i = .int .i64 k ∧ ∃ L j v, repP (selP (tx s)) k j0 = .ok L j ∧ j ≤ (tx s).length ∧ True ∧ OSels wr w.heap.size (v) L ∧ OwnN wr w.heap.size (.slice ca cn cc) caps ∧ Bx wr b1 #[.slice ca cn cc, .int .i64 mu, .int .i64 on, .int .i64 va, v, .slice none 0 0] 26 ∧ Bx wr b0 #[.slice none 0 0, .int .i64 0, .int .i64 0, .int .i64 0, .slice none 0 0, .slice none 0 0] 26 ∧ Rd wr B s j ∧ w.grownBy wr (some B)) (fun i _ => m - (intOf i).toNat)
                case atStart => exact ⟨0, Nat.zero_le _, rfl, [], j0, _, rfl, HJ.out, trivial, OSels.nil _ _, OC.out, K1.out, K0.out, RB.out, GB.out⟩
                case round =>
                  clear RB GB K1 K0 HJ OC
                  obtain ⟨k, hk, rfl, L, j, v, hrep, hj, hok, hown, hOC, hk1, hk0, hr, hg⟩ := hrel
                  obtain ⟨ra, rc, rfl⟩ := OSels.parts hown
                  have HREP := Lib.hid hrep; have HJ := Lib.hid hj; have HOK := Lib.hid hok; have HO := Lib.hid hown; have RB := Lib.hid hr; have GB := Lib.hid hg; have K0 := Lib.hid hk0; have K1 := Lib.hid hk1; have OC := Lib.hid hOC
                  have HLN := Lib.hid (repP_len hrep)
                  clear hrep hok hown hr hg hk0 hk1 hOC
                  by_cases hlt : k < m
                  · have hlt' : (k : Int) < (m : Int) := by omega
                    cases hf : selP (tx s) j with
                    | no c =>
                      have N2 := Lib.hid (fun W H => choice_no s B j W H hj hs hf)
                      have HR := Lib.hid (show prgP (tx s) i = .no c by rw [HP2.out, repP_no HREP.out hf hlt]; rfl)
                      unfold GaveUp gaveUp at N2
                      clear hj hf
                      have KC := Lib.hid K1.out.cells6
                      go_upto_region 9 with (fail)
                      refine wp_region_held_drew (S := (fun _ => True)) (by kernel_rfl) (trivial) (fun hHeld => ?_)
                      (try simp only [Act.put, List.getElem_toArray, List.getElem_cons_zero, List.getElem_cons_succ, List.setIfInBounds_toArray, List.set_cons_zero, List.set_cons_succ])
                      refine wpAnyH_take (i := 0) (v := ?_) rfl (by kernel_rfl) (by kernel_rfl) (by kernel_rfl) (fun _ _ _ h => h) (Or.inl ⟨by rfl, ?_⟩) (by assumption) ?_
                      rotate_left
                      · (intro w hSw; (try dsimp only at hSw); go_simp; try with_reducible rfl)
                      (try simp only [Act.put, List.getElem_toArray, List.getElem_cons_zero, List.getElem_cons_succ, List.setIfInBounds_toArray, List.set_cons_zero, List.set_cons_succ])
                      refine wpAnyH_take (i := 2) (v := ?_) rfl (by kernel_rfl) (by kernel_rfl) (by kernel_rfl) (fun _ _ _ h => h) (Or.inl ⟨by rfl, ?_⟩) (by assumption) ?_
                      rotate_left
                      · (intro w hSw; (try dsimp only at hSw); go_simp; try with_reducible rfl)
                      (try simp only [Act.put, List.getElem_toArray, List.getElem_cons_zero, List.getElem_cons_succ, List.setIfInBounds_toArray, List.set_cons_zero, List.set_cons_succ])
                      refine wpAnyH_ready (rs := [1, 3]) (by kernel_rfl) (by simp) ?_
                      refine AllReadyH.cons (o := _) rfl (fun K hK => ?_) (AllReadyH.cons (o := _) rfl (fun K hK => ?_) AllReadyH.nil)
                      ·
                        obtain ⟨c0, c1, c2, c3, c4, c5⟩ := Bx.cells6 (show Bx wr.drew b1 _ 26 from K1.out)
                        go_simp
                        clear c0 c1 c2 c3 c4 c5
                        clear hHeld
                        refine hK.out _ _ trivial (fun hHeld => ?_)
                        clear hK K
                        (try simp only [Act.put, List.getElem_toArray, List.getElem_cons_zero, List.getElem_cons_succ, List.setIfInBounds_toArray, List.set_cons_zero, List.set_cons_succ])
                        refine wpAnyH_ready (rs := [3]) (by kernel_rfl) (by simp) ?_
                        refine AllReadyH.cons (o := _) rfl (fun K hK => ?_) AllReadyH.nil
                        go_simp
                        refine (N2.out wr.drew RB.out).mono ?_
                        rintro e wz ⟨rfl, hg⟩
                        refine ⟨rfl, ?_⟩
                        rw [HQ.out]; exact Post.no HR.out ((grow_drew GB.out).trans hg)
                      · skip
                        go_simp
                        refine (N2.out wr.drew RB.out).mono ?_
                        rintro e wz ⟨rfl, hg⟩
                        refine ⟨rfl, ?_⟩
                        rw [HQ.out]; exact Post.no HR.out ((grow_drew GB.out).trans hg)
                    | ok x j' =>
                      have N2 := Lib.hid (fun W H => choice_ok s B j W H hj hs hf)
                      have HJ2 := Lib.hid (selP_ok HT.out hj hf)
                      have HR := Lib.hid (repP_ok HREP.out hf)
                      clear hj hf
                      go_upto_region 9 with (fail)
                      refine wp_region_held_drew (S := (fun _ => True)) (by kernel_rfl) (trivial) (fun hHeld => ?_)
                      (try simp only [Act.put, List.getElem_toArray, List.getElem_cons_zero, List.getElem_cons_succ, List.setIfInBounds_toArray, List.set_cons_zero, List.set_cons_succ])
                      refine wpAnyH_take (i := 0) (v := ?_) rfl (by kernel_rfl) (by kernel_rfl) (by kernel_rfl) (fun _ _ _ h => h) (Or.inl ⟨by rfl, ?_⟩) (by assumption) ?_
                      rotate_left
                      · (intro w hSw; (try dsimp only at hSw); go_simp; try with_reducible rfl)
                      (try simp only [Act.put, List.getElem_toArray, List.getElem_cons_zero, List.getElem_cons_succ, List.setIfInBounds_toArray, List.set_cons_zero, List.set_cons_succ])
                      refine wpAnyH_take (i := 2) (v := ?_) rfl (by kernel_rfl) (by kernel_rfl) (by kernel_rfl) (fun _ _ _ h => h) (Or.inl ⟨by rfl, ?_⟩) (by assumption) ?_
                      rotate_left
                      · (intro w hSw; (try dsimp only at hSw); go_simp; try with_reducible rfl)
                      (try simp only [Act.put, List.getElem_toArray, List.getElem_cons_zero, List.getElem_cons_succ, List.setIfInBounds_toArray, List.set_cons_zero, List.set_cons_succ])
                      refine wpAnyH_ready (rs := [1, 3]) (by kernel_rfl) (by simp) ?_
                      refine AllReadyH.cons (o := _) rfl (fun K hK => ?_) (AllReadyH.cons (o := _) rfl (fun K hK => ?_) AllReadyH.nil)
                      · skip
                        obtain ⟨c0, c1, c2, c3, c4, c5⟩ := Bx.cells6 (show Bx wr.drew b1 _ 26 from K1.out)
                        go_simp
                        clear c0 c1 c2 c3 c4 c5
                        clear hHeld
                        refine hK.out _ _ trivial (fun hHeld => ?_)
                        clear hK K
                        (try simp only [Act.put, List.getElem_toArray, List.getElem_cons_zero, List.getElem_cons_succ, List.setIfInBounds_toArray, List.set_cons_zero, List.set_cons_succ])
                        refine wpAnyH_ready (rs := [3]) (by kernel_rfl) (by simp) ?_
                        refine AllReadyH.cons (o := _) rfl (fun K hK => ?_) AllReadyH.nil
                        go_simp
                        refine (N2.out wr.drew RB.out).mono ?_
                        rintro e w2 ⟨r, rfl, hx, hr, hg⟩
                        have HG2 := Lib.hid ((grow_drew (World.grownBy.refl wr (some B))).trans hg)
                        have K1_2 := Lib.hid (K1.out.other HG2.out (some_ne hB1)); have K0_2 := Lib.hid (K0.out.other HG2.out (some_ne hB0)); have R2 := Lib.hid hr; have G2 := Lib.hid (GB.out.trans HG2.out)
                        have X2 := Lib.hid (hx.mono (show w.heap.size ≤ wr.drew.heap.size from GB.out.size))
                        clear hx
                        have O2 := Lib.hid (OSels.away HO.out HG2.out (Away.low HBL.out) (Away.low HBL.out))
                        have OC_2 := Lib.hid (OwnR.away OC.out HG2.out (Away.low HBL.out))
                        clear hr hg HG2 N2
                        clear hHeld
                        refine hK.out _ _ trivial (fun hHeld => ?_)
                        clear hK K
                        (try simp only [Act.put, List.getElem_toArray, List.getElem_cons_zero, List.getElem_cons_succ, List.setIfInBounds_toArray, List.set_cons_zero, List.set_cons_succ])
                        have BA := Lib.hid (below_alloc w2 (.cells #[.slice r.a r.n r.c, .bool r.d] 47))
                        have S2 := Lib.hid (recs_oneG (k := 2) (enc := encS) (x := r) (t := 47) (heap_alloc_new w2 (.cells #[.slice r.a r.n r.c, .bool r.d] 47)))
                        have R3 := Lib.hid (R2.out.below BA.out); have G3 := Lib.hid (grow_alloc G2.out (.cells #[.slice r.a r.n r.c, .bool r.d] 47)); have K1_3 := Lib.hid (K1_2.out.below BA.out); have K0_3 := Lib.hid (K0_2.out.below BA.out)
                        have O3 := Lib.hid (OSels.below O2.out BA.out)
                        have X3 := Lib.hid (OSel.below X2.out BA.out)
                        have OC_3 := Lib.hid (OwnR.below OC_2.out BA.out)
                        have HZ := Lib.hid (show w.heap.size ≤ (w2.alloc (.cells #[.slice r.a r.n r.c, .bool r.d] 47)).heap.size from G3.out.size)
                        clear R2 G2 K0_2 O2 BA X2 OC_2
                        refine wpAnyH_ready (rs := [4]) (by kernel_rfl) (by simp) ?_
                        refine AllReadyH.cons (o := _) rfl (fun K hK => ?_) AllReadyH.nil
                        go_simp
                        clear hHeld
                        refine hK.out _ _ (trivial) (fun hHeld => ?_)
                        clear hK K
                        (try simp only [Act.put, List.getElem_toArray, List.getElem_cons_zero, List.getElem_cons_succ, List.setIfInBounds_toArray, List.set_cons_zero, List.set_cons_succ])
                        clear K1_2
                        obtain ⟨w3, hw3⟩ : ∃ w3, w3 = w2.alloc (.cells #[.slice r.a r.n r.c, .bool r.d] 47) := ⟨_, rfl⟩
                        obtain ⟨g3, hg3⟩ : ∃ g3, g3 = w2.heap.size := ⟨_, rfl⟩
                        rw [← hw3] at S2 R3 G3 K1_3 K0_3 O3 HZ X3 OC_3 ⊢
                        rw [← hg3] at S2 ⊢
                        clear hw3 hg3
                        obtain ⟨RL, ho3, ha3⟩ := O3.out
                        have OO := Lib.hid ho3; have AA := Lib.hid ha3
                        clear ho3 ha3 O3
                        have HL1 := Lib.hid (show RL.length ≤ 100000 by rw [AA.out.len, HLN.out]; omega)
                        refine wpAnyH_ready (rs := [5]) (by kernel_rfl) (by simp) ?_
                        refine AllReadyH.cons (o := _) rfl (fun K hK => ?_) AllReadyH.nil
                        refine step_appG encS_len (by decide) encS_one 23 47 32 _ Try.underlying23 inf46 rfl (by decide) (w := w3) (by first | rfl | kernel_rfl) (.tmp 31) (.tmp 34) (by rfl) w.heap.size _ RL (by rfl) OO.out ⟨g3, 0, none⟩ 1 1 [r] (by rfl) S2.out HL1.out (by decide) HZ.out ?_
                        intro v4 w4 ho4 hg4
                        clear hHeld
                        refine hK.out _ _ trivial (fun hHeld => ?_)
                        clear hK K
                        (try simp only [Act.put, List.getElem_toArray, List.getElem_cons_zero, List.getElem_cons_succ, List.setIfInBounds_toArray, List.set_cons_zero, List.set_cons_succ])
                        obtain ⟨ra4, rc4, rfl, _⟩ := OwnR.recs encS_len ho4.out
                        have K1_4 := Lib.hid (K1_3.out.other hg4.out (ownR_apart OO.out K1_3.out (by decide))); have K0_4 := Lib.hid (K0_3.out.other hg4.out (ownR_apart OO.out K0_3.out (by decide))); have R4 := Lib.hid (R3.out.other hg4.out (ownR_apart OO.out R3.out (by decide))); have G4 := Lib.hid (grow_own OO.out G3.out hg4.out (Nat.le_refl _))
                        have OC_4 := Lib.hid (OwnR.away OC_3.out hg4.out (Away.own OO.out (by decide)))
                        have X4 := Lib.hid (OSel.away X3.out hg4.out (Away.own OO.out (by decide)))
                        have O4 := Lib.hid (show OSels w4 w.heap.size (.slice ra4 (RL.length + 1) rc4) (L ++ [x]) from ⟨RL ++ [r], by have := ho4.out; rwa [List.length_append, List.length_singleton] at this, (AA.out.mono fun _ _ h => OSel.away h hg4.out (Away.own OO.out (by decide))).snoc X4.out⟩)
                        refine wpAnyH_take (i := 6) (v := ?_) rfl (by kernel_rfl) (by kernel_rfl) (by kernel_rfl) (fun _ _ _ h => h) (Or.inl ⟨by rfl, ?_⟩) (by assumption) ?_
                        rotate_left
                        · (intro w hSw; (try dsimp only at hSw); go_simp; try with_reducible rfl)
                        (try simp only [Act.put, List.getElem_toArray, List.getElem_cons_zero, List.getElem_cons_succ, List.setIfInBounds_toArray, List.set_cons_zero, List.set_cons_succ])
                        have l1 := Bx.lt K1_4.out
                        have f1 := Bx.froz K1_4.out 4
                        obtain ⟨c0, c1, c2, c3, c4, c5⟩ := K1_4.out.cells6
                        refine wpAnyH_ready (rs := [7]) (by kernel_rfl) (by simp) ?_
                        refine AllReadyH.cons (o := _) rfl (fun K hK => ?_) AllReadyH.nil
                        go_simp
                        clear c0 c1 c2 c3 c4 c5 f1 l1
                        clear hHeld
                        refine hK.out _ _ (trivial) (fun hHeld => ?_)
                        clear hK K
                        (try simp only [Act.put, List.getElem_toArray, List.getElem_cons_zero, List.getElem_cons_succ, List.setIfInBounds_toArray, List.set_cons_zero, List.set_cons_succ])
                        refine wpAnyH_done (by kernel_rfl) ?_ _
                        clear hHeld
                        have K1_5 := Lib.hid (K1_4.out.set 4 (.slice ra4 (RL.length + 1) rc4)); have K0_5 := Lib.hid (K0_4.out.other (grow_setCell w4 b1 4 (.slice ra4 (RL.length + 1) rc4)) (some_ne h01)); have R5 := Lib.hid (R4.out.other (grow_setCell w4 b1 4 (.slice ra4 (RL.length + 1) rc4)) (some_ne hB1.symm)); have G5 := Lib.hid (grow_local G4.out (grow_setCell w4 b1 4 (.slice ra4 (RL.length + 1) rc4)) HB1.out)
                        have O5 := Lib.hid (OSels.away O4.out (grow_setCell w4 b1 4 (.slice ra4 (RL.length + 1) rc4)) (Away.box K1_4.out (by decide)) (Away.box K1_4.out (by decide)))
                        have OC_5 := Lib.hid (OwnR.away OC_4.out (grow_setCell w4 b1 4 (.slice ra4 (RL.length + 1) rc4)) (Away.box K1_4.out (by decide)))
                        go_wp2_with fail
                        go_roundw
                        case rel => exact ⟨k + 1, by omega, by go_num, L ++ [x], j', _, HR.out, HJ2.out, trivial, O5.out, OC_5.out, K1_5.out, K0_5.out, R5.out, G5.out⟩
                        case measure => simp [intOf]; omega
                      · skip
                        go_simp
                        refine (N2.out wr.drew RB.out).mono ?_
                        rintro e w2 ⟨r, rfl, hx, hr, hg⟩
                        have HG2 := Lib.hid ((grow_drew (World.grownBy.refl wr (some B))).trans hg)
                        have K1_2 := Lib.hid (K1.out.other HG2.out (some_ne hB1)); have K0_2 := Lib.hid (K0.out.other HG2.out (some_ne hB0)); have R2 := Lib.hid hr; have G2 := Lib.hid (GB.out.trans HG2.out)
                        have X2 := Lib.hid (hx.mono (show w.heap.size ≤ wr.drew.heap.size from GB.out.size))
                        clear hx
                        have O2 := Lib.hid (OSels.away HO.out HG2.out (Away.low HBL.out) (Away.low HBL.out))
                        have OC_2 := Lib.hid (OwnR.away OC.out HG2.out (Away.low HBL.out))
                        clear hr hg HG2 N2
                        clear hHeld
                        refine hK.out _ _ trivial (fun hHeld => ?_)
                        clear hK K
                        (try simp only [Act.put, List.getElem_toArray, List.getElem_cons_zero, List.getElem_cons_succ, List.setIfInBounds_toArray, List.set_cons_zero, List.set_cons_succ])
                        have BA := Lib.hid (below_alloc w2 (.cells #[.slice r.a r.n r.c, .bool r.d] 47))
                        have S2 := Lib.hid (recs_oneG (k := 2) (enc := encS) (x := r) (t := 47) (heap_alloc_new w2 (.cells #[.slice r.a r.n r.c, .bool r.d] 47)))
                        have R3 := Lib.hid (R2.out.below BA.out); have G3 := Lib.hid (grow_alloc G2.out (.cells #[.slice r.a r.n r.c, .bool r.d] 47)); have K1_3 := Lib.hid (K1_2.out.below BA.out); have K0_3 := Lib.hid (K0_2.out.below BA.out)
                        have O3 := Lib.hid (OSels.below O2.out BA.out)
                        have X3 := Lib.hid (OSel.below X2.out BA.out)
                        have OC_3 := Lib.hid (OwnR.below OC_2.out BA.out)
                        have HZ := Lib.hid (show w.heap.size ≤ (w2.alloc (.cells #[.slice r.a r.n r.c, .bool r.d] 47)).heap.size from G3.out.size)
                        clear R2 G2 K0_2 O2 BA X2 OC_2
                        refine wpAnyH_ready (rs := [1, 4]) (by kernel_rfl) (by simp) ?_
                        refine AllReadyH.cons (o := _) rfl (fun K hK => ?_) (AllReadyH.cons (o := _) rfl (fun K hK => ?_) AllReadyH.nil)
                        · skip
                          obtain ⟨c0, c1, c2, c3, c4, c5⟩ := Bx.cells6 (show Bx w2 b1 _ 26 from K1_2.out)
                          go_simp
                          clear c0 c1 c2 c3 c4 c5
                          clear hHeld
                          refine hK.out _ _ trivial (fun hHeld => ?_)
                          clear hK K
                          (try simp only [Act.put, List.getElem_toArray, List.getElem_cons_zero, List.getElem_cons_succ, List.setIfInBounds_toArray, List.set_cons_zero, List.set_cons_succ])
                          refine wpAnyH_ready (rs := [4]) (by kernel_rfl) (by simp) ?_
                          refine AllReadyH.cons (o := _) rfl (fun K hK => ?_) AllReadyH.nil
                          go_simp
                          clear hHeld
                          refine hK.out _ _ (trivial) (fun hHeld => ?_)
                          clear hK K
                          (try simp only [Act.put, List.getElem_toArray, List.getElem_cons_zero, List.getElem_cons_succ, List.setIfInBounds_toArray, List.set_cons_zero, List.set_cons_succ])
                          clear K1_2
                          obtain ⟨w3, hw3⟩ : ∃ w3, w3 = w2.alloc (.cells #[.slice r.a r.n r.c, .bool r.d] 47) := ⟨_, rfl⟩
                          obtain ⟨g3, hg3⟩ : ∃ g3, g3 = w2.heap.size := ⟨_, rfl⟩
                          rw [← hw3] at S2 R3 G3 K1_3 K0_3 O3 HZ X3 OC_3 ⊢
                          rw [← hg3] at S2 ⊢
                          clear hw3 hg3
                          obtain ⟨RL, ho3, ha3⟩ := O3.out
                          have OO := Lib.hid ho3; have AA := Lib.hid ha3
                          clear ho3 ha3 O3
                          have HL1 := Lib.hid (show RL.length ≤ 100000 by rw [AA.out.len, HLN.out]; omega)
                          refine wpAnyH_ready (rs := [5]) (by kernel_rfl) (by simp) ?_
                          refine AllReadyH.cons (o := _) rfl (fun K hK => ?_) AllReadyH.nil
                          refine step_appG encS_len (by decide) encS_one 23 47 32 _ Try.underlying23 inf46 rfl (by decide) (w := w3) (by first | rfl | kernel_rfl) (.tmp 31) (.tmp 34) (by rfl) w.heap.size _ RL (by rfl) OO.out ⟨g3, 0, none⟩ 1 1 [r] (by rfl) S2.out HL1.out (by decide) HZ.out ?_
                          intro v4 w4 ho4 hg4
                          clear hHeld
                          refine hK.out _ _ trivial (fun hHeld => ?_)
                          clear hK K
                          (try simp only [Act.put, List.getElem_toArray, List.getElem_cons_zero, List.getElem_cons_succ, List.setIfInBounds_toArray, List.set_cons_zero, List.set_cons_succ])
                          obtain ⟨ra4, rc4, rfl, _⟩ := OwnR.recs encS_len ho4.out
                          have K1_4 := Lib.hid (K1_3.out.other hg4.out (ownR_apart OO.out K1_3.out (by decide))); have K0_4 := Lib.hid (K0_3.out.other hg4.out (ownR_apart OO.out K0_3.out (by decide))); have R4 := Lib.hid (R3.out.other hg4.out (ownR_apart OO.out R3.out (by decide))); have G4 := Lib.hid (grow_own OO.out G3.out hg4.out (Nat.le_refl _))
                          have OC_4 := Lib.hid (OwnR.away OC_3.out hg4.out (Away.own OO.out (by decide)))
                          have X4 := Lib.hid (OSel.away X3.out hg4.out (Away.own OO.out (by decide)))
                          have O4 := Lib.hid (show OSels w4 w.heap.size (.slice ra4 (RL.length + 1) rc4) (L ++ [x]) from ⟨RL ++ [r], by have := ho4.out; rwa [List.length_append, List.length_singleton] at this, (AA.out.mono fun _ _ h => OSel.away h hg4.out (Away.own OO.out (by decide))).snoc X4.out⟩)
                          refine wpAnyH_take (i := 6) (v := ?_) rfl (by kernel_rfl) (by kernel_rfl) (by kernel_rfl) (fun _ _ _ h => h) (Or.inl ⟨by rfl, ?_⟩) (by assumption) ?_
                          rotate_left
                          · (intro w hSw; (try dsimp only at hSw); go_simp; try with_reducible rfl)
                          (try simp only [Act.put, List.getElem_toArray, List.getElem_cons_zero, List.getElem_cons_succ, List.setIfInBounds_toArray, List.set_cons_zero, List.set_cons_succ])
                          have l1 := Bx.lt K1_4.out
                          have f1 := Bx.froz K1_4.out 4
                          obtain ⟨c0, c1, c2, c3, c4, c5⟩ := K1_4.out.cells6
                          refine wpAnyH_ready (rs := [7]) (by kernel_rfl) (by simp) ?_
                          refine AllReadyH.cons (o := _) rfl (fun K hK => ?_) AllReadyH.nil
                          go_simp
                          clear c0 c1 c2 c3 c4 c5 f1 l1
                          clear hHeld
                          refine hK.out _ _ (trivial) (fun hHeld => ?_)
                          clear hK K
                          (try simp only [Act.put, List.getElem_toArray, List.getElem_cons_zero, List.getElem_cons_succ, List.setIfInBounds_toArray, List.set_cons_zero, List.set_cons_succ])
                          refine wpAnyH_done (by kernel_rfl) ?_ _
                          clear hHeld
                          have K1_5 := Lib.hid (K1_4.out.set 4 (.slice ra4 (RL.length + 1) rc4)); have K0_5 := Lib.hid (K0_4.out.other (grow_setCell w4 b1 4 (.slice ra4 (RL.length + 1) rc4)) (some_ne h01)); have R5 := Lib.hid (R4.out.other (grow_setCell w4 b1 4 (.slice ra4 (RL.length + 1) rc4)) (some_ne hB1.symm)); have G5 := Lib.hid (grow_local G4.out (grow_setCell w4 b1 4 (.slice ra4 (RL.length + 1) rc4)) HB1.out)
                          have O5 := Lib.hid (OSels.away O4.out (grow_setCell w4 b1 4 (.slice ra4 (RL.length + 1) rc4)) (Away.box K1_4.out (by decide)) (Away.box K1_4.out (by decide)))
                          have OC_5 := Lib.hid (OwnR.away OC_4.out (grow_setCell w4 b1 4 (.slice ra4 (RL.length + 1) rc4)) (Away.box K1_4.out (by decide)))
                          go_wp2_with fail
                          go_roundw
                          case rel => exact ⟨k + 1, by omega, by go_num, L ++ [x], j', _, HR.out, HJ2.out, trivial, O5.out, OC_5.out, K1_5.out, K0_5.out, R5.out, G5.out⟩
                          case measure => simp [intOf]; omega
                        · skip
                          go_simp
                          clear hHeld
                          refine hK.out _ _ trivial (fun hHeld => ?_)
                          clear hK K
                          (try simp only [Act.put, List.getElem_toArray, List.getElem_cons_zero, List.getElem_cons_succ, List.setIfInBounds_toArray, List.set_cons_zero, List.set_cons_succ])
                          clear K1_2
                          obtain ⟨w3, hw3⟩ : ∃ w3, w3 = w2.alloc (.cells #[.slice r.a r.n r.c, .bool r.d] 47) := ⟨_, rfl⟩
                          obtain ⟨g3, hg3⟩ : ∃ g3, g3 = w2.heap.size := ⟨_, rfl⟩
                          rw [← hw3] at S2 R3 G3 K1_3 K0_3 O3 HZ X3 OC_3 ⊢
                          rw [← hg3] at S2 ⊢
                          clear hw3 hg3
                          refine wpAnyH_ready (rs := [1]) (by kernel_rfl) (by simp) ?_
                          refine AllReadyH.cons (o := _) rfl (fun K hK => ?_) AllReadyH.nil
                          obtain ⟨c0, c1, c2, c3, c4, c5⟩ := Bx.cells6 (show Bx w3 b1 _ 26 from K1_3.out)
                          go_simp
                          clear c0 c1 c2 c3 c4 c5
                          clear hHeld
                          refine hK.out _ _ trivial (fun hHeld => ?_)
                          clear hK K
                          (try simp only [Act.put, List.getElem_toArray, List.getElem_cons_zero, List.getElem_cons_succ, List.setIfInBounds_toArray, List.set_cons_zero, List.set_cons_succ])
                          obtain ⟨RL, ho3, ha3⟩ := O3.out
                          have OO := Lib.hid ho3; have AA := Lib.hid ha3
                          clear ho3 ha3 O3
                          have HL1 := Lib.hid (show RL.length ≤ 100000 by rw [AA.out.len, HLN.out]; omega)
                          refine wpAnyH_ready (rs := [5]) (by kernel_rfl) (by simp) ?_
                          refine AllReadyH.cons (o := _) rfl (fun K hK => ?_) AllReadyH.nil
                          refine step_appG encS_len (by decide) encS_one 23 47 32 _ Try.underlying23 inf46 rfl (by decide) (w := w3) (by first | rfl | kernel_rfl) (.tmp 31) (.tmp 34) (by rfl) w.heap.size _ RL (by rfl) OO.out ⟨g3, 0, none⟩ 1 1 [r] (by rfl) S2.out HL1.out (by decide) HZ.out ?_
                          intro v4 w4 ho4 hg4
                          clear hHeld
                          refine hK.out _ _ trivial (fun hHeld => ?_)
                          clear hK K
                          (try simp only [Act.put, List.getElem_toArray, List.getElem_cons_zero, List.getElem_cons_succ, List.setIfInBounds_toArray, List.set_cons_zero, List.set_cons_succ])
                          obtain ⟨ra4, rc4, rfl, _⟩ := OwnR.recs encS_len ho4.out
                          have K1_4 := Lib.hid (K1_3.out.other hg4.out (ownR_apart OO.out K1_3.out (by decide))); have K0_4 := Lib.hid (K0_3.out.other hg4.out (ownR_apart OO.out K0_3.out (by decide))); have R4 := Lib.hid (R3.out.other hg4.out (ownR_apart OO.out R3.out (by decide))); have G4 := Lib.hid (grow_own OO.out G3.out hg4.out (Nat.le_refl _))
                          have OC_4 := Lib.hid (OwnR.away OC_3.out hg4.out (Away.own OO.out (by decide)))
                          have X4 := Lib.hid (OSel.away X3.out hg4.out (Away.own OO.out (by decide)))
                          have O4 := Lib.hid (show OSels w4 w.heap.size (.slice ra4 (RL.length + 1) rc4) (L ++ [x]) from ⟨RL ++ [r], by have := ho4.out; rwa [List.length_append, List.length_singleton] at this, (AA.out.mono fun _ _ h => OSel.away h hg4.out (Away.own OO.out (by decide))).snoc X4.out⟩)
                          refine wpAnyH_take (i := 6) (v := ?_) rfl (by kernel_rfl) (by kernel_rfl) (by kernel_rfl) (fun _ _ _ h => h) (Or.inl ⟨by rfl, ?_⟩) (by assumption) ?_
                          rotate_left
                          · (intro w hSw; (try dsimp only at hSw); go_simp; try with_reducible rfl)
                          (try simp only [Act.put, List.getElem_toArray, List.getElem_cons_zero, List.getElem_cons_succ, List.setIfInBounds_toArray, List.set_cons_zero, List.set_cons_succ])
                          have l1 := Bx.lt K1_4.out
                          have f1 := Bx.froz K1_4.out 4
                          obtain ⟨c0, c1, c2, c3, c4, c5⟩ := K1_4.out.cells6
                          refine wpAnyH_ready (rs := [7]) (by kernel_rfl) (by simp) ?_
                          refine AllReadyH.cons (o := _) rfl (fun K hK => ?_) AllReadyH.nil
                          go_simp
                          clear c0 c1 c2 c3 c4 c5 f1 l1
                          clear hHeld
                          refine hK.out _ _ (trivial) (fun hHeld => ?_)
                          clear hK K
                          (try simp only [Act.put, List.getElem_toArray, List.getElem_cons_zero, List.getElem_cons_succ, List.setIfInBounds_toArray, List.set_cons_zero, List.set_cons_succ])
                          refine wpAnyH_done (by kernel_rfl) ?_ _
                          clear hHeld
                          have K1_5 := Lib.hid (K1_4.out.set 4 (.slice ra4 (RL.length + 1) rc4)); have K0_5 := Lib.hid (K0_4.out.other (grow_setCell w4 b1 4 (.slice ra4 (RL.length + 1) rc4)) (some_ne h01)); have R5 := Lib.hid (R4.out.other (grow_setCell w4 b1 4 (.slice ra4 (RL.length + 1) rc4)) (some_ne hB1.symm)); have G5 := Lib.hid (grow_local G4.out (grow_setCell w4 b1 4 (.slice ra4 (RL.length + 1) rc4)) HB1.out)
                          have O5 := Lib.hid (OSels.away O4.out (grow_setCell w4 b1 4 (.slice ra4 (RL.length + 1) rc4)) (Away.box K1_4.out (by decide)) (Away.box K1_4.out (by decide)))
                          have OC_5 := Lib.hid (OwnR.away OC_4.out (grow_setCell w4 b1 4 (.slice ra4 (RL.length + 1) rc4)) (Away.box K1_4.out (by decide)))
                          go_wp2_with fail
                          go_roundw
                          case rel => exact ⟨k + 1, by omega, by go_num, L ++ [x], j', _, HR.out, HJ2.out, trivial, O5.out, OC_5.out, K1_5.out, K0_5.out, R5.out, G5.out⟩
                          case measure => simp [intOf]; omega
                  · have hke : k = m := by omega
                    subst hke
                    have HS4 := Lib.hid (show L.length ≤ 4 by rw [HLN.out]; exact hm4)
                    have HP2b := Lib.hid (show prgP (tx s) i = (sizeP (tx s) 6 j).bind fun h j7 => (repP (blkP (tx s)) h.toNat j7).bind fun blks j8 => .ok ⟨caps, mu, on, va, L, blks⟩ j8 by rw [HP2.out, HREP.out]; rfl)
                    have OS := HO
                    clear HO HREP HLN hm4 HOK
                    obtain ⟨sels, hsels⟩ : ∃ sels, sels = L := ⟨_, rfl⟩
                    obtain ⟨sa, hsa⟩ : ∃ sa, sa = ra := ⟨_, rfl⟩
                    obtain ⟨sc, hsc⟩ : ∃ sc, sc = rc := ⟨_, rfl⟩
                    subst hsels hsa hsc
                    cases hz : sizeP (tx s) 6 j with
                    | no c =>
                      have N1 := Lib.hid (fun W H => size_no s B j 6 W H HJ.out hs hz)
                      have HP := Lib.hid (show prgP (tx s) i = .no c by rw [HP2b.out, hz]; rfl)
                      unfold GaveUp gaveUp at N1
                      clear hz
                      go_wp2_with fail
                      refine (N1.out _ RB.out).mono ?_
                      rintro e wz ⟨rfl, hg⟩
                      refine ⟨rfl, ?_⟩
                      rw [HQ.out]; exact Post.no HP.out (GB.out.trans hg)
                    | ok n j0 =>
                      obtain ⟨hj0, hn0, hn4⟩ := sizeP_ok HT.out HJ.out hz
                      obtain ⟨m, rfl⟩ : ∃ m : Nat, n = (m : Int) := ⟨n.toNat, by omega⟩
                      have N1 := Lib.hid (fun W H => size_ok s B j 6 W H HJ.out hs hz)
                      have HP3 := Lib.hid (show prgP (tx s) i = (repP (blkP (tx s)) m j0).bind fun blks j8 => .ok ⟨caps, mu, on, va, sels, blks⟩ j8 by rw [HP2b.out, hz]; rfl)
                      unfold GotV at N1
                      have hm4 : m ≤ 6 := by omega
                      clear HJ
                      have HJ := Lib.hid hj0
                      clear hz hj0 hn0 hn4
                      go_wp2_with fail
                      refine (N1.out _ RB.out).mono ?_
                      rintro e w2 ⟨rfl, hr, hg⟩
                      have RBn := Lib.hid hr; have GBn := Lib.hid (GB.out.trans hg); have K0n := Lib.hid (K0.out.other hg (some_ne hB0)); have K1n := Lib.hid (K1.out.other hg (some_ne hB1))
                      have OCn := Lib.hid (OwnR.away OC.out hg (Away.low HBL.out))
                      have OSn := Lib.hid (OSels.away OS.out hg (Away.low HBL.out) (Away.low HBL.out))
                      clear hr hg N1 RB GB K0 K1 OC OS
                      have RB := RBn; have GB := GBn; have K0 := K0n; have K1 := K1n; have OC := OCn; have OS := OSn
                      clear RBn GBn K0n K1n OCn OSn
                      go_wp2_with fail
                      go_loopw [40] (fun i wr => ∃ k : Nat, k ≤ m ∧ i = .int .i64 k ∧ ∃ L j v, repP (blkP (tx s)) k j0 = .ok L j ∧ j ≤ (tx s).length ∧ True ∧ OBlks wr w.heap.size (v) L ∧ OwnN wr w.heap.size (.slice ca cn cc) caps ∧ OSels wr w.heap.size (.slice sa sels.length sc) sels ∧ Bx wr b1 #[.slice ca cn cc, .int .i64 mu, .int .i64 on, .int .i64 va, .slice sa sels.length sc, v] 26 ∧ Bx wr b0 #[.slice none 0 0, .int .i64 0, .int .i64 0, .int .i64 0, .slice none 0 0, .slice none 0 0] 26 ∧ Rd wr B s j ∧ w.grownBy wr (some B)) (fun i _ => m - (intOf i).toNat)
                      case atStart => exact ⟨0, Nat.zero_le _, rfl, [], j0, _, rfl, HJ.out, trivial, OBlks.nil _ _, OC.out, OS.out, K1.out, K0.out, RB.out, GB.out⟩
                      case round =>
                        clear RB GB K1 K0 HJ OC OS
                        obtain ⟨k, hk, rfl, L, j, v, hrep, hj, hok, hown, hOC, hOS, hk1, hk0, hr, hg⟩ := hrel
                        obtain ⟨ra, rc, rfl⟩ := OBlks.parts hown
                        have HREP := Lib.hid hrep; have HJ := Lib.hid hj; have HOK := Lib.hid hok; have HO := Lib.hid hown; have RB := Lib.hid hr; have GB := Lib.hid hg; have K0 := Lib.hid hk0; have K1 := Lib.hid hk1; have OC := Lib.hid hOC; have OS := Lib.hid hOS
                        have HLN := Lib.hid (repP_len hrep)
                        clear hrep hok hown hr hg hk0 hk1 hOC hOS
                        by_cases hlt : k < m
                        · have hlt' : (k : Int) < (m : Int) := by omega
                          cases hf : blkP (tx s) j with
                          | no c =>
                            have N2 := Lib.hid (fun W H => block_no s B j W H hj hs hf)
                            have HR := Lib.hid (show prgP (tx s) i = .no c by rw [HP3.out, repP_no HREP.out hf hlt]; rfl)
                            unfold GaveUp gaveUp at N2
                            clear hj hf
                            have KC := Lib.hid K1.out.cells6
                            go_upto_region 13 with (fail)
                            refine wp_region_held_drew (S := (fun _ => True)) (by kernel_rfl) (trivial) (fun hHeld => ?_)
                            (try simp only [Act.put, List.getElem_toArray, List.getElem_cons_zero, List.getElem_cons_succ, List.setIfInBounds_toArray, List.set_cons_zero, List.set_cons_succ])
                            refine wpAnyH_take (i := 0) (v := ?_) rfl (by kernel_rfl) (by kernel_rfl) (by kernel_rfl) (fun _ _ _ h => h) (Or.inl ⟨by rfl, ?_⟩) (by assumption) ?_
                            rotate_left
                            · (intro w hSw; (try dsimp only at hSw); go_simp; try with_reducible rfl)
                            (try simp only [Act.put, List.getElem_toArray, List.getElem_cons_zero, List.getElem_cons_succ, List.setIfInBounds_toArray, List.set_cons_zero, List.set_cons_succ])
                            refine wpAnyH_take (i := 2) (v := ?_) rfl (by kernel_rfl) (by kernel_rfl) (by kernel_rfl) (fun _ _ _ h => h) (Or.inl ⟨by rfl, ?_⟩) (by assumption) ?_
                            rotate_left
                            · (intro w hSw; (try dsimp only at hSw); go_simp; try with_reducible rfl)
                            (try simp only [Act.put, List.getElem_toArray, List.getElem_cons_zero, List.getElem_cons_succ, List.setIfInBounds_toArray, List.set_cons_zero, List.set_cons_succ])
                            refine wpAnyH_ready (rs := [1, 3]) (by kernel_rfl) (by simp) ?_
                            refine AllReadyH.cons (o := _) rfl (fun K hK => ?_) (AllReadyH.cons (o := _) rfl (fun K hK => ?_) AllReadyH.nil)
                            ·
                              obtain ⟨c0, c1, c2, c3, c4, c5⟩ := Bx.cells6 (show Bx wr.drew b1 _ 26 from K1.out)
                              go_simp
                              clear c0 c1 c2 c3 c4 c5
                              clear hHeld
                              refine hK.out _ _ trivial (fun hHeld => ?_)
                              clear hK K
                              (try simp only [Act.put, List.getElem_toArray, List.getElem_cons_zero, List.getElem_cons_succ, List.setIfInBounds_toArray, List.set_cons_zero, List.set_cons_succ])
                              refine wpAnyH_ready (rs := [3]) (by kernel_rfl) (by simp) ?_
                              refine AllReadyH.cons (o := _) rfl (fun K hK => ?_) AllReadyH.nil
                              go_simp
                              refine (N2.out wr.drew RB.out).mono ?_
                              rintro e wz ⟨rfl, hg⟩
                              refine ⟨rfl, ?_⟩
                              rw [HQ.out]; exact Post.no HR.out ((grow_drew GB.out).trans hg)
                            · skip
                              go_simp
                              refine (N2.out wr.drew RB.out).mono ?_
                              rintro e wz ⟨rfl, hg⟩
                              refine ⟨rfl, ?_⟩
                              rw [HQ.out]; exact Post.no HR.out ((grow_drew GB.out).trans hg)
                          | ok x j' =>
                            have N2 := Lib.hid (fun W H => block_ok s B j W H hj hs hf)
                            have HJ2 := Lib.hid (blkP_ok HT.out hj hf)
                            have HR := Lib.hid (repP_ok HREP.out hf)
                            clear hj hf
                            go_upto_region 13 with (fail)
                            refine wp_region_held_drew (S := (fun _ => True)) (by kernel_rfl) (trivial) (fun hHeld => ?_)
                            (try simp only [Act.put, List.getElem_toArray, List.getElem_cons_zero, List.getElem_cons_succ, List.setIfInBounds_toArray, List.set_cons_zero, List.set_cons_succ])
                            refine wpAnyH_take (i := 0) (v := ?_) rfl (by kernel_rfl) (by kernel_rfl) (by kernel_rfl) (fun _ _ _ h => h) (Or.inl ⟨by rfl, ?_⟩) (by assumption) ?_
                            rotate_left
                            · (intro w hSw; (try dsimp only at hSw); go_simp; try with_reducible rfl)
                            (try simp only [Act.put, List.getElem_toArray, List.getElem_cons_zero, List.getElem_cons_succ, List.setIfInBounds_toArray, List.set_cons_zero, List.set_cons_succ])
                            refine wpAnyH_take (i := 2) (v := ?_) rfl (by kernel_rfl) (by kernel_rfl) (by kernel_rfl) (fun _ _ _ h => h) (Or.inl ⟨by rfl, ?_⟩) (by assumption) ?_
                            rotate_left
                            · (intro w hSw; (try dsimp only at hSw); go_simp; try with_reducible rfl)
                            (try simp only [Act.put, List.getElem_toArray, List.getElem_cons_zero, List.getElem_cons_succ, List.setIfInBounds_toArray, List.set_cons_zero, List.set_cons_succ])
                            refine wpAnyH_ready (rs := [1, 3]) (by kernel_rfl) (by simp) ?_
                            refine AllReadyH.cons (o := _) rfl (fun K hK => ?_) (AllReadyH.cons (o := _) rfl (fun K hK => ?_) AllReadyH.nil)
                            · skip
                              obtain ⟨c0, c1, c2, c3, c4, c5⟩ := Bx.cells6 (show Bx wr.drew b1 _ 26 from K1.out)
                              go_simp
                              clear c0 c1 c2 c3 c4 c5
                              clear hHeld
                              refine hK.out _ _ trivial (fun hHeld => ?_)
                              clear hK K
                              (try simp only [Act.put, List.getElem_toArray, List.getElem_cons_zero, List.getElem_cons_succ, List.setIfInBounds_toArray, List.set_cons_zero, List.set_cons_succ])
                              refine wpAnyH_ready (rs := [3]) (by kernel_rfl) (by simp) ?_
                              refine AllReadyH.cons (o := _) rfl (fun K hK => ?_) AllReadyH.nil
                              go_simp
                              refine (N2.out wr.drew RB.out).mono ?_
                              rintro e w2 ⟨r, rfl, hx, hr, hg⟩
                              have HG2 := Lib.hid ((grow_drew (World.grownBy.refl wr (some B))).trans hg)
                              have K1_2 := Lib.hid (K1.out.other HG2.out (some_ne hB1)); have K0_2 := Lib.hid (K0.out.other HG2.out (some_ne hB0)); have R2 := Lib.hid hr; have G2 := Lib.hid (GB.out.trans HG2.out)
                              have X2 := Lib.hid (hx.mono (show w.heap.size ≤ wr.drew.heap.size from GB.out.size))
                              clear hx
                              have O2 := Lib.hid (OBlks.away HO.out HG2.out (Away.low HBL.out) (Away.low HBL.out))
                              have OC_2 := Lib.hid (OwnR.away OC.out HG2.out (Away.low HBL.out))
                              have OS_2 := Lib.hid (OSels.away OS.out HG2.out (Away.low HBL.out) (Away.low HBL.out))
                              clear hr hg HG2 N2
                              clear hHeld
                              refine hK.out _ _ trivial (fun hHeld => ?_)
                              clear hK K
                              (try simp only [Act.put, List.getElem_toArray, List.getElem_cons_zero, List.getElem_cons_succ, List.setIfInBounds_toArray, List.set_cons_zero, List.set_cons_succ])
                              have BA := Lib.hid (below_alloc w2 (.cells #[.slice r.a r.n r.c] 42))
                              have S2 := Lib.hid (recs_oneG (k := 1) (enc := encB) (x := r) (t := 42) (heap_alloc_new w2 (.cells #[.slice r.a r.n r.c] 42)))
                              have R3 := Lib.hid (R2.out.below BA.out); have G3 := Lib.hid (grow_alloc G2.out (.cells #[.slice r.a r.n r.c] 42)); have K1_3 := Lib.hid (K1_2.out.below BA.out); have K0_3 := Lib.hid (K0_2.out.below BA.out)
                              have O3 := Lib.hid (OBlks.below O2.out BA.out)
                              have X3 := Lib.hid (OBlk.below X2.out BA.out)
                              have OC_3 := Lib.hid (OwnR.below OC_2.out BA.out)
                              have OS_3 := Lib.hid (OSels.below OS_2.out BA.out)
                              have HZ := Lib.hid (show w.heap.size ≤ (w2.alloc (.cells #[.slice r.a r.n r.c] 42)).heap.size from G3.out.size)
                              clear R2 G2 K0_2 O2 BA X2 OC_2 OS_2
                              refine wpAnyH_ready (rs := [4]) (by kernel_rfl) (by simp) ?_
                              refine AllReadyH.cons (o := _) rfl (fun K hK => ?_) AllReadyH.nil
                              go_simp
                              clear hHeld
                              refine hK.out _ _ (trivial) (fun hHeld => ?_)
                              clear hK K
                              (try simp only [Act.put, List.getElem_toArray, List.getElem_cons_zero, List.getElem_cons_succ, List.setIfInBounds_toArray, List.set_cons_zero, List.set_cons_succ])
                              clear K1_2
                              obtain ⟨w3, hw3⟩ : ∃ w3, w3 = w2.alloc (.cells #[.slice r.a r.n r.c] 42) := ⟨_, rfl⟩
                              obtain ⟨g3, hg3⟩ : ∃ g3, g3 = w2.heap.size := ⟨_, rfl⟩
                              rw [← hw3] at S2 R3 G3 K1_3 K0_3 O3 HZ X3 OC_3 OS_3 ⊢
                              rw [← hg3] at S2 ⊢
                              clear hw3 hg3
                              obtain ⟨RL, ho3, ha3⟩ := O3.out
                              have OO := Lib.hid ho3; have AA := Lib.hid ha3
                              clear ho3 ha3 O3
                              have HL1 := Lib.hid (show RL.length ≤ 100000 by rw [AA.out.len, HLN.out]; omega)
                              refine wpAnyH_ready (rs := [5]) (by kernel_rfl) (by simp) ?_
                              refine AllReadyH.cons (o := _) rfl (fun K hK => ?_) AllReadyH.nil
                              refine step_appG encB_len (by decide) encB_one 24 42 24 _ Try.underlying24 inf41 rfl (by decide) (w := w3) (by first | rfl | kernel_rfl) (.tmp 43) (.tmp 46) (by rfl) w.heap.size _ RL (by rfl) OO.out ⟨g3, 0, none⟩ 1 1 [r] (by rfl) S2.out HL1.out (by decide) HZ.out ?_
                              intro v4 w4 ho4 hg4
                              clear hHeld
                              refine hK.out _ _ trivial (fun hHeld => ?_)
                              clear hK K
                              (try simp only [Act.put, List.getElem_toArray, List.getElem_cons_zero, List.getElem_cons_succ, List.setIfInBounds_toArray, List.set_cons_zero, List.set_cons_succ])
                              obtain ⟨ra4, rc4, rfl, _⟩ := OwnR.recs encB_len ho4.out
                              have K1_4 := Lib.hid (K1_3.out.other hg4.out (ownR_apart OO.out K1_3.out (by decide))); have K0_4 := Lib.hid (K0_3.out.other hg4.out (ownR_apart OO.out K0_3.out (by decide))); have R4 := Lib.hid (R3.out.other hg4.out (ownR_apart OO.out R3.out (by decide))); have G4 := Lib.hid (grow_own OO.out G3.out hg4.out (Nat.le_refl _))
                              have OC_4 := Lib.hid (OwnR.away OC_3.out hg4.out (Away.own OO.out (by decide)))
                              have OS_4 := Lib.hid (OSels.away OS_3.out hg4.out (Away.own OO.out (by decide)) (Away.own OO.out (by decide)))
                              have X4 := Lib.hid (OBlk.away X3.out hg4.out (Away.own OO.out (by decide)))
                              have O4 := Lib.hid (show OBlks w4 w.heap.size (.slice ra4 (RL.length + 1) rc4) (L ++ [x]) from ⟨RL ++ [r], by have := ho4.out; rwa [List.length_append, List.length_singleton] at this, (AA.out.mono fun _ _ h => OBlk.away h hg4.out (Away.own OO.out (by decide))).snoc X4.out⟩)
                              refine wpAnyH_take (i := 6) (v := ?_) rfl (by kernel_rfl) (by kernel_rfl) (by kernel_rfl) (fun _ _ _ h => h) (Or.inl ⟨by rfl, ?_⟩) (by assumption) ?_
                              rotate_left
                              · (intro w hSw; (try dsimp only at hSw); go_simp; try with_reducible rfl)
                              (try simp only [Act.put, List.getElem_toArray, List.getElem_cons_zero, List.getElem_cons_succ, List.setIfInBounds_toArray, List.set_cons_zero, List.set_cons_succ])
                              have l1 := Bx.lt K1_4.out
                              have f1 := Bx.froz K1_4.out 5
                              obtain ⟨c0, c1, c2, c3, c4, c5⟩ := K1_4.out.cells6
                              refine wpAnyH_ready (rs := [7]) (by kernel_rfl) (by simp) ?_
                              refine AllReadyH.cons (o := _) rfl (fun K hK => ?_) AllReadyH.nil
                              go_simp
                              clear c0 c1 c2 c3 c4 c5 f1 l1
                              clear hHeld
                              refine hK.out _ _ (trivial) (fun hHeld => ?_)
                              clear hK K
                              (try simp only [Act.put, List.getElem_toArray, List.getElem_cons_zero, List.getElem_cons_succ, List.setIfInBounds_toArray, List.set_cons_zero, List.set_cons_succ])
                              refine wpAnyH_done (by kernel_rfl) ?_ _
                              clear hHeld
                              have K1_5 := Lib.hid (K1_4.out.set 5 (.slice ra4 (RL.length + 1) rc4)); have K0_5 := Lib.hid (K0_4.out.other (grow_setCell w4 b1 5 (.slice ra4 (RL.length + 1) rc4)) (some_ne h01)); have R5 := Lib.hid (R4.out.other (grow_setCell w4 b1 5 (.slice ra4 (RL.length + 1) rc4)) (some_ne hB1.symm)); have G5 := Lib.hid (grow_local G4.out (grow_setCell w4 b1 5 (.slice ra4 (RL.length + 1) rc4)) HB1.out)
                              have O5 := Lib.hid (OBlks.away O4.out (grow_setCell w4 b1 5 (.slice ra4 (RL.length + 1) rc4)) (Away.box K1_4.out (by decide)) (Away.box K1_4.out (by decide)))
                              have OC_5 := Lib.hid (OwnR.away OC_4.out (grow_setCell w4 b1 5 (.slice ra4 (RL.length + 1) rc4)) (Away.box K1_4.out (by decide)))
                              have OS_5 := Lib.hid (OSels.away OS_4.out (grow_setCell w4 b1 5 (.slice ra4 (RL.length + 1) rc4)) (Away.box K1_4.out (by decide)) (Away.box K1_4.out (by decide)))
                              go_wp2_with fail
                              go_roundw
                              case rel => exact ⟨k + 1, by omega, by go_num, L ++ [x], j', _, HR.out, HJ2.out, trivial, O5.out, OC_5.out, OS_5.out, K1_5.out, K0_5.out, R5.out, G5.out⟩
                              case measure => simp [intOf]; omega
                            · skip
                              go_simp
                              refine (N2.out wr.drew RB.out).mono ?_
                              rintro e w2 ⟨r, rfl, hx, hr, hg⟩
                              have HG2 := Lib.hid ((grow_drew (World.grownBy.refl wr (some B))).trans hg)
                              have K1_2 := Lib.hid (K1.out.other HG2.out (some_ne hB1)); have K0_2 := Lib.hid (K0.out.other HG2.out (some_ne hB0)); have R2 := Lib.hid hr; have G2 := Lib.hid (GB.out.trans HG2.out)
                              have X2 := Lib.hid (hx.mono (show w.heap.size ≤ wr.drew.heap.size from GB.out.size))
                              clear hx
                              have O2 := Lib.hid (OBlks.away HO.out HG2.out (Away.low HBL.out) (Away.low HBL.out))
                              have OC_2 := Lib.hid (OwnR.away OC.out HG2.out (Away.low HBL.out))
                              have OS_2 := Lib.hid (OSels.away OS.out HG2.out (Away.low HBL.out) (Away.low HBL.out))
                              clear hr hg HG2 N2
                              clear hHeld
                              refine hK.out _ _ trivial (fun hHeld => ?_)
                              clear hK K
                              (try simp only [Act.put, List.getElem_toArray, List.getElem_cons_zero, List.getElem_cons_succ, List.setIfInBounds_toArray, List.set_cons_zero, List.set_cons_succ])
                              have BA := Lib.hid (below_alloc w2 (.cells #[.slice r.a r.n r.c] 42))
                              have S2 := Lib.hid (recs_oneG (k := 1) (enc := encB) (x := r) (t := 42) (heap_alloc_new w2 (.cells #[.slice r.a r.n r.c] 42)))
                              have R3 := Lib.hid (R2.out.below BA.out); have G3 := Lib.hid (grow_alloc G2.out (.cells #[.slice r.a r.n r.c] 42)); have K1_3 := Lib.hid (K1_2.out.below BA.out); have K0_3 := Lib.hid (K0_2.out.below BA.out)
                              have O3 := Lib.hid (OBlks.below O2.out BA.out)
                              have X3 := Lib.hid (OBlk.below X2.out BA.out)
                              have OC_3 := Lib.hid (OwnR.below OC_2.out BA.out)
                              have OS_3 := Lib.hid (OSels.below OS_2.out BA.out)
                              have HZ := Lib.hid (show w.heap.size ≤ (w2.alloc (.cells #[.slice r.a r.n r.c] 42)).heap.size from G3.out.size)
                              clear R2 G2 K0_2 O2 BA X2 OC_2 OS_2
                              refine wpAnyH_ready (rs := [1, 4]) (by kernel_rfl) (by simp) ?_
                              refine AllReadyH.cons (o := _) rfl (fun K hK => ?_) (AllReadyH.cons (o := _) rfl (fun K hK => ?_) AllReadyH.nil)
                              · skip
                                obtain ⟨c0, c1, c2, c3, c4, c5⟩ := Bx.cells6 (show Bx w2 b1 _ 26 from K1_2.out)
                                go_simp
                                clear c0 c1 c2 c3 c4 c5
                                clear hHeld
                                refine hK.out _ _ trivial (fun hHeld => ?_)
                                clear hK K
                                (try simp only [Act.put, List.getElem_toArray, List.getElem_cons_zero, List.getElem_cons_succ, List.setIfInBounds_toArray, List.set_cons_zero, List.set_cons_succ])
                                refine wpAnyH_ready (rs := [4]) (by kernel_rfl) (by simp) ?_
                                refine AllReadyH.cons (o := _) rfl (fun K hK => ?_) AllReadyH.nil
                                go_simp
                                clear hHeld
                                refine hK.out _ _ (trivial) (fun hHeld => ?_)
                                clear hK K
                                (try simp only [Act.put, List.getElem_toArray, List.getElem_cons_zero, List.getElem_cons_succ, List.setIfInBounds_toArray, List.set_cons_zero, List.set_cons_succ])
                                clear K1_2
                                obtain ⟨w3, hw3⟩ : ∃ w3, w3 = w2.alloc (.cells #[.slice r.a r.n r.c] 42) := ⟨_, rfl⟩
                                obtain ⟨g3, hg3⟩ : ∃ g3, g3 = w2.heap.size := ⟨_, rfl⟩
                                rw [← hw3] at S2 R3 G3 K1_3 K0_3 O3 HZ X3 OC_3 OS_3 ⊢
                                rw [← hg3] at S2 ⊢
                                clear hw3 hg3
                                obtain ⟨RL, ho3, ha3⟩ := O3.out
                                have OO := Lib.hid ho3; have AA := Lib.hid ha3
                                clear ho3 ha3 O3
                                have HL1 := Lib.hid (show RL.length ≤ 100000 by rw [AA.out.len, HLN.out]; omega)
                                refine wpAnyH_ready (rs := [5]) (by kernel_rfl) (by simp) ?_
                                refine AllReadyH.cons (o := _) rfl (fun K hK => ?_) AllReadyH.nil
                                refine step_appG encB_len (by decide) encB_one 24 42 24 _ Try.underlying24 inf41 rfl (by decide) (w := w3) (by first | rfl | kernel_rfl) (.tmp 43) (.tmp 46) (by rfl) w.heap.size _ RL (by rfl) OO.out ⟨g3, 0, none⟩ 1 1 [r] (by rfl) S2.out HL1.out (by decide) HZ.out ?_
                                intro v4 w4 ho4 hg4
                                clear hHeld
                                refine hK.out _ _ trivial (fun hHeld => ?_)
                                clear hK K
                                (try simp only [Act.put, List.getElem_toArray, List.getElem_cons_zero, List.getElem_cons_succ, List.setIfInBounds_toArray, List.set_cons_zero, List.set_cons_succ])
                                obtain ⟨ra4, rc4, rfl, _⟩ := OwnR.recs encB_len ho4.out
                                have K1_4 := Lib.hid (K1_3.out.other hg4.out (ownR_apart OO.out K1_3.out (by decide))); have K0_4 := Lib.hid (K0_3.out.other hg4.out (ownR_apart OO.out K0_3.out (by decide))); have R4 := Lib.hid (R3.out.other hg4.out (ownR_apart OO.out R3.out (by decide))); have G4 := Lib.hid (grow_own OO.out G3.out hg4.out (Nat.le_refl _))
                                have OC_4 := Lib.hid (OwnR.away OC_3.out hg4.out (Away.own OO.out (by decide)))
                                have OS_4 := Lib.hid (OSels.away OS_3.out hg4.out (Away.own OO.out (by decide)) (Away.own OO.out (by decide)))
                                have X4 := Lib.hid (OBlk.away X3.out hg4.out (Away.own OO.out (by decide)))
                                have O4 := Lib.hid (show OBlks w4 w.heap.size (.slice ra4 (RL.length + 1) rc4) (L ++ [x]) from ⟨RL ++ [r], by have := ho4.out; rwa [List.length_append, List.length_singleton] at this, (AA.out.mono fun _ _ h => OBlk.away h hg4.out (Away.own OO.out (by decide))).snoc X4.out⟩)
                                refine wpAnyH_take (i := 6) (v := ?_) rfl (by kernel_rfl) (by kernel_rfl) (by kernel_rfl) (fun _ _ _ h => h) (Or.inl ⟨by rfl, ?_⟩) (by assumption) ?_
                                rotate_left
                                · (intro w hSw; (try dsimp only at hSw); go_simp; try with_reducible rfl)
                                (try simp only [Act.put, List.getElem_toArray, List.getElem_cons_zero, List.getElem_cons_succ, List.setIfInBounds_toArray, List.set_cons_zero, List.set_cons_succ])
                                have l1 := Bx.lt K1_4.out
                                have f1 := Bx.froz K1_4.out 5
                                obtain ⟨c0, c1, c2, c3, c4, c5⟩ := K1_4.out.cells6
                                refine wpAnyH_ready (rs := [7]) (by kernel_rfl) (by simp) ?_
                                refine AllReadyH.cons (o := _) rfl (fun K hK => ?_) AllReadyH.nil
                                go_simp
                                clear c0 c1 c2 c3 c4 c5 f1 l1
                                clear hHeld
                                refine hK.out _ _ (trivial) (fun hHeld => ?_)
                                clear hK K
                                (try simp only [Act.put, List.getElem_toArray, List.getElem_cons_zero, List.getElem_cons_succ, List.setIfInBounds_toArray, List.set_cons_zero, List.set_cons_succ])
                                refine wpAnyH_done (by kernel_rfl) ?_ _
                                clear hHeld
                                have K1_5 := Lib.hid (K1_4.out.set 5 (.slice ra4 (RL.length + 1) rc4)); have K0_5 := Lib.hid (K0_4.out.other (grow_setCell w4 b1 5 (.slice ra4 (RL.length + 1) rc4)) (some_ne h01)); have R5 := Lib.hid (R4.out.other (grow_setCell w4 b1 5 (.slice ra4 (RL.length + 1) rc4)) (some_ne hB1.symm)); have G5 := Lib.hid (grow_local G4.out (grow_setCell w4 b1 5 (.slice ra4 (RL.length + 1) rc4)) HB1.out)
                                have O5 := Lib.hid (OBlks.away O4.out (grow_setCell w4 b1 5 (.slice ra4 (RL.length + 1) rc4)) (Away.box K1_4.out (by decide)) (Away.box K1_4.out (by decide)))
                                have OC_5 := Lib.hid (OwnR.away OC_4.out (grow_setCell w4 b1 5 (.slice ra4 (RL.length + 1) rc4)) (Away.box K1_4.out (by decide)))
                                have OS_5 := Lib.hid (OSels.away OS_4.out (grow_setCell w4 b1 5 (.slice ra4 (RL.length + 1) rc4)) (Away.box K1_4.out (by decide)) (Away.box K1_4.out (by decide)))
                                go_wp2_with fail
                                go_roundw
                                case rel => exact ⟨k + 1, by omega, by go_num, L ++ [x], j', _, HR.out, HJ2.out, trivial, O5.out, OC_5.out, OS_5.out, K1_5.out, K0_5.out, R5.out, G5.out⟩
                                case measure => simp [intOf]; omega
                              · skip
                                go_simp
                                clear hHeld
                                refine hK.out _ _ trivial (fun hHeld => ?_)
                                clear hK K
                                (try simp only [Act.put, List.getElem_toArray, List.getElem_cons_zero, List.getElem_cons_succ, List.setIfInBounds_toArray, List.set_cons_zero, List.set_cons_succ])
                                clear K1_2
                                obtain ⟨w3, hw3⟩ : ∃ w3, w3 = w2.alloc (.cells #[.slice r.a r.n r.c] 42) := ⟨_, rfl⟩
                                obtain ⟨g3, hg3⟩ : ∃ g3, g3 = w2.heap.size := ⟨_, rfl⟩
                                rw [← hw3] at S2 R3 G3 K1_3 K0_3 O3 HZ X3 OC_3 OS_3 ⊢
                                rw [← hg3] at S2 ⊢
                                clear hw3 hg3
                                refine wpAnyH_ready (rs := [1]) (by kernel_rfl) (by simp) ?_
                                refine AllReadyH.cons (o := _) rfl (fun K hK => ?_) AllReadyH.nil
                                obtain ⟨c0, c1, c2, c3, c4, c5⟩ := Bx.cells6 (show Bx w3 b1 _ 26 from K1_3.out)
                                go_simp
                                clear c0 c1 c2 c3 c4 c5
                                clear hHeld
                                refine hK.out _ _ trivial (fun hHeld => ?_)
                                clear hK K
                                (try simp only [Act.put, List.getElem_toArray, List.getElem_cons_zero, List.getElem_cons_succ, List.setIfInBounds_toArray, List.set_cons_zero, List.set_cons_succ])
                                obtain ⟨RL, ho3, ha3⟩ := O3.out
                                have OO := Lib.hid ho3; have AA := Lib.hid ha3
                                clear ho3 ha3 O3
                                have HL1 := Lib.hid (show RL.length ≤ 100000 by rw [AA.out.len, HLN.out]; omega)
                                refine wpAnyH_ready (rs := [5]) (by kernel_rfl) (by simp) ?_
                                refine AllReadyH.cons (o := _) rfl (fun K hK => ?_) AllReadyH.nil
                                refine step_appG encB_len (by decide) encB_one 24 42 24 _ Try.underlying24 inf41 rfl (by decide) (w := w3) (by first | rfl | kernel_rfl) (.tmp 43) (.tmp 46) (by rfl) w.heap.size _ RL (by rfl) OO.out ⟨g3, 0, none⟩ 1 1 [r] (by rfl) S2.out HL1.out (by decide) HZ.out ?_
                                intro v4 w4 ho4 hg4
                                clear hHeld
                                refine hK.out _ _ trivial (fun hHeld => ?_)
                                clear hK K
                                (try simp only [Act.put, List.getElem_toArray, List.getElem_cons_zero, List.getElem_cons_succ, List.setIfInBounds_toArray, List.set_cons_zero, List.set_cons_succ])
                                obtain ⟨ra4, rc4, rfl, _⟩ := OwnR.recs encB_len ho4.out
                                have K1_4 := Lib.hid (K1_3.out.other hg4.out (ownR_apart OO.out K1_3.out (by decide))); have K0_4 := Lib.hid (K0_3.out.other hg4.out (ownR_apart OO.out K0_3.out (by decide))); have R4 := Lib.hid (R3.out.other hg4.out (ownR_apart OO.out R3.out (by decide))); have G4 := Lib.hid (grow_own OO.out G3.out hg4.out (Nat.le_refl _))
                                have OC_4 := Lib.hid (OwnR.away OC_3.out hg4.out (Away.own OO.out (by decide)))
                                have OS_4 := Lib.hid (OSels.away OS_3.out hg4.out (Away.own OO.out (by decide)) (Away.own OO.out (by decide)))
                                have X4 := Lib.hid (OBlk.away X3.out hg4.out (Away.own OO.out (by decide)))
                                have O4 := Lib.hid (show OBlks w4 w.heap.size (.slice ra4 (RL.length + 1) rc4) (L ++ [x]) from ⟨RL ++ [r], by have := ho4.out; rwa [List.length_append, List.length_singleton] at this, (AA.out.mono fun _ _ h => OBlk.away h hg4.out (Away.own OO.out (by decide))).snoc X4.out⟩)
                                refine wpAnyH_take (i := 6) (v := ?_) rfl (by kernel_rfl) (by kernel_rfl) (by kernel_rfl) (fun _ _ _ h => h) (Or.inl ⟨by rfl, ?_⟩) (by assumption) ?_
                                rotate_left
                                · (intro w hSw; (try dsimp only at hSw); go_simp; try with_reducible rfl)
                                (try simp only [Act.put, List.getElem_toArray, List.getElem_cons_zero, List.getElem_cons_succ, List.setIfInBounds_toArray, List.set_cons_zero, List.set_cons_succ])
                                have l1 := Bx.lt K1_4.out
                                have f1 := Bx.froz K1_4.out 5
                                obtain ⟨c0, c1, c2, c3, c4, c5⟩ := K1_4.out.cells6
                                refine wpAnyH_ready (rs := [7]) (by kernel_rfl) (by simp) ?_
                                refine AllReadyH.cons (o := _) rfl (fun K hK => ?_) AllReadyH.nil
                                go_simp
                                clear c0 c1 c2 c3 c4 c5 f1 l1
                                clear hHeld
                                refine hK.out _ _ (trivial) (fun hHeld => ?_)
                                clear hK K
                                (try simp only [Act.put, List.getElem_toArray, List.getElem_cons_zero, List.getElem_cons_succ, List.setIfInBounds_toArray, List.set_cons_zero, List.set_cons_succ])
                                refine wpAnyH_done (by kernel_rfl) ?_ _
                                clear hHeld
                                have K1_5 := Lib.hid (K1_4.out.set 5 (.slice ra4 (RL.length + 1) rc4)); have K0_5 := Lib.hid (K0_4.out.other (grow_setCell w4 b1 5 (.slice ra4 (RL.length + 1) rc4)) (some_ne h01)); have R5 := Lib.hid (R4.out.other (grow_setCell w4 b1 5 (.slice ra4 (RL.length + 1) rc4)) (some_ne hB1.symm)); have G5 := Lib.hid (grow_local G4.out (grow_setCell w4 b1 5 (.slice ra4 (RL.length + 1) rc4)) HB1.out)
                                have O5 := Lib.hid (OBlks.away O4.out (grow_setCell w4 b1 5 (.slice ra4 (RL.length + 1) rc4)) (Away.box K1_4.out (by decide)) (Away.box K1_4.out (by decide)))
                                have OC_5 := Lib.hid (OwnR.away OC_4.out (grow_setCell w4 b1 5 (.slice ra4 (RL.length + 1) rc4)) (Away.box K1_4.out (by decide)))
                                have OS_5 := Lib.hid (OSels.away OS_4.out (grow_setCell w4 b1 5 (.slice ra4 (RL.length + 1) rc4)) (Away.box K1_4.out (by decide)) (Away.box K1_4.out (by decide)))
                                go_wp2_with fail
                                go_roundw
                                case rel => exact ⟨k + 1, by omega, by go_num, L ++ [x], j', _, HR.out, HJ2.out, trivial, O5.out, OC_5.out, OS_5.out, K1_5.out, K0_5.out, R5.out, G5.out⟩
                                case measure => simp [intOf]; omega
                        · have hke : k = m := by omega
                          subst hke
                          have HR := Lib.hid (show prgP (tx s) i = .ok ⟨caps, mu, on, va, sels, L⟩ j by rw [HP3.out, HREP.out]; rfl)
                          have l0 := Bx.lt K0.out
                          have f0 := Bx.froz K0.out 0; have f1 := Bx.froz K0.out 1; have f2 := Bx.froz K0.out 2; have f3 := Bx.froz K0.out 3; have f4 := Bx.froz K0.out 4; have f5 := Bx.froz K0.out 5
                          obtain ⟨x0, x1, x2, x3, x4, x5⟩ := K1.out.cells6
                          obtain ⟨z0, z1, z2, z3, z4, z5⟩ := K0.out.cells6
                          have HE := Lib.hid (K0.out.st6 (.slice ca cn cc) (.int .i64 mu) (.int .i64 on) (.int .i64 va) (.slice sa sels.length sc) (.slice ra L.length rc))
                          have SG := Lib.hid (grown_st6 (World.grownBy.refl wr (some b0)) (.slice ca cn cc) (.int .i64 mu) (.int .i64 on) (.int .i64 va) (.slice sa sels.length sc) (.slice ra L.length rc))
                          have GE := Lib.hid (grow_local GB.out SG.out (by rw [HB0.out]; exact Nat.le_refl _))
                          have RE := Lib.hid (RB.out.other SG.out (some_ne hB0.symm))
                          have OE := Lib.hid (OBlks.away HO.out SG.out (Away.box K0.out (by decide)) (Away.box K0.out (by decide)))
                          have OSE := Lib.hid (OSels.away OS.out SG.out (Away.box K0.out (by decide)) (Away.box K0.out (by decide)))
                          have OCE := Lib.hid (OwnR.away OC.out SG.out (Away.box K0.out (by decide)))
                          go_wp2_with fail
                          refine bodyPost_ret (v := .agg #[.slice ca cn cc, .int .i64 mu, .int .i64 on, .int .i64 va, .slice sa sels.length sc, .slice ra L.length rc]) (by first | rw [res_c0 Try.results40 _ (by rfl) (Bx.load HE.out Try.underlying26 inf26)] | skip) rfl ?_
                          rw [HQ.out]; exact Post.ok HR.out ⟨⟨ca, cn, cc, sa, sels.length, sc, ra, L.length, rc⟩, rfl, OCE.out, OSE.out, OE.out, HC4.out, HS4.out, by show L.length ≤ 6; rw [HLN.out]; exact hm4, HCI.out, HMU.out.1, HMU.out.2.1, HMU.out.2.2⟩ RE.out GE.out
end Go.Proofs.Ytddkckppmjcclaa
