/- An instruction's text: the program's. -/
import Derived.Test.YtpdlfijcicboiaaDoorT6
import Derived.Lib.AppendIntMem
import Derived.Deep.RegionHeld
namespace Go.Proofs.YtpdlfijcicboiaaDoor
open Go.RowKit
set_option linter.unusedSimpArgs false
set_option linter.unusedVariables false
theorem itoa_dig : ∀ k : Fin 1000, (⟨(Lib.itoa (k.val : Int)).toArray⟩ : ByteArray) = digB (k.val : Int) := by decide +kernel
theorem itoa_any (n : Int) (w : World) (h0 : 0 ≤ n) (h1 : n < 1000) (hE : Env w) : Calls Tryd.prog 29 #[.int .i64 n] w (StrTo w (digB n)) := by
  refine (Tryd.strconv_Itoa n (by omega) (by omega) w hE.2).mono ?_
  rintro e w' ⟨rfl, k, os, rfl⟩
  obtain ⟨m, rfl⟩ : ∃ m : Nat, n = (m : Int) := ⟨n.toNat, by omega⟩
  exact ⟨ret_str (itoa_dig ⟨m, by omega⟩), Lib.below_grow _ _ (Nat.le_refl _) _ _⟩
theorem bytes_list (s : ByteArray) (l : List UInt8) (h : s.data.toList = l) : (⟨l.toArray⟩ : ByteArray) = s := by subst h; rfl
theorem join_any (b n c : Nat) (cs : Array Value) (xs : List ByteArray) (sep S : ByteArray) (w : World) (hn : xs.length = n) (hb : Bx w b cs 9) (hx : ∀ (j : Nat) x, xs[j]? = some x → cs[j]? = some (.string x)) (hc : n ≤ c) (hS : Lib.join (xs.map (·.data.toList)) sep.data.toList = S.data.toList) (hl : S.size ≤ 100000) (hm : n ≤ 100000) : Calls Tryd.prog 19 #[.slice (some ⟨b, 0, none⟩) n c, .string sep] w (StrTo w S) := by
  subst hn
  refine (Tryd.strings_Join b 0 c xs sep w (fun j x h => by rw [Nat.zero_add]; exact hb.cell j (hx j x h)) hb.lt (by omega) hc (by rw [hS, ← Lib.size_eq]; omega)).mono ?_
  rintro e w' ⟨rfl, hb'⟩
  exact ⟨ret_str (bytes_list S _ hS.symm), hb'⟩
set_option maxRecDepth 100000 in
set_option maxHeartbeats 8000000 in
theorem printed_0 (op a b : Int) (w : World) (hn : numZ op = 0) (h0 : 0 ≤ op) (h1 : op < 14) (ha : 0 ≤ a ∧ a < 1000) (hb : 0 ≤ b ∧ b < 1000) (hE : Env w) : Calls Tryd.prog 18 #[insV ⟨op, a, b⟩] w (StrTo w (oneB ⟨op, a, b⟩)) := by
  have B0 := Lib.hid (below_alloc w (.cells #[.int .i64 op, .int .i64 a, .int .i64 b] 31))
  have K0 := Lib.hid (Bx.new w #[.int .i64 op, .int .i64 a, .int .i64 b] 31)
  obtain ⟨k, rfl⟩ : ∃ k : Nat, op = (k : Int) := ⟨op.toNat, by omega⟩
  have E0 := Lib.hid (hE.below B0.out)
  have HW := Lib.hid (fun W hE => Name_ok k W (by omega) hE)
  have HN := Lib.hid (fun W => numbers_any (k : Int) W)
  have HA := Lib.hid (fun W hE => itoa_any a W ha.1 ha.2 hE)
  have HB := Lib.hid (fun W hE => itoa_any b W hb.1 hb.2 hE)
  unfold PairTo at HW
  unfold StrTo at HA HB
  rw [hn] at HN
  have HO := show oneB ⟨k, a, b⟩ = wordB k by unfold oneB; dsimp only; rw [hn]; rfl
  have hz := oneB_size ⟨k, a, b⟩
  obtain ⟨S, hS⟩ : ∃ S, S = wordB (k : Int) := ⟨_, rfl⟩
  obtain ⟨D, hD⟩ : ∃ S, S = digB a := ⟨_, rfl⟩
  obtain ⟨E, hE'⟩ : ∃ S, S = digB b := ⟨_, rfl⟩
  rw [← hS] at HW HO
  rw [← hD] at HA
  rw [← hE'] at HB
  rw [HO] at hz ⊢
  have HJ : Hid (∀ (W : World) (b1 : Nat), Bx W b1 #[.string S, .string D, .string E] 9 → Calls Tryd.prog 19 #[.slice (some ⟨b1, 0, none⟩) 1 3, .string ⟨#[32]⟩] W (StrTo W (S))) := Lib.hid (fun W b1 hx => join_any b1 1 3 _ [S] _ _ W rfl hx (by
    intro j x h
    match j, h with

    | 0, h => cases h; rfl
    | j + 1, h => simp at h) (by decide) (by simp [Lib.join, List.intercalate, spB]) (by omega) (by decide))
  unfold StrTo at HJ
  clear HO hn hS hD hE' ha hb hE hz
  obtain ⟨b0, hb0⟩ : ∃ z, z = w.heap.size := ⟨_, rfl⟩
  obtain ⟨v0, hv0⟩ : ∃ z, z = w.alloc (.cells #[.int .i64 (k : Int), .int .i64 a, .int .i64 b] 31) := ⟨_, rfl⟩
  have HB0 := Lib.hid hb0; have HV0 := Lib.hid hv0
  rw [← hv0] at B0 K0 E0
  rw [← hb0] at K0
  clear hb0 hv0
  have HSS := Lib.hid (fun (W : World) (h : Bx W b0 #[.int .i64 (k : Int), .int .i64 a, .int .i64 b] 31) => Bx.cells3 h)
  go_enter Tryd.func18, Tryd.ntmps18
  go_upto_region 1 with (fail)
  rw [← HV0.out, ← HB0.out]
  obtain ⟨x0, x1, x2⟩ := Bx.cells3 K0.out
  go_wp2_with fail
  clear x0 x1 x2
  refine (HW.out _ E0.out).mono ?_
  rintro e w1 ⟨rfl, hb⟩
  have K1 := Lib.hid (Bx.below K0.out hb); have B1 := Lib.hid (B0.out.trans (Below.mono hb B0.out.size)); have E1 := Lib.hid (E0.out.below hb)
  clear hb
  go_upto_region 2 with (fail)
  have K2 := Lib.hid (Bx.below K1.out (Below.refl w1.heap.size w1).drew); have B2 := Lib.hid (B1.out.drew); have E2 := Lib.hid (E1.out.below (Below.refl w1.heap.size w1).drew)
  refine wp_region_held_drew (S := (fun W => W.cell? ⟨b0, 0, none⟩ = some (.int .i64 (k : Int)) ∧ W.cell? ⟨b0, 1, none⟩ = some (.int .i64 a) ∧ W.cell? ⟨b0, 2, none⟩ = some (.int .i64 b))) (by kernel_rfl) (HSS.out _ K2.out) (fun hHeld => ?_)
  (try simp only [Act.put, List.getElem_toArray, List.getElem_cons_zero, List.getElem_cons_succ, List.setIfInBounds_toArray, List.set_cons_zero, List.set_cons_succ])
  refine wpAnyH_take (i := 0) (v := ?_) rfl (by kernel_rfl) (by kernel_rfl) (by kernel_rfl) (fun _ _ _ h => h) (Or.inl ⟨by rfl, ?_⟩) (by assumption) ?_
  rotate_left
  · (intro w hSw; (try dsimp only at hSw); go_simp; try with_reducible rfl)
  (try simp only [Act.put, List.getElem_toArray, List.getElem_cons_zero, List.getElem_cons_succ, List.setIfInBounds_toArray, List.set_cons_zero, List.set_cons_succ])
  refine wpAnyH_take (i := 1) (v := ?_) rfl (by kernel_rfl) (by kernel_rfl) (by kernel_rfl) (fun _ _ _ h => h) (Or.inl ⟨by rfl, ?_⟩) (by assumption) ?_
  rotate_left
  · (intro w hSw; (try dsimp only at hSw); go_simp; try with_reducible rfl)
  (try simp only [Act.put, List.getElem_toArray, List.getElem_cons_zero, List.getElem_cons_succ, List.setIfInBounds_toArray, List.set_cons_zero, List.set_cons_succ])
  refine wpAnyH_take (i := 2) (v := ?_) rfl (by kernel_rfl) (by kernel_rfl) (by kernel_rfl) (fun _ _ _ h => h) (Or.inl ⟨by rfl, ?_⟩) (by assumption) ?_
  rotate_left
  · (intro w hSw; (try dsimp only at hSw); go_simp; try with_reducible rfl)
  (try simp only [Act.put, List.getElem_toArray, List.getElem_cons_zero, List.getElem_cons_succ, List.setIfInBounds_toArray, List.set_cons_zero, List.set_cons_succ])
  refine wpAnyH_take (i := 4) (v := ?_) rfl (by kernel_rfl) (by kernel_rfl) (by kernel_rfl) (fun _ _ _ h => h) (Or.inl ⟨by rfl, ?_⟩) (by assumption) ?_
  rotate_left
  · (intro w hSw; (try dsimp only at hSw); go_simp; try with_reducible rfl)
  (try simp only [Act.put, List.getElem_toArray, List.getElem_cons_zero, List.getElem_cons_succ, List.setIfInBounds_toArray, List.set_cons_zero, List.set_cons_succ])
  refine wpAnyH_take (i := 5) (v := ?_) rfl (by kernel_rfl) (by kernel_rfl) (by kernel_rfl) (fun _ _ _ h => h) (Or.inl ⟨by rfl, ?_⟩) (by assumption) ?_
  rotate_left
  · (intro w hSw; (try dsimp only at hSw); go_simp; try with_reducible rfl)
  (try simp only [Act.put, List.getElem_toArray, List.getElem_cons_zero, List.getElem_cons_succ, List.setIfInBounds_toArray, List.set_cons_zero, List.set_cons_succ])
  refine wpAnyH_ready (rs := [3]) (by kernel_rfl) (by simp) ?_
  refine AllReadyH.cons (o := _) rfl (fun K hK => ?_) AllReadyH.nil
  go_simp
  refine (HA.out _ E2.out).mono ?_
  rintro e w2 ⟨rfl, hb⟩
  have K3 := Lib.hid (Bx.below K2.out hb); have B3 := Lib.hid (B2.out.trans (Below.mono hb B2.out.size)); have E3 := Lib.hid (E2.out.below hb)
  clear hb
  clear hHeld
  refine hK.out _ _ (HSS.out _ K3.out) (fun hHeld => ?_)
  clear hK K
  (try simp only [Act.put, List.getElem_toArray, List.getElem_cons_zero, List.getElem_cons_succ, List.setIfInBounds_toArray, List.set_cons_zero, List.set_cons_succ])
  refine wpAnyH_ready (rs := [6]) (by kernel_rfl) (by simp) ?_
  refine AllReadyH.cons (o := _) rfl (fun K hK => ?_) AllReadyH.nil
  go_simp
  refine (HB.out _ E3.out).mono ?_
  rintro e w3 ⟨rfl, hb⟩
  have K4 := Lib.hid (Bx.below K3.out hb); have B4 := Lib.hid (B3.out.trans (Below.mono hb B3.out.size)); have E4 := Lib.hid (E3.out.below hb)
  clear hb
  clear hHeld
  refine hK.out _ _ (HSS.out _ K4.out) (fun hHeld => ?_)
  clear hK K
  (try simp only [Act.put, List.getElem_toArray, List.getElem_cons_zero, List.getElem_cons_succ, List.setIfInBounds_toArray, List.set_cons_zero, List.set_cons_succ])
  refine wpAnyH_ready (rs := [7]) (by kernel_rfl) (by simp) ?_
  refine AllReadyH.cons (o := _) rfl (fun K hK => ?_) AllReadyH.nil
  go_simp
  have B5 := Lib.hid (B4.out.trans (Below.mono (below_alloc w3 (.cells #[.string S, .string D, .string E] 9)) B4.out.size))
  have K5 := Lib.hid (Bx.below K4.out (below_alloc w3 (.cells #[.string S, .string D, .string E] 9)))
  have L5 := Lib.hid (Bx.new w3 #[.string S, .string D, .string E] 9)
  obtain ⟨b1, hb1⟩ : ∃ z, z = w3.heap.size := ⟨_, rfl⟩
  obtain ⟨v5, hv5⟩ : ∃ z, z = w3.alloc (.cells #[.string S, .string D, .string E] 9) := ⟨_, rfl⟩
  rw [← hv5] at B5 K5 L5 ⊢
  rw [← hb1] at L5 ⊢
  clear hb1 hv5
  clear hHeld
  refine hK.out _ _ (HSS.out _ K5.out) (fun hHeld => ?_)
  clear hK K
  (try simp only [Act.put, List.getElem_toArray, List.getElem_cons_zero, List.getElem_cons_succ, List.setIfInBounds_toArray, List.set_cons_zero, List.set_cons_succ])
  refine wpAnyH_take (i := 8) (v := ?_) rfl (by kernel_rfl) (by kernel_rfl) (by kernel_rfl) (fun _ _ _ h => h) (Or.inl ⟨by rfl, ?_⟩) (by assumption) ?_
  rotate_left
  · (intro w hSw; (try dsimp only at hSw); go_simp; try with_reducible rfl)
  (try simp only [Act.put, List.getElem_toArray, List.getElem_cons_zero, List.getElem_cons_succ, List.setIfInBounds_toArray, List.set_cons_zero, List.set_cons_succ])
  refine wpAnyH_done (by kernel_rfl) ?_ _
  clear hHeld
  obtain ⟨x0, x1, x2⟩ := Bx.cells3 K5.out
  go_wp2_with fail
  clear x0 x1 x2
  refine (HN.out _).mono ?_
  rintro e w5 ⟨rfl, rfl⟩
  go_wp2_with fail
  refine (HJ.out _ _ L5.out).mono ?_
  rintro e w6 ⟨rfl, hb⟩
  have B6 := Lib.hid (B5.out.trans (Below.mono hb B5.out.size))
  clear hb
  go_wp2_with fail
  go_ret
  exact ⟨rfl, B6.out⟩
set_option maxRecDepth 100000 in
set_option maxHeartbeats 8000000 in
theorem printed_1 (op a b : Int) (w : World) (hn : numZ op = 1) (h0 : 0 ≤ op) (h1 : op < 14) (ha : 0 ≤ a ∧ a < 1000) (hb : 0 ≤ b ∧ b < 1000) (hE : Env w) : Calls Tryd.prog 18 #[insV ⟨op, a, b⟩] w (StrTo w (oneB ⟨op, a, b⟩)) := by
  have B0 := Lib.hid (below_alloc w (.cells #[.int .i64 op, .int .i64 a, .int .i64 b] 31))
  have K0 := Lib.hid (Bx.new w #[.int .i64 op, .int .i64 a, .int .i64 b] 31)
  obtain ⟨k, rfl⟩ : ∃ k : Nat, op = (k : Int) := ⟨op.toNat, by omega⟩
  have E0 := Lib.hid (hE.below B0.out)
  have HW := Lib.hid (fun W hE => Name_ok k W (by omega) hE)
  have HN := Lib.hid (fun W => numbers_any (k : Int) W)
  have HA := Lib.hid (fun W hE => itoa_any a W ha.1 ha.2 hE)
  have HB := Lib.hid (fun W hE => itoa_any b W hb.1 hb.2 hE)
  unfold PairTo at HW
  unfold StrTo at HA HB
  rw [hn] at HN
  have HO := show oneB ⟨k, a, b⟩ = wordB k ++ spB ++ digB a by unfold oneB; dsimp only; rw [hn]; rfl
  have hz := oneB_size ⟨k, a, b⟩
  obtain ⟨S, hS⟩ : ∃ S, S = wordB (k : Int) := ⟨_, rfl⟩
  obtain ⟨D, hD⟩ : ∃ S, S = digB a := ⟨_, rfl⟩
  obtain ⟨E, hE'⟩ : ∃ S, S = digB b := ⟨_, rfl⟩
  rw [← hS] at HW HO
  rw [← hD] at HA HO
  rw [← hE'] at HB
  rw [HO] at hz ⊢
  have HJ : Hid (∀ (W : World) (b1 : Nat), Bx W b1 #[.string S, .string D, .string E] 9 → Calls Tryd.prog 19 #[.slice (some ⟨b1, 0, none⟩) 2 3, .string ⟨#[32]⟩] W (StrTo W (S ++ spB ++ D))) := Lib.hid (fun W b1 hx => join_any b1 2 3 _ [S, D] _ _ W rfl hx (by
    intro j x h
    match j, h with

    | 0, h => cases h; rfl
    | 1, h => cases h; rfl
    | j + 2, h => simp at h) (by decide) (by simp [Lib.join, List.intercalate, spB]) (by omega) (by decide))
  unfold StrTo at HJ
  clear HO hn hS hD hE' ha hb hE hz
  obtain ⟨b0, hb0⟩ : ∃ z, z = w.heap.size := ⟨_, rfl⟩
  obtain ⟨v0, hv0⟩ : ∃ z, z = w.alloc (.cells #[.int .i64 (k : Int), .int .i64 a, .int .i64 b] 31) := ⟨_, rfl⟩
  have HB0 := Lib.hid hb0; have HV0 := Lib.hid hv0
  rw [← hv0] at B0 K0 E0
  rw [← hb0] at K0
  clear hb0 hv0
  have HSS := Lib.hid (fun (W : World) (h : Bx W b0 #[.int .i64 (k : Int), .int .i64 a, .int .i64 b] 31) => Bx.cells3 h)
  go_enter Tryd.func18, Tryd.ntmps18
  go_upto_region 1 with (fail)
  rw [← HV0.out, ← HB0.out]
  obtain ⟨x0, x1, x2⟩ := Bx.cells3 K0.out
  go_wp2_with fail
  clear x0 x1 x2
  refine (HW.out _ E0.out).mono ?_
  rintro e w1 ⟨rfl, hb⟩
  have K1 := Lib.hid (Bx.below K0.out hb); have B1 := Lib.hid (B0.out.trans (Below.mono hb B0.out.size)); have E1 := Lib.hid (E0.out.below hb)
  clear hb
  go_upto_region 2 with (fail)
  have K2 := Lib.hid (Bx.below K1.out (Below.refl w1.heap.size w1).drew); have B2 := Lib.hid (B1.out.drew); have E2 := Lib.hid (E1.out.below (Below.refl w1.heap.size w1).drew)
  refine wp_region_held_drew (S := (fun W => W.cell? ⟨b0, 0, none⟩ = some (.int .i64 (k : Int)) ∧ W.cell? ⟨b0, 1, none⟩ = some (.int .i64 a) ∧ W.cell? ⟨b0, 2, none⟩ = some (.int .i64 b))) (by kernel_rfl) (HSS.out _ K2.out) (fun hHeld => ?_)
  (try simp only [Act.put, List.getElem_toArray, List.getElem_cons_zero, List.getElem_cons_succ, List.setIfInBounds_toArray, List.set_cons_zero, List.set_cons_succ])
  refine wpAnyH_take (i := 0) (v := ?_) rfl (by kernel_rfl) (by kernel_rfl) (by kernel_rfl) (fun _ _ _ h => h) (Or.inl ⟨by rfl, ?_⟩) (by assumption) ?_
  rotate_left
  · (intro w hSw; (try dsimp only at hSw); go_simp; try with_reducible rfl)
  (try simp only [Act.put, List.getElem_toArray, List.getElem_cons_zero, List.getElem_cons_succ, List.setIfInBounds_toArray, List.set_cons_zero, List.set_cons_succ])
  refine wpAnyH_take (i := 1) (v := ?_) rfl (by kernel_rfl) (by kernel_rfl) (by kernel_rfl) (fun _ _ _ h => h) (Or.inl ⟨by rfl, ?_⟩) (by assumption) ?_
  rotate_left
  · (intro w hSw; (try dsimp only at hSw); go_simp; try with_reducible rfl)
  (try simp only [Act.put, List.getElem_toArray, List.getElem_cons_zero, List.getElem_cons_succ, List.setIfInBounds_toArray, List.set_cons_zero, List.set_cons_succ])
  refine wpAnyH_take (i := 2) (v := ?_) rfl (by kernel_rfl) (by kernel_rfl) (by kernel_rfl) (fun _ _ _ h => h) (Or.inl ⟨by rfl, ?_⟩) (by assumption) ?_
  rotate_left
  · (intro w hSw; (try dsimp only at hSw); go_simp; try with_reducible rfl)
  (try simp only [Act.put, List.getElem_toArray, List.getElem_cons_zero, List.getElem_cons_succ, List.setIfInBounds_toArray, List.set_cons_zero, List.set_cons_succ])
  refine wpAnyH_take (i := 4) (v := ?_) rfl (by kernel_rfl) (by kernel_rfl) (by kernel_rfl) (fun _ _ _ h => h) (Or.inl ⟨by rfl, ?_⟩) (by assumption) ?_
  rotate_left
  · (intro w hSw; (try dsimp only at hSw); go_simp; try with_reducible rfl)
  (try simp only [Act.put, List.getElem_toArray, List.getElem_cons_zero, List.getElem_cons_succ, List.setIfInBounds_toArray, List.set_cons_zero, List.set_cons_succ])
  refine wpAnyH_take (i := 5) (v := ?_) rfl (by kernel_rfl) (by kernel_rfl) (by kernel_rfl) (fun _ _ _ h => h) (Or.inl ⟨by rfl, ?_⟩) (by assumption) ?_
  rotate_left
  · (intro w hSw; (try dsimp only at hSw); go_simp; try with_reducible rfl)
  (try simp only [Act.put, List.getElem_toArray, List.getElem_cons_zero, List.getElem_cons_succ, List.setIfInBounds_toArray, List.set_cons_zero, List.set_cons_succ])
  refine wpAnyH_ready (rs := [3]) (by kernel_rfl) (by simp) ?_
  refine AllReadyH.cons (o := _) rfl (fun K hK => ?_) AllReadyH.nil
  go_simp
  refine (HA.out _ E2.out).mono ?_
  rintro e w2 ⟨rfl, hb⟩
  have K3 := Lib.hid (Bx.below K2.out hb); have B3 := Lib.hid (B2.out.trans (Below.mono hb B2.out.size)); have E3 := Lib.hid (E2.out.below hb)
  clear hb
  clear hHeld
  refine hK.out _ _ (HSS.out _ K3.out) (fun hHeld => ?_)
  clear hK K
  (try simp only [Act.put, List.getElem_toArray, List.getElem_cons_zero, List.getElem_cons_succ, List.setIfInBounds_toArray, List.set_cons_zero, List.set_cons_succ])
  refine wpAnyH_ready (rs := [6]) (by kernel_rfl) (by simp) ?_
  refine AllReadyH.cons (o := _) rfl (fun K hK => ?_) AllReadyH.nil
  go_simp
  refine (HB.out _ E3.out).mono ?_
  rintro e w3 ⟨rfl, hb⟩
  have K4 := Lib.hid (Bx.below K3.out hb); have B4 := Lib.hid (B3.out.trans (Below.mono hb B3.out.size)); have E4 := Lib.hid (E3.out.below hb)
  clear hb
  clear hHeld
  refine hK.out _ _ (HSS.out _ K4.out) (fun hHeld => ?_)
  clear hK K
  (try simp only [Act.put, List.getElem_toArray, List.getElem_cons_zero, List.getElem_cons_succ, List.setIfInBounds_toArray, List.set_cons_zero, List.set_cons_succ])
  refine wpAnyH_ready (rs := [7]) (by kernel_rfl) (by simp) ?_
  refine AllReadyH.cons (o := _) rfl (fun K hK => ?_) AllReadyH.nil
  go_simp
  have B5 := Lib.hid (B4.out.trans (Below.mono (below_alloc w3 (.cells #[.string S, .string D, .string E] 9)) B4.out.size))
  have K5 := Lib.hid (Bx.below K4.out (below_alloc w3 (.cells #[.string S, .string D, .string E] 9)))
  have L5 := Lib.hid (Bx.new w3 #[.string S, .string D, .string E] 9)
  obtain ⟨b1, hb1⟩ : ∃ z, z = w3.heap.size := ⟨_, rfl⟩
  obtain ⟨v5, hv5⟩ : ∃ z, z = w3.alloc (.cells #[.string S, .string D, .string E] 9) := ⟨_, rfl⟩
  rw [← hv5] at B5 K5 L5 ⊢
  rw [← hb1] at L5 ⊢
  clear hb1 hv5
  clear hHeld
  refine hK.out _ _ (HSS.out _ K5.out) (fun hHeld => ?_)
  clear hK K
  (try simp only [Act.put, List.getElem_toArray, List.getElem_cons_zero, List.getElem_cons_succ, List.setIfInBounds_toArray, List.set_cons_zero, List.set_cons_succ])
  refine wpAnyH_take (i := 8) (v := ?_) rfl (by kernel_rfl) (by kernel_rfl) (by kernel_rfl) (fun _ _ _ h => h) (Or.inl ⟨by rfl, ?_⟩) (by assumption) ?_
  rotate_left
  · (intro w hSw; (try dsimp only at hSw); go_simp; try with_reducible rfl)
  (try simp only [Act.put, List.getElem_toArray, List.getElem_cons_zero, List.getElem_cons_succ, List.setIfInBounds_toArray, List.set_cons_zero, List.set_cons_succ])
  refine wpAnyH_done (by kernel_rfl) ?_ _
  clear hHeld
  obtain ⟨x0, x1, x2⟩ := Bx.cells3 K5.out
  go_wp2_with fail
  clear x0 x1 x2
  refine (HN.out _).mono ?_
  rintro e w5 ⟨rfl, rfl⟩
  go_wp2_with fail
  refine (HJ.out _ _ L5.out).mono ?_
  rintro e w6 ⟨rfl, hb⟩
  have B6 := Lib.hid (B5.out.trans (Below.mono hb B5.out.size))
  clear hb
  go_wp2_with fail
  go_ret
  exact ⟨rfl, B6.out⟩
set_option maxRecDepth 100000 in
set_option maxHeartbeats 8000000 in
theorem printed_2 (op a b : Int) (w : World) (hn : numZ op = 2) (h0 : 0 ≤ op) (h1 : op < 14) (ha : 0 ≤ a ∧ a < 1000) (hb : 0 ≤ b ∧ b < 1000) (hE : Env w) : Calls Tryd.prog 18 #[insV ⟨op, a, b⟩] w (StrTo w (oneB ⟨op, a, b⟩)) := by
  have B0 := Lib.hid (below_alloc w (.cells #[.int .i64 op, .int .i64 a, .int .i64 b] 31))
  have K0 := Lib.hid (Bx.new w #[.int .i64 op, .int .i64 a, .int .i64 b] 31)
  obtain ⟨k, rfl⟩ : ∃ k : Nat, op = (k : Int) := ⟨op.toNat, by omega⟩
  have E0 := Lib.hid (hE.below B0.out)
  have HW := Lib.hid (fun W hE => Name_ok k W (by omega) hE)
  have HN := Lib.hid (fun W => numbers_any (k : Int) W)
  have HA := Lib.hid (fun W hE => itoa_any a W ha.1 ha.2 hE)
  have HB := Lib.hid (fun W hE => itoa_any b W hb.1 hb.2 hE)
  unfold PairTo at HW
  unfold StrTo at HA HB
  rw [hn] at HN
  have HO := show oneB ⟨k, a, b⟩ = wordB k ++ spB ++ digB a ++ spB ++ digB b by unfold oneB; dsimp only; rw [hn]; rfl
  have hz := oneB_size ⟨k, a, b⟩
  obtain ⟨S, hS⟩ : ∃ S, S = wordB (k : Int) := ⟨_, rfl⟩
  obtain ⟨D, hD⟩ : ∃ S, S = digB a := ⟨_, rfl⟩
  obtain ⟨E, hE'⟩ : ∃ S, S = digB b := ⟨_, rfl⟩
  rw [← hS] at HW HO
  rw [← hD] at HA HO
  rw [← hE'] at HB HO
  rw [HO] at hz ⊢
  have HJ : Hid (∀ (W : World) (b1 : Nat), Bx W b1 #[.string S, .string D, .string E] 9 → Calls Tryd.prog 19 #[.slice (some ⟨b1, 0, none⟩) 3 3, .string ⟨#[32]⟩] W (StrTo W (S ++ spB ++ D ++ spB ++ E))) := Lib.hid (fun W b1 hx => join_any b1 3 3 _ [S, D, E] _ _ W rfl hx (by
    intro j x h
    match j, h with

    | 0, h => cases h; rfl
    | 1, h => cases h; rfl
    | 2, h => cases h; rfl
    | j + 3, h => simp at h) (by decide) (by simp [Lib.join, List.intercalate, spB]) (by omega) (by decide))
  unfold StrTo at HJ
  clear HO hn hS hD hE' ha hb hE hz
  obtain ⟨b0, hb0⟩ : ∃ z, z = w.heap.size := ⟨_, rfl⟩
  obtain ⟨v0, hv0⟩ : ∃ z, z = w.alloc (.cells #[.int .i64 (k : Int), .int .i64 a, .int .i64 b] 31) := ⟨_, rfl⟩
  have HB0 := Lib.hid hb0; have HV0 := Lib.hid hv0
  rw [← hv0] at B0 K0 E0
  rw [← hb0] at K0
  clear hb0 hv0
  have HSS := Lib.hid (fun (W : World) (h : Bx W b0 #[.int .i64 (k : Int), .int .i64 a, .int .i64 b] 31) => Bx.cells3 h)
  go_enter Tryd.func18, Tryd.ntmps18
  go_upto_region 1 with (fail)
  rw [← HV0.out, ← HB0.out]
  obtain ⟨x0, x1, x2⟩ := Bx.cells3 K0.out
  go_wp2_with fail
  clear x0 x1 x2
  refine (HW.out _ E0.out).mono ?_
  rintro e w1 ⟨rfl, hb⟩
  have K1 := Lib.hid (Bx.below K0.out hb); have B1 := Lib.hid (B0.out.trans (Below.mono hb B0.out.size)); have E1 := Lib.hid (E0.out.below hb)
  clear hb
  go_upto_region 2 with (fail)
  have K2 := Lib.hid (Bx.below K1.out (Below.refl w1.heap.size w1).drew); have B2 := Lib.hid (B1.out.drew); have E2 := Lib.hid (E1.out.below (Below.refl w1.heap.size w1).drew)
  refine wp_region_held_drew (S := (fun W => W.cell? ⟨b0, 0, none⟩ = some (.int .i64 (k : Int)) ∧ W.cell? ⟨b0, 1, none⟩ = some (.int .i64 a) ∧ W.cell? ⟨b0, 2, none⟩ = some (.int .i64 b))) (by kernel_rfl) (HSS.out _ K2.out) (fun hHeld => ?_)
  (try simp only [Act.put, List.getElem_toArray, List.getElem_cons_zero, List.getElem_cons_succ, List.setIfInBounds_toArray, List.set_cons_zero, List.set_cons_succ])
  refine wpAnyH_take (i := 0) (v := ?_) rfl (by kernel_rfl) (by kernel_rfl) (by kernel_rfl) (fun _ _ _ h => h) (Or.inl ⟨by rfl, ?_⟩) (by assumption) ?_
  rotate_left
  · (intro w hSw; (try dsimp only at hSw); go_simp; try with_reducible rfl)
  (try simp only [Act.put, List.getElem_toArray, List.getElem_cons_zero, List.getElem_cons_succ, List.setIfInBounds_toArray, List.set_cons_zero, List.set_cons_succ])
  refine wpAnyH_take (i := 1) (v := ?_) rfl (by kernel_rfl) (by kernel_rfl) (by kernel_rfl) (fun _ _ _ h => h) (Or.inl ⟨by rfl, ?_⟩) (by assumption) ?_
  rotate_left
  · (intro w hSw; (try dsimp only at hSw); go_simp; try with_reducible rfl)
  (try simp only [Act.put, List.getElem_toArray, List.getElem_cons_zero, List.getElem_cons_succ, List.setIfInBounds_toArray, List.set_cons_zero, List.set_cons_succ])
  refine wpAnyH_take (i := 2) (v := ?_) rfl (by kernel_rfl) (by kernel_rfl) (by kernel_rfl) (fun _ _ _ h => h) (Or.inl ⟨by rfl, ?_⟩) (by assumption) ?_
  rotate_left
  · (intro w hSw; (try dsimp only at hSw); go_simp; try with_reducible rfl)
  (try simp only [Act.put, List.getElem_toArray, List.getElem_cons_zero, List.getElem_cons_succ, List.setIfInBounds_toArray, List.set_cons_zero, List.set_cons_succ])
  refine wpAnyH_take (i := 4) (v := ?_) rfl (by kernel_rfl) (by kernel_rfl) (by kernel_rfl) (fun _ _ _ h => h) (Or.inl ⟨by rfl, ?_⟩) (by assumption) ?_
  rotate_left
  · (intro w hSw; (try dsimp only at hSw); go_simp; try with_reducible rfl)
  (try simp only [Act.put, List.getElem_toArray, List.getElem_cons_zero, List.getElem_cons_succ, List.setIfInBounds_toArray, List.set_cons_zero, List.set_cons_succ])
  refine wpAnyH_take (i := 5) (v := ?_) rfl (by kernel_rfl) (by kernel_rfl) (by kernel_rfl) (fun _ _ _ h => h) (Or.inl ⟨by rfl, ?_⟩) (by assumption) ?_
  rotate_left
  · (intro w hSw; (try dsimp only at hSw); go_simp; try with_reducible rfl)
  (try simp only [Act.put, List.getElem_toArray, List.getElem_cons_zero, List.getElem_cons_succ, List.setIfInBounds_toArray, List.set_cons_zero, List.set_cons_succ])
  refine wpAnyH_ready (rs := [3]) (by kernel_rfl) (by simp) ?_
  refine AllReadyH.cons (o := _) rfl (fun K hK => ?_) AllReadyH.nil
  go_simp
  refine (HA.out _ E2.out).mono ?_
  rintro e w2 ⟨rfl, hb⟩
  have K3 := Lib.hid (Bx.below K2.out hb); have B3 := Lib.hid (B2.out.trans (Below.mono hb B2.out.size)); have E3 := Lib.hid (E2.out.below hb)
  clear hb
  clear hHeld
  refine hK.out _ _ (HSS.out _ K3.out) (fun hHeld => ?_)
  clear hK K
  (try simp only [Act.put, List.getElem_toArray, List.getElem_cons_zero, List.getElem_cons_succ, List.setIfInBounds_toArray, List.set_cons_zero, List.set_cons_succ])
  refine wpAnyH_ready (rs := [6]) (by kernel_rfl) (by simp) ?_
  refine AllReadyH.cons (o := _) rfl (fun K hK => ?_) AllReadyH.nil
  go_simp
  refine (HB.out _ E3.out).mono ?_
  rintro e w3 ⟨rfl, hb⟩
  have K4 := Lib.hid (Bx.below K3.out hb); have B4 := Lib.hid (B3.out.trans (Below.mono hb B3.out.size)); have E4 := Lib.hid (E3.out.below hb)
  clear hb
  clear hHeld
  refine hK.out _ _ (HSS.out _ K4.out) (fun hHeld => ?_)
  clear hK K
  (try simp only [Act.put, List.getElem_toArray, List.getElem_cons_zero, List.getElem_cons_succ, List.setIfInBounds_toArray, List.set_cons_zero, List.set_cons_succ])
  refine wpAnyH_ready (rs := [7]) (by kernel_rfl) (by simp) ?_
  refine AllReadyH.cons (o := _) rfl (fun K hK => ?_) AllReadyH.nil
  go_simp
  have B5 := Lib.hid (B4.out.trans (Below.mono (below_alloc w3 (.cells #[.string S, .string D, .string E] 9)) B4.out.size))
  have K5 := Lib.hid (Bx.below K4.out (below_alloc w3 (.cells #[.string S, .string D, .string E] 9)))
  have L5 := Lib.hid (Bx.new w3 #[.string S, .string D, .string E] 9)
  obtain ⟨b1, hb1⟩ : ∃ z, z = w3.heap.size := ⟨_, rfl⟩
  obtain ⟨v5, hv5⟩ : ∃ z, z = w3.alloc (.cells #[.string S, .string D, .string E] 9) := ⟨_, rfl⟩
  rw [← hv5] at B5 K5 L5 ⊢
  rw [← hb1] at L5 ⊢
  clear hb1 hv5
  clear hHeld
  refine hK.out _ _ (HSS.out _ K5.out) (fun hHeld => ?_)
  clear hK K
  (try simp only [Act.put, List.getElem_toArray, List.getElem_cons_zero, List.getElem_cons_succ, List.setIfInBounds_toArray, List.set_cons_zero, List.set_cons_succ])
  refine wpAnyH_take (i := 8) (v := ?_) rfl (by kernel_rfl) (by kernel_rfl) (by kernel_rfl) (fun _ _ _ h => h) (Or.inl ⟨by rfl, ?_⟩) (by assumption) ?_
  rotate_left
  · (intro w hSw; (try dsimp only at hSw); go_simp; try with_reducible rfl)
  (try simp only [Act.put, List.getElem_toArray, List.getElem_cons_zero, List.getElem_cons_succ, List.setIfInBounds_toArray, List.set_cons_zero, List.set_cons_succ])
  refine wpAnyH_done (by kernel_rfl) ?_ _
  clear hHeld
  obtain ⟨x0, x1, x2⟩ := Bx.cells3 K5.out
  go_wp2_with fail
  clear x0 x1 x2
  refine (HN.out _).mono ?_
  rintro e w5 ⟨rfl, rfl⟩
  go_wp2_with fail
  refine (HJ.out _ _ L5.out).mono ?_
  rintro e w6 ⟨rfl, hb⟩
  have B6 := Lib.hid (B5.out.trans (Below.mono hb B5.out.size))
  clear hb
  go_wp2_with fail
  go_ret
  exact ⟨rfl, B6.out⟩
theorem printed_any (x : Ins) (w : World) (h : mayZ x = true) (hE : Env w) : Calls Tryd.prog 18 #[insV x] w (StrTo w (oneB x)) := by
  unfold mayZ at h
  have h := of_decide_eq_true h
  obtain ⟨op, a, b⟩ := x
  dsimp only at h
  have hc : numZ op = 0 ∨ numZ op = 1 ∨ numZ op = 2 := by unfold numZ; split <;> (try split) <;> simp
  rcases hc with e | e | e
  · exact printed_0 op a b w e h.1 h.2.1 ⟨h.2.2.1, h.2.2.2.1⟩ ⟨h.2.2.2.2.1, h.2.2.2.2.2.1⟩ hE
  · exact printed_1 op a b w e h.1 h.2.1 ⟨h.2.2.1, h.2.2.2.1⟩ ⟨h.2.2.2.2.1, h.2.2.2.2.2.1⟩ hE
  · exact printed_2 op a b w e h.1 h.2.1 ⟨h.2.2.1, h.2.2.2.1⟩ ⟨h.2.2.2.2.1, h.2.2.2.2.2.1⟩ hE
end Go.Proofs.YtpdlfijcicboiaaDoor
