/- few, alive; TraceTells, TraceParts: the walks. -/
import Derived.Test.YtkalcmichmfemaaC5
import Derived.Test.YtkalcmichmfemaaZz
namespace Go.Proofs.Ytkalcmichmfemaa
open Go.RowKit
set_option linter.unusedSimpArgs false
set_option linter.unusedVariables false
theorem cut_to (t : Nat) (ht : Try.prog.underlying t = some (.slice (Try.prog.elem t))) (hs : ∃ s, ∀ w, (sizeOf (Try.prog.elem t)).run Try.prog w = .ok s w) (a : Option Addr) (n c k : Nat) (hl : n ≤ c) (hk : k ≤ n) (W : World) :
    (Instr.slice t (.slice a n c) none (some (.int .i64 (k : Int))) none).run Try.prog W = .ok (.slice a k c) W := by
  obtain ⟨s, hs⟩ := hs
  rw [run_slice_h (t := t) (a := a) (len := n) (cap := c) (ht := ht) (kh := .i64) (h := (k : Int)) (h0 := by omega) (h2 := by omega), hs]
  simp only [Result.andThen, sliced, Int.toNat_natCast]
  by_cases hc : c = 0
  · simp [hc]
  · cases a with
    | none => simp [hc]
    | some x => simp; intro _; simp [Addr.add]
theorem wrong_lt (caps : List Int) (L : List Ev) : -1 ≤ wrongZ caps L ∧ (wrongZ caps L < (L.length : Int)) := by
  unfold wrongZ
  split
  · rename_i i h
    have := List.mem_of_find?_eq_some h
    rw [List.mem_range] at this
    omega
  · omega
theorem few_any (a : Option Addr) (n c : Nat) (w : World) (hl : n ≤ c) (hn : a = none → c = 0) : Calls Try.prog 5 #[.slice a n c] w fun e w' => e = .returned (.slice a (min n 150) c) ∧ w = w' := by
  obtain ⟨q, hq⟩ : ∃ q, q = min n 150 := ⟨_, rfl⟩
  have hmn : (if (150 : Int) < (n : Int) then (150 : Int) else (n : Int)) = (q : Int) := by split <;> omega
  rw [← hq]
  have hcut := cut_to 23 Try.underlying23 ⟨_, fun _ => rfl⟩ a n c q hl (by omega)
  clear hq
  go_enter Try.func5, Try.ntmps5
  go_wp2_with fail
  go_ret
  exact ⟨rfl, rfl⟩
def alE : List Ev := [⟨0, 0, 0, 0, -1⟩, ⟨1, 16, 0, 0, -1⟩]
theorem al_wrong : wrongZ [] alE = 1 := by decide
theorem al_evs (W : World) : Evs (W.alloc (.cells #[.int .i64 0, .int .i64 0, .int .i64 0, .int .i64 0, .int .i64 (-1), .int .i64 1, .int .i64 16, .int .i64 0, .int .i64 0, .int .i64 (-1)] 46)) (some ⟨W.heap.size, 0, none⟩) 2 2 alE := by
  refine ⟨⟨rfl, Nat.le_refl _, by decide, fun h => by simp at h, fun i x hx => ⟨W.heap.size, 0, rfl, fun j v hv => ?_⟩⟩, fun x hx => ?_⟩
  · rw [cell_of_row _ _ _ _ 46 (0, 0) (heap_alloc_new W _)]
    match i, hx with
    | 0, hx => simp [alE] at hx; subst hx; match j, hv with
      | 0, hv | 1, hv | 2, hv | 3, hv | 4, hv => simpa [encE] using hv
    | 1, hx => simp [alE] at hx; subst hx; match j, hv with
      | 0, hv | 1, hv | 2, hv | 3, hv | 4, hv => simpa [encE] using hv
  · simp [alE] at hx
    rcases hx with rfl | rfl <;> exact ⟨⟨by decide, by decide⟩, ⟨by decide, by decide⟩, ⟨by decide, by decide⟩, ⟨by decide, by decide⟩, ⟨by decide, by decide⟩⟩
set_option maxRecDepth 100000 in
set_option maxHeartbeats 8000000 in
theorem alive_any (w : World) : Calls Try.prog 11 #[] w fun e w' => e = .returned (.bool true) ∧ Below w.heap.size w w' := by
  have HW := Lib.hid (fun W => Wrong_ok none 0 0 [] (some ⟨W.heap.size, 0, none⟩) 2 2 alE (W.alloc (.cells #[.int .i64 0, .int .i64 0, .int .i64 0, .int .i64 0, .int .i64 (-1), .int .i64 1, .int .i64 16, .int .i64 0, .int .i64 0, .int .i64 (-1)] 46)) (Ints.nil _) (by decide) (al_evs W) (by decide))
  rw [al_wrong] at HW
  have B_0 := Lib.hid (below_alloc w (.cells #[.int .i64 0, .int .i64 0, .int .i64 0, .int .i64 0, .int .i64 (-1), .int .i64 1, .int .i64 16, .int .i64 0, .int .i64 0, .int .i64 (-1)] 46))
  go_enter Try.func11, Try.ntmps11
  go_wp2_with fail
  refine (HW.out _).mono ?_
  rintro e w1 ⟨rfl, hb⟩
  have B_1 := Lib.hid (B_0.out.trans (Below.mono hb B_0.out.size))
  go_wp2_with fail
  go_ret
  exact ⟨rfl, B_1.out⟩
def Says (w : World) (e : Ending) (w' : World) : Prop := e = .returned (.bool true) ∧ Below w.heap.size w w'
set_option maxRecDepth 100000 in
set_option maxHeartbeats 8000000 in
theorem tells_bad_neg (ca : Option Addr) (cn cc : Nat) (caps0 : List Int) (a : Option Addr) (n c : Nat) (L0 : List Ev) (i kd ob : Int) (w : World) (hC : Ints w ca cn cc caps0) (hE : Evs w a n c L0) (hok : capsB (caps0.take 6) = false) (hi : i < 0) :
    Calls Try.prog 3 #[.slice ca cn cc, .slice a n c, .int .i64 i, .int .i64 kd, .int .i64 ob] w (Says w) := by
  have hcl := hC.len_eq
  have HC0 := Lib.hid hC.le_cap
  have HC := Lib.hid (hC.take 6); have HE := Lib.hid (hE.take 150)
  have HF := Lib.hid (few_any a n c · hE.recs.le_cap hE.recs.none_)
  obtain ⟨caps, hcaps⟩ : ∃ x, x = caps0.take 6 := ⟨_, rfl⟩
  obtain ⟨L, hL⟩ : ∃ x, x = L0.take 150 := ⟨_, rfl⟩
  rw [← hcaps] at HC hok; rw [← hL] at HE
  have hm6 : min cn 6 ≤ 6 := by omega
  have hm150 : min n 150 ≤ 150 := by omega
  obtain ⟨c2, hc2⟩ : ∃ x, x = min cn 6 := ⟨_, rfl⟩
  obtain ⟨n2, hn2⟩ : ∃ x, x = min n 150 := ⟨_, rfl⟩
  have hmc : (if (6 : Int) < (cn : Int) then (6 : Int) else (cn : Int)) = (c2 : Int) := by split <;> omega
  have hcut := cut_to 22 Try.underlying22 ⟨_, fun _ => rfl⟩ ca cn cc c2 HC0.out (by omega)
  rw [← hc2] at HC hm6; rw [← hn2] at HE HF hm150
  have hlen := HE.out.recs.len_eq
  have hncap := HE.out.recs.le_cap
  have hnmax := HE.out.recs.len_le
  have B := Lib.hid (Below.refl w.heap.size w)
  clear hC hE hcaps hL hcl hc2 hn2
  go_enter Try.func3, Try.ntmps3
  go_upto_region 1 with (fail)
  have hb : Below w.heap.size w w.drew := (Below.refl _ _).drew
  have C_1 := Lib.hid (Ints.below HC.out hb)
  have E_1 := Lib.hid (Evs.below HE.out hb)
  have B_1 := Lib.hid (B.out.trans (Below.mono hb B.out.size))
  clear hb HC HE B
  refine wp_region_held_drew (S := (fun _ => True)) (by kernel_rfl) trivial (fun hHeld => ?_)
  (try simp only [Act.put, List.getElem_toArray, List.getElem_cons_zero, List.getElem_cons_succ, List.setIfInBounds_toArray, List.set_cons_zero, List.set_cons_succ])
  refine wpAnyH_take (i := 0) (v := ?_) rfl (by kernel_rfl) (by kernel_rfl) (by kernel_rfl) (fun _ _ _ h => h) (Or.inl ⟨by rfl, ?_⟩) (by assumption) ?_
  rotate_left
  · (intro w hSw; (try dsimp only at hSw); go_simp; try with_reducible rfl)
  (try simp only [Act.put, List.getElem_toArray, List.getElem_cons_zero, List.getElem_cons_succ, List.setIfInBounds_toArray, List.set_cons_zero, List.set_cons_succ])
  refine wpAnyH_take (i := 1) (v := ?_) rfl (by kernel_rfl) (by kernel_rfl) (by kernel_rfl) (fun _ _ _ h => h) (Or.inl ⟨by rfl, ?_⟩) (by assumption) ?_
  rotate_left
  · (intro w hSw; (try dsimp only at hSw); go_simp; try with_reducible rfl)
  (try simp only [Act.put, List.getElem_toArray, List.getElem_cons_zero, List.getElem_cons_succ, List.setIfInBounds_toArray, List.set_cons_zero, List.set_cons_succ])
  refine wpAnyH_take (i := 2) (v := ?_) rfl (by kernel_rfl) (by kernel_rfl) (by kernel_rfl) (fun _ _ _ h => h) (Or.inl ⟨by rfl, ?_⟩) (by assumption) ?_
  rotate_left
  · (intro w hSw; (try dsimp only at hSw); go_simp; try with_reducible rfl)
  (try simp only [Act.put, List.getElem_toArray, List.getElem_cons_zero, List.getElem_cons_succ, List.setIfInBounds_toArray, List.set_cons_zero, List.set_cons_succ])
  refine wpAnyH_take (i := 3) (v := ?_) rfl (by kernel_rfl) (by kernel_rfl) (by kernel_rfl) (fun _ _ _ h => h) (Or.inl ⟨by rfl, ?_⟩) (by assumption) ?_
  rotate_left
  · (intro w hSw; (try dsimp only at hSw); go_simp; try with_reducible rfl)
  (try simp only [Act.put, List.getElem_toArray, List.getElem_cons_zero, List.getElem_cons_succ, List.setIfInBounds_toArray, List.set_cons_zero, List.set_cons_succ])
  refine wpAnyH_take (i := 4) (v := ?_) rfl (by kernel_rfl) (by kernel_rfl) (by kernel_rfl) (fun _ _ _ h => h) (Or.inl ⟨by rfl, ?_⟩) (by assumption) ?_
  rotate_left
  · (intro w hSw; (try dsimp only at hSw); go_simp; try with_reducible rfl)
  (try simp only [Act.put, List.getElem_toArray, List.getElem_cons_zero, List.getElem_cons_succ, List.setIfInBounds_toArray, List.set_cons_zero, List.set_cons_succ])
  refine wpAnyH_take (i := 5) (v := ?_) rfl (by kernel_rfl) (by kernel_rfl) (by kernel_rfl) (fun _ _ _ h => h) (Or.inl ⟨by rfl, ?_⟩) (by assumption) ?_
  rotate_left
  · (intro w hSw; (try dsimp only at hSw); go_simp; try with_reducible rfl)
  (try simp only [Act.put, List.getElem_toArray, List.getElem_cons_zero, List.getElem_cons_succ, List.setIfInBounds_toArray, List.set_cons_zero, List.set_cons_succ])
  refine wpAnyH_ready (rs := [6]) (by kernel_rfl) (by simp) ?_
  refine AllReadyH.cons (o := _) rfl (fun K hK => ?_) AllReadyH.nil
  go_simp
  refine (HF.out _).mono ?_
  rintro e y1 ⟨rfl, rfl⟩
  clear hHeld
  refine hK.out _ _ trivial (fun hHeld => ?_)
  clear hK K
  (try simp only [Act.put, List.getElem_toArray, List.getElem_cons_zero, List.getElem_cons_succ, List.setIfInBounds_toArray, List.set_cons_zero, List.set_cons_succ])
  refine wpAnyH_take (i := 7) (v := ?_) rfl (by kernel_rfl) (by kernel_rfl) (by kernel_rfl) (fun _ _ _ h => h) (Or.inl ⟨by rfl, ?_⟩) (by assumption) ?_
  rotate_left
  · (intro w hSw; (try dsimp only at hSw); go_simp; try with_reducible rfl)
  (try simp only [Act.put, List.getElem_toArray, List.getElem_cons_zero, List.getElem_cons_succ, List.setIfInBounds_toArray, List.set_cons_zero, List.set_cons_succ])
  refine wpAnyH_take (i := 8) (v := ?_) rfl (by kernel_rfl) (by kernel_rfl) (by kernel_rfl) (fun _ _ _ h => h) (Or.inl ⟨by rfl, ?_⟩) (by assumption) ?_
  rotate_left
  · (intro w hSw; (try dsimp only at hSw); go_simp; try with_reducible rfl)
  (try simp only [Act.put, List.getElem_toArray, List.getElem_cons_zero, List.getElem_cons_succ, List.setIfInBounds_toArray, List.set_cons_zero, List.set_cons_succ])
  refine wpAnyH_done (by kernel_rfl) ?_ _
  clear hHeld
  clear hcut HF hmc
  go_wp2_with fail
  refine (Wrong_bad ca c2 cc caps a n2 c _ C_1.out hok).mono ?_
  rintro e y2 ⟨rfl, hb⟩
  have C_2 := Lib.hid (Ints.below C_1.out hb)
  have E_2 := Lib.hid (Evs.below E_1.out hb)
  have B_2 := Lib.hid (B_1.out.trans (Below.mono hb B_1.out.size))
  clear hb C_1 E_1 B_1
  go_wp2_with fail
  refine (Last_no a n2 c i _ (.inl hi)).mono ?_
  rintro e y3 ⟨rfl, hb⟩
  have C_3 := Lib.hid (Ints.below C_2.out hb)
  have E_3 := Lib.hid (Evs.below E_2.out hb)
  have B_3 := Lib.hid (B_2.out.trans (Below.mono hb B_2.out.size))
  clear hb C_2 E_2 B_2
  go_wp2_with fail
  refine (Count_no a n2 c i kd ob _ (.inl hi)).mono ?_
  rintro e y4 ⟨rfl, hb⟩
  have C_4 := Lib.hid (Ints.below C_3.out hb)
  have E_4 := Lib.hid (Evs.below E_3.out hb)
  have B_4 := Lib.hid (B_3.out.trans (Below.mono hb B_3.out.size))
  clear hb C_3 E_3 B_3
  have HK := Lib.hid (fun W h => refCaps_any ca c2 cc caps W h)
  rw [hok] at HK
  go_wp2_with fail
  refine (HK.out _ C_4.out).mono ?_
  rintro e y5 ⟨rfl, rfl⟩
  go_wp2_with fail
  refine (alive_any _).mono ?_
  rintro e y6 ⟨rfl, hb⟩
  have C_5 := Lib.hid (Ints.below C_4.out hb)
  have E_5 := Lib.hid (Evs.below E_4.out hb)
  have B_5 := Lib.hid (B_4.out.trans (Below.mono hb B_4.out.size))
  clear hb C_4 E_4 B_4
  go_wp2_with fail
  go_ret
  exact ⟨ret_bool (by first | rfl | simp), B_5.out⟩
set_option maxRecDepth 100000 in
set_option maxHeartbeats 8000000 in
theorem tells_bad_big (ca : Option Addr) (cn cc : Nat) (caps0 : List Int) (a : Option Addr) (n c : Nat) (L0 : List Ev) (i kd ob : Int) (w : World) (hC : Ints w ca cn cc caps0) (hE : Evs w a n c L0) (hok : capsB (caps0.take 6) = false) (hi : ¬ i < 0) (hi2 : (min n 150 : Nat) ≤ i) :
    Calls Try.prog 3 #[.slice ca cn cc, .slice a n c, .int .i64 i, .int .i64 kd, .int .i64 ob] w (Says w) := by
  have hcl := hC.len_eq
  have HC0 := Lib.hid hC.le_cap
  have HC := Lib.hid (hC.take 6); have HE := Lib.hid (hE.take 150)
  have HF := Lib.hid (few_any a n c · hE.recs.le_cap hE.recs.none_)
  obtain ⟨caps, hcaps⟩ : ∃ x, x = caps0.take 6 := ⟨_, rfl⟩
  obtain ⟨L, hL⟩ : ∃ x, x = L0.take 150 := ⟨_, rfl⟩
  rw [← hcaps] at HC hok; rw [← hL] at HE
  have hm6 : min cn 6 ≤ 6 := by omega
  have hm150 : min n 150 ≤ 150 := by omega
  obtain ⟨c2, hc2⟩ : ∃ x, x = min cn 6 := ⟨_, rfl⟩
  obtain ⟨n2, hn2⟩ : ∃ x, x = min n 150 := ⟨_, rfl⟩
  have hmc : (if (6 : Int) < (cn : Int) then (6 : Int) else (cn : Int)) = (c2 : Int) := by split <;> omega
  have hcut := cut_to 22 Try.underlying22 ⟨_, fun _ => rfl⟩ ca cn cc c2 HC0.out (by omega)
  rw [← hc2] at HC hm6; rw [← hn2] at HE HF hm150 hi2
  have hlen := HE.out.recs.len_eq
  have hncap := HE.out.recs.le_cap
  have hnmax := HE.out.recs.len_le
  have B := Lib.hid (Below.refl w.heap.size w)
  clear hC hE hcaps hL hcl hc2 hn2
  go_enter Try.func3, Try.ntmps3
  go_upto_region 1 with (fail)
  have hb : Below w.heap.size w w.drew := (Below.refl _ _).drew
  have C_1 := Lib.hid (Ints.below HC.out hb)
  have E_1 := Lib.hid (Evs.below HE.out hb)
  have B_1 := Lib.hid (B.out.trans (Below.mono hb B.out.size))
  clear hb HC HE B
  refine wp_region_held_drew (S := (fun _ => True)) (by kernel_rfl) trivial (fun hHeld => ?_)
  (try simp only [Act.put, List.getElem_toArray, List.getElem_cons_zero, List.getElem_cons_succ, List.setIfInBounds_toArray, List.set_cons_zero, List.set_cons_succ])
  refine wpAnyH_take (i := 0) (v := ?_) rfl (by kernel_rfl) (by kernel_rfl) (by kernel_rfl) (fun _ _ _ h => h) (Or.inl ⟨by rfl, ?_⟩) (by assumption) ?_
  rotate_left
  · (intro w hSw; (try dsimp only at hSw); go_simp; try with_reducible rfl)
  (try simp only [Act.put, List.getElem_toArray, List.getElem_cons_zero, List.getElem_cons_succ, List.setIfInBounds_toArray, List.set_cons_zero, List.set_cons_succ])
  refine wpAnyH_take (i := 1) (v := ?_) rfl (by kernel_rfl) (by kernel_rfl) (by kernel_rfl) (fun _ _ _ h => h) (Or.inl ⟨by rfl, ?_⟩) (by assumption) ?_
  rotate_left
  · (intro w hSw; (try dsimp only at hSw); go_simp; try with_reducible rfl)
  (try simp only [Act.put, List.getElem_toArray, List.getElem_cons_zero, List.getElem_cons_succ, List.setIfInBounds_toArray, List.set_cons_zero, List.set_cons_succ])
  refine wpAnyH_take (i := 2) (v := ?_) rfl (by kernel_rfl) (by kernel_rfl) (by kernel_rfl) (fun _ _ _ h => h) (Or.inl ⟨by rfl, ?_⟩) (by assumption) ?_
  rotate_left
  · (intro w hSw; (try dsimp only at hSw); go_simp; try with_reducible rfl)
  (try simp only [Act.put, List.getElem_toArray, List.getElem_cons_zero, List.getElem_cons_succ, List.setIfInBounds_toArray, List.set_cons_zero, List.set_cons_succ])
  refine wpAnyH_take (i := 3) (v := ?_) rfl (by kernel_rfl) (by kernel_rfl) (by kernel_rfl) (fun _ _ _ h => h) (Or.inl ⟨by rfl, ?_⟩) (by assumption) ?_
  rotate_left
  · (intro w hSw; (try dsimp only at hSw); go_simp; try with_reducible rfl)
  (try simp only [Act.put, List.getElem_toArray, List.getElem_cons_zero, List.getElem_cons_succ, List.setIfInBounds_toArray, List.set_cons_zero, List.set_cons_succ])
  refine wpAnyH_take (i := 4) (v := ?_) rfl (by kernel_rfl) (by kernel_rfl) (by kernel_rfl) (fun _ _ _ h => h) (Or.inl ⟨by rfl, ?_⟩) (by assumption) ?_
  rotate_left
  · (intro w hSw; (try dsimp only at hSw); go_simp; try with_reducible rfl)
  (try simp only [Act.put, List.getElem_toArray, List.getElem_cons_zero, List.getElem_cons_succ, List.setIfInBounds_toArray, List.set_cons_zero, List.set_cons_succ])
  refine wpAnyH_take (i := 5) (v := ?_) rfl (by kernel_rfl) (by kernel_rfl) (by kernel_rfl) (fun _ _ _ h => h) (Or.inl ⟨by rfl, ?_⟩) (by assumption) ?_
  rotate_left
  · (intro w hSw; (try dsimp only at hSw); go_simp; try with_reducible rfl)
  (try simp only [Act.put, List.getElem_toArray, List.getElem_cons_zero, List.getElem_cons_succ, List.setIfInBounds_toArray, List.set_cons_zero, List.set_cons_succ])
  refine wpAnyH_ready (rs := [6]) (by kernel_rfl) (by simp) ?_
  refine AllReadyH.cons (o := _) rfl (fun K hK => ?_) AllReadyH.nil
  go_simp
  refine (HF.out _).mono ?_
  rintro e y1 ⟨rfl, rfl⟩
  clear hHeld
  refine hK.out _ _ trivial (fun hHeld => ?_)
  clear hK K
  (try simp only [Act.put, List.getElem_toArray, List.getElem_cons_zero, List.getElem_cons_succ, List.setIfInBounds_toArray, List.set_cons_zero, List.set_cons_succ])
  refine wpAnyH_take (i := 7) (v := ?_) rfl (by kernel_rfl) (by kernel_rfl) (by kernel_rfl) (fun _ _ _ h => h) (Or.inl ⟨by rfl, ?_⟩) (by assumption) ?_
  rotate_left
  · (intro w hSw; (try dsimp only at hSw); go_simp; try with_reducible rfl)
  (try simp only [Act.put, List.getElem_toArray, List.getElem_cons_zero, List.getElem_cons_succ, List.setIfInBounds_toArray, List.set_cons_zero, List.set_cons_succ])
  refine wpAnyH_take (i := 8) (v := ?_) rfl (by kernel_rfl) (by kernel_rfl) (by kernel_rfl) (fun _ _ _ h => h) (Or.inl ⟨by rfl, ?_⟩) (by assumption) ?_
  rotate_left
  · (intro w hSw; (try dsimp only at hSw); go_simp; try with_reducible rfl)
  (try simp only [Act.put, List.getElem_toArray, List.getElem_cons_zero, List.getElem_cons_succ, List.setIfInBounds_toArray, List.set_cons_zero, List.set_cons_succ])
  refine wpAnyH_done (by kernel_rfl) ?_ _
  clear hHeld
  clear hcut HF hmc
  go_wp2_with fail
  refine (Wrong_bad ca c2 cc caps a n2 c _ C_1.out hok).mono ?_
  rintro e y2 ⟨rfl, hb⟩
  have C_2 := Lib.hid (Ints.below C_1.out hb)
  have E_2 := Lib.hid (Evs.below E_1.out hb)
  have B_2 := Lib.hid (B_1.out.trans (Below.mono hb B_1.out.size))
  clear hb C_1 E_1 B_1
  go_wp2_with fail
  refine (Last_no a n2 c i _ (.inr hi2)).mono ?_
  rintro e y3 ⟨rfl, hb⟩
  have C_3 := Lib.hid (Ints.below C_2.out hb)
  have E_3 := Lib.hid (Evs.below E_2.out hb)
  have B_3 := Lib.hid (B_2.out.trans (Below.mono hb B_2.out.size))
  clear hb C_2 E_2 B_2
  go_wp2_with fail
  refine (Count_no a n2 c i kd ob _ (.inr hi2)).mono ?_
  rintro e y4 ⟨rfl, hb⟩
  have C_4 := Lib.hid (Ints.below C_3.out hb)
  have E_4 := Lib.hid (Evs.below E_3.out hb)
  have B_4 := Lib.hid (B_3.out.trans (Below.mono hb B_3.out.size))
  clear hb C_3 E_3 B_3
  have HK := Lib.hid (fun W h => refCaps_any ca c2 cc caps W h)
  rw [hok] at HK
  go_wp2_with fail
  refine (HK.out _ C_4.out).mono ?_
  rintro e y5 ⟨rfl, rfl⟩
  go_wp2_with fail
  refine (alive_any _).mono ?_
  rintro e y6 ⟨rfl, hb⟩
  have C_5 := Lib.hid (Ints.below C_4.out hb)
  have E_5 := Lib.hid (Evs.below E_4.out hb)
  have B_5 := Lib.hid (B_4.out.trans (Below.mono hb B_4.out.size))
  clear hb C_4 E_4 B_4
  go_wp2_with fail
  go_ret
  exact ⟨ret_bool (by first | rfl | simp), B_5.out⟩
set_option maxRecDepth 100000 in
set_option maxHeartbeats 8000000 in
theorem tells_bad_in (ca : Option Addr) (cn cc : Nat) (caps0 : List Int) (a : Option Addr) (n c : Nat) (L0 : List Ev) (i kd ob : Int) (w : World) (hC : Ints w ca cn cc caps0) (hE : Evs w a n c L0) (hok : capsB (caps0.take 6) = false) (hi : ¬ i < 0) (hi2 : ¬ ((min n 150 : Nat) : Int) ≤ i) :
    Calls Try.prog 3 #[.slice ca cn cc, .slice a n c, .int .i64 i, .int .i64 kd, .int .i64 ob] w (Says w) := by
  have hcl := hC.len_eq
  have HC0 := Lib.hid hC.le_cap
  have HC := Lib.hid (hC.take 6); have HE := Lib.hid (hE.take 150)
  have HF := Lib.hid (few_any a n c · hE.recs.le_cap hE.recs.none_)
  obtain ⟨caps, hcaps⟩ : ∃ x, x = caps0.take 6 := ⟨_, rfl⟩
  obtain ⟨L, hL⟩ : ∃ x, x = L0.take 150 := ⟨_, rfl⟩
  rw [← hcaps] at HC hok; rw [← hL] at HE
  have hm6 : min cn 6 ≤ 6 := by omega
  have hm150 : min n 150 ≤ 150 := by omega
  obtain ⟨c2, hc2⟩ : ∃ x, x = min cn 6 := ⟨_, rfl⟩
  obtain ⟨n2, hn2⟩ : ∃ x, x = min n 150 := ⟨_, rfl⟩
  have hmc : (if (6 : Int) < (cn : Int) then (6 : Int) else (cn : Int)) = (c2 : Int) := by split <;> omega
  have hcut := cut_to 22 Try.underlying22 ⟨_, fun _ => rfl⟩ ca cn cc c2 HC0.out (by omega)
  rw [← hc2] at HC hm6; rw [← hn2] at HE HF hm150 hi2
  have hlen := HE.out.recs.len_eq
  have hncap := HE.out.recs.le_cap
  have hnmax := HE.out.recs.len_le
  have B := Lib.hid (Below.refl w.heap.size w)
  clear hC hE hcaps hL hcl hc2 hn2
  go_enter Try.func3, Try.ntmps3
  go_upto_region 1 with (fail)
  have hb : Below w.heap.size w w.drew := (Below.refl _ _).drew
  have C_1 := Lib.hid (Ints.below HC.out hb)
  have E_1 := Lib.hid (Evs.below HE.out hb)
  have B_1 := Lib.hid (B.out.trans (Below.mono hb B.out.size))
  clear hb HC HE B
  refine wp_region_held_drew (S := (fun _ => True)) (by kernel_rfl) trivial (fun hHeld => ?_)
  (try simp only [Act.put, List.getElem_toArray, List.getElem_cons_zero, List.getElem_cons_succ, List.setIfInBounds_toArray, List.set_cons_zero, List.set_cons_succ])
  refine wpAnyH_take (i := 0) (v := ?_) rfl (by kernel_rfl) (by kernel_rfl) (by kernel_rfl) (fun _ _ _ h => h) (Or.inl ⟨by rfl, ?_⟩) (by assumption) ?_
  rotate_left
  · (intro w hSw; (try dsimp only at hSw); go_simp; try with_reducible rfl)
  (try simp only [Act.put, List.getElem_toArray, List.getElem_cons_zero, List.getElem_cons_succ, List.setIfInBounds_toArray, List.set_cons_zero, List.set_cons_succ])
  refine wpAnyH_take (i := 1) (v := ?_) rfl (by kernel_rfl) (by kernel_rfl) (by kernel_rfl) (fun _ _ _ h => h) (Or.inl ⟨by rfl, ?_⟩) (by assumption) ?_
  rotate_left
  · (intro w hSw; (try dsimp only at hSw); go_simp; try with_reducible rfl)
  (try simp only [Act.put, List.getElem_toArray, List.getElem_cons_zero, List.getElem_cons_succ, List.setIfInBounds_toArray, List.set_cons_zero, List.set_cons_succ])
  refine wpAnyH_take (i := 2) (v := ?_) rfl (by kernel_rfl) (by kernel_rfl) (by kernel_rfl) (fun _ _ _ h => h) (Or.inl ⟨by rfl, ?_⟩) (by assumption) ?_
  rotate_left
  · (intro w hSw; (try dsimp only at hSw); go_simp; try with_reducible rfl)
  (try simp only [Act.put, List.getElem_toArray, List.getElem_cons_zero, List.getElem_cons_succ, List.setIfInBounds_toArray, List.set_cons_zero, List.set_cons_succ])
  refine wpAnyH_take (i := 3) (v := ?_) rfl (by kernel_rfl) (by kernel_rfl) (by kernel_rfl) (fun _ _ _ h => h) (Or.inl ⟨by rfl, ?_⟩) (by assumption) ?_
  rotate_left
  · (intro w hSw; (try dsimp only at hSw); go_simp; try with_reducible rfl)
  (try simp only [Act.put, List.getElem_toArray, List.getElem_cons_zero, List.getElem_cons_succ, List.setIfInBounds_toArray, List.set_cons_zero, List.set_cons_succ])
  refine wpAnyH_take (i := 4) (v := ?_) rfl (by kernel_rfl) (by kernel_rfl) (by kernel_rfl) (fun _ _ _ h => h) (Or.inl ⟨by rfl, ?_⟩) (by assumption) ?_
  rotate_left
  · (intro w hSw; (try dsimp only at hSw); go_simp; try with_reducible rfl)
  (try simp only [Act.put, List.getElem_toArray, List.getElem_cons_zero, List.getElem_cons_succ, List.setIfInBounds_toArray, List.set_cons_zero, List.set_cons_succ])
  refine wpAnyH_take (i := 5) (v := ?_) rfl (by kernel_rfl) (by kernel_rfl) (by kernel_rfl) (fun _ _ _ h => h) (Or.inl ⟨by rfl, ?_⟩) (by assumption) ?_
  rotate_left
  · (intro w hSw; (try dsimp only at hSw); go_simp; try with_reducible rfl)
  (try simp only [Act.put, List.getElem_toArray, List.getElem_cons_zero, List.getElem_cons_succ, List.setIfInBounds_toArray, List.set_cons_zero, List.set_cons_succ])
  refine wpAnyH_ready (rs := [6]) (by kernel_rfl) (by simp) ?_
  refine AllReadyH.cons (o := _) rfl (fun K hK => ?_) AllReadyH.nil
  go_simp
  refine (HF.out _).mono ?_
  rintro e y1 ⟨rfl, rfl⟩
  clear hHeld
  refine hK.out _ _ trivial (fun hHeld => ?_)
  clear hK K
  (try simp only [Act.put, List.getElem_toArray, List.getElem_cons_zero, List.getElem_cons_succ, List.setIfInBounds_toArray, List.set_cons_zero, List.set_cons_succ])
  refine wpAnyH_take (i := 7) (v := ?_) rfl (by kernel_rfl) (by kernel_rfl) (by kernel_rfl) (fun _ _ _ h => h) (Or.inl ⟨by rfl, ?_⟩) (by assumption) ?_
  rotate_left
  · (intro w hSw; (try dsimp only at hSw); go_simp; try with_reducible rfl)
  (try simp only [Act.put, List.getElem_toArray, List.getElem_cons_zero, List.getElem_cons_succ, List.setIfInBounds_toArray, List.set_cons_zero, List.set_cons_succ])
  refine wpAnyH_take (i := 8) (v := ?_) rfl (by kernel_rfl) (by kernel_rfl) (by kernel_rfl) (fun _ _ _ h => h) (Or.inl ⟨by rfl, ?_⟩) (by assumption) ?_
  rotate_left
  · (intro w hSw; (try dsimp only at hSw); go_simp; try with_reducible rfl)
  (try simp only [Act.put, List.getElem_toArray, List.getElem_cons_zero, List.getElem_cons_succ, List.setIfInBounds_toArray, List.set_cons_zero, List.set_cons_succ])
  refine wpAnyH_done (by kernel_rfl) ?_ _
  clear hHeld
  clear hcut HF hmc
  have hi3 : i < (n2 : Int) := by omega
  obtain ⟨k, rfl⟩ : ∃ k : Nat, i = (k : Int) := ⟨i.toNat, by omega⟩
  have hkn : k < n2 := by omega
  have h01 : ¬ (k : Int) < 0 := by omega
  have h02 : ¬ (n2 : Int) ≤ (k : Int) := by omega
  clear hi hi2 hi3
  go_wp2_with fail
  refine (Wrong_bad ca c2 cc caps a n2 c _ C_1.out hok).mono ?_
  rintro e y2 ⟨rfl, hb⟩
  have C_2 := Lib.hid (Ints.below C_1.out hb)
  have E_2 := Lib.hid (Evs.below E_1.out hb)
  have B_2 := Lib.hid (B_1.out.trans (Below.mono hb B_1.out.size))
  clear hb C_1 E_1 B_1
  go_wp2_with fail
  refine (Last_go a n2 c L k _ E_2.out hkn).mono ?_
  rintro e y3 ⟨rfl, hb⟩
  have C_3 := Lib.hid (Ints.below C_2.out hb)
  have E_3 := Lib.hid (Evs.below E_2.out hb)
  have B_3 := Lib.hid (B_2.out.trans (Below.mono hb B_2.out.size))
  clear hb C_2 E_2 B_2
  go_wp2_with fail
  refine (Count_go a n2 c L k kd ob _ E_3.out hkn).mono ?_
  rintro e y4 ⟨rfl, hb⟩
  have C_4 := Lib.hid (Ints.below C_3.out hb)
  have E_4 := Lib.hid (Evs.below E_3.out hb)
  have B_4 := Lib.hid (B_3.out.trans (Below.mono hb B_3.out.size))
  clear hb C_3 E_3 B_3
  have HK := Lib.hid (fun W h => refCaps_any ca c2 cc caps W h)
  rw [hok] at HK
  go_wp2_with fail
  refine (HK.out _ C_4.out).mono ?_
  rintro e y5 ⟨rfl, rfl⟩
  go_wp2_with fail
  refine (alive_any _).mono ?_
  rintro e y6 ⟨rfl, hb⟩
  have C_5 := Lib.hid (Ints.below C_4.out hb)
  have E_5 := Lib.hid (Evs.below E_4.out hb)
  have B_5 := Lib.hid (B_4.out.trans (Below.mono hb B_4.out.size))
  clear hb C_4 E_4 B_4
  go_wp2_with fail
  refine (refLast_any a n2 c L k _ E_5.out hkn).mono ?_
  rintro e y7 ⟨rfl, hb⟩
  have C_6 := Lib.hid (Ints.below C_5.out hb)
  have E_6 := Lib.hid (Evs.below E_5.out hb)
  have B_6 := Lib.hid (B_5.out.trans (Below.mono hb B_5.out.size))
  clear hb C_5 E_5 B_5
  go_wp2_with fail
  refine (refCount_any a n2 c L k kd ob _ E_6.out hkn).mono ?_
  rintro e y8 ⟨rfl, hb⟩
  have C_7 := Lib.hid (Ints.below C_6.out hb)
  have E_7 := Lib.hid (Evs.below E_6.out hb)
  have B_7 := Lib.hid (B_6.out.trans (Below.mono hb B_6.out.size))
  clear hb C_6 E_6 B_6
  go_wp2_with fail
  go_ret
  exact ⟨ret_bool (by first | rfl | simp), B_7.out⟩
set_option maxRecDepth 100000 in
set_option maxHeartbeats 8000000 in
theorem tells_ok_neg (ca : Option Addr) (cn cc : Nat) (caps0 : List Int) (a : Option Addr) (n c : Nat) (L0 : List Ev) (i kd ob : Int) (w : World) (hC : Ints w ca cn cc caps0) (hE : Evs w a n c L0) (hok : capsB (caps0.take 6) = true) (hi : i < 0) :
    Calls Try.prog 3 #[.slice ca cn cc, .slice a n c, .int .i64 i, .int .i64 kd, .int .i64 ob] w (Says w) := by
  have hcl := hC.len_eq
  have HC0 := Lib.hid hC.le_cap
  have HC := Lib.hid (hC.take 6); have HE := Lib.hid (hE.take 150)
  have HF := Lib.hid (few_any a n c · hE.recs.le_cap hE.recs.none_)
  obtain ⟨caps, hcaps⟩ : ∃ x, x = caps0.take 6 := ⟨_, rfl⟩
  obtain ⟨L, hL⟩ : ∃ x, x = L0.take 150 := ⟨_, rfl⟩
  rw [← hcaps] at HC hok; rw [← hL] at HE
  have hm6 : min cn 6 ≤ 6 := by omega
  have hm150 : min n 150 ≤ 150 := by omega
  obtain ⟨c2, hc2⟩ : ∃ x, x = min cn 6 := ⟨_, rfl⟩
  obtain ⟨n2, hn2⟩ : ∃ x, x = min n 150 := ⟨_, rfl⟩
  have hmc : (if (6 : Int) < (cn : Int) then (6 : Int) else (cn : Int)) = (c2 : Int) := by split <;> omega
  have hcut := cut_to 22 Try.underlying22 ⟨_, fun _ => rfl⟩ ca cn cc c2 HC0.out (by omega)
  rw [← hc2] at HC hm6; rw [← hn2] at HE HF hm150
  have hlen := HE.out.recs.len_eq
  have hncap := HE.out.recs.le_cap
  have hnmax := HE.out.recs.len_le
  have B := Lib.hid (Below.refl w.heap.size w)
  clear hC hE hcaps hL hcl hc2 hn2
  go_enter Try.func3, Try.ntmps3
  go_upto_region 1 with (fail)
  have hb : Below w.heap.size w w.drew := (Below.refl _ _).drew
  have C_1 := Lib.hid (Ints.below HC.out hb)
  have E_1 := Lib.hid (Evs.below HE.out hb)
  have B_1 := Lib.hid (B.out.trans (Below.mono hb B.out.size))
  clear hb HC HE B
  refine wp_region_held_drew (S := (fun _ => True)) (by kernel_rfl) trivial (fun hHeld => ?_)
  (try simp only [Act.put, List.getElem_toArray, List.getElem_cons_zero, List.getElem_cons_succ, List.setIfInBounds_toArray, List.set_cons_zero, List.set_cons_succ])
  refine wpAnyH_take (i := 0) (v := ?_) rfl (by kernel_rfl) (by kernel_rfl) (by kernel_rfl) (fun _ _ _ h => h) (Or.inl ⟨by rfl, ?_⟩) (by assumption) ?_
  rotate_left
  · (intro w hSw; (try dsimp only at hSw); go_simp; try with_reducible rfl)
  (try simp only [Act.put, List.getElem_toArray, List.getElem_cons_zero, List.getElem_cons_succ, List.setIfInBounds_toArray, List.set_cons_zero, List.set_cons_succ])
  refine wpAnyH_take (i := 1) (v := ?_) rfl (by kernel_rfl) (by kernel_rfl) (by kernel_rfl) (fun _ _ _ h => h) (Or.inl ⟨by rfl, ?_⟩) (by assumption) ?_
  rotate_left
  · (intro w hSw; (try dsimp only at hSw); go_simp; try with_reducible rfl)
  (try simp only [Act.put, List.getElem_toArray, List.getElem_cons_zero, List.getElem_cons_succ, List.setIfInBounds_toArray, List.set_cons_zero, List.set_cons_succ])
  refine wpAnyH_take (i := 2) (v := ?_) rfl (by kernel_rfl) (by kernel_rfl) (by kernel_rfl) (fun _ _ _ h => h) (Or.inl ⟨by rfl, ?_⟩) (by assumption) ?_
  rotate_left
  · (intro w hSw; (try dsimp only at hSw); go_simp; try with_reducible rfl)
  (try simp only [Act.put, List.getElem_toArray, List.getElem_cons_zero, List.getElem_cons_succ, List.setIfInBounds_toArray, List.set_cons_zero, List.set_cons_succ])
  refine wpAnyH_take (i := 3) (v := ?_) rfl (by kernel_rfl) (by kernel_rfl) (by kernel_rfl) (fun _ _ _ h => h) (Or.inl ⟨by rfl, ?_⟩) (by assumption) ?_
  rotate_left
  · (intro w hSw; (try dsimp only at hSw); go_simp; try with_reducible rfl)
  (try simp only [Act.put, List.getElem_toArray, List.getElem_cons_zero, List.getElem_cons_succ, List.setIfInBounds_toArray, List.set_cons_zero, List.set_cons_succ])
  refine wpAnyH_take (i := 4) (v := ?_) rfl (by kernel_rfl) (by kernel_rfl) (by kernel_rfl) (fun _ _ _ h => h) (Or.inl ⟨by rfl, ?_⟩) (by assumption) ?_
  rotate_left
  · (intro w hSw; (try dsimp only at hSw); go_simp; try with_reducible rfl)
  (try simp only [Act.put, List.getElem_toArray, List.getElem_cons_zero, List.getElem_cons_succ, List.setIfInBounds_toArray, List.set_cons_zero, List.set_cons_succ])
  refine wpAnyH_take (i := 5) (v := ?_) rfl (by kernel_rfl) (by kernel_rfl) (by kernel_rfl) (fun _ _ _ h => h) (Or.inl ⟨by rfl, ?_⟩) (by assumption) ?_
  rotate_left
  · (intro w hSw; (try dsimp only at hSw); go_simp; try with_reducible rfl)
  (try simp only [Act.put, List.getElem_toArray, List.getElem_cons_zero, List.getElem_cons_succ, List.setIfInBounds_toArray, List.set_cons_zero, List.set_cons_succ])
  refine wpAnyH_ready (rs := [6]) (by kernel_rfl) (by simp) ?_
  refine AllReadyH.cons (o := _) rfl (fun K hK => ?_) AllReadyH.nil
  go_simp
  refine (HF.out _).mono ?_
  rintro e y1 ⟨rfl, rfl⟩
  clear hHeld
  refine hK.out _ _ trivial (fun hHeld => ?_)
  clear hK K
  (try simp only [Act.put, List.getElem_toArray, List.getElem_cons_zero, List.getElem_cons_succ, List.setIfInBounds_toArray, List.set_cons_zero, List.set_cons_succ])
  refine wpAnyH_take (i := 7) (v := ?_) rfl (by kernel_rfl) (by kernel_rfl) (by kernel_rfl) (fun _ _ _ h => h) (Or.inl ⟨by rfl, ?_⟩) (by assumption) ?_
  rotate_left
  · (intro w hSw; (try dsimp only at hSw); go_simp; try with_reducible rfl)
  (try simp only [Act.put, List.getElem_toArray, List.getElem_cons_zero, List.getElem_cons_succ, List.setIfInBounds_toArray, List.set_cons_zero, List.set_cons_succ])
  refine wpAnyH_take (i := 8) (v := ?_) rfl (by kernel_rfl) (by kernel_rfl) (by kernel_rfl) (fun _ _ _ h => h) (Or.inl ⟨by rfl, ?_⟩) (by assumption) ?_
  rotate_left
  · (intro w hSw; (try dsimp only at hSw); go_simp; try with_reducible rfl)
  (try simp only [Act.put, List.getElem_toArray, List.getElem_cons_zero, List.getElem_cons_succ, List.setIfInBounds_toArray, List.set_cons_zero, List.set_cons_succ])
  refine wpAnyH_done (by kernel_rfl) ?_ _
  clear hHeld
  clear hcut HF hmc
  go_wp2_with fail
  refine (Wrong_ok ca c2 cc caps a n2 c L _ C_1.out hok E_1.out (by omega)).mono ?_
  rintro e y2 ⟨rfl, hb⟩
  have C_2 := Lib.hid (Ints.below C_1.out hb)
  have E_2 := Lib.hid (Evs.below E_1.out hb)
  have B_2 := Lib.hid (B_1.out.trans (Below.mono hb B_1.out.size))
  clear hb C_1 E_1 B_1
  go_wp2_with fail
  refine (Last_no a n2 c i _ (.inl hi)).mono ?_
  rintro e y3 ⟨rfl, hb⟩
  have C_3 := Lib.hid (Ints.below C_2.out hb)
  have E_3 := Lib.hid (Evs.below E_2.out hb)
  have B_3 := Lib.hid (B_2.out.trans (Below.mono hb B_2.out.size))
  clear hb C_2 E_2 B_2
  go_wp2_with fail
  refine (Count_no a n2 c i kd ob _ (.inl hi)).mono ?_
  rintro e y4 ⟨rfl, hb⟩
  have C_4 := Lib.hid (Ints.below C_3.out hb)
  have E_4 := Lib.hid (Evs.below E_3.out hb)
  have B_4 := Lib.hid (B_3.out.trans (Below.mono hb B_3.out.size))
  clear hb C_3 E_3 B_3
  have HK := Lib.hid (fun W h => refCaps_any ca c2 cc caps W h)
  rw [hok] at HK
  go_wp2_with fail
  refine (HK.out _ C_4.out).mono ?_
  rintro e y5 ⟨rfl, rfl⟩
  go_wp2_with fail
  refine (refWrong_any ca c2 cc caps a n2 c L _ C_4.out hok E_4.out (by omega)).mono ?_
  rintro e y6 ⟨rfl, hb⟩
  have C_5 := Lib.hid (Ints.below C_4.out hb)
  have E_5 := Lib.hid (Evs.below E_4.out hb)
  have B_5 := Lib.hid (B_4.out.trans (Below.mono hb B_4.out.size))
  clear hb C_4 E_4 B_4
  go_wp2_with fail
  refine (alive_any _).mono ?_
  rintro e y7 ⟨rfl, hb⟩
  have C_6 := Lib.hid (Ints.below C_5.out hb)
  have E_6 := Lib.hid (Evs.below E_5.out hb)
  have B_6 := Lib.hid (B_5.out.trans (Below.mono hb B_5.out.size))
  clear hb C_5 E_5 B_5
  go_wp2_with fail
  go_ret
  exact ⟨ret_bool (by first | rfl | simp), B_6.out⟩
set_option maxRecDepth 100000 in
set_option maxHeartbeats 8000000 in
theorem tells_ok_big (ca : Option Addr) (cn cc : Nat) (caps0 : List Int) (a : Option Addr) (n c : Nat) (L0 : List Ev) (i kd ob : Int) (w : World) (hC : Ints w ca cn cc caps0) (hE : Evs w a n c L0) (hok : capsB (caps0.take 6) = true) (hi : ¬ i < 0) (hi2 : (min n 150 : Nat) ≤ i) :
    Calls Try.prog 3 #[.slice ca cn cc, .slice a n c, .int .i64 i, .int .i64 kd, .int .i64 ob] w (Says w) := by
  have hcl := hC.len_eq
  have HC0 := Lib.hid hC.le_cap
  have HC := Lib.hid (hC.take 6); have HE := Lib.hid (hE.take 150)
  have HF := Lib.hid (few_any a n c · hE.recs.le_cap hE.recs.none_)
  obtain ⟨caps, hcaps⟩ : ∃ x, x = caps0.take 6 := ⟨_, rfl⟩
  obtain ⟨L, hL⟩ : ∃ x, x = L0.take 150 := ⟨_, rfl⟩
  rw [← hcaps] at HC hok; rw [← hL] at HE
  have hm6 : min cn 6 ≤ 6 := by omega
  have hm150 : min n 150 ≤ 150 := by omega
  obtain ⟨c2, hc2⟩ : ∃ x, x = min cn 6 := ⟨_, rfl⟩
  obtain ⟨n2, hn2⟩ : ∃ x, x = min n 150 := ⟨_, rfl⟩
  have hmc : (if (6 : Int) < (cn : Int) then (6 : Int) else (cn : Int)) = (c2 : Int) := by split <;> omega
  have hcut := cut_to 22 Try.underlying22 ⟨_, fun _ => rfl⟩ ca cn cc c2 HC0.out (by omega)
  rw [← hc2] at HC hm6; rw [← hn2] at HE HF hm150 hi2
  have hlen := HE.out.recs.len_eq
  have hncap := HE.out.recs.le_cap
  have hnmax := HE.out.recs.len_le
  have B := Lib.hid (Below.refl w.heap.size w)
  clear hC hE hcaps hL hcl hc2 hn2
  go_enter Try.func3, Try.ntmps3
  go_upto_region 1 with (fail)
  have hb : Below w.heap.size w w.drew := (Below.refl _ _).drew
  have C_1 := Lib.hid (Ints.below HC.out hb)
  have E_1 := Lib.hid (Evs.below HE.out hb)
  have B_1 := Lib.hid (B.out.trans (Below.mono hb B.out.size))
  clear hb HC HE B
  refine wp_region_held_drew (S := (fun _ => True)) (by kernel_rfl) trivial (fun hHeld => ?_)
  (try simp only [Act.put, List.getElem_toArray, List.getElem_cons_zero, List.getElem_cons_succ, List.setIfInBounds_toArray, List.set_cons_zero, List.set_cons_succ])
  refine wpAnyH_take (i := 0) (v := ?_) rfl (by kernel_rfl) (by kernel_rfl) (by kernel_rfl) (fun _ _ _ h => h) (Or.inl ⟨by rfl, ?_⟩) (by assumption) ?_
  rotate_left
  · (intro w hSw; (try dsimp only at hSw); go_simp; try with_reducible rfl)
  (try simp only [Act.put, List.getElem_toArray, List.getElem_cons_zero, List.getElem_cons_succ, List.setIfInBounds_toArray, List.set_cons_zero, List.set_cons_succ])
  refine wpAnyH_take (i := 1) (v := ?_) rfl (by kernel_rfl) (by kernel_rfl) (by kernel_rfl) (fun _ _ _ h => h) (Or.inl ⟨by rfl, ?_⟩) (by assumption) ?_
  rotate_left
  · (intro w hSw; (try dsimp only at hSw); go_simp; try with_reducible rfl)
  (try simp only [Act.put, List.getElem_toArray, List.getElem_cons_zero, List.getElem_cons_succ, List.setIfInBounds_toArray, List.set_cons_zero, List.set_cons_succ])
  refine wpAnyH_take (i := 2) (v := ?_) rfl (by kernel_rfl) (by kernel_rfl) (by kernel_rfl) (fun _ _ _ h => h) (Or.inl ⟨by rfl, ?_⟩) (by assumption) ?_
  rotate_left
  · (intro w hSw; (try dsimp only at hSw); go_simp; try with_reducible rfl)
  (try simp only [Act.put, List.getElem_toArray, List.getElem_cons_zero, List.getElem_cons_succ, List.setIfInBounds_toArray, List.set_cons_zero, List.set_cons_succ])
  refine wpAnyH_take (i := 3) (v := ?_) rfl (by kernel_rfl) (by kernel_rfl) (by kernel_rfl) (fun _ _ _ h => h) (Or.inl ⟨by rfl, ?_⟩) (by assumption) ?_
  rotate_left
  · (intro w hSw; (try dsimp only at hSw); go_simp; try with_reducible rfl)
  (try simp only [Act.put, List.getElem_toArray, List.getElem_cons_zero, List.getElem_cons_succ, List.setIfInBounds_toArray, List.set_cons_zero, List.set_cons_succ])
  refine wpAnyH_take (i := 4) (v := ?_) rfl (by kernel_rfl) (by kernel_rfl) (by kernel_rfl) (fun _ _ _ h => h) (Or.inl ⟨by rfl, ?_⟩) (by assumption) ?_
  rotate_left
  · (intro w hSw; (try dsimp only at hSw); go_simp; try with_reducible rfl)
  (try simp only [Act.put, List.getElem_toArray, List.getElem_cons_zero, List.getElem_cons_succ, List.setIfInBounds_toArray, List.set_cons_zero, List.set_cons_succ])
  refine wpAnyH_take (i := 5) (v := ?_) rfl (by kernel_rfl) (by kernel_rfl) (by kernel_rfl) (fun _ _ _ h => h) (Or.inl ⟨by rfl, ?_⟩) (by assumption) ?_
  rotate_left
  · (intro w hSw; (try dsimp only at hSw); go_simp; try with_reducible rfl)
  (try simp only [Act.put, List.getElem_toArray, List.getElem_cons_zero, List.getElem_cons_succ, List.setIfInBounds_toArray, List.set_cons_zero, List.set_cons_succ])
  refine wpAnyH_ready (rs := [6]) (by kernel_rfl) (by simp) ?_
  refine AllReadyH.cons (o := _) rfl (fun K hK => ?_) AllReadyH.nil
  go_simp
  refine (HF.out _).mono ?_
  rintro e y1 ⟨rfl, rfl⟩
  clear hHeld
  refine hK.out _ _ trivial (fun hHeld => ?_)
  clear hK K
  (try simp only [Act.put, List.getElem_toArray, List.getElem_cons_zero, List.getElem_cons_succ, List.setIfInBounds_toArray, List.set_cons_zero, List.set_cons_succ])
  refine wpAnyH_take (i := 7) (v := ?_) rfl (by kernel_rfl) (by kernel_rfl) (by kernel_rfl) (fun _ _ _ h => h) (Or.inl ⟨by rfl, ?_⟩) (by assumption) ?_
  rotate_left
  · (intro w hSw; (try dsimp only at hSw); go_simp; try with_reducible rfl)
  (try simp only [Act.put, List.getElem_toArray, List.getElem_cons_zero, List.getElem_cons_succ, List.setIfInBounds_toArray, List.set_cons_zero, List.set_cons_succ])
  refine wpAnyH_take (i := 8) (v := ?_) rfl (by kernel_rfl) (by kernel_rfl) (by kernel_rfl) (fun _ _ _ h => h) (Or.inl ⟨by rfl, ?_⟩) (by assumption) ?_
  rotate_left
  · (intro w hSw; (try dsimp only at hSw); go_simp; try with_reducible rfl)
  (try simp only [Act.put, List.getElem_toArray, List.getElem_cons_zero, List.getElem_cons_succ, List.setIfInBounds_toArray, List.set_cons_zero, List.set_cons_succ])
  refine wpAnyH_done (by kernel_rfl) ?_ _
  clear hHeld
  clear hcut HF hmc
  go_wp2_with fail
  refine (Wrong_ok ca c2 cc caps a n2 c L _ C_1.out hok E_1.out (by omega)).mono ?_
  rintro e y2 ⟨rfl, hb⟩
  have C_2 := Lib.hid (Ints.below C_1.out hb)
  have E_2 := Lib.hid (Evs.below E_1.out hb)
  have B_2 := Lib.hid (B_1.out.trans (Below.mono hb B_1.out.size))
  clear hb C_1 E_1 B_1
  go_wp2_with fail
  refine (Last_no a n2 c i _ (.inr hi2)).mono ?_
  rintro e y3 ⟨rfl, hb⟩
  have C_3 := Lib.hid (Ints.below C_2.out hb)
  have E_3 := Lib.hid (Evs.below E_2.out hb)
  have B_3 := Lib.hid (B_2.out.trans (Below.mono hb B_2.out.size))
  clear hb C_2 E_2 B_2
  go_wp2_with fail
  refine (Count_no a n2 c i kd ob _ (.inr hi2)).mono ?_
  rintro e y4 ⟨rfl, hb⟩
  have C_4 := Lib.hid (Ints.below C_3.out hb)
  have E_4 := Lib.hid (Evs.below E_3.out hb)
  have B_4 := Lib.hid (B_3.out.trans (Below.mono hb B_3.out.size))
  clear hb C_3 E_3 B_3
  have HK := Lib.hid (fun W h => refCaps_any ca c2 cc caps W h)
  rw [hok] at HK
  go_wp2_with fail
  refine (HK.out _ C_4.out).mono ?_
  rintro e y5 ⟨rfl, rfl⟩
  go_wp2_with fail
  refine (refWrong_any ca c2 cc caps a n2 c L _ C_4.out hok E_4.out (by omega)).mono ?_
  rintro e y6 ⟨rfl, hb⟩
  have C_5 := Lib.hid (Ints.below C_4.out hb)
  have E_5 := Lib.hid (Evs.below E_4.out hb)
  have B_5 := Lib.hid (B_4.out.trans (Below.mono hb B_4.out.size))
  clear hb C_4 E_4 B_4
  go_wp2_with fail
  refine (alive_any _).mono ?_
  rintro e y7 ⟨rfl, hb⟩
  have C_6 := Lib.hid (Ints.below C_5.out hb)
  have E_6 := Lib.hid (Evs.below E_5.out hb)
  have B_6 := Lib.hid (B_5.out.trans (Below.mono hb B_5.out.size))
  clear hb C_5 E_5 B_5
  go_wp2_with fail
  go_ret
  exact ⟨ret_bool (by first | rfl | simp), B_6.out⟩
set_option maxRecDepth 100000 in
set_option maxHeartbeats 8000000 in
theorem tells_ok_in (ca : Option Addr) (cn cc : Nat) (caps0 : List Int) (a : Option Addr) (n c : Nat) (L0 : List Ev) (i kd ob : Int) (w : World) (hC : Ints w ca cn cc caps0) (hE : Evs w a n c L0) (hok : capsB (caps0.take 6) = true) (hi : ¬ i < 0) (hi2 : ¬ ((min n 150 : Nat) : Int) ≤ i) :
    Calls Try.prog 3 #[.slice ca cn cc, .slice a n c, .int .i64 i, .int .i64 kd, .int .i64 ob] w (Says w) := by
  have hcl := hC.len_eq
  have HC0 := Lib.hid hC.le_cap
  have HC := Lib.hid (hC.take 6); have HE := Lib.hid (hE.take 150)
  have HF := Lib.hid (few_any a n c · hE.recs.le_cap hE.recs.none_)
  obtain ⟨caps, hcaps⟩ : ∃ x, x = caps0.take 6 := ⟨_, rfl⟩
  obtain ⟨L, hL⟩ : ∃ x, x = L0.take 150 := ⟨_, rfl⟩
  rw [← hcaps] at HC hok; rw [← hL] at HE
  have hm6 : min cn 6 ≤ 6 := by omega
  have hm150 : min n 150 ≤ 150 := by omega
  obtain ⟨c2, hc2⟩ : ∃ x, x = min cn 6 := ⟨_, rfl⟩
  obtain ⟨n2, hn2⟩ : ∃ x, x = min n 150 := ⟨_, rfl⟩
  have hmc : (if (6 : Int) < (cn : Int) then (6 : Int) else (cn : Int)) = (c2 : Int) := by split <;> omega
  have hcut := cut_to 22 Try.underlying22 ⟨_, fun _ => rfl⟩ ca cn cc c2 HC0.out (by omega)
  rw [← hc2] at HC hm6; rw [← hn2] at HE HF hm150 hi2
  have hlen := HE.out.recs.len_eq
  have hncap := HE.out.recs.le_cap
  have hnmax := HE.out.recs.len_le
  have B := Lib.hid (Below.refl w.heap.size w)
  clear hC hE hcaps hL hcl hc2 hn2
  go_enter Try.func3, Try.ntmps3
  go_upto_region 1 with (fail)
  have hb : Below w.heap.size w w.drew := (Below.refl _ _).drew
  have C_1 := Lib.hid (Ints.below HC.out hb)
  have E_1 := Lib.hid (Evs.below HE.out hb)
  have B_1 := Lib.hid (B.out.trans (Below.mono hb B.out.size))
  clear hb HC HE B
  refine wp_region_held_drew (S := (fun _ => True)) (by kernel_rfl) trivial (fun hHeld => ?_)
  (try simp only [Act.put, List.getElem_toArray, List.getElem_cons_zero, List.getElem_cons_succ, List.setIfInBounds_toArray, List.set_cons_zero, List.set_cons_succ])
  refine wpAnyH_take (i := 0) (v := ?_) rfl (by kernel_rfl) (by kernel_rfl) (by kernel_rfl) (fun _ _ _ h => h) (Or.inl ⟨by rfl, ?_⟩) (by assumption) ?_
  rotate_left
  · (intro w hSw; (try dsimp only at hSw); go_simp; try with_reducible rfl)
  (try simp only [Act.put, List.getElem_toArray, List.getElem_cons_zero, List.getElem_cons_succ, List.setIfInBounds_toArray, List.set_cons_zero, List.set_cons_succ])
  refine wpAnyH_take (i := 1) (v := ?_) rfl (by kernel_rfl) (by kernel_rfl) (by kernel_rfl) (fun _ _ _ h => h) (Or.inl ⟨by rfl, ?_⟩) (by assumption) ?_
  rotate_left
  · (intro w hSw; (try dsimp only at hSw); go_simp; try with_reducible rfl)
  (try simp only [Act.put, List.getElem_toArray, List.getElem_cons_zero, List.getElem_cons_succ, List.setIfInBounds_toArray, List.set_cons_zero, List.set_cons_succ])
  refine wpAnyH_take (i := 2) (v := ?_) rfl (by kernel_rfl) (by kernel_rfl) (by kernel_rfl) (fun _ _ _ h => h) (Or.inl ⟨by rfl, ?_⟩) (by assumption) ?_
  rotate_left
  · (intro w hSw; (try dsimp only at hSw); go_simp; try with_reducible rfl)
  (try simp only [Act.put, List.getElem_toArray, List.getElem_cons_zero, List.getElem_cons_succ, List.setIfInBounds_toArray, List.set_cons_zero, List.set_cons_succ])
  refine wpAnyH_take (i := 3) (v := ?_) rfl (by kernel_rfl) (by kernel_rfl) (by kernel_rfl) (fun _ _ _ h => h) (Or.inl ⟨by rfl, ?_⟩) (by assumption) ?_
  rotate_left
  · (intro w hSw; (try dsimp only at hSw); go_simp; try with_reducible rfl)
  (try simp only [Act.put, List.getElem_toArray, List.getElem_cons_zero, List.getElem_cons_succ, List.setIfInBounds_toArray, List.set_cons_zero, List.set_cons_succ])
  refine wpAnyH_take (i := 4) (v := ?_) rfl (by kernel_rfl) (by kernel_rfl) (by kernel_rfl) (fun _ _ _ h => h) (Or.inl ⟨by rfl, ?_⟩) (by assumption) ?_
  rotate_left
  · (intro w hSw; (try dsimp only at hSw); go_simp; try with_reducible rfl)
  (try simp only [Act.put, List.getElem_toArray, List.getElem_cons_zero, List.getElem_cons_succ, List.setIfInBounds_toArray, List.set_cons_zero, List.set_cons_succ])
  refine wpAnyH_take (i := 5) (v := ?_) rfl (by kernel_rfl) (by kernel_rfl) (by kernel_rfl) (fun _ _ _ h => h) (Or.inl ⟨by rfl, ?_⟩) (by assumption) ?_
  rotate_left
  · (intro w hSw; (try dsimp only at hSw); go_simp; try with_reducible rfl)
  (try simp only [Act.put, List.getElem_toArray, List.getElem_cons_zero, List.getElem_cons_succ, List.setIfInBounds_toArray, List.set_cons_zero, List.set_cons_succ])
  refine wpAnyH_ready (rs := [6]) (by kernel_rfl) (by simp) ?_
  refine AllReadyH.cons (o := _) rfl (fun K hK => ?_) AllReadyH.nil
  go_simp
  refine (HF.out _).mono ?_
  rintro e y1 ⟨rfl, rfl⟩
  clear hHeld
  refine hK.out _ _ trivial (fun hHeld => ?_)
  clear hK K
  (try simp only [Act.put, List.getElem_toArray, List.getElem_cons_zero, List.getElem_cons_succ, List.setIfInBounds_toArray, List.set_cons_zero, List.set_cons_succ])
  refine wpAnyH_take (i := 7) (v := ?_) rfl (by kernel_rfl) (by kernel_rfl) (by kernel_rfl) (fun _ _ _ h => h) (Or.inl ⟨by rfl, ?_⟩) (by assumption) ?_
  rotate_left
  · (intro w hSw; (try dsimp only at hSw); go_simp; try with_reducible rfl)
  (try simp only [Act.put, List.getElem_toArray, List.getElem_cons_zero, List.getElem_cons_succ, List.setIfInBounds_toArray, List.set_cons_zero, List.set_cons_succ])
  refine wpAnyH_take (i := 8) (v := ?_) rfl (by kernel_rfl) (by kernel_rfl) (by kernel_rfl) (fun _ _ _ h => h) (Or.inl ⟨by rfl, ?_⟩) (by assumption) ?_
  rotate_left
  · (intro w hSw; (try dsimp only at hSw); go_simp; try with_reducible rfl)
  (try simp only [Act.put, List.getElem_toArray, List.getElem_cons_zero, List.getElem_cons_succ, List.setIfInBounds_toArray, List.set_cons_zero, List.set_cons_succ])
  refine wpAnyH_done (by kernel_rfl) ?_ _
  clear hHeld
  clear hcut HF hmc
  have hi3 : i < (n2 : Int) := by omega
  obtain ⟨k, rfl⟩ : ∃ k : Nat, i = (k : Int) := ⟨i.toNat, by omega⟩
  have hkn : k < n2 := by omega
  have h01 : ¬ (k : Int) < 0 := by omega
  have h02 : ¬ (n2 : Int) ≤ (k : Int) := by omega
  clear hi hi2 hi3
  go_wp2_with fail
  refine (Wrong_ok ca c2 cc caps a n2 c L _ C_1.out hok E_1.out (by omega)).mono ?_
  rintro e y2 ⟨rfl, hb⟩
  have C_2 := Lib.hid (Ints.below C_1.out hb)
  have E_2 := Lib.hid (Evs.below E_1.out hb)
  have B_2 := Lib.hid (B_1.out.trans (Below.mono hb B_1.out.size))
  clear hb C_1 E_1 B_1
  go_wp2_with fail
  refine (Last_go a n2 c L k _ E_2.out hkn).mono ?_
  rintro e y3 ⟨rfl, hb⟩
  have C_3 := Lib.hid (Ints.below C_2.out hb)
  have E_3 := Lib.hid (Evs.below E_2.out hb)
  have B_3 := Lib.hid (B_2.out.trans (Below.mono hb B_2.out.size))
  clear hb C_2 E_2 B_2
  go_wp2_with fail
  refine (Count_go a n2 c L k kd ob _ E_3.out hkn).mono ?_
  rintro e y4 ⟨rfl, hb⟩
  have C_4 := Lib.hid (Ints.below C_3.out hb)
  have E_4 := Lib.hid (Evs.below E_3.out hb)
  have B_4 := Lib.hid (B_3.out.trans (Below.mono hb B_3.out.size))
  clear hb C_3 E_3 B_3
  have HK := Lib.hid (fun W h => refCaps_any ca c2 cc caps W h)
  rw [hok] at HK
  go_wp2_with fail
  refine (HK.out _ C_4.out).mono ?_
  rintro e y5 ⟨rfl, rfl⟩
  go_wp2_with fail
  refine (refWrong_any ca c2 cc caps a n2 c L _ C_4.out hok E_4.out (by omega)).mono ?_
  rintro e y6 ⟨rfl, hb⟩
  have C_5 := Lib.hid (Ints.below C_4.out hb)
  have E_5 := Lib.hid (Evs.below E_4.out hb)
  have B_5 := Lib.hid (B_4.out.trans (Below.mono hb B_4.out.size))
  clear hb C_4 E_4 B_4
  go_wp2_with fail
  refine (alive_any _).mono ?_
  rintro e y7 ⟨rfl, hb⟩
  have C_6 := Lib.hid (Ints.below C_5.out hb)
  have E_6 := Lib.hid (Evs.below E_5.out hb)
  have B_6 := Lib.hid (B_5.out.trans (Below.mono hb B_5.out.size))
  clear hb C_5 E_5 B_5
  go_wp2_with fail
  refine (refLast_any a n2 c L k _ E_6.out hkn).mono ?_
  rintro e y8 ⟨rfl, hb⟩
  have C_7 := Lib.hid (Ints.below C_6.out hb)
  have E_7 := Lib.hid (Evs.below E_6.out hb)
  have B_7 := Lib.hid (B_6.out.trans (Below.mono hb B_6.out.size))
  clear hb C_6 E_6 B_6
  go_wp2_with fail
  refine (refCount_any a n2 c L k kd ob _ E_7.out hkn).mono ?_
  rintro e y9 ⟨rfl, hb⟩
  have C_8 := Lib.hid (Ints.below C_7.out hb)
  have E_8 := Lib.hid (Evs.below E_7.out hb)
  have B_8 := Lib.hid (B_7.out.trans (Below.mono hb B_7.out.size))
  clear hb C_7 E_7 B_7
  go_wp2_with fail
  go_ret
  exact ⟨ret_bool (by first | rfl | simp), B_8.out⟩
theorem tells_any (ca : Option Addr) (cn cc : Nat) (caps0 : List Int) (a : Option Addr) (n c : Nat) (L0 : List Ev) (i kd ob : Int) (w : World) (hC : Ints w ca cn cc caps0) (hE : Evs w a n c L0) :
    Calls Try.prog 3 #[.slice ca cn cc, .slice a n c, .int .i64 i, .int .i64 kd, .int .i64 ob] w (Says w) := by
  cases hok : capsB (caps0.take 6) with
  | false =>
    by_cases hi : i < 0
    · exact tells_bad_neg ca cn cc caps0 a n c L0 i kd ob w hC hE hok hi
    · by_cases hi2 : ((min n 150 : Nat) : Int) ≤ i
      · exact tells_bad_big ca cn cc caps0 a n c L0 i kd ob w hC hE hok hi hi2
      · exact tells_bad_in ca cn cc caps0 a n c L0 i kd ob w hC hE hok hi hi2
  | true =>
    by_cases hi : i < 0
    · exact tells_ok_neg ca cn cc caps0 a n c L0 i kd ob w hC hE hok hi
    · by_cases hi2 : ((min n 150 : Nat) : Int) ≤ i
      · exact tells_ok_big ca cn cc caps0 a n c L0 i kd ob w hC hE hok hi hi2
      · exact tells_ok_in ca cn cc caps0 a n c L0 i kd ob w hC hE hok hi hi2
set_option maxRecDepth 100000 in
set_option maxHeartbeats 8000000 in
theorem parts_bad (ca : Option Addr) (cn cc : Nat) (caps0 : List Int) (a : Option Addr) (n c : Nat) (L0 : List Ev) (k : Int) (w : World) (hC : Ints w ca cn cc caps0) (hE : Evs w a n c L0) (hok : capsB (caps0.take 6) = false) :
    Calls Try.prog 4 #[.slice ca cn cc, .slice a n c, .int .i64 k] w (Says w) := by
  have hcl := hC.len_eq
  have HC0 := Lib.hid hC.le_cap
  have HC := Lib.hid (hC.take 6); have HE := Lib.hid (hE.take 150)
  have HF := Lib.hid (few_any a n c · hE.recs.le_cap hE.recs.none_)
  obtain ⟨caps, hcaps⟩ : ∃ x, x = caps0.take 6 := ⟨_, rfl⟩
  obtain ⟨L, hL⟩ : ∃ x, x = L0.take 150 := ⟨_, rfl⟩
  rw [← hcaps] at HC hok; rw [← hL] at HE
  have hm6 : min cn 6 ≤ 6 := by omega
  have hm150 : min n 150 ≤ 150 := by omega
  obtain ⟨c2, hc2⟩ : ∃ x, x = min cn 6 := ⟨_, rfl⟩
  obtain ⟨n2, hn2⟩ : ∃ x, x = min n 150 := ⟨_, rfl⟩
  have hmc : (if (6 : Int) < (cn : Int) then (6 : Int) else (cn : Int)) = (c2 : Int) := by split <;> omega
  have hcut := cut_to 22 Try.underlying22 ⟨_, fun _ => rfl⟩ ca cn cc c2 HC0.out (by omega)
  rw [← hc2] at HC hm6; rw [← hn2] at HE HF hm150
  have hlen := HE.out.recs.len_eq
  have hncap := HE.out.recs.le_cap
  have hnmax := HE.out.recs.len_le
  have B := Lib.hid (Below.refl w.heap.size w)
  clear hC hE hcaps hL hcl hc2 hn2
  go_enter Try.func4, Try.ntmps4
  go_upto_region 1 with (fail)
  have hb : Below w.heap.size w w.drew := (Below.refl _ _).drew
  have C_1 := Lib.hid (Ints.below HC.out hb)
  have E_1 := Lib.hid (Evs.below HE.out hb)
  have B_1 := Lib.hid (B.out.trans (Below.mono hb B.out.size))
  clear hb HC HE B
  refine wp_region_held_drew (S := (fun _ => True)) (by kernel_rfl) trivial (fun hHeld => ?_)
  (try simp only [Act.put, List.getElem_toArray, List.getElem_cons_zero, List.getElem_cons_succ, List.setIfInBounds_toArray, List.set_cons_zero, List.set_cons_succ])
  refine wpAnyH_take (i := 0) (v := ?_) rfl (by kernel_rfl) (by kernel_rfl) (by kernel_rfl) (fun _ _ _ h => h) (Or.inl ⟨by rfl, ?_⟩) (by assumption) ?_
  rotate_left
  · (intro w hSw; (try dsimp only at hSw); go_simp; try with_reducible rfl)
  (try simp only [Act.put, List.getElem_toArray, List.getElem_cons_zero, List.getElem_cons_succ, List.setIfInBounds_toArray, List.set_cons_zero, List.set_cons_succ])
  refine wpAnyH_take (i := 1) (v := ?_) rfl (by kernel_rfl) (by kernel_rfl) (by kernel_rfl) (fun _ _ _ h => h) (Or.inl ⟨by rfl, ?_⟩) (by assumption) ?_
  rotate_left
  · (intro w hSw; (try dsimp only at hSw); go_simp; try with_reducible rfl)
  (try simp only [Act.put, List.getElem_toArray, List.getElem_cons_zero, List.getElem_cons_succ, List.setIfInBounds_toArray, List.set_cons_zero, List.set_cons_succ])
  refine wpAnyH_take (i := 2) (v := ?_) rfl (by kernel_rfl) (by kernel_rfl) (by kernel_rfl) (fun _ _ _ h => h) (Or.inl ⟨by rfl, ?_⟩) (by assumption) ?_
  rotate_left
  · (intro w hSw; (try dsimp only at hSw); go_simp; try with_reducible rfl)
  (try simp only [Act.put, List.getElem_toArray, List.getElem_cons_zero, List.getElem_cons_succ, List.setIfInBounds_toArray, List.set_cons_zero, List.set_cons_succ])
  refine wpAnyH_take (i := 3) (v := ?_) rfl (by kernel_rfl) (by kernel_rfl) (by kernel_rfl) (fun _ _ _ h => h) (Or.inl ⟨by rfl, ?_⟩) (by assumption) ?_
  rotate_left
  · (intro w hSw; (try dsimp only at hSw); go_simp; try with_reducible rfl)
  (try simp only [Act.put, List.getElem_toArray, List.getElem_cons_zero, List.getElem_cons_succ, List.setIfInBounds_toArray, List.set_cons_zero, List.set_cons_succ])
  refine wpAnyH_take (i := 4) (v := ?_) rfl (by kernel_rfl) (by kernel_rfl) (by kernel_rfl) (fun _ _ _ h => h) (Or.inl ⟨by rfl, ?_⟩) (by assumption) ?_
  rotate_left
  · (intro w hSw; (try dsimp only at hSw); go_simp; try with_reducible rfl)
  (try simp only [Act.put, List.getElem_toArray, List.getElem_cons_zero, List.getElem_cons_succ, List.setIfInBounds_toArray, List.set_cons_zero, List.set_cons_succ])
  refine wpAnyH_take (i := 5) (v := ?_) rfl (by kernel_rfl) (by kernel_rfl) (by kernel_rfl) (fun _ _ _ h => h) (Or.inl ⟨by rfl, ?_⟩) (by assumption) ?_
  rotate_left
  · (intro w hSw; (try dsimp only at hSw); go_simp; try with_reducible rfl)
  (try simp only [Act.put, List.getElem_toArray, List.getElem_cons_zero, List.getElem_cons_succ, List.setIfInBounds_toArray, List.set_cons_zero, List.set_cons_succ])
  refine wpAnyH_ready (rs := [6]) (by kernel_rfl) (by simp) ?_
  refine AllReadyH.cons (o := _) rfl (fun K hK => ?_) AllReadyH.nil
  go_simp
  refine (HF.out _).mono ?_
  rintro e y1 ⟨rfl, rfl⟩
  clear hHeld
  refine hK.out _ _ trivial (fun hHeld => ?_)
  clear hK K
  (try simp only [Act.put, List.getElem_toArray, List.getElem_cons_zero, List.getElem_cons_succ, List.setIfInBounds_toArray, List.set_cons_zero, List.set_cons_succ])
  refine wpAnyH_take (i := 7) (v := ?_) rfl (by kernel_rfl) (by kernel_rfl) (by kernel_rfl) (fun _ _ _ h => h) (Or.inl ⟨by rfl, ?_⟩) (by assumption) ?_
  rotate_left
  · (intro w hSw; (try dsimp only at hSw); go_simp; try with_reducible rfl)
  (try simp only [Act.put, List.getElem_toArray, List.getElem_cons_zero, List.getElem_cons_succ, List.setIfInBounds_toArray, List.set_cons_zero, List.set_cons_succ])
  refine wpAnyH_take (i := 8) (v := ?_) rfl (by kernel_rfl) (by kernel_rfl) (by kernel_rfl) (fun _ _ _ h => h) (Or.inl ⟨by rfl, ?_⟩) (by assumption) ?_
  rotate_left
  · (intro w hSw; (try dsimp only at hSw); go_simp; try with_reducible rfl)
  (try simp only [Act.put, List.getElem_toArray, List.getElem_cons_zero, List.getElem_cons_succ, List.setIfInBounds_toArray, List.set_cons_zero, List.set_cons_succ])
  refine wpAnyH_done (by kernel_rfl) ?_ _
  clear hHeld
  clear hcut HF hmc
  go_wp2_with fail
  refine (Wrong_bad ca c2 cc caps a n2 c _ C_1.out hok).mono ?_
  rintro e y2 ⟨rfl, hb⟩
  have C_2 := Lib.hid (Ints.below C_1.out hb)
  have E_2 := Lib.hid (Evs.below E_1.out hb)
  have B_2 := Lib.hid (B_1.out.trans (Below.mono hb B_1.out.size))
  clear hb C_1 E_1 B_1
  go_wp2_with fail
  refine (alive_any _).mono ?_
  rintro e y3 ⟨rfl, hb⟩
  have C_3 := Lib.hid (Ints.below C_2.out hb)
  have E_3 := Lib.hid (Evs.below E_2.out hb)
  have B_3 := Lib.hid (B_2.out.trans (Below.mono hb B_2.out.size))
  clear hb C_2 E_2 B_2
  go_wp2_with fail
  go_ret
  exact ⟨ret_bool (by first | rfl | simp), B_3.out⟩
set_option maxRecDepth 100000 in
set_option maxHeartbeats 8000000 in
theorem parts_pos (ca : Option Addr) (cn cc : Nat) (caps0 : List Int) (a : Option Addr) (n c : Nat) (L0 : List Ev) (k0 : Int) (k : Nat) (hk : (k : Int) = (k0.tmod ((min n 150 : Nat) + 1) + ((min n 150 : Nat) + 1)) % ((min n 150 : Nat) + 1)) (hkl : k ≤ min n 150) (w : World) (hI : I64 k0) (hC : Ints w ca cn cc caps0) (hE : Evs w a n c L0) (hok : capsB (caps0.take 6) = true) (z : Nat) (hz : wrongZ (caps0.take 6) (L0.take 150) = (z : Int)) (hkz : z < k) :
    Calls Try.prog 4 #[.slice ca cn cc, .slice a n c, .int .i64 k0] w (Says w) := by
  have hpart := wrong_take (caps0.take 6) (L0.take 150) k (by have := hE.recs.len_eq; rw [List.length_take]; omega)
  rw [hz] at hpart
  rw [if_pos (by omega)] at hpart
  have hzl : z < min n 150 := by
    have h1 := wrong_lt (caps0.take 6) (L0.take 150)
    rw [hz, List.length_take] at h1; have := hE.recs.len_eq; omega
  have hcl := hC.len_eq
  have HC0 := Lib.hid hC.le_cap
  have HC := Lib.hid (hC.take 6); have HE := Lib.hid (hE.take 150)
  have HF := Lib.hid (few_any a n c · hE.recs.le_cap hE.recs.none_)
  obtain ⟨caps, hcaps⟩ : ∃ x, x = caps0.take 6 := ⟨_, rfl⟩
  obtain ⟨L, hL⟩ : ∃ x, x = L0.take 150 := ⟨_, rfl⟩
  rw [← hcaps] at HC hok hz hpart; rw [← hL] at HE hz hpart
  have hm6 : min cn 6 ≤ 6 := by omega
  have hm150 : min n 150 ≤ 150 := by omega
  obtain ⟨c2, hc2⟩ : ∃ x, x = min cn 6 := ⟨_, rfl⟩
  obtain ⟨n2, hn2⟩ : ∃ x, x = min n 150 := ⟨_, rfl⟩
  have hmc : (if (6 : Int) < (cn : Int) then (6 : Int) else (cn : Int)) = (c2 : Int) := by split <;> omega
  have hcut := cut_to 22 Try.underlying22 ⟨_, fun _ => rfl⟩ ca cn cc c2 HC0.out (by omega)
  rw [← hc2] at HC hm6; rw [← hn2] at HE HF hm150 hzl hk hkl
  have hlen := HE.out.recs.len_eq
  have hncap := HE.out.recs.le_cap
  have hnmax := HE.out.recs.len_le
  have B := Lib.hid (Below.refl w.heap.size w)
  clear hC hE hcaps hL hcl hc2 hn2
  go_enter Try.func4, Try.ntmps4
  go_upto_region 1 with (fail)
  have hb : Below w.heap.size w w.drew := (Below.refl _ _).drew
  have C_1 := Lib.hid (Ints.below HC.out hb)
  have E_1 := Lib.hid (Evs.below HE.out hb)
  have B_1 := Lib.hid (B.out.trans (Below.mono hb B.out.size))
  clear hb HC HE B
  refine wp_region_held_drew (S := (fun _ => True)) (by kernel_rfl) trivial (fun hHeld => ?_)
  (try simp only [Act.put, List.getElem_toArray, List.getElem_cons_zero, List.getElem_cons_succ, List.setIfInBounds_toArray, List.set_cons_zero, List.set_cons_succ])
  refine wpAnyH_take (i := 0) (v := ?_) rfl (by kernel_rfl) (by kernel_rfl) (by kernel_rfl) (fun _ _ _ h => h) (Or.inl ⟨by rfl, ?_⟩) (by assumption) ?_
  rotate_left
  · (intro w hSw; (try dsimp only at hSw); go_simp; try with_reducible rfl)
  (try simp only [Act.put, List.getElem_toArray, List.getElem_cons_zero, List.getElem_cons_succ, List.setIfInBounds_toArray, List.set_cons_zero, List.set_cons_succ])
  refine wpAnyH_take (i := 1) (v := ?_) rfl (by kernel_rfl) (by kernel_rfl) (by kernel_rfl) (fun _ _ _ h => h) (Or.inl ⟨by rfl, ?_⟩) (by assumption) ?_
  rotate_left
  · (intro w hSw; (try dsimp only at hSw); go_simp; try with_reducible rfl)
  (try simp only [Act.put, List.getElem_toArray, List.getElem_cons_zero, List.getElem_cons_succ, List.setIfInBounds_toArray, List.set_cons_zero, List.set_cons_succ])
  refine wpAnyH_take (i := 2) (v := ?_) rfl (by kernel_rfl) (by kernel_rfl) (by kernel_rfl) (fun _ _ _ h => h) (Or.inl ⟨by rfl, ?_⟩) (by assumption) ?_
  rotate_left
  · (intro w hSw; (try dsimp only at hSw); go_simp; try with_reducible rfl)
  (try simp only [Act.put, List.getElem_toArray, List.getElem_cons_zero, List.getElem_cons_succ, List.setIfInBounds_toArray, List.set_cons_zero, List.set_cons_succ])
  refine wpAnyH_take (i := 3) (v := ?_) rfl (by kernel_rfl) (by kernel_rfl) (by kernel_rfl) (fun _ _ _ h => h) (Or.inl ⟨by rfl, ?_⟩) (by assumption) ?_
  rotate_left
  · (intro w hSw; (try dsimp only at hSw); go_simp; try with_reducible rfl)
  (try simp only [Act.put, List.getElem_toArray, List.getElem_cons_zero, List.getElem_cons_succ, List.setIfInBounds_toArray, List.set_cons_zero, List.set_cons_succ])
  refine wpAnyH_take (i := 4) (v := ?_) rfl (by kernel_rfl) (by kernel_rfl) (by kernel_rfl) (fun _ _ _ h => h) (Or.inl ⟨by rfl, ?_⟩) (by assumption) ?_
  rotate_left
  · (intro w hSw; (try dsimp only at hSw); go_simp; try with_reducible rfl)
  (try simp only [Act.put, List.getElem_toArray, List.getElem_cons_zero, List.getElem_cons_succ, List.setIfInBounds_toArray, List.set_cons_zero, List.set_cons_succ])
  refine wpAnyH_take (i := 5) (v := ?_) rfl (by kernel_rfl) (by kernel_rfl) (by kernel_rfl) (fun _ _ _ h => h) (Or.inl ⟨by rfl, ?_⟩) (by assumption) ?_
  rotate_left
  · (intro w hSw; (try dsimp only at hSw); go_simp; try with_reducible rfl)
  (try simp only [Act.put, List.getElem_toArray, List.getElem_cons_zero, List.getElem_cons_succ, List.setIfInBounds_toArray, List.set_cons_zero, List.set_cons_succ])
  refine wpAnyH_ready (rs := [6]) (by kernel_rfl) (by simp) ?_
  refine AllReadyH.cons (o := _) rfl (fun K hK => ?_) AllReadyH.nil
  go_simp
  refine (HF.out _).mono ?_
  rintro e y1 ⟨rfl, rfl⟩
  clear hHeld
  refine hK.out _ _ trivial (fun hHeld => ?_)
  clear hK K
  (try simp only [Act.put, List.getElem_toArray, List.getElem_cons_zero, List.getElem_cons_succ, List.setIfInBounds_toArray, List.set_cons_zero, List.set_cons_succ])
  refine wpAnyH_take (i := 7) (v := ?_) rfl (by kernel_rfl) (by kernel_rfl) (by kernel_rfl) (fun _ _ _ h => h) (Or.inl ⟨by rfl, ?_⟩) (by assumption) ?_
  rotate_left
  · (intro w hSw; (try dsimp only at hSw); go_simp; try with_reducible rfl)
  (try simp only [Act.put, List.getElem_toArray, List.getElem_cons_zero, List.getElem_cons_succ, List.setIfInBounds_toArray, List.set_cons_zero, List.set_cons_succ])
  refine wpAnyH_take (i := 8) (v := ?_) rfl (by kernel_rfl) (by kernel_rfl) (by kernel_rfl) (fun _ _ _ h => h) (Or.inl ⟨by rfl, ?_⟩) (by assumption) ?_
  rotate_left
  · (intro w hSw; (try dsimp only at hSw); go_simp; try with_reducible rfl)
  (try simp only [Act.put, List.getElem_toArray, List.getElem_cons_zero, List.getElem_cons_succ, List.setIfInBounds_toArray, List.set_cons_zero, List.set_cons_succ])
  refine wpAnyH_done (by kernel_rfl) ?_ _
  clear hHeld
  clear hcut HF hmc
  have hE2 := Lib.hid (E_1.out.take k)
  have hkm : min n2 k = k := by omega
  rw [hkm] at hE2
  have h1 := Int.lt_tmod_of_pos k0 (show (0 : Int) < (n2 : Int) + 1 by omega)
  have h2 := Int.tmod_lt_of_pos k0 (show (0 : Int) < (n2 : Int) + 1 by omega)
  have h0 : ¬ (n2 : Int) + 1 = 0 := by omega
  have h0b : ((n2 : Int) + 1 == 0) = false := by rw [beq_eq_false_iff_ne]; exact h0
  have HM := Lib.hid (show (k0.tmod ((n2 : Int) + 1) + (n2 : Int) + 1) % ((n2 : Int) + 1) = (k : Int) by rw [Int.add_assoc]; exact hk.symm)
  have HZ := Lib.hid hz; have HP := Lib.hid hpart
  clear hk hz hpart
  go_wp2_with fail
  refine (Wrong_ok ca c2 cc caps a n2 c L _ C_1.out hok E_1.out (by omega)).mono ?_
  rintro e y2 ⟨rfl, hb⟩
  have C_2 := Lib.hid (Ints.below C_1.out hb)
  have E_2 := Lib.hid (Evs.below E_1.out hb)
  have B_2 := Lib.hid (B_1.out.trans (Below.mono hb B_1.out.size))
  have F_2 := Lib.hid (Evs.below hE2.out hb)
  clear hb C_1 E_1 B_1 hE2
  rw [HZ.out]
  go_upto_region 6 with (fail)
  rw [HM.out]
  clear HM h1 h2 h0 h0b
  have hcut2 := cut_to 23 Try.underlying23 ⟨_, fun _ => rfl⟩ a n2 c k (by omega) (by omega)
  go_wp2_with fail
  refine (Wrong_ok ca c2 cc caps a k c (L.take k) _ C_2.out hok F_2.out (by omega)).mono ?_
  rintro e y3 ⟨rfl, hb⟩
  have C_3 := Lib.hid (Ints.below C_2.out hb)
  have E_3 := Lib.hid (Evs.below E_2.out hb)
  have B_3 := Lib.hid (B_2.out.trans (Below.mono hb B_2.out.size))
  have F_3 := Lib.hid (Evs.below F_2.out hb)
  clear hb C_2 E_2 B_2 F_2
  rw [HP.out]
  have hz0 : (0 : Int) ≤ (z : Int) := by omega
  have hzk : (z : Int) < (k : Int) := by omega
  go_wp2_with fail
  refine (alive_any _).mono ?_
  rintro e y4 ⟨rfl, hb⟩
  have C_4 := Lib.hid (Ints.below C_3.out hb)
  have E_4 := Lib.hid (Evs.below E_3.out hb)
  have B_4 := Lib.hid (B_3.out.trans (Below.mono hb B_3.out.size))
  have F_4 := Lib.hid (Evs.below F_3.out hb)
  clear hb C_3 E_3 B_3 F_3
  have hz3 : (-1 : Int) ≤ (z : Int) := by omega
  have hz4 : (z : Int) < (n2 : Int) := by omega
  go_wp2_with fail
  go_ret
  exact ⟨ret_bool (by first | rfl | simp), B_4.out⟩
set_option maxRecDepth 100000 in
set_option maxHeartbeats 8000000 in
theorem parts_neg (ca : Option Addr) (cn cc : Nat) (caps0 : List Int) (a : Option Addr) (n c : Nat) (L0 : List Ev) (k0 : Int) (k : Nat) (hk : (k : Int) = (k0.tmod ((min n 150 : Nat) + 1) + ((min n 150 : Nat) + 1)) % ((min n 150 : Nat) + 1)) (hkl : k ≤ min n 150) (w : World) (hI : I64 k0) (hC : Ints w ca cn cc caps0) (hE : Evs w a n c L0) (hok : capsB (caps0.take 6) = true) (z : Nat) (hz : wrongZ (caps0.take 6) (L0.take 150) = (z : Int)) (hkz : ¬ z < k) :
    Calls Try.prog 4 #[.slice ca cn cc, .slice a n c, .int .i64 k0] w (Says w) := by
  have hpart := wrong_take (caps0.take 6) (L0.take 150) k (by have := hE.recs.len_eq; rw [List.length_take]; omega)
  rw [hz] at hpart
  rw [if_neg (by omega)] at hpart
  have hzl : z < min n 150 := by
    have h1 := wrong_lt (caps0.take 6) (L0.take 150)
    rw [hz, List.length_take] at h1; have := hE.recs.len_eq; omega
  have hcl := hC.len_eq
  have HC0 := Lib.hid hC.le_cap
  have HC := Lib.hid (hC.take 6); have HE := Lib.hid (hE.take 150)
  have HF := Lib.hid (few_any a n c · hE.recs.le_cap hE.recs.none_)
  obtain ⟨caps, hcaps⟩ : ∃ x, x = caps0.take 6 := ⟨_, rfl⟩
  obtain ⟨L, hL⟩ : ∃ x, x = L0.take 150 := ⟨_, rfl⟩
  rw [← hcaps] at HC hok hz hpart; rw [← hL] at HE hz hpart
  have hm6 : min cn 6 ≤ 6 := by omega
  have hm150 : min n 150 ≤ 150 := by omega
  obtain ⟨c2, hc2⟩ : ∃ x, x = min cn 6 := ⟨_, rfl⟩
  obtain ⟨n2, hn2⟩ : ∃ x, x = min n 150 := ⟨_, rfl⟩
  have hmc : (if (6 : Int) < (cn : Int) then (6 : Int) else (cn : Int)) = (c2 : Int) := by split <;> omega
  have hcut := cut_to 22 Try.underlying22 ⟨_, fun _ => rfl⟩ ca cn cc c2 HC0.out (by omega)
  rw [← hc2] at HC hm6; rw [← hn2] at HE HF hm150 hzl hk hkl
  have hlen := HE.out.recs.len_eq
  have hncap := HE.out.recs.le_cap
  have hnmax := HE.out.recs.len_le
  have B := Lib.hid (Below.refl w.heap.size w)
  clear hC hE hcaps hL hcl hc2 hn2
  go_enter Try.func4, Try.ntmps4
  go_upto_region 1 with (fail)
  have hb : Below w.heap.size w w.drew := (Below.refl _ _).drew
  have C_1 := Lib.hid (Ints.below HC.out hb)
  have E_1 := Lib.hid (Evs.below HE.out hb)
  have B_1 := Lib.hid (B.out.trans (Below.mono hb B.out.size))
  clear hb HC HE B
  refine wp_region_held_drew (S := (fun _ => True)) (by kernel_rfl) trivial (fun hHeld => ?_)
  (try simp only [Act.put, List.getElem_toArray, List.getElem_cons_zero, List.getElem_cons_succ, List.setIfInBounds_toArray, List.set_cons_zero, List.set_cons_succ])
  refine wpAnyH_take (i := 0) (v := ?_) rfl (by kernel_rfl) (by kernel_rfl) (by kernel_rfl) (fun _ _ _ h => h) (Or.inl ⟨by rfl, ?_⟩) (by assumption) ?_
  rotate_left
  · (intro w hSw; (try dsimp only at hSw); go_simp; try with_reducible rfl)
  (try simp only [Act.put, List.getElem_toArray, List.getElem_cons_zero, List.getElem_cons_succ, List.setIfInBounds_toArray, List.set_cons_zero, List.set_cons_succ])
  refine wpAnyH_take (i := 1) (v := ?_) rfl (by kernel_rfl) (by kernel_rfl) (by kernel_rfl) (fun _ _ _ h => h) (Or.inl ⟨by rfl, ?_⟩) (by assumption) ?_
  rotate_left
  · (intro w hSw; (try dsimp only at hSw); go_simp; try with_reducible rfl)
  (try simp only [Act.put, List.getElem_toArray, List.getElem_cons_zero, List.getElem_cons_succ, List.setIfInBounds_toArray, List.set_cons_zero, List.set_cons_succ])
  refine wpAnyH_take (i := 2) (v := ?_) rfl (by kernel_rfl) (by kernel_rfl) (by kernel_rfl) (fun _ _ _ h => h) (Or.inl ⟨by rfl, ?_⟩) (by assumption) ?_
  rotate_left
  · (intro w hSw; (try dsimp only at hSw); go_simp; try with_reducible rfl)
  (try simp only [Act.put, List.getElem_toArray, List.getElem_cons_zero, List.getElem_cons_succ, List.setIfInBounds_toArray, List.set_cons_zero, List.set_cons_succ])
  refine wpAnyH_take (i := 3) (v := ?_) rfl (by kernel_rfl) (by kernel_rfl) (by kernel_rfl) (fun _ _ _ h => h) (Or.inl ⟨by rfl, ?_⟩) (by assumption) ?_
  rotate_left
  · (intro w hSw; (try dsimp only at hSw); go_simp; try with_reducible rfl)
  (try simp only [Act.put, List.getElem_toArray, List.getElem_cons_zero, List.getElem_cons_succ, List.setIfInBounds_toArray, List.set_cons_zero, List.set_cons_succ])
  refine wpAnyH_take (i := 4) (v := ?_) rfl (by kernel_rfl) (by kernel_rfl) (by kernel_rfl) (fun _ _ _ h => h) (Or.inl ⟨by rfl, ?_⟩) (by assumption) ?_
  rotate_left
  · (intro w hSw; (try dsimp only at hSw); go_simp; try with_reducible rfl)
  (try simp only [Act.put, List.getElem_toArray, List.getElem_cons_zero, List.getElem_cons_succ, List.setIfInBounds_toArray, List.set_cons_zero, List.set_cons_succ])
  refine wpAnyH_take (i := 5) (v := ?_) rfl (by kernel_rfl) (by kernel_rfl) (by kernel_rfl) (fun _ _ _ h => h) (Or.inl ⟨by rfl, ?_⟩) (by assumption) ?_
  rotate_left
  · (intro w hSw; (try dsimp only at hSw); go_simp; try with_reducible rfl)
  (try simp only [Act.put, List.getElem_toArray, List.getElem_cons_zero, List.getElem_cons_succ, List.setIfInBounds_toArray, List.set_cons_zero, List.set_cons_succ])
  refine wpAnyH_ready (rs := [6]) (by kernel_rfl) (by simp) ?_
  refine AllReadyH.cons (o := _) rfl (fun K hK => ?_) AllReadyH.nil
  go_simp
  refine (HF.out _).mono ?_
  rintro e y1 ⟨rfl, rfl⟩
  clear hHeld
  refine hK.out _ _ trivial (fun hHeld => ?_)
  clear hK K
  (try simp only [Act.put, List.getElem_toArray, List.getElem_cons_zero, List.getElem_cons_succ, List.setIfInBounds_toArray, List.set_cons_zero, List.set_cons_succ])
  refine wpAnyH_take (i := 7) (v := ?_) rfl (by kernel_rfl) (by kernel_rfl) (by kernel_rfl) (fun _ _ _ h => h) (Or.inl ⟨by rfl, ?_⟩) (by assumption) ?_
  rotate_left
  · (intro w hSw; (try dsimp only at hSw); go_simp; try with_reducible rfl)
  (try simp only [Act.put, List.getElem_toArray, List.getElem_cons_zero, List.getElem_cons_succ, List.setIfInBounds_toArray, List.set_cons_zero, List.set_cons_succ])
  refine wpAnyH_take (i := 8) (v := ?_) rfl (by kernel_rfl) (by kernel_rfl) (by kernel_rfl) (fun _ _ _ h => h) (Or.inl ⟨by rfl, ?_⟩) (by assumption) ?_
  rotate_left
  · (intro w hSw; (try dsimp only at hSw); go_simp; try with_reducible rfl)
  (try simp only [Act.put, List.getElem_toArray, List.getElem_cons_zero, List.getElem_cons_succ, List.setIfInBounds_toArray, List.set_cons_zero, List.set_cons_succ])
  refine wpAnyH_done (by kernel_rfl) ?_ _
  clear hHeld
  clear hcut HF hmc
  have hE2 := Lib.hid (E_1.out.take k)
  have hkm : min n2 k = k := by omega
  rw [hkm] at hE2
  have h1 := Int.lt_tmod_of_pos k0 (show (0 : Int) < (n2 : Int) + 1 by omega)
  have h2 := Int.tmod_lt_of_pos k0 (show (0 : Int) < (n2 : Int) + 1 by omega)
  have h0 : ¬ (n2 : Int) + 1 = 0 := by omega
  have h0b : ((n2 : Int) + 1 == 0) = false := by rw [beq_eq_false_iff_ne]; exact h0
  have HM := Lib.hid (show (k0.tmod ((n2 : Int) + 1) + (n2 : Int) + 1) % ((n2 : Int) + 1) = (k : Int) by rw [Int.add_assoc]; exact hk.symm)
  have HZ := Lib.hid hz; have HP := Lib.hid hpart
  clear hk hz hpart
  go_wp2_with fail
  refine (Wrong_ok ca c2 cc caps a n2 c L _ C_1.out hok E_1.out (by omega)).mono ?_
  rintro e y2 ⟨rfl, hb⟩
  have C_2 := Lib.hid (Ints.below C_1.out hb)
  have E_2 := Lib.hid (Evs.below E_1.out hb)
  have B_2 := Lib.hid (B_1.out.trans (Below.mono hb B_1.out.size))
  have F_2 := Lib.hid (Evs.below hE2.out hb)
  clear hb C_1 E_1 B_1 hE2
  rw [HZ.out]
  go_upto_region 6 with (fail)
  rw [HM.out]
  clear HM h1 h2 h0 h0b
  have hcut2 := cut_to 23 Try.underlying23 ⟨_, fun _ => rfl⟩ a n2 c k (by omega) (by omega)
  go_wp2_with fail
  refine (Wrong_ok ca c2 cc caps a k c (L.take k) _ C_2.out hok F_2.out (by omega)).mono ?_
  rintro e y3 ⟨rfl, hb⟩
  have C_3 := Lib.hid (Ints.below C_2.out hb)
  have E_3 := Lib.hid (Evs.below E_2.out hb)
  have B_3 := Lib.hid (B_2.out.trans (Below.mono hb B_2.out.size))
  have F_3 := Lib.hid (Evs.below F_2.out hb)
  clear hb C_2 E_2 B_2 F_2
  rw [HP.out]
  have hz0 : (0 : Int) ≤ (z : Int) := by omega
  have hzk : ¬ (z : Int) < (k : Int) := by omega
  go_wp2_with fail
  refine (alive_any _).mono ?_
  rintro e y4 ⟨rfl, hb⟩
  have C_4 := Lib.hid (Ints.below C_3.out hb)
  have E_4 := Lib.hid (Evs.below E_3.out hb)
  have B_4 := Lib.hid (B_3.out.trans (Below.mono hb B_3.out.size))
  have F_4 := Lib.hid (Evs.below F_3.out hb)
  clear hb C_3 E_3 B_3 F_3
  have hz3 : (-1 : Int) ≤ (z : Int) := by omega
  have hz4 : (z : Int) < (n2 : Int) := by omega
  go_wp2_with fail
  go_ret
  exact ⟨ret_bool (by first | rfl | simp), B_4.out⟩
set_option maxRecDepth 100000 in
set_option maxHeartbeats 8000000 in
theorem parts_none (ca : Option Addr) (cn cc : Nat) (caps0 : List Int) (a : Option Addr) (n c : Nat) (L0 : List Ev) (k0 : Int) (k : Nat) (hk : (k : Int) = (k0.tmod ((min n 150 : Nat) + 1) + ((min n 150 : Nat) + 1)) % ((min n 150 : Nat) + 1)) (hkl : k ≤ min n 150) (w : World) (hI : I64 k0) (hC : Ints w ca cn cc caps0) (hE : Evs w a n c L0) (hok : capsB (caps0.take 6) = true) (hz : wrongZ (caps0.take 6) (L0.take 150) = -1) :
    Calls Try.prog 4 #[.slice ca cn cc, .slice a n c, .int .i64 k0] w (Says w) := by
  have hpart := wrong_take (caps0.take 6) (L0.take 150) k (by have := hE.recs.len_eq; rw [List.length_take]; omega)
  rw [hz] at hpart
  rw [if_neg (by omega)] at hpart
  have hcl := hC.len_eq
  have HC0 := Lib.hid hC.le_cap
  have HC := Lib.hid (hC.take 6); have HE := Lib.hid (hE.take 150)
  have HF := Lib.hid (few_any a n c · hE.recs.le_cap hE.recs.none_)
  obtain ⟨caps, hcaps⟩ : ∃ x, x = caps0.take 6 := ⟨_, rfl⟩
  obtain ⟨L, hL⟩ : ∃ x, x = L0.take 150 := ⟨_, rfl⟩
  rw [← hcaps] at HC hok hz hpart; rw [← hL] at HE hz hpart
  have hm6 : min cn 6 ≤ 6 := by omega
  have hm150 : min n 150 ≤ 150 := by omega
  obtain ⟨c2, hc2⟩ : ∃ x, x = min cn 6 := ⟨_, rfl⟩
  obtain ⟨n2, hn2⟩ : ∃ x, x = min n 150 := ⟨_, rfl⟩
  have hmc : (if (6 : Int) < (cn : Int) then (6 : Int) else (cn : Int)) = (c2 : Int) := by split <;> omega
  have hcut := cut_to 22 Try.underlying22 ⟨_, fun _ => rfl⟩ ca cn cc c2 HC0.out (by omega)
  rw [← hc2] at HC hm6; rw [← hn2] at HE HF hm150 hk hkl
  have hlen := HE.out.recs.len_eq
  have hncap := HE.out.recs.le_cap
  have hnmax := HE.out.recs.len_le
  have B := Lib.hid (Below.refl w.heap.size w)
  clear hC hE hcaps hL hcl hc2 hn2
  go_enter Try.func4, Try.ntmps4
  go_upto_region 1 with (fail)
  have hb : Below w.heap.size w w.drew := (Below.refl _ _).drew
  have C_1 := Lib.hid (Ints.below HC.out hb)
  have E_1 := Lib.hid (Evs.below HE.out hb)
  have B_1 := Lib.hid (B.out.trans (Below.mono hb B.out.size))
  clear hb HC HE B
  refine wp_region_held_drew (S := (fun _ => True)) (by kernel_rfl) trivial (fun hHeld => ?_)
  (try simp only [Act.put, List.getElem_toArray, List.getElem_cons_zero, List.getElem_cons_succ, List.setIfInBounds_toArray, List.set_cons_zero, List.set_cons_succ])
  refine wpAnyH_take (i := 0) (v := ?_) rfl (by kernel_rfl) (by kernel_rfl) (by kernel_rfl) (fun _ _ _ h => h) (Or.inl ⟨by rfl, ?_⟩) (by assumption) ?_
  rotate_left
  · (intro w hSw; (try dsimp only at hSw); go_simp; try with_reducible rfl)
  (try simp only [Act.put, List.getElem_toArray, List.getElem_cons_zero, List.getElem_cons_succ, List.setIfInBounds_toArray, List.set_cons_zero, List.set_cons_succ])
  refine wpAnyH_take (i := 1) (v := ?_) rfl (by kernel_rfl) (by kernel_rfl) (by kernel_rfl) (fun _ _ _ h => h) (Or.inl ⟨by rfl, ?_⟩) (by assumption) ?_
  rotate_left
  · (intro w hSw; (try dsimp only at hSw); go_simp; try with_reducible rfl)
  (try simp only [Act.put, List.getElem_toArray, List.getElem_cons_zero, List.getElem_cons_succ, List.setIfInBounds_toArray, List.set_cons_zero, List.set_cons_succ])
  refine wpAnyH_take (i := 2) (v := ?_) rfl (by kernel_rfl) (by kernel_rfl) (by kernel_rfl) (fun _ _ _ h => h) (Or.inl ⟨by rfl, ?_⟩) (by assumption) ?_
  rotate_left
  · (intro w hSw; (try dsimp only at hSw); go_simp; try with_reducible rfl)
  (try simp only [Act.put, List.getElem_toArray, List.getElem_cons_zero, List.getElem_cons_succ, List.setIfInBounds_toArray, List.set_cons_zero, List.set_cons_succ])
  refine wpAnyH_take (i := 3) (v := ?_) rfl (by kernel_rfl) (by kernel_rfl) (by kernel_rfl) (fun _ _ _ h => h) (Or.inl ⟨by rfl, ?_⟩) (by assumption) ?_
  rotate_left
  · (intro w hSw; (try dsimp only at hSw); go_simp; try with_reducible rfl)
  (try simp only [Act.put, List.getElem_toArray, List.getElem_cons_zero, List.getElem_cons_succ, List.setIfInBounds_toArray, List.set_cons_zero, List.set_cons_succ])
  refine wpAnyH_take (i := 4) (v := ?_) rfl (by kernel_rfl) (by kernel_rfl) (by kernel_rfl) (fun _ _ _ h => h) (Or.inl ⟨by rfl, ?_⟩) (by assumption) ?_
  rotate_left
  · (intro w hSw; (try dsimp only at hSw); go_simp; try with_reducible rfl)
  (try simp only [Act.put, List.getElem_toArray, List.getElem_cons_zero, List.getElem_cons_succ, List.setIfInBounds_toArray, List.set_cons_zero, List.set_cons_succ])
  refine wpAnyH_take (i := 5) (v := ?_) rfl (by kernel_rfl) (by kernel_rfl) (by kernel_rfl) (fun _ _ _ h => h) (Or.inl ⟨by rfl, ?_⟩) (by assumption) ?_
  rotate_left
  · (intro w hSw; (try dsimp only at hSw); go_simp; try with_reducible rfl)
  (try simp only [Act.put, List.getElem_toArray, List.getElem_cons_zero, List.getElem_cons_succ, List.setIfInBounds_toArray, List.set_cons_zero, List.set_cons_succ])
  refine wpAnyH_ready (rs := [6]) (by kernel_rfl) (by simp) ?_
  refine AllReadyH.cons (o := _) rfl (fun K hK => ?_) AllReadyH.nil
  go_simp
  refine (HF.out _).mono ?_
  rintro e y1 ⟨rfl, rfl⟩
  clear hHeld
  refine hK.out _ _ trivial (fun hHeld => ?_)
  clear hK K
  (try simp only [Act.put, List.getElem_toArray, List.getElem_cons_zero, List.getElem_cons_succ, List.setIfInBounds_toArray, List.set_cons_zero, List.set_cons_succ])
  refine wpAnyH_take (i := 7) (v := ?_) rfl (by kernel_rfl) (by kernel_rfl) (by kernel_rfl) (fun _ _ _ h => h) (Or.inl ⟨by rfl, ?_⟩) (by assumption) ?_
  rotate_left
  · (intro w hSw; (try dsimp only at hSw); go_simp; try with_reducible rfl)
  (try simp only [Act.put, List.getElem_toArray, List.getElem_cons_zero, List.getElem_cons_succ, List.setIfInBounds_toArray, List.set_cons_zero, List.set_cons_succ])
  refine wpAnyH_take (i := 8) (v := ?_) rfl (by kernel_rfl) (by kernel_rfl) (by kernel_rfl) (fun _ _ _ h => h) (Or.inl ⟨by rfl, ?_⟩) (by assumption) ?_
  rotate_left
  · (intro w hSw; (try dsimp only at hSw); go_simp; try with_reducible rfl)
  (try simp only [Act.put, List.getElem_toArray, List.getElem_cons_zero, List.getElem_cons_succ, List.setIfInBounds_toArray, List.set_cons_zero, List.set_cons_succ])
  refine wpAnyH_done (by kernel_rfl) ?_ _
  clear hHeld
  clear hcut HF hmc
  have hE2 := Lib.hid (E_1.out.take k)
  have hkm : min n2 k = k := by omega
  rw [hkm] at hE2
  have h1 := Int.lt_tmod_of_pos k0 (show (0 : Int) < (n2 : Int) + 1 by omega)
  have h2 := Int.tmod_lt_of_pos k0 (show (0 : Int) < (n2 : Int) + 1 by omega)
  have h0 : ¬ (n2 : Int) + 1 = 0 := by omega
  have h0b : ((n2 : Int) + 1 == 0) = false := by rw [beq_eq_false_iff_ne]; exact h0
  have HM := Lib.hid (show (k0.tmod ((n2 : Int) + 1) + (n2 : Int) + 1) % ((n2 : Int) + 1) = (k : Int) by rw [Int.add_assoc]; exact hk.symm)
  have HZ := Lib.hid hz; have HP := Lib.hid hpart
  clear hk hz hpart
  go_wp2_with fail
  refine (Wrong_ok ca c2 cc caps a n2 c L _ C_1.out hok E_1.out (by omega)).mono ?_
  rintro e y2 ⟨rfl, hb⟩
  have C_2 := Lib.hid (Ints.below C_1.out hb)
  have E_2 := Lib.hid (Evs.below E_1.out hb)
  have B_2 := Lib.hid (B_1.out.trans (Below.mono hb B_1.out.size))
  have F_2 := Lib.hid (Evs.below hE2.out hb)
  clear hb C_1 E_1 B_1 hE2
  rw [HZ.out]
  go_upto_region 6 with (fail)
  rw [HM.out]
  clear HM h1 h2 h0 h0b
  have hcut2 := cut_to 23 Try.underlying23 ⟨_, fun _ => rfl⟩ a n2 c k (by omega) (by omega)
  go_wp2_with fail
  refine (Wrong_ok ca c2 cc caps a k c (L.take k) _ C_2.out hok F_2.out (by omega)).mono ?_
  rintro e y3 ⟨rfl, hb⟩
  have C_3 := Lib.hid (Ints.below C_2.out hb)
  have E_3 := Lib.hid (Evs.below E_2.out hb)
  have B_3 := Lib.hid (B_2.out.trans (Below.mono hb B_2.out.size))
  have F_3 := Lib.hid (Evs.below F_2.out hb)
  clear hb C_2 E_2 B_2 F_2
  rw [HP.out]
  go_wp2_with fail
  refine (alive_any _).mono ?_
  rintro e y4 ⟨rfl, hb⟩
  have C_4 := Lib.hid (Ints.below C_3.out hb)
  have E_4 := Lib.hid (Evs.below E_3.out hb)
  have B_4 := Lib.hid (B_3.out.trans (Below.mono hb B_3.out.size))
  have F_4 := Lib.hid (Evs.below F_3.out hb)
  clear hb C_3 E_3 B_3 F_3
  have hz3 : (-1 : Int) ≤ -1 := by omega
  have hz4 : (-1 : Int) < (n2 : Int) := by omega
  go_wp2_with fail
  go_ret
  exact ⟨ret_bool (by first | rfl | simp), B_4.out⟩
theorem parts_any (ca : Option Addr) (cn cc : Nat) (caps0 : List Int) (a : Option Addr) (n c : Nat) (L0 : List Ev) (k : Int) (w : World) (hI : I64 k) (hC : Ints w ca cn cc caps0) (hE : Evs w a n c L0) : Calls Try.prog 4 #[.slice ca cn cc, .slice a n c, .int .i64 k] w (Says w) := by
  cases hok : capsB (caps0.take 6) with
  | false => exact parts_bad ca cn cc caps0 a n c L0 k w hC hE hok
  | true =>
    have hp : (0 : Int) < ((min n 150 : Nat) : Int) + 1 := by omega
    have h1 := Int.emod_nonneg (k.tmod ((min n 150 : Nat) + 1) + ((min n 150 : Nat) + 1)) (show ((min n 150 : Nat) : Int) + 1 ≠ 0 by omega)
    have h2 := Int.emod_lt_of_pos (k.tmod ((min n 150 : Nat) + 1) + ((min n 150 : Nat) + 1)) hp
    obtain ⟨q, hq⟩ : ∃ q : Nat, (q : Int) = (k.tmod ((min n 150 : Nat) + 1) + ((min n 150 : Nat) + 1)) % ((min n 150 : Nat) + 1) := ⟨((k.tmod ((min n 150 : Nat) + 1) + ((min n 150 : Nat) + 1)) % ((min n 150 : Nat) + 1)).toNat, by omega⟩
    have hql : q ≤ min n 150 := by omega
    by_cases hz : wrongZ (caps0.take 6) (L0.take 150) = -1
    · exact parts_none ca cn cc caps0 a n c L0 k q hq hql w hI hC hE hok hz
    · have hz1 := (wrong_lt (caps0.take 6) (L0.take 150)).1
      obtain ⟨z, hzz⟩ : ∃ z : Nat, wrongZ (caps0.take 6) (L0.take 150) = (z : Int) := ⟨(wrongZ (caps0.take 6) (L0.take 150)).toNat, by omega⟩
      by_cases hzq : z < q
      · exact parts_pos ca cn cc caps0 a n c L0 k q hq hql w hI hC hE hok z hzz hzq
      · exact parts_neg ca cn cc caps0 a n c L0 k q hq hql w hI hC hE hok z hzz hzq
end Go.Proofs.Ytkalcmichmfemaa
