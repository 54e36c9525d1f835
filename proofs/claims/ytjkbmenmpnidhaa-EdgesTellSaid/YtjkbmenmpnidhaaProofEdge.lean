import Derived.Test.YtjkbmenmpnidhaaO8
import Derived.Test.YtjkbmenmpnidhaaE0
import Derived.ProofKit
import Derived.OpenShut
import Derived.ChangeOld
import Derived.ChangeMaps
import Derived.Lib.SmallJoins
import Derived.Deep.Slices
import Derived.Deep.Fields
import Derived.ChangeSame
import Derived.Test.YtjkbmenmpnidhaaRows
import Derived.WalkKit
import Derived.ShutString
import Derived.Below
/- few, alive; EdgesTell: the walks. -/
namespace Go.Proofs.Ytjkbmenmpnidhaa
open Go.RowKit Go.Maps
set_option linter.unusedSimpArgs false
set_option linter.unusedVariables false
theorem cut_to (t : Nat) (ht : Try.prog.underlying t = some (.slice (Try.prog.elem t))) (hs : ∃ s, ∀ w, (sizeOf (Try.prog.elem t)).run Try.prog w = .ok s w) (a : Option Addr) (n c k : Nat) (hl : n ≤ c) (hk : k ≤ n) (W : World) :
    (Instr.slice t (.slice a n c) none (some (.int .i64 (k : Int))) none).run Try.prog W = .ok (.slice a k c) W := by
  obtain ⟨s, hs⟩ := hs
  rw [run_slice_h (t := t) (a := a) (len := n) (cap := c) (ht := ht) (kh := .i64) (h := (k : Int)) (h0 := by omega) (h2 := by omega), hs]
  simp only [Result.andThen, sliced, Int.toNat_natCast]
  by_cases hc : c = 0
  · simp [hc]
  · cases a with
    | none => simp [hc]
    | some x => simp; intro _; simp [Addr.add]
set_option maxRecDepth 100000 in
set_option maxHeartbeats 8000000 in
theorem few_any (a : Option Addr) (n c : Nat) (w : World) (hl : n ≤ c) (hn : a = none → c = 0) : Calls Try.prog 5 #[.slice a n c] w fun e w' => e = .returned (.slice a (min n 120) c) ∧ w = w' := by
  obtain ⟨q, hq⟩ : ∃ q, q = min n 120 := ⟨_, rfl⟩
  have hmn : (if (120 : Int) < (n : Int) then (120 : Int) else (n : Int)) = (q : Int) := by split <;> omega
  have hmn2 : min (n : Int) 120 = (q : Int) := by omega
  rw [← hq]
  have hcut := cut_to 23 Try.underlying23 ⟨_, fun _ => rfl⟩ a n c q hl (by omega)
  clear hq
  go_enter Try.func5, Try.ntmps5
  go_wp2_with fail
  go_ret
  exact ⟨rfl, rfl⟩
def alE : List Ev := [⟨0, 0, 0, 0, -1⟩, ⟨0, 1, 1, 0, -1⟩, ⟨1, 0, 0, 0, 1⟩]
theorem al_good : Good 0 [] alE := ⟨by decide, rfl, by decide, by decide⟩
theorem al_edges : edgesZ [] alE 2 = [1] := by decide
theorem al_evs (W : World) : Evs (W.alloc (.cells #[.int .i64 0, .int .i64 0, .int .i64 0, .int .i64 0, .int .i64 (-1), .int .i64 0, .int .i64 1, .int .i64 1, .int .i64 0, .int .i64 (-1), .int .i64 1, .int .i64 0, .int .i64 0, .int .i64 0, .int .i64 1] 48)) (some ⟨W.heap.size, 0, none⟩) 3 3 alE := by
  refine ⟨⟨rfl, Nat.le_refl _, by decide, fun h => by simp at h, fun i x hx => ⟨W.heap.size, 0, rfl, fun j v hv => ?_⟩⟩, fun x hx => ?_⟩
  · rw [cell_of_row _ _ _ _ 48 (0, 0) (heap_alloc_new W _)]
    match i, hx with
    | 0, hx => simp [alE] at hx; subst hx; match j, hv with
      | 0, hv | 1, hv | 2, hv | 3, hv | 4, hv => simpa [encE] using hv
    | 1, hx => simp [alE] at hx; subst hx; match j, hv with
      | 0, hv | 1, hv | 2, hv | 3, hv | 4, hv => simpa [encE] using hv
    | 2, hx => simp [alE] at hx; subst hx; match j, hv with
      | 0, hv | 1, hv | 2, hv | 3, hv | 4, hv => simpa [encE] using hv
  · simp [alE] at hx
    rcases hx with rfl | rfl | rfl <;> exact ⟨⟨by decide, by decide⟩, ⟨by decide, by decide⟩, ⟨by decide, by decide⟩, ⟨by decide, by decide⟩, ⟨by decide, by decide⟩⟩
theorem May_is (ca : Option Addr) (cn cc : Nat) (caps : List Int) (a : Option Addr) (n c : Nat) (L : List Ev) (w : World) (hcp : Ints w ca cn cc caps) (h : Evs w a n c L) (hn : n ≤ 1000) (b : Bool) (hb : mayE caps L = b) :
    Calls Try.prog 8 #[.slice ca cn cc, .slice a n c] w (BoolTo w b) := by
  rw [← hb]; exact May_any ca cn cc caps a n c L w hcp h hn
theorem Rows_same (a : Option Addr) (len cap : Nat) (l : List Int) (a2 : Option Addr) (len2 cap2 : Nat) (w : World) (h : Ints w a len cap l) (h2 : Ints w a2 len2 cap2 l) :
    Calls Try.prog 10 #[.slice a len cap, .slice a2 len2 cap2] w fun e w' => e = .returned (.bool true) ∧ Below w.heap.size w w' :=
  (rows_any a len cap l a2 len2 cap2 l w h h2).mono fun _ _ h => ⟨by rw [h.1]; simp, h.2⟩
set_option maxRecDepth 100000 in
set_option maxHeartbeats 8000000 in
theorem alive_any (w : World) : Calls Try.prog 9 #[] w fun e w' => e = .returned (.bool true) ∧ Below w.heap.size w w' := by
  have HW := Lib.hid (fun W => Of_ok none 0 0 [] (some ⟨W.heap.size, 0, none⟩) 3 3 alE 2 (W.alloc (.cells #[.int .i64 0, .int .i64 0, .int .i64 0, .int .i64 0, .int .i64 (-1), .int .i64 0, .int .i64 1, .int .i64 1, .int .i64 0, .int .i64 (-1), .int .i64 1, .int .i64 0, .int .i64 0, .int .i64 0, .int .i64 1] 48)) (Ints.nil _) (al_evs W) al_good (by decide))
  rw [al_edges] at HW
  have B_0 := Lib.hid (below_alloc w (.cells #[.int .i64 0, .int .i64 0, .int .i64 0, .int .i64 0, .int .i64 (-1), .int .i64 0, .int .i64 1, .int .i64 1, .int .i64 0, .int .i64 (-1), .int .i64 1, .int .i64 0, .int .i64 0, .int .i64 0, .int .i64 1] 48))
  go_enter Try.func9, Try.ntmps9
  go_wp2_with fail
  refine (HW.out _).mono ?_
  rintro e w1 ⟨a2, n2, c2, rfl, hI, hb⟩
  have B_1 := Lib.hid (B_0.out.trans (Below.mono hb B_0.out.size))
  have hl := hI.len_eq
  simp only [List.length_cons, List.length_nil] at hl
  subst hl
  obtain ⟨b, off, rfl, hc⟩ := hI.cell 0 (by decide)
  have hc2 : w1.cell? ⟨b, off, none⟩ = some (.int .i64 1) := by simpa [en] using hc
  clear hb hI HW B_0 hc
  go_wp2_with fail
  go_ret
  exact ⟨rfl, B_1.out⟩
def Says (w : World) (e : Ending) (w' : World) : Prop := e = .returned (.bool true) ∧ Below w.heap.size w w'
set_option maxRecDepth 100000 in
set_option maxHeartbeats 8000000 in
theorem tells_bad (ca : Option Addr) (cn cc : Nat) (caps0 : List Int) (a : Option Addr) (n c : Nat) (L0 : List Ev) (i : Int) (w : World) (hC : Ints w ca cn cc caps0) (hE : Evs w a n c L0) (hmay : mayE (caps0.take 6) (L0.take 120) = false) :
    Calls Try.prog 3 #[.slice ca cn cc, .slice a n c, .int .i64 i] w (Says w) := by
  have hcl := hC.len_eq
  have HC0 := Lib.hid hC.le_cap
  have HC := Lib.hid (hC.take 6); have HE := Lib.hid (hE.take 120)
  have HF := Lib.hid (few_any a n c · hE.recs.le_cap hE.recs.none_)
  obtain ⟨caps, hcaps⟩ : ∃ x, x = caps0.take 6 := ⟨_, rfl⟩
  obtain ⟨L, hL⟩ : ∃ x, x = L0.take 120 := ⟨_, rfl⟩
  rw [← hcaps] at HC hmay; rw [← hL] at HE hmay
  have hm6 : min cn 6 ≤ 6 := by omega
  have hm120 : min n 120 ≤ 120 := by omega
  obtain ⟨c2, hc2⟩ : ∃ x, x = min cn 6 := ⟨_, rfl⟩
  obtain ⟨n2, hn2⟩ : ∃ x, x = min n 120 := ⟨_, rfl⟩
  have hmc : (if (6 : Int) < (cn : Int) then (6 : Int) else (cn : Int)) = (c2 : Int) := by split <;> omega
  have hcut := cut_to 22 Try.underlying22 ⟨_, fun _ => rfl⟩ ca cn cc c2 HC0.out (by omega)
  rw [← hc2] at HC hm6; rw [← hn2] at HE HF hm120
  have hlen := HE.out.recs.len_eq
  have hcln := HC.out.len_eq
  have hncap := HE.out.recs.le_cap
  have hnmax := HE.out.recs.len_le
  have B := Lib.hid (Below.refl w.heap.size w)
  have hmc2 : min (cn : Int) 6 = (c2 : Int) := by omega
  clear hC hE hcaps hL hcl hc2 hn2
  go_enter Try.func3, Try.ntmps3
  go_upto_region 1 with (fail)
  have hb : Below w.heap.size w w.drew := (Below.refl _ _).drew
  have C_1 := Lib.hid (Ints.below HC.out hb)
  have E_1 := Lib.hid (Evs.below HE.out hb)
  have B_1 := Lib.hid (B.out.trans (Below.mono hb B.out.size))
  clear hb HC HE B
  refine wp_region_held_drew (S := (fun _ => True)) (by kernel_rfl) trivial (fun hHeld => ?_)
  (try simp only [Act.put, List.getElem_toArray, List.getElem_cons_zero, List.getElem_cons_succ, List.setIfInBounds_toArray, List.set_cons_zero, List.set_cons_succ])
  refine wpAnyH_take (i := 0) (v := ?_) rfl (by kernel_rfl) (by kernel_rfl) (by kernel_rfl) (fun _ _ _ h => h) (Or.inl ⟨by rfl, ?_⟩) (by assumption) ?_
  rotate_left
  · (intro w hSw; (try dsimp only at hSw); go_simp; try with_reducible rfl)
  (try simp only [Act.put, List.getElem_toArray, List.getElem_cons_zero, List.getElem_cons_succ, List.setIfInBounds_toArray, List.set_cons_zero, List.set_cons_succ])
  refine wpAnyH_take (i := 1) (v := ?_) rfl (by kernel_rfl) (by kernel_rfl) (by kernel_rfl) (fun _ _ _ h => h) (Or.inl ⟨by rfl, ?_⟩) (by assumption) ?_
  rotate_left
  · (intro w hSw; (try dsimp only at hSw); go_simp; try with_reducible rfl)
  (try simp only [Act.put, List.getElem_toArray, List.getElem_cons_zero, List.getElem_cons_succ, List.setIfInBounds_toArray, List.set_cons_zero, List.set_cons_succ])
  refine wpAnyH_take (i := 2) (v := ?_) rfl (by kernel_rfl) (by kernel_rfl) (by kernel_rfl) (fun _ _ _ h => h) (Or.inl ⟨by rfl, ?_⟩) (by assumption) ?_
  rotate_left
  · (intro w hSw; (try dsimp only at hSw); go_simp; try with_reducible rfl)
  (try simp only [Act.put, List.getElem_toArray, List.getElem_cons_zero, List.getElem_cons_succ, List.setIfInBounds_toArray, List.set_cons_zero, List.set_cons_succ])
  refine wpAnyH_take (i := 3) (v := ?_) rfl (by kernel_rfl) (by kernel_rfl) (by kernel_rfl) (fun _ _ _ h => h) (Or.inl ⟨by rfl, ?_⟩) (by assumption) ?_
  rotate_left
  · (intro w hSw; (try dsimp only at hSw); go_simp; try with_reducible rfl)
  (try simp only [Act.put, List.getElem_toArray, List.getElem_cons_zero, List.getElem_cons_succ, List.setIfInBounds_toArray, List.set_cons_zero, List.set_cons_succ])
  refine wpAnyH_take (i := 4) (v := ?_) rfl (by kernel_rfl) (by kernel_rfl) (by kernel_rfl) (fun _ _ _ h => h) (Or.inl ⟨by rfl, ?_⟩) (by assumption) ?_
  rotate_left
  · (intro w hSw; (try dsimp only at hSw); go_simp; try with_reducible rfl)
  (try simp only [Act.put, List.getElem_toArray, List.getElem_cons_zero, List.getElem_cons_succ, List.setIfInBounds_toArray, List.set_cons_zero, List.set_cons_succ])
  refine wpAnyH_take (i := 5) (v := ?_) rfl (by kernel_rfl) (by kernel_rfl) (by kernel_rfl) (fun _ _ _ h => h) (Or.inl ⟨by rfl, ?_⟩) (by assumption) ?_
  rotate_left
  · (intro w hSw; (try dsimp only at hSw); go_simp; try with_reducible rfl)
  (try simp only [Act.put, List.getElem_toArray, List.getElem_cons_zero, List.getElem_cons_succ, List.setIfInBounds_toArray, List.set_cons_zero, List.set_cons_succ])
  refine wpAnyH_ready (rs := [6]) (by kernel_rfl) (by simp) ?_
  refine AllReadyH.cons (o := _) rfl (fun K hK => ?_) AllReadyH.nil
  go_simp
  refine (HF.out _).mono ?_
  rintro e y1 ⟨rfl, rfl⟩
  clear hHeld
  refine hK.out _ _ trivial (fun hHeld => ?_)
  clear hK K
  (try simp only [Act.put, List.getElem_toArray, List.getElem_cons_zero, List.getElem_cons_succ, List.setIfInBounds_toArray, List.set_cons_zero, List.set_cons_succ])
  refine wpAnyH_take (i := 7) (v := ?_) rfl (by kernel_rfl) (by kernel_rfl) (by kernel_rfl) (fun _ _ _ h => h) (Or.inl ⟨by rfl, ?_⟩) (by assumption) ?_
  rotate_left
  · (intro w hSw; (try dsimp only at hSw); go_simp; try with_reducible rfl)
  (try simp only [Act.put, List.getElem_toArray, List.getElem_cons_zero, List.getElem_cons_succ, List.setIfInBounds_toArray, List.set_cons_zero, List.set_cons_succ])
  refine wpAnyH_take (i := 8) (v := ?_) rfl (by kernel_rfl) (by kernel_rfl) (by kernel_rfl) (fun _ _ _ h => h) (Or.inl ⟨by rfl, ?_⟩) (by assumption) ?_
  rotate_left
  · (intro w hSw; (try dsimp only at hSw); go_simp; try with_reducible rfl)
  (try simp only [Act.put, List.getElem_toArray, List.getElem_cons_zero, List.getElem_cons_succ, List.setIfInBounds_toArray, List.set_cons_zero, List.set_cons_succ])
  refine wpAnyH_done (by kernel_rfl) ?_ _
  clear hHeld
  clear hcut HF hmc hmc2
  go_wp2_with fail
  refine (Of_no ca c2 cc caps a n2 c L i _ C_1.out E_1.out (by omega) hmay).mono ?_
  rintro e y2 ⟨rfl, hb⟩
  have C_2 := Lib.hid (Ints.below C_1.out hb)
  have E_2 := Lib.hid (Evs.below E_1.out hb)
  have B_2 := Lib.hid (B_1.out.trans (Below.mono hb B_1.out.size))
  clear hb C_1 E_1 B_1
  go_wp2_with fail
  refine (All_no ca c2 cc caps a n2 c L _ C_2.out E_2.out (by omega) hmay).mono ?_
  rintro e y3 ⟨rfl, hb⟩
  have C_3 := Lib.hid (Ints.below C_2.out hb)
  have E_3 := Lib.hid (Evs.below E_2.out hb)
  have B_3 := Lib.hid (B_2.out.trans (Below.mono hb B_2.out.size))
  clear hb C_2 E_2 B_2
  go_wp2_with fail
  refine (May_is ca c2 cc caps a n2 c L _ C_3.out E_3.out (by omega) _ hmay).mono ?_
  rintro e y4 ⟨rfl, hb⟩
  have C_4 := Lib.hid (Ints.below C_3.out hb)
  have E_4 := Lib.hid (Evs.below E_3.out hb)
  have B_4 := Lib.hid (B_3.out.trans (Below.mono hb B_3.out.size))
  clear hb C_3 E_3 B_3
  go_wp2_with fail
  refine (alive_any _).mono ?_
  rintro e y5 ⟨rfl, hb⟩
  have C_5 := Lib.hid (Ints.below C_4.out hb)
  have E_5 := Lib.hid (Evs.below E_4.out hb)
  have B_5 := Lib.hid (B_4.out.trans (Below.mono hb B_4.out.size))
  clear hb C_4 E_4 B_4
  go_wp2_with fail
  go_ret
  exact ⟨ret_bool (by first | rfl | simp), B_5.out⟩
set_option maxRecDepth 100000 in
set_option maxHeartbeats 8000000 in
theorem tells_ok_neg (ca : Option Addr) (cn cc : Nat) (caps0 : List Int) (a : Option Addr) (n c : Nat) (L0 : List Ev) (i : Int) (w : World) (hC : Ints w ca cn cc caps0) (hE : Evs w a n c L0) (hmay : mayE (caps0.take 6) (L0.take 120) = true) (hi : i < 0) :
    Calls Try.prog 3 #[.slice ca cn cc, .slice a n c, .int .i64 i] w (Says w) := by
  have hcl := hC.len_eq
  have HC0 := Lib.hid hC.le_cap
  have HC := Lib.hid (hC.take 6); have HE := Lib.hid (hE.take 120)
  have HF := Lib.hid (few_any a n c · hE.recs.le_cap hE.recs.none_)
  obtain ⟨caps, hcaps⟩ : ∃ x, x = caps0.take 6 := ⟨_, rfl⟩
  obtain ⟨L, hL⟩ : ∃ x, x = L0.take 120 := ⟨_, rfl⟩
  rw [← hcaps] at HC hmay; rw [← hL] at HE hmay
  have hm6 : min cn 6 ≤ 6 := by omega
  have hm120 : min n 120 ≤ 120 := by omega
  obtain ⟨c2, hc2⟩ : ∃ x, x = min cn 6 := ⟨_, rfl⟩
  obtain ⟨n2, hn2⟩ : ∃ x, x = min n 120 := ⟨_, rfl⟩
  have hmc : (if (6 : Int) < (cn : Int) then (6 : Int) else (cn : Int)) = (c2 : Int) := by split <;> omega
  have hcut := cut_to 22 Try.underlying22 ⟨_, fun _ => rfl⟩ ca cn cc c2 HC0.out (by omega)
  rw [← hc2] at HC hm6; rw [← hn2] at HE HF hm120
  have hlen := HE.out.recs.len_eq
  have hcln := HC.out.len_eq
  have hncap := HE.out.recs.le_cap
  have hnmax := HE.out.recs.len_le
  have B := Lib.hid (Below.refl w.heap.size w)
  have hmc2 : min (cn : Int) 6 = (c2 : Int) := by omega
  clear hC hE hcaps hL hcl hc2 hn2
  go_enter Try.func3, Try.ntmps3
  go_upto_region 1 with (fail)
  have hb : Below w.heap.size w w.drew := (Below.refl _ _).drew
  have C_1 := Lib.hid (Ints.below HC.out hb)
  have E_1 := Lib.hid (Evs.below HE.out hb)
  have B_1 := Lib.hid (B.out.trans (Below.mono hb B.out.size))
  clear hb HC HE B
  refine wp_region_held_drew (S := (fun _ => True)) (by kernel_rfl) trivial (fun hHeld => ?_)
  (try simp only [Act.put, List.getElem_toArray, List.getElem_cons_zero, List.getElem_cons_succ, List.setIfInBounds_toArray, List.set_cons_zero, List.set_cons_succ])
  refine wpAnyH_take (i := 0) (v := ?_) rfl (by kernel_rfl) (by kernel_rfl) (by kernel_rfl) (fun _ _ _ h => h) (Or.inl ⟨by rfl, ?_⟩) (by assumption) ?_
  rotate_left
  · (intro w hSw; (try dsimp only at hSw); go_simp; try with_reducible rfl)
  (try simp only [Act.put, List.getElem_toArray, List.getElem_cons_zero, List.getElem_cons_succ, List.setIfInBounds_toArray, List.set_cons_zero, List.set_cons_succ])
  refine wpAnyH_take (i := 1) (v := ?_) rfl (by kernel_rfl) (by kernel_rfl) (by kernel_rfl) (fun _ _ _ h => h) (Or.inl ⟨by rfl, ?_⟩) (by assumption) ?_
  rotate_left
  · (intro w hSw; (try dsimp only at hSw); go_simp; try with_reducible rfl)
  (try simp only [Act.put, List.getElem_toArray, List.getElem_cons_zero, List.getElem_cons_succ, List.setIfInBounds_toArray, List.set_cons_zero, List.set_cons_succ])
  refine wpAnyH_take (i := 2) (v := ?_) rfl (by kernel_rfl) (by kernel_rfl) (by kernel_rfl) (fun _ _ _ h => h) (Or.inl ⟨by rfl, ?_⟩) (by assumption) ?_
  rotate_left
  · (intro w hSw; (try dsimp only at hSw); go_simp; try with_reducible rfl)
  (try simp only [Act.put, List.getElem_toArray, List.getElem_cons_zero, List.getElem_cons_succ, List.setIfInBounds_toArray, List.set_cons_zero, List.set_cons_succ])
  refine wpAnyH_take (i := 3) (v := ?_) rfl (by kernel_rfl) (by kernel_rfl) (by kernel_rfl) (fun _ _ _ h => h) (Or.inl ⟨by rfl, ?_⟩) (by assumption) ?_
  rotate_left
  · (intro w hSw; (try dsimp only at hSw); go_simp; try with_reducible rfl)
  (try simp only [Act.put, List.getElem_toArray, List.getElem_cons_zero, List.getElem_cons_succ, List.setIfInBounds_toArray, List.set_cons_zero, List.set_cons_succ])
  refine wpAnyH_take (i := 4) (v := ?_) rfl (by kernel_rfl) (by kernel_rfl) (by kernel_rfl) (fun _ _ _ h => h) (Or.inl ⟨by rfl, ?_⟩) (by assumption) ?_
  rotate_left
  · (intro w hSw; (try dsimp only at hSw); go_simp; try with_reducible rfl)
  (try simp only [Act.put, List.getElem_toArray, List.getElem_cons_zero, List.getElem_cons_succ, List.setIfInBounds_toArray, List.set_cons_zero, List.set_cons_succ])
  refine wpAnyH_take (i := 5) (v := ?_) rfl (by kernel_rfl) (by kernel_rfl) (by kernel_rfl) (fun _ _ _ h => h) (Or.inl ⟨by rfl, ?_⟩) (by assumption) ?_
  rotate_left
  · (intro w hSw; (try dsimp only at hSw); go_simp; try with_reducible rfl)
  (try simp only [Act.put, List.getElem_toArray, List.getElem_cons_zero, List.getElem_cons_succ, List.setIfInBounds_toArray, List.set_cons_zero, List.set_cons_succ])
  refine wpAnyH_ready (rs := [6]) (by kernel_rfl) (by simp) ?_
  refine AllReadyH.cons (o := _) rfl (fun K hK => ?_) AllReadyH.nil
  go_simp
  refine (HF.out _).mono ?_
  rintro e y1 ⟨rfl, rfl⟩
  clear hHeld
  refine hK.out _ _ trivial (fun hHeld => ?_)
  clear hK K
  (try simp only [Act.put, List.getElem_toArray, List.getElem_cons_zero, List.getElem_cons_succ, List.setIfInBounds_toArray, List.set_cons_zero, List.set_cons_succ])
  refine wpAnyH_take (i := 7) (v := ?_) rfl (by kernel_rfl) (by kernel_rfl) (by kernel_rfl) (fun _ _ _ h => h) (Or.inl ⟨by rfl, ?_⟩) (by assumption) ?_
  rotate_left
  · (intro w hSw; (try dsimp only at hSw); go_simp; try with_reducible rfl)
  (try simp only [Act.put, List.getElem_toArray, List.getElem_cons_zero, List.getElem_cons_succ, List.setIfInBounds_toArray, List.set_cons_zero, List.set_cons_succ])
  refine wpAnyH_take (i := 8) (v := ?_) rfl (by kernel_rfl) (by kernel_rfl) (by kernel_rfl) (fun _ _ _ h => h) (Or.inl ⟨by rfl, ?_⟩) (by assumption) ?_
  rotate_left
  · (intro w hSw; (try dsimp only at hSw); go_simp; try with_reducible rfl)
  (try simp only [Act.put, List.getElem_toArray, List.getElem_cons_zero, List.getElem_cons_succ, List.setIfInBounds_toArray, List.set_cons_zero, List.set_cons_succ])
  refine wpAnyH_done (by kernel_rfl) ?_ _
  clear hHeld
  clear hcut HF hmc hmc2
  have hgd : Good c2 caps L := good_of hmay hcln (by omega)
  have HG := Lib.hid hgd
  clear hgd
  go_wp2_with fail
  refine (Of_out ca c2 cc caps a n2 c L i _ C_1.out E_1.out HG.out (.inl hi)).mono ?_
  rintro e y2 ⟨rfl, hb⟩
  have C_2 := Lib.hid (Ints.below C_1.out hb)
  have E_2 := Lib.hid (Evs.below E_1.out hb)
  have B_2 := Lib.hid (B_1.out.trans (Below.mono hb B_1.out.size))
  clear hb C_1 E_1 B_1
  go_wp2_with fail
  refine (All_ok ca c2 cc caps a n2 c L _ C_2.out E_2.out HG.out).mono ?_
  rintro e y3 ⟨R, rfl, hS, hb⟩
  have C_3 := Lib.hid (Ints.below C_2.out hb)
  have E_3 := Lib.hid (Evs.below E_2.out hb)
  have B_3 := Lib.hid (B_2.out.trans (Below.mono hb B_2.out.size))
  clear hb C_2 E_2 B_2
  have HS := Lib.hid hS
  clear hS
  go_wp2_with fail
  refine (May_is ca c2 cc caps a n2 c L _ C_3.out E_3.out (by omega) _ hmay).mono ?_
  rintro e y4 ⟨rfl, hb⟩
  have C_4 := Lib.hid (Ints.below C_3.out hb)
  have E_4 := Lib.hid (Evs.below E_3.out hb)
  have B_4 := Lib.hid (B_3.out.trans (Below.mono hb B_3.out.size))
  have S_4 := Lib.hid (Sls.below HS.out hb)
  clear hb C_3 E_3 B_3 HS
  go_wp2_with fail
  refine (alive_any _).mono ?_
  rintro e y5 ⟨rfl, hb⟩
  have C_5 := Lib.hid (Ints.below C_4.out hb)
  have E_5 := Lib.hid (Evs.below E_4.out hb)
  have B_5 := Lib.hid (B_4.out.trans (Below.mono hb B_4.out.size))
  have S_5 := Lib.hid (Sls.below S_4.out hb)
  clear hb C_4 E_4 B_4 S_4
  go_wp2_with fail
  go_loopw [70] (fun j wr => ∃ q : Nat, q ≤ n2 ∧ j = .int .i64 q ∧ Below y5.heap.size y5 wr) (fun j _ => n2 - (intOf j).toNat)
  case atStart => exact ⟨0, Nat.zero_le _, rfl, Below.refl _ _⟩
  case round =>
    obtain ⟨q, hq, rfl, hb⟩ := hrel
    have HH0 := Lib.hid hb
    have C_6 := Lib.hid (Ints.below C_5.out hb)
    have E_6 := Lib.hid (Evs.below E_5.out hb)
    have B_6 := Lib.hid (B_5.out.trans (Below.mono hb B_5.out.size))
    have S_6 := Lib.hid (Sls.below S_5.out hb)
    clear hb C_5 E_5 B_5 S_5
    by_cases hlt : q < n2
    · have hlt' : (q : Int) < (n2 : Int) := by omega
      obtain ⟨xs, xs1, hx2, hx3, hx4⟩ := S_6.out
      obtain ⟨ar, nr, cr, hx5, hR⟩ := hx4 q hlt
      have hX : Cl wr ⟨R, q, none⟩ (.slice ar nr cr) := Bx.cell hx2 q (by simpa using hx5)
      clear hx2 hx3 hx4 hx5 xs1 xs
      have HX := Lib.hid hX
      clear hX
      have HY := Lib.hid hR
      clear hR
      go_upto_region 11 with (fail)
      have hb : Below wr.heap.size wr wr.drew := (Below.refl _ _).drew
      have C_7 := Lib.hid (Ints.below C_6.out hb)
      have E_7 := Lib.hid (Evs.below E_6.out hb)
      have B_7 := Lib.hid (B_6.out.trans (Below.mono hb B_6.out.size))
      have S_7 := Lib.hid (Sls.below S_6.out hb)
      have H_7 := Lib.hid (HH0.out.trans (Below.mono hb HH0.out.size))
      have X_7 := Lib.hid (Cl.below HX.out hb)
      have Y_7 := Lib.hid (Ints.below HY.out hb)
      clear hb C_6 E_6 B_6 S_6 HH0 HX HY
      refine wp_region_held_drew (S := (fun V => V.cell? ⟨R, q, none⟩ = some (.slice ar nr cr))) (by kernel_rfl) (X_7.out) (fun hHeld => ?_)
      (try simp only [Act.put, List.getElem_toArray, List.getElem_cons_zero, List.getElem_cons_succ, List.setIfInBounds_toArray, List.set_cons_zero, List.set_cons_succ])
      refine wpAnyH_take (i := 0) (v := ?_) rfl (by kernel_rfl) (by kernel_rfl) (by kernel_rfl) (fun _ _ _ h => h) (Or.inl ⟨by rfl, ?_⟩) (by assumption) ?_
      rotate_left
      · (intro w hSw; (try dsimp only at hSw); go_simp; try with_reducible rfl)
      (try simp only [Act.put, List.getElem_toArray, List.getElem_cons_zero, List.getElem_cons_succ, List.setIfInBounds_toArray, List.set_cons_zero, List.set_cons_succ])
      refine wpAnyH_take (i := 1) (v := ?_) rfl (by kernel_rfl) (by kernel_rfl) (by kernel_rfl) (fun _ _ _ h => h) (Or.inl ⟨by rfl, ?_⟩) (by assumption) ?_
      rotate_left
      · (intro w hSw; (try dsimp only at hSw); go_simp; try with_reducible rfl)
      (try simp only [Act.put, List.getElem_toArray, List.getElem_cons_zero, List.getElem_cons_succ, List.setIfInBounds_toArray, List.set_cons_zero, List.set_cons_succ])
      refine wpAnyH_take (i := 2) (v := ?_) rfl (by kernel_rfl) (by kernel_rfl) (by kernel_rfl) (fun _ _ _ h => h) (Or.inl ⟨by rfl, ?_⟩) (by assumption) ?_
      rotate_left
      · (intro w hSw; (try dsimp only at hSw); go_simp; try with_reducible rfl)
      (try simp only [Act.put, List.getElem_toArray, List.getElem_cons_zero, List.getElem_cons_succ, List.setIfInBounds_toArray, List.set_cons_zero, List.set_cons_succ])
      refine wpAnyH_take (i := 3) (v := ?_) rfl (by kernel_rfl) (by kernel_rfl) (by kernel_rfl) (fun _ _ _ h => h) (Or.inl ⟨by rfl, ?_⟩) (by assumption) ?_
      rotate_left
      · (intro w hSw; (try dsimp only at hSw); go_simp; try with_reducible rfl)
      (try simp only [Act.put, List.getElem_toArray, List.getElem_cons_zero, List.getElem_cons_succ, List.setIfInBounds_toArray, List.set_cons_zero, List.set_cons_succ])
      refine wpAnyH_take (i := 4) (v := ?_) rfl (by kernel_rfl) (by kernel_rfl) (by kernel_rfl) (fun _ _ _ h => h) (Or.inl ⟨by rfl, ?_⟩) (by assumption) ?_
      rotate_left
      · (intro w hSw; (try dsimp only at hSw); go_simp; try with_reducible rfl)
      (try simp only [Act.put, List.getElem_toArray, List.getElem_cons_zero, List.getElem_cons_succ, List.setIfInBounds_toArray, List.set_cons_zero, List.set_cons_succ])
      refine wpAnyH_take (i := 5) (v := ?_) rfl (by kernel_rfl) (by kernel_rfl) (by kernel_rfl) (fun _ _ _ h => h) (Or.inl ⟨by rfl, ?_⟩) (by assumption) ?_
      rotate_left
      · (intro w hSw; (try dsimp only at hSw); go_simp; try with_reducible rfl)
      (try simp only [Act.put, List.getElem_toArray, List.getElem_cons_zero, List.getElem_cons_succ, List.setIfInBounds_toArray, List.set_cons_zero, List.set_cons_succ])
      refine wpAnyH_take (i := 6) (v := ?_) rfl (by kernel_rfl) (by kernel_rfl) (by kernel_rfl) (fun _ _ _ h => h) (Or.inl ⟨by rfl, ?_⟩) (by assumption) ?_
      rotate_left
      · (intro w hSw; (try dsimp only at hSw); go_simp; try with_reducible rfl)
      (try simp only [Act.put, List.getElem_toArray, List.getElem_cons_zero, List.getElem_cons_succ, List.setIfInBounds_toArray, List.set_cons_zero, List.set_cons_succ])
      refine wpAnyH_ready (rs := [7]) (by kernel_rfl) (by simp) ?_
      refine AllReadyH.cons (o := _) rfl (fun K hK => ?_) AllReadyH.nil
      go_simp
      refine (refOf_any ca c2 cc caps a n2 c L q _ C_7.out E_7.out hlt HG.out).mono ?_
      rintro e y6 ⟨aq, nq, cq, rfl, hQ, hb⟩
      have C_8 := Lib.hid (Ints.below C_7.out hb)
      have E_8 := Lib.hid (Evs.below E_7.out hb)
      have B_8 := Lib.hid (B_7.out.trans (Below.mono hb B_7.out.size))
      have S_8 := Lib.hid (Sls.below S_7.out hb)
      have H_8 := Lib.hid (H_7.out.trans (Below.mono hb H_7.out.size))
      have X_8 := Lib.hid (Cl.below X_7.out hb)
      have Y_8 := Lib.hid (Ints.below Y_7.out hb)
      clear hb C_7 E_7 B_7 S_7 H_7 X_7 Y_7
      have HQ := Lib.hid hQ
      clear hQ

      clear hHeld
      refine hK.out _ _ (X_8.out) (fun hHeld => ?_)
      clear hK K
      (try simp only [Act.put, List.getElem_toArray, List.getElem_cons_zero, List.getElem_cons_succ, List.setIfInBounds_toArray, List.set_cons_zero, List.set_cons_succ])
      refine wpAnyH_ready (rs := [8]) (by kernel_rfl) (by simp) ?_
      refine AllReadyH.cons (o := _) rfl (fun K hK => ?_) AllReadyH.nil
      go_simp
      refine (Rows_same ar nr cr _ aq nq cq _ Y_8.out HQ.out).mono ?_
      rintro e y7 ⟨rfl, hb⟩
      have C_9 := Lib.hid (Ints.below C_8.out hb)
      have E_9 := Lib.hid (Evs.below E_8.out hb)
      have B_9 := Lib.hid (B_8.out.trans (Below.mono hb B_8.out.size))
      have S_9 := Lib.hid (Sls.below S_8.out hb)
      have H_9 := Lib.hid (H_8.out.trans (Below.mono hb H_8.out.size))
      have X_9 := Lib.hid (Cl.below X_8.out hb)
      have Y_9 := Lib.hid (Ints.below Y_8.out hb)
      have Q_9 := Lib.hid (Ints.below HQ.out hb)
      clear hb C_8 E_8 B_8 S_8 H_8 X_8 Y_8 HQ
      clear hHeld
      refine hK.out _ _ (X_9.out) (fun hHeld => ?_)
      clear hK K
      (try simp only [Act.put, List.getElem_toArray, List.getElem_cons_zero, List.getElem_cons_succ, List.setIfInBounds_toArray, List.set_cons_zero, List.set_cons_succ])
      refine wpAnyH_take (i := 9) (v := ?_) rfl (by kernel_rfl) (by kernel_rfl) (by kernel_rfl) (fun _ _ _ h => h) (Or.inl ⟨by rfl, ?_⟩) (by assumption) ?_
      rotate_left
      · (intro w hSw; (try dsimp only at hSw); go_simp; try with_reducible rfl)
      (try simp only [Act.put, List.getElem_toArray, List.getElem_cons_zero, List.getElem_cons_succ, List.setIfInBounds_toArray, List.set_cons_zero, List.set_cons_succ])
      refine wpAnyH_done (by kernel_rfl) ?_ _
      clear hHeld
      go_wp2_with fail
      go_roundw
      case rel => exact ⟨q + 1, by omega, by go_num, H_9.out⟩
      case measure => simp [intOf]; omega
    · have hqe : q = n2 := by omega
      subst hqe
      go_wp2_with fail
      go_ret
      exact ⟨ret_bool (by first | rfl | simp), B_6.out⟩
set_option maxRecDepth 100000 in
set_option maxHeartbeats 8000000 in
theorem tells_ok_big (ca : Option Addr) (cn cc : Nat) (caps0 : List Int) (a : Option Addr) (n c : Nat) (L0 : List Ev) (i : Int) (w : World) (hC : Ints w ca cn cc caps0) (hE : Evs w a n c L0) (hmay : mayE (caps0.take 6) (L0.take 120) = true) (hi : ¬ i < 0) (hi2 : ((min n 120 : Nat) : Int) ≤ i) :
    Calls Try.prog 3 #[.slice ca cn cc, .slice a n c, .int .i64 i] w (Says w) := by
  have hcl := hC.len_eq
  have HC0 := Lib.hid hC.le_cap
  have HC := Lib.hid (hC.take 6); have HE := Lib.hid (hE.take 120)
  have HF := Lib.hid (few_any a n c · hE.recs.le_cap hE.recs.none_)
  obtain ⟨caps, hcaps⟩ : ∃ x, x = caps0.take 6 := ⟨_, rfl⟩
  obtain ⟨L, hL⟩ : ∃ x, x = L0.take 120 := ⟨_, rfl⟩
  rw [← hcaps] at HC hmay; rw [← hL] at HE hmay
  have hm6 : min cn 6 ≤ 6 := by omega
  have hm120 : min n 120 ≤ 120 := by omega
  obtain ⟨c2, hc2⟩ : ∃ x, x = min cn 6 := ⟨_, rfl⟩
  obtain ⟨n2, hn2⟩ : ∃ x, x = min n 120 := ⟨_, rfl⟩
  have hmc : (if (6 : Int) < (cn : Int) then (6 : Int) else (cn : Int)) = (c2 : Int) := by split <;> omega
  have hcut := cut_to 22 Try.underlying22 ⟨_, fun _ => rfl⟩ ca cn cc c2 HC0.out (by omega)
  rw [← hc2] at HC hm6; rw [← hn2] at HE HF hm120 hi2
  have hlen := HE.out.recs.len_eq
  have hcln := HC.out.len_eq
  have hncap := HE.out.recs.le_cap
  have hnmax := HE.out.recs.len_le
  have B := Lib.hid (Below.refl w.heap.size w)
  have hmc2 : min (cn : Int) 6 = (c2 : Int) := by omega
  clear hC hE hcaps hL hcl hc2 hn2
  go_enter Try.func3, Try.ntmps3
  go_upto_region 1 with (fail)
  have hb : Below w.heap.size w w.drew := (Below.refl _ _).drew
  have C_1 := Lib.hid (Ints.below HC.out hb)
  have E_1 := Lib.hid (Evs.below HE.out hb)
  have B_1 := Lib.hid (B.out.trans (Below.mono hb B.out.size))
  clear hb HC HE B
  refine wp_region_held_drew (S := (fun _ => True)) (by kernel_rfl) trivial (fun hHeld => ?_)
  (try simp only [Act.put, List.getElem_toArray, List.getElem_cons_zero, List.getElem_cons_succ, List.setIfInBounds_toArray, List.set_cons_zero, List.set_cons_succ])
  refine wpAnyH_take (i := 0) (v := ?_) rfl (by kernel_rfl) (by kernel_rfl) (by kernel_rfl) (fun _ _ _ h => h) (Or.inl ⟨by rfl, ?_⟩) (by assumption) ?_
  rotate_left
  · (intro w hSw; (try dsimp only at hSw); go_simp; try with_reducible rfl)
  (try simp only [Act.put, List.getElem_toArray, List.getElem_cons_zero, List.getElem_cons_succ, List.setIfInBounds_toArray, List.set_cons_zero, List.set_cons_succ])
  refine wpAnyH_take (i := 1) (v := ?_) rfl (by kernel_rfl) (by kernel_rfl) (by kernel_rfl) (fun _ _ _ h => h) (Or.inl ⟨by rfl, ?_⟩) (by assumption) ?_
  rotate_left
  · (intro w hSw; (try dsimp only at hSw); go_simp; try with_reducible rfl)
  (try simp only [Act.put, List.getElem_toArray, List.getElem_cons_zero, List.getElem_cons_succ, List.setIfInBounds_toArray, List.set_cons_zero, List.set_cons_succ])
  refine wpAnyH_take (i := 2) (v := ?_) rfl (by kernel_rfl) (by kernel_rfl) (by kernel_rfl) (fun _ _ _ h => h) (Or.inl ⟨by rfl, ?_⟩) (by assumption) ?_
  rotate_left
  · (intro w hSw; (try dsimp only at hSw); go_simp; try with_reducible rfl)
  (try simp only [Act.put, List.getElem_toArray, List.getElem_cons_zero, List.getElem_cons_succ, List.setIfInBounds_toArray, List.set_cons_zero, List.set_cons_succ])
  refine wpAnyH_take (i := 3) (v := ?_) rfl (by kernel_rfl) (by kernel_rfl) (by kernel_rfl) (fun _ _ _ h => h) (Or.inl ⟨by rfl, ?_⟩) (by assumption) ?_
  rotate_left
  · (intro w hSw; (try dsimp only at hSw); go_simp; try with_reducible rfl)
  (try simp only [Act.put, List.getElem_toArray, List.getElem_cons_zero, List.getElem_cons_succ, List.setIfInBounds_toArray, List.set_cons_zero, List.set_cons_succ])
  refine wpAnyH_take (i := 4) (v := ?_) rfl (by kernel_rfl) (by kernel_rfl) (by kernel_rfl) (fun _ _ _ h => h) (Or.inl ⟨by rfl, ?_⟩) (by assumption) ?_
  rotate_left
  · (intro w hSw; (try dsimp only at hSw); go_simp; try with_reducible rfl)
  (try simp only [Act.put, List.getElem_toArray, List.getElem_cons_zero, List.getElem_cons_succ, List.setIfInBounds_toArray, List.set_cons_zero, List.set_cons_succ])
  refine wpAnyH_take (i := 5) (v := ?_) rfl (by kernel_rfl) (by kernel_rfl) (by kernel_rfl) (fun _ _ _ h => h) (Or.inl ⟨by rfl, ?_⟩) (by assumption) ?_
  rotate_left
  · (intro w hSw; (try dsimp only at hSw); go_simp; try with_reducible rfl)
  (try simp only [Act.put, List.getElem_toArray, List.getElem_cons_zero, List.getElem_cons_succ, List.setIfInBounds_toArray, List.set_cons_zero, List.set_cons_succ])
  refine wpAnyH_ready (rs := [6]) (by kernel_rfl) (by simp) ?_
  refine AllReadyH.cons (o := _) rfl (fun K hK => ?_) AllReadyH.nil
  go_simp
  refine (HF.out _).mono ?_
  rintro e y1 ⟨rfl, rfl⟩
  clear hHeld
  refine hK.out _ _ trivial (fun hHeld => ?_)
  clear hK K
  (try simp only [Act.put, List.getElem_toArray, List.getElem_cons_zero, List.getElem_cons_succ, List.setIfInBounds_toArray, List.set_cons_zero, List.set_cons_succ])
  refine wpAnyH_take (i := 7) (v := ?_) rfl (by kernel_rfl) (by kernel_rfl) (by kernel_rfl) (fun _ _ _ h => h) (Or.inl ⟨by rfl, ?_⟩) (by assumption) ?_
  rotate_left
  · (intro w hSw; (try dsimp only at hSw); go_simp; try with_reducible rfl)
  (try simp only [Act.put, List.getElem_toArray, List.getElem_cons_zero, List.getElem_cons_succ, List.setIfInBounds_toArray, List.set_cons_zero, List.set_cons_succ])
  refine wpAnyH_take (i := 8) (v := ?_) rfl (by kernel_rfl) (by kernel_rfl) (by kernel_rfl) (fun _ _ _ h => h) (Or.inl ⟨by rfl, ?_⟩) (by assumption) ?_
  rotate_left
  · (intro w hSw; (try dsimp only at hSw); go_simp; try with_reducible rfl)
  (try simp only [Act.put, List.getElem_toArray, List.getElem_cons_zero, List.getElem_cons_succ, List.setIfInBounds_toArray, List.set_cons_zero, List.set_cons_succ])
  refine wpAnyH_done (by kernel_rfl) ?_ _
  clear hHeld
  clear hcut HF hmc hmc2
  have hgd : Good c2 caps L := good_of hmay hcln (by omega)
  have HG := Lib.hid hgd
  clear hgd
  go_wp2_with fail
  refine (Of_out ca c2 cc caps a n2 c L i _ C_1.out E_1.out HG.out (.inr ⟨by omega, by omega⟩)).mono ?_
  rintro e y2 ⟨rfl, hb⟩
  have C_2 := Lib.hid (Ints.below C_1.out hb)
  have E_2 := Lib.hid (Evs.below E_1.out hb)
  have B_2 := Lib.hid (B_1.out.trans (Below.mono hb B_1.out.size))
  clear hb C_1 E_1 B_1
  go_wp2_with fail
  refine (All_ok ca c2 cc caps a n2 c L _ C_2.out E_2.out HG.out).mono ?_
  rintro e y3 ⟨R, rfl, hS, hb⟩
  have C_3 := Lib.hid (Ints.below C_2.out hb)
  have E_3 := Lib.hid (Evs.below E_2.out hb)
  have B_3 := Lib.hid (B_2.out.trans (Below.mono hb B_2.out.size))
  clear hb C_2 E_2 B_2
  have HS := Lib.hid hS
  clear hS
  go_wp2_with fail
  refine (May_is ca c2 cc caps a n2 c L _ C_3.out E_3.out (by omega) _ hmay).mono ?_
  rintro e y4 ⟨rfl, hb⟩
  have C_4 := Lib.hid (Ints.below C_3.out hb)
  have E_4 := Lib.hid (Evs.below E_3.out hb)
  have B_4 := Lib.hid (B_3.out.trans (Below.mono hb B_3.out.size))
  have S_4 := Lib.hid (Sls.below HS.out hb)
  clear hb C_3 E_3 B_3 HS
  go_wp2_with fail
  refine (alive_any _).mono ?_
  rintro e y5 ⟨rfl, hb⟩
  have C_5 := Lib.hid (Ints.below C_4.out hb)
  have E_5 := Lib.hid (Evs.below E_4.out hb)
  have B_5 := Lib.hid (B_4.out.trans (Below.mono hb B_4.out.size))
  have S_5 := Lib.hid (Sls.below S_4.out hb)
  clear hb C_4 E_4 B_4 S_4
  go_wp2_with fail
  go_loopw [70] (fun j wr => ∃ q : Nat, q ≤ n2 ∧ j = .int .i64 q ∧ Below y5.heap.size y5 wr) (fun j _ => n2 - (intOf j).toNat)
  case atStart => exact ⟨0, Nat.zero_le _, rfl, Below.refl _ _⟩
  case round =>
    obtain ⟨q, hq, rfl, hb⟩ := hrel
    have HH0 := Lib.hid hb
    have C_6 := Lib.hid (Ints.below C_5.out hb)
    have E_6 := Lib.hid (Evs.below E_5.out hb)
    have B_6 := Lib.hid (B_5.out.trans (Below.mono hb B_5.out.size))
    have S_6 := Lib.hid (Sls.below S_5.out hb)
    clear hb C_5 E_5 B_5 S_5
    by_cases hlt : q < n2
    · have hlt' : (q : Int) < (n2 : Int) := by omega
      obtain ⟨xs, xs1, hx2, hx3, hx4⟩ := S_6.out
      obtain ⟨ar, nr, cr, hx5, hR⟩ := hx4 q hlt
      have hX : Cl wr ⟨R, q, none⟩ (.slice ar nr cr) := Bx.cell hx2 q (by simpa using hx5)
      clear hx2 hx3 hx4 hx5 xs1 xs
      have HX := Lib.hid hX
      clear hX
      have HY := Lib.hid hR
      clear hR
      go_upto_region 11 with (fail)
      have hb : Below wr.heap.size wr wr.drew := (Below.refl _ _).drew
      have C_7 := Lib.hid (Ints.below C_6.out hb)
      have E_7 := Lib.hid (Evs.below E_6.out hb)
      have B_7 := Lib.hid (B_6.out.trans (Below.mono hb B_6.out.size))
      have S_7 := Lib.hid (Sls.below S_6.out hb)
      have H_7 := Lib.hid (HH0.out.trans (Below.mono hb HH0.out.size))
      have X_7 := Lib.hid (Cl.below HX.out hb)
      have Y_7 := Lib.hid (Ints.below HY.out hb)
      clear hb C_6 E_6 B_6 S_6 HH0 HX HY
      refine wp_region_held_drew (S := (fun V => V.cell? ⟨R, q, none⟩ = some (.slice ar nr cr))) (by kernel_rfl) (X_7.out) (fun hHeld => ?_)
      (try simp only [Act.put, List.getElem_toArray, List.getElem_cons_zero, List.getElem_cons_succ, List.setIfInBounds_toArray, List.set_cons_zero, List.set_cons_succ])
      refine wpAnyH_take (i := 0) (v := ?_) rfl (by kernel_rfl) (by kernel_rfl) (by kernel_rfl) (fun _ _ _ h => h) (Or.inl ⟨by rfl, ?_⟩) (by assumption) ?_
      rotate_left
      · (intro w hSw; (try dsimp only at hSw); go_simp; try with_reducible rfl)
      (try simp only [Act.put, List.getElem_toArray, List.getElem_cons_zero, List.getElem_cons_succ, List.setIfInBounds_toArray, List.set_cons_zero, List.set_cons_succ])
      refine wpAnyH_take (i := 1) (v := ?_) rfl (by kernel_rfl) (by kernel_rfl) (by kernel_rfl) (fun _ _ _ h => h) (Or.inl ⟨by rfl, ?_⟩) (by assumption) ?_
      rotate_left
      · (intro w hSw; (try dsimp only at hSw); go_simp; try with_reducible rfl)
      (try simp only [Act.put, List.getElem_toArray, List.getElem_cons_zero, List.getElem_cons_succ, List.setIfInBounds_toArray, List.set_cons_zero, List.set_cons_succ])
      refine wpAnyH_take (i := 2) (v := ?_) rfl (by kernel_rfl) (by kernel_rfl) (by kernel_rfl) (fun _ _ _ h => h) (Or.inl ⟨by rfl, ?_⟩) (by assumption) ?_
      rotate_left
      · (intro w hSw; (try dsimp only at hSw); go_simp; try with_reducible rfl)
      (try simp only [Act.put, List.getElem_toArray, List.getElem_cons_zero, List.getElem_cons_succ, List.setIfInBounds_toArray, List.set_cons_zero, List.set_cons_succ])
      refine wpAnyH_take (i := 3) (v := ?_) rfl (by kernel_rfl) (by kernel_rfl) (by kernel_rfl) (fun _ _ _ h => h) (Or.inl ⟨by rfl, ?_⟩) (by assumption) ?_
      rotate_left
      · (intro w hSw; (try dsimp only at hSw); go_simp; try with_reducible rfl)
      (try simp only [Act.put, List.getElem_toArray, List.getElem_cons_zero, List.getElem_cons_succ, List.setIfInBounds_toArray, List.set_cons_zero, List.set_cons_succ])
      refine wpAnyH_take (i := 4) (v := ?_) rfl (by kernel_rfl) (by kernel_rfl) (by kernel_rfl) (fun _ _ _ h => h) (Or.inl ⟨by rfl, ?_⟩) (by assumption) ?_
      rotate_left
      · (intro w hSw; (try dsimp only at hSw); go_simp; try with_reducible rfl)
      (try simp only [Act.put, List.getElem_toArray, List.getElem_cons_zero, List.getElem_cons_succ, List.setIfInBounds_toArray, List.set_cons_zero, List.set_cons_succ])
      refine wpAnyH_take (i := 5) (v := ?_) rfl (by kernel_rfl) (by kernel_rfl) (by kernel_rfl) (fun _ _ _ h => h) (Or.inl ⟨by rfl, ?_⟩) (by assumption) ?_
      rotate_left
      · (intro w hSw; (try dsimp only at hSw); go_simp; try with_reducible rfl)
      (try simp only [Act.put, List.getElem_toArray, List.getElem_cons_zero, List.getElem_cons_succ, List.setIfInBounds_toArray, List.set_cons_zero, List.set_cons_succ])
      refine wpAnyH_take (i := 6) (v := ?_) rfl (by kernel_rfl) (by kernel_rfl) (by kernel_rfl) (fun _ _ _ h => h) (Or.inl ⟨by rfl, ?_⟩) (by assumption) ?_
      rotate_left
      · (intro w hSw; (try dsimp only at hSw); go_simp; try with_reducible rfl)
      (try simp only [Act.put, List.getElem_toArray, List.getElem_cons_zero, List.getElem_cons_succ, List.setIfInBounds_toArray, List.set_cons_zero, List.set_cons_succ])
      refine wpAnyH_ready (rs := [7]) (by kernel_rfl) (by simp) ?_
      refine AllReadyH.cons (o := _) rfl (fun K hK => ?_) AllReadyH.nil
      go_simp
      refine (refOf_any ca c2 cc caps a n2 c L q _ C_7.out E_7.out hlt HG.out).mono ?_
      rintro e y6 ⟨aq, nq, cq, rfl, hQ, hb⟩
      have C_8 := Lib.hid (Ints.below C_7.out hb)
      have E_8 := Lib.hid (Evs.below E_7.out hb)
      have B_8 := Lib.hid (B_7.out.trans (Below.mono hb B_7.out.size))
      have S_8 := Lib.hid (Sls.below S_7.out hb)
      have H_8 := Lib.hid (H_7.out.trans (Below.mono hb H_7.out.size))
      have X_8 := Lib.hid (Cl.below X_7.out hb)
      have Y_8 := Lib.hid (Ints.below Y_7.out hb)
      clear hb C_7 E_7 B_7 S_7 H_7 X_7 Y_7
      have HQ := Lib.hid hQ
      clear hQ

      clear hHeld
      refine hK.out _ _ (X_8.out) (fun hHeld => ?_)
      clear hK K
      (try simp only [Act.put, List.getElem_toArray, List.getElem_cons_zero, List.getElem_cons_succ, List.setIfInBounds_toArray, List.set_cons_zero, List.set_cons_succ])
      refine wpAnyH_ready (rs := [8]) (by kernel_rfl) (by simp) ?_
      refine AllReadyH.cons (o := _) rfl (fun K hK => ?_) AllReadyH.nil
      go_simp
      refine (Rows_same ar nr cr _ aq nq cq _ Y_8.out HQ.out).mono ?_
      rintro e y7 ⟨rfl, hb⟩
      have C_9 := Lib.hid (Ints.below C_8.out hb)
      have E_9 := Lib.hid (Evs.below E_8.out hb)
      have B_9 := Lib.hid (B_8.out.trans (Below.mono hb B_8.out.size))
      have S_9 := Lib.hid (Sls.below S_8.out hb)
      have H_9 := Lib.hid (H_8.out.trans (Below.mono hb H_8.out.size))
      have X_9 := Lib.hid (Cl.below X_8.out hb)
      have Y_9 := Lib.hid (Ints.below Y_8.out hb)
      have Q_9 := Lib.hid (Ints.below HQ.out hb)
      clear hb C_8 E_8 B_8 S_8 H_8 X_8 Y_8 HQ
      clear hHeld
      refine hK.out _ _ (X_9.out) (fun hHeld => ?_)
      clear hK K
      (try simp only [Act.put, List.getElem_toArray, List.getElem_cons_zero, List.getElem_cons_succ, List.setIfInBounds_toArray, List.set_cons_zero, List.set_cons_succ])
      refine wpAnyH_take (i := 9) (v := ?_) rfl (by kernel_rfl) (by kernel_rfl) (by kernel_rfl) (fun _ _ _ h => h) (Or.inl ⟨by rfl, ?_⟩) (by assumption) ?_
      rotate_left
      · (intro w hSw; (try dsimp only at hSw); go_simp; try with_reducible rfl)
      (try simp only [Act.put, List.getElem_toArray, List.getElem_cons_zero, List.getElem_cons_succ, List.setIfInBounds_toArray, List.set_cons_zero, List.set_cons_succ])
      refine wpAnyH_done (by kernel_rfl) ?_ _
      clear hHeld
      go_wp2_with fail
      go_roundw
      case rel => exact ⟨q + 1, by omega, by go_num, H_9.out⟩
      case measure => simp [intOf]; omega
    · have hqe : q = n2 := by omega
      subst hqe
      go_wp2_with fail
      go_ret
      exact ⟨ret_bool (by first | rfl | simp), B_6.out⟩
set_option maxRecDepth 100000 in
set_option maxHeartbeats 8000000 in
theorem tells_ok_in (ca : Option Addr) (cn cc : Nat) (caps0 : List Int) (a : Option Addr) (n c : Nat) (L0 : List Ev) (i : Int) (w : World) (hC : Ints w ca cn cc caps0) (hE : Evs w a n c L0) (hmay : mayE (caps0.take 6) (L0.take 120) = true) (hi : ¬ i < 0) (hi2 : ¬ ((min n 120 : Nat) : Int) ≤ i) :
    Calls Try.prog 3 #[.slice ca cn cc, .slice a n c, .int .i64 i] w (Says w) := by
  have hcl := hC.len_eq
  have HC0 := Lib.hid hC.le_cap
  have HC := Lib.hid (hC.take 6); have HE := Lib.hid (hE.take 120)
  have HF := Lib.hid (few_any a n c · hE.recs.le_cap hE.recs.none_)
  obtain ⟨caps, hcaps⟩ : ∃ x, x = caps0.take 6 := ⟨_, rfl⟩
  obtain ⟨L, hL⟩ : ∃ x, x = L0.take 120 := ⟨_, rfl⟩
  rw [← hcaps] at HC hmay; rw [← hL] at HE hmay
  have hm6 : min cn 6 ≤ 6 := by omega
  have hm120 : min n 120 ≤ 120 := by omega
  obtain ⟨c2, hc2⟩ : ∃ x, x = min cn 6 := ⟨_, rfl⟩
  obtain ⟨n2, hn2⟩ : ∃ x, x = min n 120 := ⟨_, rfl⟩
  have hmc : (if (6 : Int) < (cn : Int) then (6 : Int) else (cn : Int)) = (c2 : Int) := by split <;> omega
  have hcut := cut_to 22 Try.underlying22 ⟨_, fun _ => rfl⟩ ca cn cc c2 HC0.out (by omega)
  rw [← hc2] at HC hm6; rw [← hn2] at HE HF hm120 hi2
  have hlen := HE.out.recs.len_eq
  have hcln := HC.out.len_eq
  have hncap := HE.out.recs.le_cap
  have hnmax := HE.out.recs.len_le
  have B := Lib.hid (Below.refl w.heap.size w)
  have hmc2 : min (cn : Int) 6 = (c2 : Int) := by omega
  clear hC hE hcaps hL hcl hc2 hn2
  go_enter Try.func3, Try.ntmps3
  go_upto_region 1 with (fail)
  have hb : Below w.heap.size w w.drew := (Below.refl _ _).drew
  have C_1 := Lib.hid (Ints.below HC.out hb)
  have E_1 := Lib.hid (Evs.below HE.out hb)
  have B_1 := Lib.hid (B.out.trans (Below.mono hb B.out.size))
  clear hb HC HE B
  refine wp_region_held_drew (S := (fun _ => True)) (by kernel_rfl) trivial (fun hHeld => ?_)
  (try simp only [Act.put, List.getElem_toArray, List.getElem_cons_zero, List.getElem_cons_succ, List.setIfInBounds_toArray, List.set_cons_zero, List.set_cons_succ])
  refine wpAnyH_take (i := 0) (v := ?_) rfl (by kernel_rfl) (by kernel_rfl) (by kernel_rfl) (fun _ _ _ h => h) (Or.inl ⟨by rfl, ?_⟩) (by assumption) ?_
  rotate_left
  · (intro w hSw; (try dsimp only at hSw); go_simp; try with_reducible rfl)
  (try simp only [Act.put, List.getElem_toArray, List.getElem_cons_zero, List.getElem_cons_succ, List.setIfInBounds_toArray, List.set_cons_zero, List.set_cons_succ])
  refine wpAnyH_take (i := 1) (v := ?_) rfl (by kernel_rfl) (by kernel_rfl) (by kernel_rfl) (fun _ _ _ h => h) (Or.inl ⟨by rfl, ?_⟩) (by assumption) ?_
  rotate_left
  · (intro w hSw; (try dsimp only at hSw); go_simp; try with_reducible rfl)
  (try simp only [Act.put, List.getElem_toArray, List.getElem_cons_zero, List.getElem_cons_succ, List.setIfInBounds_toArray, List.set_cons_zero, List.set_cons_succ])
  refine wpAnyH_take (i := 2) (v := ?_) rfl (by kernel_rfl) (by kernel_rfl) (by kernel_rfl) (fun _ _ _ h => h) (Or.inl ⟨by rfl, ?_⟩) (by assumption) ?_
  rotate_left
  · (intro w hSw; (try dsimp only at hSw); go_simp; try with_reducible rfl)
  (try simp only [Act.put, List.getElem_toArray, List.getElem_cons_zero, List.getElem_cons_succ, List.setIfInBounds_toArray, List.set_cons_zero, List.set_cons_succ])
  refine wpAnyH_take (i := 3) (v := ?_) rfl (by kernel_rfl) (by kernel_rfl) (by kernel_rfl) (fun _ _ _ h => h) (Or.inl ⟨by rfl, ?_⟩) (by assumption) ?_
  rotate_left
  · (intro w hSw; (try dsimp only at hSw); go_simp; try with_reducible rfl)
  (try simp only [Act.put, List.getElem_toArray, List.getElem_cons_zero, List.getElem_cons_succ, List.setIfInBounds_toArray, List.set_cons_zero, List.set_cons_succ])
  refine wpAnyH_take (i := 4) (v := ?_) rfl (by kernel_rfl) (by kernel_rfl) (by kernel_rfl) (fun _ _ _ h => h) (Or.inl ⟨by rfl, ?_⟩) (by assumption) ?_
  rotate_left
  · (intro w hSw; (try dsimp only at hSw); go_simp; try with_reducible rfl)
  (try simp only [Act.put, List.getElem_toArray, List.getElem_cons_zero, List.getElem_cons_succ, List.setIfInBounds_toArray, List.set_cons_zero, List.set_cons_succ])
  refine wpAnyH_take (i := 5) (v := ?_) rfl (by kernel_rfl) (by kernel_rfl) (by kernel_rfl) (fun _ _ _ h => h) (Or.inl ⟨by rfl, ?_⟩) (by assumption) ?_
  rotate_left
  · (intro w hSw; (try dsimp only at hSw); go_simp; try with_reducible rfl)
  (try simp only [Act.put, List.getElem_toArray, List.getElem_cons_zero, List.getElem_cons_succ, List.setIfInBounds_toArray, List.set_cons_zero, List.set_cons_succ])
  refine wpAnyH_ready (rs := [6]) (by kernel_rfl) (by simp) ?_
  refine AllReadyH.cons (o := _) rfl (fun K hK => ?_) AllReadyH.nil
  go_simp
  refine (HF.out _).mono ?_
  rintro e y1 ⟨rfl, rfl⟩
  clear hHeld
  refine hK.out _ _ trivial (fun hHeld => ?_)
  clear hK K
  (try simp only [Act.put, List.getElem_toArray, List.getElem_cons_zero, List.getElem_cons_succ, List.setIfInBounds_toArray, List.set_cons_zero, List.set_cons_succ])
  refine wpAnyH_take (i := 7) (v := ?_) rfl (by kernel_rfl) (by kernel_rfl) (by kernel_rfl) (fun _ _ _ h => h) (Or.inl ⟨by rfl, ?_⟩) (by assumption) ?_
  rotate_left
  · (intro w hSw; (try dsimp only at hSw); go_simp; try with_reducible rfl)
  (try simp only [Act.put, List.getElem_toArray, List.getElem_cons_zero, List.getElem_cons_succ, List.setIfInBounds_toArray, List.set_cons_zero, List.set_cons_succ])
  refine wpAnyH_take (i := 8) (v := ?_) rfl (by kernel_rfl) (by kernel_rfl) (by kernel_rfl) (fun _ _ _ h => h) (Or.inl ⟨by rfl, ?_⟩) (by assumption) ?_
  rotate_left
  · (intro w hSw; (try dsimp only at hSw); go_simp; try with_reducible rfl)
  (try simp only [Act.put, List.getElem_toArray, List.getElem_cons_zero, List.getElem_cons_succ, List.setIfInBounds_toArray, List.set_cons_zero, List.set_cons_succ])
  refine wpAnyH_done (by kernel_rfl) ?_ _
  clear hHeld
  clear hcut HF hmc hmc2
  have hgd : Good c2 caps L := good_of hmay hcln (by omega)
  have HG := Lib.hid hgd
  clear hgd
  have hi3 : i < (n2 : Int) := by omega
  obtain ⟨k, rfl⟩ : ∃ k : Nat, i = (k : Int) := ⟨i.toNat, by omega⟩
  have hkn : k < n2 := by omega
  have h01 : ¬ (k : Int) < 0 := by omega
  have h02 : ¬ (n2 : Int) ≤ (k : Int) := by omega
  clear hi hi2 hi3
  go_wp2_with fail
  refine (Of_ok ca c2 cc caps a n2 c L k _ C_1.out E_1.out HG.out hkn).mono ?_
  rintro e y2 ⟨ao, no, co, rfl, hO, hb⟩
  have C_2 := Lib.hid (Ints.below C_1.out hb)
  have E_2 := Lib.hid (Evs.below E_1.out hb)
  have B_2 := Lib.hid (B_1.out.trans (Below.mono hb B_1.out.size))
  clear hb C_1 E_1 B_1
  have HO := Lib.hid hO
  clear hO
  go_wp2_with fail
  refine (All_ok ca c2 cc caps a n2 c L _ C_2.out E_2.out HG.out).mono ?_
  rintro e y3 ⟨R, rfl, hS, hb⟩
  have C_3 := Lib.hid (Ints.below C_2.out hb)
  have E_3 := Lib.hid (Evs.below E_2.out hb)
  have B_3 := Lib.hid (B_2.out.trans (Below.mono hb B_2.out.size))
  have O_3 := Lib.hid (Ints.below HO.out hb)
  clear hb C_2 E_2 B_2 HO
  have HS := Lib.hid hS
  clear hS
  go_wp2_with fail
  refine (May_is ca c2 cc caps a n2 c L _ C_3.out E_3.out (by omega) _ hmay).mono ?_
  rintro e y4 ⟨rfl, hb⟩
  have C_4 := Lib.hid (Ints.below C_3.out hb)
  have E_4 := Lib.hid (Evs.below E_3.out hb)
  have B_4 := Lib.hid (B_3.out.trans (Below.mono hb B_3.out.size))
  have O_4 := Lib.hid (Ints.below O_3.out hb)
  have S_4 := Lib.hid (Sls.below HS.out hb)
  clear hb C_3 E_3 B_3 O_3 HS
  go_wp2_with fail
  refine (alive_any _).mono ?_
  rintro e y5 ⟨rfl, hb⟩
  have C_5 := Lib.hid (Ints.below C_4.out hb)
  have E_5 := Lib.hid (Evs.below E_4.out hb)
  have B_5 := Lib.hid (B_4.out.trans (Below.mono hb B_4.out.size))
  have O_5 := Lib.hid (Ints.below O_4.out hb)
  have S_5 := Lib.hid (Sls.below S_4.out hb)
  clear hb C_4 E_4 B_4 O_4 S_4
  go_wp2_with fail
  go_loopw [70] (fun j wr => ∃ q : Nat, q ≤ n2 ∧ j = .int .i64 q ∧ Below y5.heap.size y5 wr) (fun j _ => n2 - (intOf j).toNat)
  case atStart => exact ⟨0, Nat.zero_le _, rfl, Below.refl _ _⟩
  case round =>
    obtain ⟨q, hq, rfl, hb⟩ := hrel
    have HH0 := Lib.hid hb
    have C_6 := Lib.hid (Ints.below C_5.out hb)
    have E_6 := Lib.hid (Evs.below E_5.out hb)
    have B_6 := Lib.hid (B_5.out.trans (Below.mono hb B_5.out.size))
    have O_6 := Lib.hid (Ints.below O_5.out hb)
    have S_6 := Lib.hid (Sls.below S_5.out hb)
    clear hb C_5 E_5 B_5 O_5 S_5
    by_cases hlt : q < n2
    · have hlt' : (q : Int) < (n2 : Int) := by omega
      obtain ⟨xs, xs1, hx2, hx3, hx4⟩ := S_6.out
      obtain ⟨ar, nr, cr, hx5, hR⟩ := hx4 q hlt
      have hX : Cl wr ⟨R, q, none⟩ (.slice ar nr cr) := Bx.cell hx2 q (by simpa using hx5)
      clear hx2 hx3 hx4 hx5 xs1 xs
      have HX := Lib.hid hX
      clear hX
      have HY := Lib.hid hR
      clear hR
      go_upto_region 11 with (fail)
      have hb : Below wr.heap.size wr wr.drew := (Below.refl _ _).drew
      have C_7 := Lib.hid (Ints.below C_6.out hb)
      have E_7 := Lib.hid (Evs.below E_6.out hb)
      have B_7 := Lib.hid (B_6.out.trans (Below.mono hb B_6.out.size))
      have O_7 := Lib.hid (Ints.below O_6.out hb)
      have S_7 := Lib.hid (Sls.below S_6.out hb)
      have H_7 := Lib.hid (HH0.out.trans (Below.mono hb HH0.out.size))
      have X_7 := Lib.hid (Cl.below HX.out hb)
      have Y_7 := Lib.hid (Ints.below HY.out hb)
      clear hb C_6 E_6 B_6 O_6 S_6 HH0 HX HY
      refine wp_region_held_drew (S := (fun V => V.cell? ⟨R, q, none⟩ = some (.slice ar nr cr))) (by kernel_rfl) (X_7.out) (fun hHeld => ?_)
      (try simp only [Act.put, List.getElem_toArray, List.getElem_cons_zero, List.getElem_cons_succ, List.setIfInBounds_toArray, List.set_cons_zero, List.set_cons_succ])
      refine wpAnyH_take (i := 0) (v := ?_) rfl (by kernel_rfl) (by kernel_rfl) (by kernel_rfl) (fun _ _ _ h => h) (Or.inl ⟨by rfl, ?_⟩) (by assumption) ?_
      rotate_left
      · (intro w hSw; (try dsimp only at hSw); go_simp; try with_reducible rfl)
      (try simp only [Act.put, List.getElem_toArray, List.getElem_cons_zero, List.getElem_cons_succ, List.setIfInBounds_toArray, List.set_cons_zero, List.set_cons_succ])
      refine wpAnyH_take (i := 1) (v := ?_) rfl (by kernel_rfl) (by kernel_rfl) (by kernel_rfl) (fun _ _ _ h => h) (Or.inl ⟨by rfl, ?_⟩) (by assumption) ?_
      rotate_left
      · (intro w hSw; (try dsimp only at hSw); go_simp; try with_reducible rfl)
      (try simp only [Act.put, List.getElem_toArray, List.getElem_cons_zero, List.getElem_cons_succ, List.setIfInBounds_toArray, List.set_cons_zero, List.set_cons_succ])
      refine wpAnyH_take (i := 2) (v := ?_) rfl (by kernel_rfl) (by kernel_rfl) (by kernel_rfl) (fun _ _ _ h => h) (Or.inl ⟨by rfl, ?_⟩) (by assumption) ?_
      rotate_left
      · (intro w hSw; (try dsimp only at hSw); go_simp; try with_reducible rfl)
      (try simp only [Act.put, List.getElem_toArray, List.getElem_cons_zero, List.getElem_cons_succ, List.setIfInBounds_toArray, List.set_cons_zero, List.set_cons_succ])
      refine wpAnyH_take (i := 3) (v := ?_) rfl (by kernel_rfl) (by kernel_rfl) (by kernel_rfl) (fun _ _ _ h => h) (Or.inl ⟨by rfl, ?_⟩) (by assumption) ?_
      rotate_left
      · (intro w hSw; (try dsimp only at hSw); go_simp; try with_reducible rfl)
      (try simp only [Act.put, List.getElem_toArray, List.getElem_cons_zero, List.getElem_cons_succ, List.setIfInBounds_toArray, List.set_cons_zero, List.set_cons_succ])
      refine wpAnyH_take (i := 4) (v := ?_) rfl (by kernel_rfl) (by kernel_rfl) (by kernel_rfl) (fun _ _ _ h => h) (Or.inl ⟨by rfl, ?_⟩) (by assumption) ?_
      rotate_left
      · (intro w hSw; (try dsimp only at hSw); go_simp; try with_reducible rfl)
      (try simp only [Act.put, List.getElem_toArray, List.getElem_cons_zero, List.getElem_cons_succ, List.setIfInBounds_toArray, List.set_cons_zero, List.set_cons_succ])
      refine wpAnyH_take (i := 5) (v := ?_) rfl (by kernel_rfl) (by kernel_rfl) (by kernel_rfl) (fun _ _ _ h => h) (Or.inl ⟨by rfl, ?_⟩) (by assumption) ?_
      rotate_left
      · (intro w hSw; (try dsimp only at hSw); go_simp; try with_reducible rfl)
      (try simp only [Act.put, List.getElem_toArray, List.getElem_cons_zero, List.getElem_cons_succ, List.setIfInBounds_toArray, List.set_cons_zero, List.set_cons_succ])
      refine wpAnyH_take (i := 6) (v := ?_) rfl (by kernel_rfl) (by kernel_rfl) (by kernel_rfl) (fun _ _ _ h => h) (Or.inl ⟨by rfl, ?_⟩) (by assumption) ?_
      rotate_left
      · (intro w hSw; (try dsimp only at hSw); go_simp; try with_reducible rfl)
      (try simp only [Act.put, List.getElem_toArray, List.getElem_cons_zero, List.getElem_cons_succ, List.setIfInBounds_toArray, List.set_cons_zero, List.set_cons_succ])
      refine wpAnyH_ready (rs := [7]) (by kernel_rfl) (by simp) ?_
      refine AllReadyH.cons (o := _) rfl (fun K hK => ?_) AllReadyH.nil
      go_simp
      refine (refOf_any ca c2 cc caps a n2 c L q _ C_7.out E_7.out hlt HG.out).mono ?_
      rintro e y6 ⟨aq, nq, cq, rfl, hQ, hb⟩
      have C_8 := Lib.hid (Ints.below C_7.out hb)
      have E_8 := Lib.hid (Evs.below E_7.out hb)
      have B_8 := Lib.hid (B_7.out.trans (Below.mono hb B_7.out.size))
      have O_8 := Lib.hid (Ints.below O_7.out hb)
      have S_8 := Lib.hid (Sls.below S_7.out hb)
      have H_8 := Lib.hid (H_7.out.trans (Below.mono hb H_7.out.size))
      have X_8 := Lib.hid (Cl.below X_7.out hb)
      have Y_8 := Lib.hid (Ints.below Y_7.out hb)
      clear hb C_7 E_7 B_7 O_7 S_7 H_7 X_7 Y_7
      have HQ := Lib.hid hQ
      clear hQ

      clear hHeld
      refine hK.out _ _ (X_8.out) (fun hHeld => ?_)
      clear hK K
      (try simp only [Act.put, List.getElem_toArray, List.getElem_cons_zero, List.getElem_cons_succ, List.setIfInBounds_toArray, List.set_cons_zero, List.set_cons_succ])
      refine wpAnyH_ready (rs := [8]) (by kernel_rfl) (by simp) ?_
      refine AllReadyH.cons (o := _) rfl (fun K hK => ?_) AllReadyH.nil
      go_simp
      refine (Rows_same ar nr cr _ aq nq cq _ Y_8.out HQ.out).mono ?_
      rintro e y7 ⟨rfl, hb⟩
      have C_9 := Lib.hid (Ints.below C_8.out hb)
      have E_9 := Lib.hid (Evs.below E_8.out hb)
      have B_9 := Lib.hid (B_8.out.trans (Below.mono hb B_8.out.size))
      have O_9 := Lib.hid (Ints.below O_8.out hb)
      have S_9 := Lib.hid (Sls.below S_8.out hb)
      have H_9 := Lib.hid (H_8.out.trans (Below.mono hb H_8.out.size))
      have X_9 := Lib.hid (Cl.below X_8.out hb)
      have Y_9 := Lib.hid (Ints.below Y_8.out hb)
      have Q_9 := Lib.hid (Ints.below HQ.out hb)
      clear hb C_8 E_8 B_8 O_8 S_8 H_8 X_8 Y_8 HQ
      clear hHeld
      refine hK.out _ _ (X_9.out) (fun hHeld => ?_)
      clear hK K
      (try simp only [Act.put, List.getElem_toArray, List.getElem_cons_zero, List.getElem_cons_succ, List.setIfInBounds_toArray, List.set_cons_zero, List.set_cons_succ])
      refine wpAnyH_take (i := 9) (v := ?_) rfl (by kernel_rfl) (by kernel_rfl) (by kernel_rfl) (fun _ _ _ h => h) (Or.inl ⟨by rfl, ?_⟩) (by assumption) ?_
      rotate_left
      · (intro w hSw; (try dsimp only at hSw); go_simp; try with_reducible rfl)
      (try simp only [Act.put, List.getElem_toArray, List.getElem_cons_zero, List.getElem_cons_succ, List.setIfInBounds_toArray, List.set_cons_zero, List.set_cons_succ])
      refine wpAnyH_done (by kernel_rfl) ?_ _
      clear hHeld
      go_wp2_with fail
      go_roundw
      case rel => exact ⟨q + 1, by omega, by go_num, H_9.out⟩
      case measure => simp [intOf]; omega
    · have hqe : q = n2 := by omega
      subst hqe
      go_wp2_with fail
      refine (refOf_any ca c2 cc caps a q c L k _ C_6.out E_6.out hkn HG.out).mono ?_
      rintro e y6 ⟨aq, nq, cq, rfl, hQ, hb⟩
      have C_7 := Lib.hid (Ints.below C_6.out hb)
      have E_7 := Lib.hid (Evs.below E_6.out hb)
      have B_7 := Lib.hid (B_6.out.trans (Below.mono hb B_6.out.size))
      have O_7 := Lib.hid (Ints.below O_6.out hb)
      have S_7 := Lib.hid (Sls.below S_6.out hb)
      have H_7 := Lib.hid (HH0.out.trans (Below.mono hb HH0.out.size))
      clear hb C_6 E_6 B_6 O_6 S_6 HH0
      have HQ := Lib.hid hQ
      clear hQ
      go_wp2_with fail
      refine (Rows_same ao no co _ aq nq cq _ O_7.out HQ.out).mono ?_
      rintro e y7 ⟨rfl, hb⟩
      have C_8 := Lib.hid (Ints.below C_7.out hb)
      have E_8 := Lib.hid (Evs.below E_7.out hb)
      have B_8 := Lib.hid (B_7.out.trans (Below.mono hb B_7.out.size))
      have O_8 := Lib.hid (Ints.below O_7.out hb)
      have S_8 := Lib.hid (Sls.below S_7.out hb)
      have H_8 := Lib.hid (H_7.out.trans (Below.mono hb H_7.out.size))
      have Q_8 := Lib.hid (Ints.below HQ.out hb)
      clear hb C_7 E_7 B_7 O_7 S_7 H_7 HQ
      go_wp2_with fail
      go_ret
      exact ⟨ret_bool (by first | rfl | simp), B_8.out⟩
theorem tells_any (ca : Option Addr) (cn cc : Nat) (caps0 : List Int) (a : Option Addr) (n c : Nat) (L0 : List Ev) (i : Int) (w : World) (hC : Ints w ca cn cc caps0) (hE : Evs w a n c L0) :
    Calls Try.prog 3 #[.slice ca cn cc, .slice a n c, .int .i64 i] w (Says w) := by
  cases hmay : mayE (caps0.take 6) (L0.take 120) with
  | false => exact tells_bad ca cn cc caps0 a n c L0 i w hC hE hmay
  | true =>
    by_cases hi : i < 0
    · exact tells_ok_neg ca cn cc caps0 a n c L0 i w hC hE hmay hi
    · by_cases hi2 : ((min n 120 : Nat) : Int) ≤ i
      · exact tells_ok_big ca cn cc caps0 a n c L0 i w hC hE hmay hi hi2
      · exact tells_ok_in ca cn cc caps0 a n c L0 i w hC hE hmay hi hi2
end Go.Proofs.Ytjkbmenmpnidhaa
/- What came in: slices of numbers and of events. -/
namespace Go.Proofs.Ytjkbmenmpnidhaa
open Go.ChangeShapes Go.WideShapes Go.ChangeAt Go.RowKit Go.Joins Go.Deep
set_option linter.unusedSimpArgs false
set_option linter.unusedVariables false

section
variable {H : Type} {enc : TypeId × Value → H} {P : Program} {w : World} {base : Nat} {spare : Nat → Bool} {held : Bool}
theorem open_slice_cells {t e : TypeId} {fuel : Nat} {cs : List Value} {x : DataW H × List MemPlace} (ht : P.underlying t = some (.slice e)) (h : DataW.trod enc P w base spare held fuel t cs = some x) :
    (cs = [.slice none 0 0]) ∨
    ∃ (a : Addr) (len cap : Nat), cs = [.slice (some a) len cap] ∧ len ≤ cap ∧ cap ≤ maxLen ∧
      ∀ i, i < len → ∃ (cs' : List Value) (y : DataW H × List MemPlace) (n : Nat), cs'.length = P.cellsOf e ∧ (∀ (j : Nat) u, cs'[j]? = some u → w.cell? (a.add (i * P.cellsOf e + j)) = some u) ∧ DataW.trod enc P w base spare held n e cs' = some y := by
  rcases open_slice ht h with h0 | ⟨a, len, cap, m, n, D, Pl, hcs, hb, hl, hm, hmm, hx, hi⟩
  · exact .inl h0.1
  · refine .inr ⟨a, len, cap, hcs, hl, hm, fun i him => ?_⟩
    obtain ⟨cs', hc, ht'⟩ := hi i (by rw [hmm]; split <;> omega)
    obtain ⟨_, hcl, hat⟩ := World.cells?_some hc
    refine ⟨cs', _, _, hcl, fun j u hu => ?_, ht'⟩
    have hj : j < cs'.length := (List.getElem?_eq_some_iff.1 hu).1
    rw [← Go.Deep.add_add, hat j (by omega), hu]
theorem struct_cells {e : TypeId} {fs : Array Field} {fuel : Nat} {cs : List Value} {x : DataW H × List MemPlace} (he : P.underlying e = some (.struct fs)) (hone : oneCellFields P fs = true) (hl : cs.length = fs.size)
    (h : DataW.trod enc P w base spare held fuel e cs = some x) : ∀ (j : Nat) (f : Field), fs[j]? = some f → ∃ (v : Value) (y : DataW H × List MemPlace) (n : Nat), cs[j]? = some v ∧ DataW.trod enc P w base spare held n f.type [v] = some y := by
  intro j f hj
  obtain ⟨ys, n', hn', hy, hlen, hyl, hf⟩ := DataW.trod_struct he h
  obtain ⟨ho, hk⟩ := hone_of hone j f hj
  have hjl : j < fs.size := (Array.getElem?_eq_some_iff.1 hj).1
  have h1 := hf j f hj
  rw [ho, hk] at h1
  have hone' : (cs.drop j).take 1 = [cs[j]'(by omega)] := by
    rw [List.drop_eq_getElem_cons (by omega)]
    rfl
  rw [hone'] at h1
  have hys : ys[j]? = some (ys[j]'(by omega)) := List.getElem?_eq_getElem (by omega)
  exact ⟨_, _, _, List.getElem?_eq_getElem (by omega), h1.trans hys⟩
theorem agg_cells {r : Reach} {b0 : Nat} {t : TypeId} {fs : Array Field} {v : Value} {d : DataW H} {p : List MemPlace} (hs : P.underlying t = some (.struct fs)) (hone : oneCellFields P fs = true) (hC : P.cellsOf t = fs.size)
    (hv : Value.okWide P w r b0 t v) (h : DataW.Trod enc P w base spare held t v d p) :
    ∃ cs : Array Value, v = .agg cs ∧ cs.size = fs.size ∧ ∀ (j : Nat) (f : Field), fs[j]? = some f → ∃ (u : Value) (y : DataW H × List MemPlace) (n : Nat), cs.toList[j]? = some u ∧ DataW.trod enc P w base spare held n f.type [u] = some y := by
  obtain ⟨cs, rfl, hsz⟩ := okWide_struct hs hv
  obtain ⟨fuel, hf⟩ := h
  exact ⟨cs, rfl, hsz.trans hC, struct_cells hs hone (by simpa using hsz.trans hC) (by simpa [Value.cells] using hf)⟩
end
theorem recs_of {α : Type} {k : Nat} {enc : α → List Value} (hk : ∀ x, (enc x).length = k) (h0 : 0 < k) {w : World} {a : Addr} {len cap : Nat} (hl : len ≤ cap) (hm : cap ≤ maxLen) (P : α → Prop)
    (key : ∀ i, i < len → ∃ x, P x ∧ ∀ j u, (enc x)[j]? = some u → w.cell? (a.add (i * k + j)) = some u) : ∃ L, Recs k enc w (some a) len cap L ∧ ∀ x ∈ L, P x := by
  classical
  refine ⟨List.ofFn (fun i : Fin len => Classical.choose (key i i.2)), ⟨by simp, hl, hm, fun e => by simp at e, fun i x hx => ?_⟩, fun x hx => ?_⟩
  · have hi : i < len := by have := (List.getElem?_eq_some_iff.1 hx).1; simpa using this
    have hx' : x = Classical.choose (key i hi) := by simp [hi] at hx; exact hx.symm
    have hc := (Classical.choose_spec (key i hi)).2
    rw [← hx'] at hc
    obtain ⟨b, off, spot⟩ := a
    have hspot : spot = none := by
      obtain ⟨z, _, hz⟩ := key 0 (by omega)
      have h1 := hz 0 _ (List.getElem?_eq_getElem (by rw [hk]; exact h0))
      rw [Nat.zero_mul] at h1
      simpa [Addr.add] using World.cell?_spot h1
    subst hspot
    refine ⟨b, off, rfl, fun j u hu => ?_⟩
    have := hc j u hu
    rw [Addr.add_lit, ← Nat.add_assoc] at this
    exact this
  · obtain ⟨i, rfl⟩ := List.mem_ofFn.1 hx
    exact (Classical.choose_spec (key i i.2)).1

section
variable {H : Type} {enc : TypeId × Value → H} {w : World} {base : Nat} {spare : Nat → Bool} {held : Bool}
theorem ints_open {fuel : Nat} {v : Value} {x : DataW H × List MemPlace}
    (h : DataW.trod enc Try.prog w base spare held fuel 22 [v] = some x) : ∃ a len cap l, v = .slice a len cap ∧ Ints w a len cap l := by
  rcases open_ints Try.underlying22 Try.underlying3 (by kernel_rfl) h with ⟨hcs, _⟩ | ⟨a, l, c, zs, hcs, _, hl, hm, hz, _, hcell, hwz⟩
  · simp only [List.cons.injEq, and_true] at hcs
    exact ⟨none, 0, 0, [], hcs, Ints.nil w⟩
  · simp only [List.cons.injEq, and_true] at hcs
    have hzl : l ≤ zs.length := by rw [hz]; split <;> omega
    have hlen : (zs.take l).length = l := by rw [List.length_take]; omega
    have hen : ∀ i, i < l → en (zs.take l) i = zs.getD i 0 := by
      intro i hi
      rw [en_get _ i (by omega), List.getElem_take]
      rw [List.getD_eq_getElem?_getD, List.getElem?_eq_getElem (by omega)]; rfl
    obtain ⟨b, off, spot⟩ := a
    refine ⟨some ⟨b, off, spot⟩, l, c, zs.take l, hcs, hlen, hl, hm, fun e => by simp at e, fun i => ?_, fun i hi => ?_⟩
    · by_cases hi : i < l
      · rw [en_get _ i (by omega)]
        exact wf_i64_bounds (hwz _ (List.mem_of_mem_take (List.getElem_mem _)))
      · rw [en_of_le _ i (by omega)]; exact ⟨by omega, by omega⟩
    · have hc := hcell i (by omega)
      have hspot : spot = none := by simpa [Addr.add] using World.cell?_spot (hcell 0 (by omega))
      subst hspot
      refine ⟨b, off, rfl, ?_⟩
      rw [Addr.add_lit] at hc
      rw [hen i hi]; exact hc

theorem cells48 : Try.prog.cellsOf 48 = 5 := by kernel_rfl
theorem evs_open {fuel : Nat} {v : Value} {x : DataW H × List MemPlace} (h : DataW.trod enc Try.prog w base spare held fuel 23 [v] = some x) : ∃ a len cap L, v = .slice a len cap ∧ Evs w a len cap L := by
  rcases open_slice_cells Try.underlying23 h with hcs | ⟨a, len, cap, hcs, hl, hm, hf⟩
  · simp only [List.cons.injEq, and_true] at hcs
    exact ⟨none, 0, 0, [], hcs, Evs.nil w⟩
  · simp only [List.cons.injEq, and_true] at hcs
    rw [cells48] at hf
    have key : ∀ i, i < len → ∃ x : Ev, EvOk x ∧ ∀ j u, (encE x)[j]? = some u → w.cell? (a.add (i * 5 + j)) = some u := by
      intro i hi
      obtain ⟨cs', y, n, hcl, hcell, ht⟩ := hf i hi
      have hS := struct_cells Try.underlying48 (by kernel_rfl) (by rw [hcl]; rfl) ht
      obtain ⟨v0, y0, n0, c0, t0⟩ := hS 0 _ rfl
      obtain ⟨m0, e0, _, b0⟩ := DataW.trod_int Try.underlying3 t0
      simp only [List.cons.injEq, and_true] at e0
      subst e0
      have d0 := hcell 0 _ c0
      obtain ⟨v1, y1, n1, c1, t1⟩ := hS 1 _ rfl
      obtain ⟨m1, e1, _, b1⟩ := DataW.trod_int Try.underlying3 t1
      simp only [List.cons.injEq, and_true] at e1
      subst e1
      have d1 := hcell 1 _ c1
      obtain ⟨v2, y2, n2, c2, t2⟩ := hS 2 _ rfl
      obtain ⟨m2, e2, _, b2⟩ := DataW.trod_int Try.underlying3 t2
      simp only [List.cons.injEq, and_true] at e2
      subst e2
      have d2 := hcell 2 _ c2
      obtain ⟨v3, y3, n3, c3, t3⟩ := hS 3 _ rfl
      obtain ⟨m3, e3, _, b3⟩ := DataW.trod_int Try.underlying3 t3
      simp only [List.cons.injEq, and_true] at e3
      subst e3
      have d3 := hcell 3 _ c3
      obtain ⟨v4, y4, n4, c4, t4⟩ := hS 4 _ rfl
      obtain ⟨m4, e4, _, b4⟩ := DataW.trod_int Try.underlying3 t4
      simp only [List.cons.injEq, and_true] at e4
      subst e4
      have d4 := hcell 4 _ c4
      refine ⟨⟨m0, m1, m2, m3, m4⟩, ⟨wf_i64_bounds b0, wf_i64_bounds b1, wf_i64_bounds b2, wf_i64_bounds b3, wf_i64_bounds b4⟩, fun j u hu => ?_⟩
      match j, hu with
      | 0, hu => simp [encE] at hu; subst hu; exact d0
      | 1, hu => simp [encE] at hu; subst hu; exact d1
      | 2, hu => simp [encE] at hu; subst hu; exact d2
      | 3, hu => simp [encE] at hu; subst hu; exact d3
      | 4, hu => simp [encE] at hu; subst hu; exact d4
    obtain ⟨L, hL, hP⟩ := recs_of (k := 5) (enc := encE) encE_len (by decide) hl hm EvOk key
    exact ⟨some a, len, cap, L, hcs, hL, hP⟩
end
end Go.Proofs.Ytjkbmenmpnidhaa
/- EdgesTell returns true for all arguments, and leaves them as they were. No conditions. -/
namespace Go.Proofs.Ytjkbmenmpnidhaa.edgesTell
open Go.ChangeShapes Go.WideShapes Go.ChangeAt Go.RowKit
open Go.ChangeMaps (open_string shut_string)
set_option linter.unusedVariables false

theorem own : ownKnob Try.prog.godebug = none := by kernel_rfl
theorem laidOut : laidOutB Try.prog = true := by kernel_rfl

/-! the row -/
set_option maxRecDepth 100000 in
theorem lifted (os : Os) (started : os.Started) (H : Type) (enc : TypeId × Value → H) :
    ReturnsInHanded {} Try.checked os 3 .any (Rows.edgesTellSpec.pre6 enc Try.prog Try.f3 Rows.edgesTellRow.domain false) (Rows.edgesTellSpec.post enc Try.prog Try.f3 false true false false) := by
  refine returnsInHanded_of_change (C := Try.checked) own started (by kernel_rfl) Try.func3
    (ChangeSpec.witness6 (enc := enc) (C := Try.checked) false ⟨#[], #[.slice none 0 0, .slice none 0 0, .int .i64 0], []⟩ 8 (by kernel_rfl) (by kernel_rfl) (by kernel_rfl) (by kernel_rfl)) ?_
  intro W base args ds gs before hval0 hW hcnd _
  have hval : ∀ (j : Nat) t v, Try.f3.params[j]? = some t → args[j]? = some v → Value.okWide Try.prog W .any base t v := hval0
  have hW' := hW
  obtain ⟨p, q, hA0, hV, rfl, hfz, hnd⟩ := hW
  have hA : DataW.TrodAll enc Try.prog W 0 (fun _ => true) true Try.f3.params.toList args.toList ds p := hA0
  rw [Try.params3] at hA hval
  obtain ⟨v0, vs0, d0, ds0, p0, q0, hargs, rfl, rfl, h0, r0⟩ := trodAll_cons hA
  obtain ⟨v1, vs1, d1, ds1, p1, q1, rfl, rfl, rfl, h1, r1⟩ := trodAll_cons r0
  obtain ⟨v2, vs2, d2, ds2, p2, q2, rfl, rfl, rfl, h2, r2⟩ := trodAll_cons r1
  obtain ⟨rfl, rfl, rfl⟩ := trodAll_nil r2
  obtain rfl : args = #[v0, v1, v2] := by cases args; simp_all
  obtain ⟨rfl, rfl⟩ := trodVars_none hV
  have lt0 : ∀ x ∈ p0, x.block < W.heap.size := by obtain ⟨m, hm⟩ := h0; exact DataW.trod_lt m _ _ _ hm
  have lt1 : ∀ x ∈ p1, x.block < W.heap.size := by obtain ⟨m, hm⟩ := h1; exact DataW.trod_lt m _ _ _ hm
  have lt2 : ∀ x ∈ p2, x.block < W.heap.size := by obtain ⟨m, hm⟩ := h2; exact DataW.trod_lt m _ _ _ hm
  have i0 : ∃ a n c l, v0 = .slice a n c ∧ Ints W a n c l := by obtain ⟨a, l, c, rfl⟩ := okWide_slice Try.underlying22 (hval 0 22 v0 rfl rfl); obtain ⟨m, hm⟩ := h0; exact ints_open hm
  obtain ⟨a0, n0, c0, l0, rfl, w0⟩ := i0
  have i1 : ∃ a n c L, v1 = .slice a n c ∧ Evs W a n c L := by obtain ⟨a, l, c, rfl⟩ := okWide_slice Try.underlying23 (hval 1 23 v1 rfl rfl); obtain ⟨m, hm⟩ := h1; exact evs_open hm
  obtain ⟨a1, n1, c1, L1, rfl, w1⟩ := i1
  have i2 : ∃ n : Int, v2 = .int .i64 n ∧ I64 n := by obtain ⟨n, e, _, _, w⟩ := open_int Try.underlying3 (hval 2 3 v2 rfl rfl) h2; exact ⟨n, e, wf_i64_bounds w⟩
  obtain ⟨n2, rfl, w2⟩ := i2
  clear hA0 hval0
  refine (tells_any a0 n0 c0 l0 a1 n1 c1 L1 n2 W w0 w1).mono fun e W' ⟨he, bel⟩ => ?_
  subst he
  exact ⟨_, rfl, _, _, _, [], _, [], hW', trodAll_mk1 (shut_bool Try.underlying4 _), (trodAll_cons_mk (Below.trod laidOut (by kernel_rfl) (of_decide_eq_true (by kernel_rfl)) h0 bel lt0) (trodAll_cons_mk (Below.trod laidOut (by kernel_rfl) (of_decide_eq_true (by kernel_rfl)) h1 bel lt1) (trodAll_cons_mk (Below.trod laidOut (by kernel_rfl) (of_decide_eq_true (by kernel_rfl)) h2 bel lt2) trodAll_mk0))), rfl, bel.frame _, fun h => by cases h⟩

theorem over : Rows.edgesTellRow.holds Try.pinned (OpenSpec.ofChange Rows.edgesTellSpec) :=
  OpenClaim.holds_of_wide 3 Try.f3 rfl rfl rfl rfl rfl rfl rfl ⟨rfl, rfl, rfl, rfl, rfl⟩ rfl rfl rfl rfl rfl (by kernel_rfl) Try.func3 (by kernel_rfl)
    (of_decide_eq_true (by kernel_rfl)) (by unfold Func.isWrapper; first | (rw [if_pos (by decide +kernel)]; kernel_rfl) | (rw [if_neg (by decide +kernel)]; exact ⟨rfl, rfl⟩))
    (fun os started H enc _ => lifted os started H enc)

/-- the statement -/
theorem proved : Rows.EdgesTellSaid := over
#print axioms proved
end Go.Proofs.Ytjkbmenmpnidhaa.edgesTell
