/- The reference: May, Has, Right, First. -/
import Derived.Test.YtfolhgpbplfilaaFirst
import Derived.Deep.RegionHeld3
import Derived.Deep.DeepCutAuto
namespace Go.Proofs.Ytfolhgpbplfilaa
open Go.RowKit

theorem box3_two (w : World) (A : Obj) (x : Wt) : Box3 ((w.alloc A).alloc (.cells #[.int .i64 x.g, .int .i64 x.c, .int .i64 x.s] 48)) (w.heap.size + 1) x := by
  have := Box3.new (w.alloc A) x
  rwa [World.size_alloc] at this
def dropW (L : List Wt) (g : Int) : List Wt := L.filter (fun x => x.g != g)
theorem dropW_snoc (L : List Wt) (x : Wt) (g : Int) : dropW (L ++ [x]) g = if (x.g != g) = true then dropW L g ++ [x] else dropW L g := by
  unfold dropW
  rw [List.filter_append]
  by_cases h : (x.g != g) = true
  · rw [if_pos h]; simp [h]
  · rw [if_neg h]; simp at h; simp [h]
theorem dropW_len (L : List Wt) (g : Int) : (dropW L g).length ≤ L.length := List.length_filter_le _ _

set_option maxRecDepth 100000 in
set_option maxHeartbeats 2000000 in
theorem Drop_arg (a : Option Addr) (len cap : Nat) (L : List Wt) (g : Int) (w : World) (hL : Wts w a len cap L) (hbad : rightW L = false ∨ g < 0) :
    Calls Try.prog 54 #[.slice a len cap, .int .i64 g] w (NoL w 1) := by
  have hcm := hL.recs.len_le
  have HR := Lib.hid (fun W (h : Wts W a len cap L) => Right_any a len cap L W h)
  have HL := Lib.hid hL; clear hL
  cases hr : rightW L with
  | false =>
    rw [hr] at HR
    clear hbad hr
    go_enter Try.func54, Try.ntmps54
    go_wp2_with fail
    refine (HR.out _ HL.out).mono ?_
    rintro e w1 ⟨rfl, hb1⟩
    have HB1 := Lib.hid hb1; clear hb1
    go_wp2_with fail
    go_ret2
    exact ⟨rfl, HB1.out⟩
  | true =>
    have hb0 : g < 0 := by rcases hbad with h | h; · rw [hr] at h; simp at h
                           · exact h
    rw [hr] at HR
    clear hbad hr
    go_enter Try.func54, Try.ntmps54
    go_wp2_with fail
    refine (HR.out _ HL.out).mono ?_
    rintro e w1 ⟨rfl, hb1⟩
    have HB1 := Lib.hid hb1; clear hb1
    go_wp2_with fail
    go_ret2
    exact ⟨rfl, HB1.out⟩

set_option maxRecDepth 100000 in
set_option maxHeartbeats 2000000 in
theorem Drop_go (a : Option Addr) (len cap : Nat) (L : List Wt) (g : Int) (w : World) (hL : Wts w a len cap L) (hr : rightW L = true) (hg : 0 ≤ g) (hgI : I64 g) :
    Calls Try.prog 54 #[.slice a len cap, .int .i64 g] w (GotW w (dropW L g)) := by
  have hcm := hL.recs.len_le
  unfold I64 at hgI
  have h64 : len ≤ 64 := by have := (rightW_iff.1 hr).1; rwa [hL.recs.len_eq] at this
  have HLL := Lib.hid hL.recs.len_eq
  have HR := Lib.hid (fun W (h : Wts W a len cap L) => Right_any a len cap L W h)
  rw [hr] at HR
  have HL := Lib.hid hL; clear hL hr
  have HDL := Lib.hid (fun k => Nat.le_trans (dropW_len (L.take k) g) (by rw [List.length_take]; exact Nat.min_le_left k L.length))
  have HOK := Lib.hid HL.out.ok
  go_enter Try.func54, Try.ntmps54
  go_wp2_with fail
  refine (HR.out _ HL.out).mono ?_
  rintro e w1 ⟨rfl, hb1⟩
  have HB1 := Lib.hid hb1
  have HL1 := Lib.hid (HL.out.below hb1)
  clear hb1
  go_wp2_with fail
  go_loopw [6, 18] (fun v i wr => ∃ k : Nat, k ≤ len ∧ i = .int .i64 k ∧ OwnW wr w1.heap.size v (dropW (L.take k) g) ∧ Below w1.heap.size w1 wr) (fun _ i _ => len - (intOf i).toNat)
  case atStart => exact ⟨0, Nat.zero_le _, rfl, ownR_nil _ _, Below.refl _ _⟩
  case round =>
    obtain ⟨k, hk, rfl, hown, hbw⟩ := hrel
    have HO := Lib.hid hown; have HW := Lib.hid hbw
    clear hown hbw
    by_cases hlt : k < len
    · have hlt' : (k : Int) < (len : Int) := by omega
      obtain ⟨x, bb, off, hx, hok, rfl, c0, c1, c2⟩ := (HL1.out.below HW.out).at k hlt
      have HX := Lib.hid (take_snoc' hx)
      have HDS := Lib.hid (dropW_snoc (L.take k) x g)
      clear hx
      cases hgc : (x.g != g) with
      | true =>
        have HN : Hid (dropW (L.take (k + 1)) g = dropW (L.take k) g ++ [x]) := Lib.hid (by rw [HX.out, HDS.out, if_pos hgc])
        go_wp2_with (at_builtin; refine wpList_appR rfl _ _ rfl w1.heap.size _ (dropW (L.take k) g) rfl (OwnR.below HO.out ((below_alloc wr _).alloc (by simp) _)) _ 1 1 [x] rfl (recs_one (box3_two _ _ x)) (by have := HDL.out k; omega) (by omega) (by have := HW.out.size; simp; omega) ?_; intro v' w2 ho hg2)
        have HB2 := Lib.hid (Below.grown (belowX_alloc (belowX_alloc HW.out _) _) hg2.out (by have := HW.out.size; simp; omega) (fun r hr => OwnR.lt HO.out r hr))
        clear hg2
        go_roundw
        case rel => exact ⟨k + 1, by omega, by go_num, by rw [HN.out]; exact ho.out, HB2.out⟩
        case measure => simp [intOf]; omega
      | false =>
        have HN : Hid (dropW (L.take (k + 1)) g = dropW (L.take k) g) := Lib.hid (by rw [HX.out, HDS.out, if_neg (by rw [hgc]; simp)])
        go_wp2_with fail
        go_roundw
        case rel => exact ⟨k + 1, by omega, by go_num, by rw [HN.out]; exact OwnR.below HO.out (below_alloc wr _), belowX_alloc HW.out _⟩
        case measure => simp [intOf]; omega
    · have hkn : k = len := by omega
      subst hkn
      have HT : Hid (L.take k = L) := Lib.hid (List.take_of_length_le (by rw [HLL.out]; exact Nat.le_refl _))
      go_wp2_with fail
      go_ret2
      exact gotW (World.ownsRow.mono' (by have := HO.out; rw [HT.out] at this; exact this) HB1.out.size) (fun y hy => HOK.out y (List.mem_filter.1 hy).1) (HB1.out.trans (Below.mono HW.out HB1.out.size))
end Go.Proofs.Ytfolhgpbplfilaa
namespace Go.Proofs.Ytfolhgpbplfilaa
open Go.RowKit

set_option maxRecDepth 100000 in
theorem refMay_any (x : Wt) (w : World) (hx : WtOk x) : Calls Try.prog 24 #[wV x] w fun e w' => e = .returned (.bool (mayW x)) ∧ Below w.heap.size w w' := by
  obtain ⟨g, c, s⟩ := x
  obtain ⟨h1, h2, h3⟩ := hx
  unfold I64 at h1 h2 h3
  simp only at h1 h2 h3
  have DONE := Lib.hid (fun (b : Bool) (hb : b = mayW ⟨g, c, s⟩) (o : Obj) => (⟨by rw [hb], below_alloc w o⟩ : Ending.returned (.bool b) = .returned (.bool (mayW ⟨g, c, s⟩)) ∧ Below w.heap.size w (w.alloc o)))
  by_cases c1 : 0 ≤ g
  · by_cases c2 : 0 ≤ c
    · by_cases c3 : 0 ≤ s
      all_goals
        have R := Lib.hid (show decide (0 ≤ s) = mayW ⟨g, c, s⟩ by simp [mayW, c1, c2])
        go_enter Try.func24, Try.ntmps24
        go_wp2
        go_ret
        exact DONE.out _ (by rw [← R.out]; simp [c3]) _
    · have R := Lib.hid (show false = mayW ⟨g, c, s⟩ by simp [mayW, c2])
      go_enter Try.func24, Try.ntmps24
      go_wp2
      go_ret
      exact DONE.out _ R.out _
  · have R := Lib.hid (show false = mayW ⟨g, c, s⟩ by simp [mayW, c1])
    go_enter Try.func24, Try.ntmps24
    go_wp2
    go_ret
    exact DONE.out _ R.out _

set_option maxRecDepth 100000 in
set_option maxHeartbeats 2000000 in
theorem refHas_any (a : Option Addr) (len cap : Nat) (L : List Wt) (g c : Int) (w : World) (hL : Wts w a len cap L) :
    Calls Try.prog 55 #[.slice a len cap, .int .i64 g, .int .i64 c] w fun e w' => e = .returned (.bool (hasW L g c)) ∧ Below w.heap.size w w' := by
  have hcm := hL.recs.len_le
  have HLL := Lib.hid hL.recs.len_eq
  have HL := Lib.hid hL; clear hL
  go_enter Try.func55, Try.ntmps55
  go_wp2_with fail
  go_loopw [11] (fun i wr => ∃ k : Nat, k ≤ len ∧ i = .int .i64 k ∧ hasW (L.take k) g c = false ∧ Below w.heap.size w wr) (fun i _ => len - (intOf i).toNat)
  case atStart => exact ⟨0, Nat.zero_le _, rfl, rfl, Below.refl _ _⟩
  case round =>
    obtain ⟨k, hk, rfl, hno, hb⟩ := hrel
    have HN := Lib.hid hno; have HB := Lib.hid hb
    clear hno hb
    by_cases hlt : k < len
    · have hlt' : (k : Int) < (len : Int) := by omega
      obtain ⟨x, b, off, hx, hok, rfl, c0, c1, c2⟩ := (HL.out.below HB.out).at k hlt
      have HX := Lib.hid hx; clear hx
      have HN1 := Lib.hid (hasW_snoc (L.take k) x g c)
      have HBN := Lib.hid (belowX_alloc HB.out (.cells #[.int .i64 x.g, .int .i64 x.c, .int .i64 x.s] 48))
      cases hg : (x.g == g) with
      | true =>
        cases hc : (x.c == c) with
        | true =>
          have R := Lib.hid (show hasW L g c = true from List.any_eq_true.2 ⟨x, List.mem_of_getElem? HX.out, by rw [hg, hc]; rfl⟩)
          go_wp2_with fail
          go_ret
          exact ⟨ret_bool R.out.symm, HBN.out⟩
        | false =>
          have R := Lib.hid (show hasW (L.take (k + 1)) g c = false by rw [take_snoc' HX.out, HN1.out, HN.out, hg, hc]; rfl)
          go_wp2_with fail
          go_roundw
          case rel => exact ⟨k + 1, by omega, by go_num, R.out, HBN.out⟩
          case measure => simp [intOf]; omega
      | false =>
        have R := Lib.hid (show hasW (L.take (k + 1)) g c = false by rw [take_snoc' HX.out, HN1.out, HN.out, hg]; rfl)
        go_wp2_with fail
        go_roundw
        case rel => exact ⟨k + 1, by omega, by go_num, R.out, HBN.out⟩
        case measure => simp [intOf]; omega
    · have hkn : k = len := by omega
      subst hkn
      have R := Lib.hid (show hasW L g c = false by have := HN.out; rwa [List.take_of_length_le (by rw [HLL.out]; exact Nat.le_refl _)] at this)
      go_wp2_with fail
      go_ret
      exact ⟨ret_bool R.out.symm, HB.out⟩

set_option maxRecDepth 100000 in
set_option maxHeartbeats 4000000 in
theorem refRight_any (a : Option Addr) (len cap : Nat) (L : List Wt) (w : World) (hL : Wts w a len cap L) :
    Calls Try.prog 33 #[.slice a len cap] w fun e w' => e = .returned (.bool (rightW L)) ∧ Below w.heap.size w w' := by
  have hcm := hL.recs.len_le
  have hlc := hL.recs.le_cap
  have hcc := hL.recs.cap_le
  unfold maxLen at hcc
  have HLL := Lib.hid hL.recs.len_eq
  have HL := Lib.hid hL; clear hL
  go_enter Try.func33, Try.ntmps33
  go_wp2_with fail
  go_loopw [7] (fun i wr => ∃ k : Nat, k ≤ len ∧ i = .int .i64 k ∧ GoodUpto L k ∧ Below w.heap.size w wr) (fun i _ => len - (intOf i).toNat)
  case atStart => exact ⟨0, Nat.zero_le _, rfl, fun i x hi => absurd hi (by omega), Below.refl _ _⟩
  case round =>
    obtain ⟨k, hk, rfl, hgood, hb⟩ := hrel
    have HG := Lib.hid hgood; have HB := Lib.hid hb
    clear hgood hb
    by_cases hlt : k < len
    · have hlt' : (k : Int) < (len : Int) := by omega
      have hkc : (k : Int) ≤ (cap : Int) := by omega
      have hk0 : (0 : Int) ≤ (k : Int) := by omega
      obtain ⟨x, b, off, hx, hok, rfl, c0, c1, c2⟩ := (HL.out.below HB.out).at k hlt
      have HX := Lib.hid hx; clear hx
      have HBX := Lib.hid (Box3.new wr x)
      have HB0 := Lib.hid (belowX_alloc HB.out (.cells #[.int .i64 x.g, .int .i64 x.c, .int .i64 x.s] 48))
      have HM := Lib.hid (fun W => refMay_any x W hok)
      have HH := Lib.hid (fun W (h : Wts W (some ⟨b, off, none⟩) k cap (L.take k)) => refHas_any (some ⟨b, off, none⟩) k cap (L.take k) x.g x.c W h)
      have HT := HL.out.take k
      rw [Nat.min_eq_right (by omega)] at HT
      go_wp2_with fail
      have HT0 := Lib.hid ((HT.below HB.out).below (below_alloc wr (.cells #[.int .i64 x.g, .int .i64 x.c, .int .i64 x.s] 48)))
      obtain ⟨W0, hW0⟩ : ∃ W0, W0 = wr.alloc (.cells #[.int .i64 x.g, .int .i64 x.c, .int .i64 x.s] 48) := ⟨_, rfl⟩
      obtain ⟨B, hBB⟩ : ∃ B, B = wr.heap.size := ⟨_, rfl⟩
      have HX0 := HBX
      rw [← hW0] at HB0 HT0 HX0 ⊢
      rw [← hBB] at HX0 ⊢
      clear hW0 hBB HT c0 c1 c2 HBX
      cases hm : mayW x with
      | false =>
        have R := Lib.hid (rightW_bad HX.out (fun h => by rw [hm] at h; simp at h))
        rw [hm] at HM
        clear hm
        have HSS : Hid (∀ W', Below W0.heap.size W0 W' → W'.cell? ⟨B, 0, none⟩ = some (.int .i64 x.g) ∧ W'.cell? ⟨B, 1, none⟩ = some (.int .i64 x.c) ∧ W'.cell? ⟨B, 2, none⟩ = some (.int .i64 x.s)) := Lib.hid (fun W' hb => (HX0.out.below hb).cells)
        refine wp_region_held_drew (S := fun W => W.cell? ⟨B, 0, none⟩ = some (.int .i64 x.g) ∧ W.cell? ⟨B, 1, none⟩ = some (.int .i64 x.c) ∧ W.cell? ⟨B, 2, none⟩ = some (.int .i64 x.s)) (by kernel_rfl) ?_ (fun hHeld => ?_)
        · exact HSS.out _ ((Below.refl _ _).drew)
        refine wpAnyH_take (i := 0) (v := ?_) rfl (by kernel_rfl) (by kernel_rfl) (by kernel_rfl) (fun _ _ _ h => h) (Or.inl ⟨by rfl, ?_⟩) (by assumption) ?_
        rotate_left
        · (intro w hSw; (try dsimp only at hSw); go_simp; try with_reducible rfl)
        (try simp only [Act.put, List.getElem_toArray, List.getElem_cons_zero, List.setIfInBounds_toArray, List.set_cons_zero, List.set_cons_succ])
        refine wpAnyH_ready (rs := [1]) (by kernel_rfl) (by simp) ?_
        refine AllReadyH.cons (o := _) rfl (fun K hK => ?_) AllReadyH.nil
        go_simp
        (go_at_call 24; refine (HM.out _).mono ?_; rintro e wa ⟨rfl, hba⟩; have HBa : Hid (Below W0.heap.size W0 wa) := Lib.hid (((Below.refl W0.heap.size W0).drew).trans (Below.mono hba (Nat.le_refl _))); clear hba)
        refine hK.out _ _ ?_ (fun hHeld => ?_)
        · exact HSS.out _ HBa.out
        clear hK K
        (try simp only [Act.put, List.getElem_toArray, List.getElem_cons_zero, List.getElem_cons_succ, List.setIfInBounds_toArray, List.set_cons_zero, List.set_cons_succ])
        refine wpAnyH_take (i := 2) (v := ?_) rfl (by kernel_rfl) (by kernel_rfl) (by kernel_rfl) (fun _ _ _ h => h) (Or.inl ⟨by rfl, ?_⟩) (by assumption) ?_
        rotate_left
        · (intro w hSw; (try dsimp only at hSw); go_simp; try with_reducible rfl)
        (try simp only [Act.put, List.getElem_toArray, List.getElem_cons_zero, List.getElem_cons_succ, List.setIfInBounds_toArray, List.set_cons_zero, List.set_cons_succ])
        refine wpAnyH_take (i := 3) (v := ?_) rfl (by kernel_rfl) (by kernel_rfl) (by kernel_rfl) (fun _ _ _ h => h) (Or.inl ⟨by rfl, ?_⟩) (by assumption) ?_
        rotate_left
        · (intro w hSw; (try dsimp only at hSw); go_simp; try with_reducible rfl)
        (try simp only [Act.put, List.getElem_toArray, List.getElem_cons_zero, List.getElem_cons_succ, List.setIfInBounds_toArray, List.set_cons_zero, List.set_cons_succ])
        refine wpAnyH_take (i := 4) (v := undef) rfl (by kernel_rfl) (by kernel_rfl) (by kernel_rfl) (fun _ _ _ h => h) (Or.inr ⟨by kernel_rfl, rfl⟩) (by assumption) ?_
        (try simp only [Act.put, List.getElem_toArray, List.getElem_cons_zero, List.getElem_cons_succ, List.setIfInBounds_toArray, List.set_cons_zero, List.set_cons_succ])
        refine wpAnyH_take (i := 5) (v := undef) rfl (by kernel_rfl) (by kernel_rfl) (by kernel_rfl) (fun _ _ _ h => h) (Or.inr ⟨by kernel_rfl, rfl⟩) (by assumption) ?_
        (try simp only [Act.put, List.getElem_toArray, List.getElem_cons_zero, List.getElem_cons_succ, List.setIfInBounds_toArray, List.set_cons_zero, List.set_cons_succ])
        refine wpAnyH_take (i := 6) (v := undef) rfl (by kernel_rfl) (by kernel_rfl) (by kernel_rfl) (fun _ _ _ h => h) (Or.inr ⟨by kernel_rfl, rfl⟩) (by assumption) ?_
        (try simp only [Act.put, List.getElem_toArray, List.getElem_cons_zero, List.getElem_cons_succ, List.setIfInBounds_toArray, List.set_cons_zero, List.set_cons_succ])
        refine wpAnyH_take (i := 7) (v := undef) rfl (by kernel_rfl) (by kernel_rfl) (by kernel_rfl) (fun _ _ _ h => h) (Or.inr ⟨by kernel_rfl, rfl⟩) (by assumption) ?_
        (try simp only [Act.put, List.getElem_toArray, List.getElem_cons_zero, List.getElem_cons_succ, List.setIfInBounds_toArray, List.set_cons_zero, List.set_cons_succ])
        refine wpAnyH_take (i := 8) (v := undef) rfl (by kernel_rfl) (by kernel_rfl) (by kernel_rfl) (fun _ _ _ h => h) (Or.inr ⟨by kernel_rfl, rfl⟩) (by assumption) ?_
        (try simp only [Act.put, List.getElem_toArray, List.getElem_cons_zero, List.getElem_cons_succ, List.setIfInBounds_toArray, List.set_cons_zero, List.set_cons_succ])
        refine wpAnyH_take (i := 9) (v := undef) rfl (by kernel_rfl) (by kernel_rfl) (by kernel_rfl) (fun _ _ _ h => h) (Or.inr ⟨by kernel_rfl, rfl⟩) (by assumption) ?_
        (try simp only [Act.put, List.getElem_toArray, List.getElem_cons_zero, List.getElem_cons_succ, List.setIfInBounds_toArray, List.set_cons_zero, List.set_cons_succ])
        refine wpAnyH_take (i := 10) (v := undef) rfl (by kernel_rfl) (by kernel_rfl) (by kernel_rfl) (fun _ _ _ h => h) (Or.inr ⟨by kernel_rfl, rfl⟩) (by assumption) ?_
        (try simp only [Act.put, List.getElem_toArray, List.getElem_cons_zero, List.getElem_cons_succ, List.setIfInBounds_toArray, List.set_cons_zero, List.set_cons_succ])
        refine wpAnyH_take (i := 11) (v := undef) rfl (by kernel_rfl) (by kernel_rfl) (by kernel_rfl) (fun _ _ _ h => h) (Or.inr ⟨by kernel_rfl, rfl⟩) (by assumption) ?_
        (try simp only [Act.put, List.getElem_toArray, List.getElem_cons_zero, List.getElem_cons_succ, List.setIfInBounds_toArray, List.set_cons_zero, List.set_cons_succ])
        refine wpAnyH_take (i := 12) (v := ?_) rfl (by kernel_rfl) (by kernel_rfl) (by kernel_rfl) (fun _ _ _ h => h) (Or.inl ⟨by rfl, ?_⟩) (by assumption) ?_
        rotate_left
        · (intro w hSw; (try dsimp only at hSw); go_simp; try with_reducible rfl)
        (try simp only [Act.put, List.getElem_toArray, List.getElem_cons_zero, List.getElem_cons_succ, List.setIfInBounds_toArray, List.set_cons_zero, List.set_cons_succ])
        refine wpAnyH_done (by kernel_rfl) ?_ _
        all_goals
          go_wp2_with fail
          go_ret
          exact ⟨ret_bool R.out.symm, HB0.out.trans (Below.mono HBa.out HB0.out.size)⟩
      | true =>
        cases hh : hasW (L.take k) x.g x.c with
        | true =>
          have R := Lib.hid (rightW_bad HX.out (fun h => by rw [hh] at h; simp at h))
          rw [hm] at HM
          rw [hh] at HH
          clear hm hh
          have HSS : Hid (∀ W', Below W0.heap.size W0 W' → W'.cell? ⟨B, 0, none⟩ = some (.int .i64 x.g) ∧ W'.cell? ⟨B, 1, none⟩ = some (.int .i64 x.c) ∧ W'.cell? ⟨B, 2, none⟩ = some (.int .i64 x.s)) := Lib.hid (fun W' hb => (HX0.out.below hb).cells)
          go_region_held3 (fun W => W.cell? ⟨B, 0, none⟩ = some (.int .i64 x.g) ∧ W.cell? ⟨B, 1, none⟩ = some (.int .i64 x.c) ∧ W.cell? ⟨B, 2, none⟩ = some (.int .i64 x.s))
            ((refine HSS.out _ ?_; (repeat (first | exact HBb.out | exact HBa.out | exact Below.refl _ _ | refine Below.drew ?_))))
            (first | (go_at_call 24; refine (HM.out _).mono ?_; rintro e wa ⟨rfl, hba⟩; have HBa : Hid (Below W0.heap.size W0 wa) := Lib.hid (((Below.refl W0.heap.size W0).drew).trans (Below.mono hba (Nat.le_refl _))); clear hba) | (go_at_call 55; refine (HH.out _ (HT0.out.below HBa.out)).mono ?_; rintro e wb ⟨rfl, hbb⟩; have HBb : Hid (Below W0.heap.size W0 wb) := Lib.hid (HBa.out.trans (Below.mono hbb HBa.out.size)); clear hbb))
          all_goals
            go_wp2_with fail
            go_ret
            exact ⟨ret_bool R.out.symm, HB0.out.trans (Below.mono HBb.out HB0.out.size)⟩
        | false =>
          have HG1 := Lib.hid (good_succ HG.out HX.out hm hh)
          rw [hm] at HM
          rw [hh] at HH
          clear hm hh
          have HSS : Hid (∀ W', Below W0.heap.size W0 W' → W'.cell? ⟨B, 0, none⟩ = some (.int .i64 x.g) ∧ W'.cell? ⟨B, 1, none⟩ = some (.int .i64 x.c) ∧ W'.cell? ⟨B, 2, none⟩ = some (.int .i64 x.s)) := Lib.hid (fun W' hb => (HX0.out.below hb).cells)
          go_region_held3 (fun W => W.cell? ⟨B, 0, none⟩ = some (.int .i64 x.g) ∧ W.cell? ⟨B, 1, none⟩ = some (.int .i64 x.c) ∧ W.cell? ⟨B, 2, none⟩ = some (.int .i64 x.s))
            ((refine HSS.out _ ?_; (repeat (first | exact HBb.out | exact HBa.out | exact Below.refl _ _ | refine Below.drew ?_))))
            (first | (go_at_call 24; refine (HM.out _).mono ?_; rintro e wa ⟨rfl, hba⟩; have HBa : Hid (Below W0.heap.size W0 wa) := Lib.hid (((Below.refl W0.heap.size W0).drew).trans (Below.mono hba (Nat.le_refl _))); clear hba) | (go_at_call 55; refine (HH.out _ (HT0.out.below HBa.out)).mono ?_; rintro e wb ⟨rfl, hbb⟩; have HBb : Hid (Below W0.heap.size W0 wb) := Lib.hid (HBa.out.trans (Below.mono hbb HBa.out.size)); clear hbb))
          all_goals
            go_wp2_with fail
            go_roundw
            case rel => exact ⟨k + 1, by omega, by go_num, HG1.out, HB0.out.trans (Below.mono HBb.out HB0.out.size)⟩
            case measure => simp [intOf]; omega
    · have hkn : k = len := by omega
      subst hkn
      by_cases h64 : 64 < k
      all_goals
        first
          | (have R := Lib.hid (rightW_long (L := L) (by rw [HLL.out]; exact h64)))
          | (have R := Lib.hid (rightW_good (L := L) (by rw [HLL.out]; omega) (by rw [HLL.out]; exact HG.out)))
        (first | (have h64' : (64 : Int) < (k : Int) := by omega) | (have h64' : (k : Int) ≤ 64 := by omega))
        go_wp2_with fail
        go_ret
        exact ⟨ret_bool (by rw [R.out]; try first | rfl | (simp; omega)), HB.out⟩

set_option maxRecDepth 100000 in
set_option maxHeartbeats 2000000 in
theorem refFirst_any (a : Option Addr) (len cap : Nat) (L : List Wt) (b : Int) (w : World) (hL : Wts w a len cap L) :
    Calls Try.prog 40 #[.slice a len cap, .int .i64 b] w fun e w' => (∃ i : Int, e = .returned (.int .i64 i) ∧ ((i = -1 ∧ firstW L b = none) ∨ ∃ (k : Nat) (x : Wt), i = k ∧ k < len ∧ L[k]? = some x ∧ firstW L b = some x)) ∧ Below w.heap.size w w' := by
  have hcm := hL.recs.len_le
  have HLL := Lib.hid hL.recs.len_eq
  have HL := Lib.hid hL; clear hL
  go_enter Try.func40, Try.ntmps40
  go_wp2_with fail
  go_loopw [9] (fun i wr => ∃ k : Nat, k ≤ len ∧ i = .int .i64 k ∧ (∀ y ∈ L.take k, (y.g != b) = false) ∧ Below w.heap.size w wr) (fun i _ => len - (intOf i).toNat)
  case atStart => exact ⟨0, Nat.zero_le _, rfl, fun y hy => by simp at hy, Below.refl _ _⟩
  case round =>
    obtain ⟨k, hk, rfl, hno, hbw⟩ := hrel
    have HN := Lib.hid hno; have HW := Lib.hid hbw
    clear hno hbw
    by_cases hlt : k < len
    · have hlt' : (k : Int) < (len : Int) := by omega
      obtain ⟨x, bb, off, hx, hok, rfl, c0, c1, c2⟩ := (HL.out.below HW.out).at k hlt
      have HX := Lib.hid hx; clear hx
      have HBN := Lib.hid (belowX_alloc HW.out (.cells #[.int .i64 x.g, .int .i64 x.c, .int .i64 x.s] 48))
      cases hg : (x.g != b) with
      | true =>
        have HF := Lib.hid (find_at HN.out HX.out hg)
        go_wp2_with fail
        go_ret
        exact ⟨⟨_, rfl, .inr ⟨k, x, rfl, hlt, HX.out, HF.out⟩⟩, HBN.out⟩
      | false =>
        have HG := Lib.hid hg
        go_wp2_with fail
        go_roundw
        case rel =>
          refine ⟨k + 1, by omega, by go_num, fun y hy => ?_, HBN.out⟩
          rw [take_snoc' HX.out] at hy
          rcases List.mem_append.1 hy with h | h
          · exact HN.out y h
          · simp at h; rw [h]; exact HG.out
        case measure => simp [intOf]; omega
    · have hkn : k = len := by omega
      subst hkn
      have HF := Lib.hid (find_no HN.out (by rw [HLL.out]; exact Nat.le_refl _))
      go_wp2_with fail
      go_ret
      exact ⟨⟨_, rfl, .inl ⟨rfl, HF.out⟩⟩, HW.out⟩
end Go.Proofs.Ytfolhgpbplfilaa
