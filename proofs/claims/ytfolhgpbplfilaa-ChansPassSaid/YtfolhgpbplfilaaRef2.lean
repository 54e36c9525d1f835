/- The reference: Drop, Who, Same; the laws' few and alive. -/
import Derived.Test.YtfolhgpbplfilaaRef
namespace Go.Proofs.Ytfolhgpbplfilaa
open Go.RowKit

def GotR (w : World) (L : List Wt) (e : Ending) (w' : World) : Prop := ∃ a n cap, e = .returned (.slice a n cap) ∧ Wts w' a n cap L ∧ Below w.heap.size w w'
set_option maxRecDepth 100000 in
set_option maxHeartbeats 2000000 in
theorem refDrop_any (a : Option Addr) (len cap : Nat) (L : List Wt) (g : Int) (w : World) (hL : Wts w a len cap L) (h64 : len ≤ 1000) (_hgI : I64 g) :
    Calls Try.prog 41 #[.slice a len cap, .int .i64 g] w (GotR w (dropW L g)) := by
  have hcm := hL.recs.len_le
  have hgI := _hgI
  unfold I64 at hgI
  have HLL := Lib.hid hL.recs.len_eq
  have HDL := Lib.hid (fun k => Nat.le_trans (dropW_len (L.take k) g) (by rw [List.length_take]; exact Nat.min_le_left k L.length))
  have HL := Lib.hid hL; clear hL
  have HOK := Lib.hid HL.out.ok
  go_enter Try.func41, Try.ntmps41
  go_wp2_with fail
  go_loopw [5, 11] (fun v i wr => ∃ k : Nat, k ≤ len ∧ i = .int .i64 k ∧ OwnW wr w.heap.size v (dropW (L.take k) g) ∧ Below w.heap.size w wr) (fun _ i _ => len - (intOf i).toNat)
  case atStart => exact ⟨0, Nat.zero_le _, rfl, ownR_empty (heap_alloc_new w _) (Nat.le_refl _), below_alloc w _⟩
  case round =>
    obtain ⟨k, hk, rfl, hown, hbw⟩ := hrel
    have HO := Lib.hid hown; have HW := Lib.hid hbw
    clear hown hbw
    by_cases hlt : k < len
    · have hlt' : (k : Int) < (len : Int) := by omega
      obtain ⟨x, bb, off, hx, hok, rfl, c0, c1, c2⟩ := (HL.out.below HW.out).at k hlt
      have HX := Lib.hid (take_snoc' hx)
      have HDS := Lib.hid (dropW_snoc (L.take k) x g)
      clear hx
      cases hgc : (x.g != g) with
      | true =>
        have HN : Hid (dropW (L.take (k + 1)) g = dropW (L.take k) g ++ [x]) := Lib.hid (by rw [HX.out, HDS.out, if_pos hgc])
        go_wp2_with (at_builtin; refine wpList_appR rfl _ _ rfl w.heap.size _ (dropW (L.take k) g) rfl (OwnR.below HO.out ((below_alloc wr _).alloc (by simp) _)) _ 1 1 [x] rfl (recs_one (box3_two _ _ x)) (by have := HDL.out k; omega) (by omega) (by have := HW.out.size; simp; omega) ?_; intro v' w2 ho hg2)
        have HB2 := Lib.hid (Below.grown (belowX_alloc (belowX_alloc HW.out _) _) hg2.out (by have := HW.out.size; simp; omega) (fun r hr => OwnR.lt HO.out r hr))
        clear hg2
        go_roundw
        case rel => exact ⟨k + 1, by omega, by go_num, by rw [HN.out]; exact ho.out, HB2.out⟩
        case measure => simp [intOf]; omega
      | false =>
        have HN : Hid (dropW (L.take (k + 1)) g = dropW (L.take k) g) := Lib.hid (by rw [HX.out, HDS.out, if_neg (by rw [hgc]; simp)])
        go_wp2_with fail
        go_roundw
        case rel => exact ⟨k + 1, by omega, by go_num, by rw [HN.out]; exact OwnR.below HO.out (below_alloc wr _), belowX_alloc HW.out _⟩
        case measure => simp [intOf]; omega
    · have hkn : k = len := by omega
      subst hkn
      have HT : Hid (L.take k = L) := Lib.hid (List.take_of_length_le (by rw [HLL.out]; exact Nat.le_refl _))
      have hO := HO.out
      rw [HT.out] at hO
      obtain ⟨ra, rcap, rfl, hr⟩ := OwnR.recs wcells_len hO
      have HRR := Lib.hid hr
      clear hO hr
      go_wp2_with fail
      go_ret
      exact ⟨_, _, _, rfl, ⟨HRR.out, fun y hy => HOK.out y (List.mem_filter.1 hy).1⟩, HW.out⟩

theorem wt_ext {x y : Wt} (h1 : (x.g == y.g) = true) (h2 : (x.c == y.c) = true) (h3 : (x.s == y.s) = true) : x = y := by
  obtain ⟨a, b, c⟩ := x; obtain ⟨d, e, f⟩ := y
  simp at h1 h2 h3; simp [h1, h2, h3]
set_option maxRecDepth 100000 in
set_option maxHeartbeats 4000000 in
theorem Same_any (a : Option Addr) (len cap : Nat) (L : List Wt) (a2 : Option Addr) (len2 cap2 : Nat) (M : List Wt) (w : World) (hL : Wts w a len cap L) (hM : Wts w a2 len2 cap2 M) :
    Calls Try.prog 19 #[.slice a len cap, .slice a2 len2 cap2] w fun e w' => e = .returned (.bool (decide (L = M))) ∧ Below w.heap.size w w' := by
  have hcm := hL.recs.len_le
  have hcm2 := hM.recs.len_le
  have HLL := Lib.hid hL.recs.len_eq
  have HML := Lib.hid hM.recs.len_eq
  have HL := Lib.hid hL; have HM := Lib.hid hM; clear hL hM
  by_cases hne : len = len2
  · subst hne
    have hee : ((len : Int) != (len : Int)) = false := by simp
    go_enter Try.func19, Try.ntmps19
    go_wp2_with fail
    go_loopw [13] (fun i wr => ∃ k : Nat, k ≤ len ∧ i = .int .i64 k ∧ L.take k = M.take k ∧ Below w.heap.size w wr) (fun i _ => len - (intOf i).toNat)
    case atStart => exact ⟨0, Nat.zero_le _, rfl, rfl, Below.refl _ _⟩
    case round =>
      obtain ⟨k, hk, rfl, heq, hbw⟩ := hrel
      have HE := Lib.hid heq; have HW := Lib.hid hbw
      clear heq hbw
      by_cases hlt : k < len
      · have hlt' : (k : Int) < (len : Int) := by omega
        have hk0 : (0 : Int) ≤ (k : Int) := by omega
        obtain ⟨x, b, off, hx, hok, rfl, c0, c1, c2⟩ := (HL.out.below HW.out).at k hlt
        obtain ⟨y, b2, off2, hy, hok2, rfl, d0, d1, d2⟩ := (HM.out.below HW.out).at k hlt
        have HX := Lib.hid hx; have HY := Lib.hid hy
        clear hx hy
        have HSS : Hid (∀ W', Below wr.heap.size wr W' → W'.cell? ⟨b, off + k * 3, none⟩ = some (.int .i64 x.g) ∧ W'.cell? ⟨b, off + k * 3 + 1, none⟩ = some (.int .i64 x.c) ∧ W'.cell? ⟨b, off + k * 3 + 2, none⟩ = some (.int .i64 x.s) ∧ W'.cell? ⟨b2, off2 + k * 3, none⟩ = some (.int .i64 y.g) ∧ W'.cell? ⟨b2, off2 + k * 3 + 1, none⟩ = some (.int .i64 y.c) ∧ W'.cell? ⟨b2, off2 + k * 3 + 2, none⟩ = some (.int .i64 y.s)) := Lib.hid (fun W' hb => by
          have l1 := World.block_lt_of_cell? _ _ c0
          have l2 := World.block_lt_of_cell? _ _ d0
          exact ⟨(hb.cell (p := ⟨b, off + k * 3, none⟩) l1).trans c0, (hb.cell (p := ⟨b, off + k * 3 + 1, none⟩) l1).trans c1, (hb.cell (p := ⟨b, off + k * 3 + 2, none⟩) l1).trans c2, (hb.cell (p := ⟨b2, off2 + k * 3, none⟩) l2).trans d0, (hb.cell (p := ⟨b2, off2 + k * 3 + 1, none⟩) l2).trans d1, (hb.cell (p := ⟨b2, off2 + k * 3 + 2, none⟩) l2).trans d2⟩)
        clear c0 c1 c2 d0 d1 d2
        go_wp2_with fail
        cases hg : (x.g == y.g) <;> cases hc : (x.c == y.c) <;> cases hs : (x.s == y.s)
        all_goals
          first
            | (have R := Lib.hid (show L.take (k + 1) = M.take (k + 1) by rw [take_snoc' HX.out, take_snoc' HY.out, HE.out, wt_ext hg hc hs]))
            | (have R := Lib.hid (show decide (L = M) = false by
                rw [decide_eq_false_iff_not]; rintro rfl
                have := HX.out.symm.trans HY.out
                cases this
                simp at hg hc hs))
          go_region_held3 (fun W => W.cell? ⟨b, off + k * 3, none⟩ = some (.int .i64 x.g) ∧ W.cell? ⟨b, off + k * 3 + 1, none⟩ = some (.int .i64 x.c) ∧ W.cell? ⟨b, off + k * 3 + 2, none⟩ = some (.int .i64 x.s) ∧ W.cell? ⟨b2, off2 + k * 3, none⟩ = some (.int .i64 y.g) ∧ W.cell? ⟨b2, off2 + k * 3 + 1, none⟩ = some (.int .i64 y.c) ∧ W.cell? ⟨b2, off2 + k * 3 + 2, none⟩ = some (.int .i64 y.s))
            (exact HSS.out _ ((Below.refl _ _).drew))
            (fail)
          go_wp2_with fail
          first
            | (go_roundw
               case rel => exact ⟨k + 1, by omega, by go_num, R.out, HW.out.drew⟩
               case measure => simp [intOf]; omega)
            | (go_ret; exact ⟨ret_bool R.out.symm, HW.out.drew⟩)
      · have hkn : k = len := by omega
        subst hkn
        have R := Lib.hid (show decide (L = M) = true by
          rw [decide_eq_true_eq]
          have := HE.out
          rwa [List.take_of_length_le (by rw [HLL.out]; exact Nat.le_refl _), List.take_of_length_le (by rw [HML.out]; exact Nat.le_refl _)] at this)
        go_wp2_with fail
        go_ret
        exact ⟨ret_bool R.out.symm, HW.out⟩
  · have hee : ((len : Int) != (len2 : Int)) = true := by rw [bne_iff_ne]; omega
    have R := Lib.hid (show decide (L = M) = false by rw [decide_eq_false_iff_not]; rintro rfl; exact hne (by rw [← HLL.out, ← HML.out]))
    clear hne
    go_enter Try.func19, Try.ntmps19
    go_wp2_with fail
    go_ret
    exact ⟨ret_bool R.out.symm, Below.refl _ _⟩

end Go.Proofs.Ytfolhgpbplfilaa
