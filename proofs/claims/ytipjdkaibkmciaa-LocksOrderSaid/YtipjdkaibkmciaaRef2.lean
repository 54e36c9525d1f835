/- The reference: Drop, Who, Same; the laws' few and alive. -/
import Derived.Test.YtipjdkaibkmciaaRef
namespace Go.Proofs.Ytipjdkaibkmciaa
open Go.RowKit

def GotR (w : World) (L : List Wt) (e : Ending) (w' : World) : Prop := ∃ a n cap, e = .returned (.slice a n cap) ∧ Wts w' a n cap L ∧ Below w.heap.size w w'
theorem wt_ext {x y : Wt} (h1 : (x.g == y.g) = true) (h2 : (x.c == y.c) = true) (h3 : (x.s == y.s) = true) : x = y := by
  obtain ⟨a, b, c⟩ := x; obtain ⟨d, e, f⟩ := y
  simp at h1 h2 h3; simp [h1, h2, h3]
set_option maxRecDepth 100000 in
set_option maxHeartbeats 4000000 in
theorem Same_any (a : Option Addr) (len cap : Nat) (L : List Wt) (a2 : Option Addr) (len2 cap2 : Nat) (M : List Wt) (w : World) (hL : Wts w a len cap L) (hM : Wts w a2 len2 cap2 M) :
    Calls Try.prog 22 #[.slice a len cap, .slice a2 len2 cap2] w fun e w' => e = .returned (.bool (decide (L = M))) ∧ Below w.heap.size w w' := by
  have hcm := hL.recs.len_le
  have hcm2 := hM.recs.len_le
  have HLL := Lib.hid hL.recs.len_eq
  have HML := Lib.hid hM.recs.len_eq
  have HL := Lib.hid hL; have HM := Lib.hid hM; clear hL hM
  by_cases hne : len = len2
  · subst hne
    have hee : ((len : Int) != (len : Int)) = false := by simp
    go_enter Try.func22, Try.ntmps22
    go_wp2_with fail
    go_loopw [13] (fun i wr => ∃ k : Nat, k ≤ len ∧ i = .int .i64 k ∧ L.take k = M.take k ∧ Below w.heap.size w wr) (fun i _ => len - (intOf i).toNat)
    case atStart => exact ⟨0, Nat.zero_le _, rfl, rfl, Below.refl _ _⟩
    case round =>
      obtain ⟨k, hk, rfl, heq, hbw⟩ := hrel
      have HE := Lib.hid heq; have HW := Lib.hid hbw
      clear heq hbw
      by_cases hlt : k < len
      · have hlt' : (k : Int) < (len : Int) := by omega
        have hk0 : (0 : Int) ≤ (k : Int) := by omega
        obtain ⟨x, b, off, hx, hok, rfl, c0, c1, c2⟩ := (HL.out.below HW.out).at k hlt
        obtain ⟨y, b2, off2, hy, hok2, rfl, d0, d1, d2⟩ := (HM.out.below HW.out).at k hlt
        have HX := Lib.hid hx; have HY := Lib.hid hy
        clear hx hy
        have HSS : Hid (∀ W', Below wr.heap.size wr W' → W'.cell? ⟨b, off + k * 3, none⟩ = some (.int .i64 x.g) ∧ W'.cell? ⟨b, off + k * 3 + 1, none⟩ = some (.int .i64 x.c) ∧ W'.cell? ⟨b, off + k * 3 + 2, none⟩ = some (.int .i64 x.s) ∧ W'.cell? ⟨b2, off2 + k * 3, none⟩ = some (.int .i64 y.g) ∧ W'.cell? ⟨b2, off2 + k * 3 + 1, none⟩ = some (.int .i64 y.c) ∧ W'.cell? ⟨b2, off2 + k * 3 + 2, none⟩ = some (.int .i64 y.s)) := Lib.hid (fun W' hb => by
          have l1 := World.block_lt_of_cell? _ _ c0
          have l2 := World.block_lt_of_cell? _ _ d0
          exact ⟨(hb.cell (p := ⟨b, off + k * 3, none⟩) l1).trans c0, (hb.cell (p := ⟨b, off + k * 3 + 1, none⟩) l1).trans c1, (hb.cell (p := ⟨b, off + k * 3 + 2, none⟩) l1).trans c2, (hb.cell (p := ⟨b2, off2 + k * 3, none⟩) l2).trans d0, (hb.cell (p := ⟨b2, off2 + k * 3 + 1, none⟩) l2).trans d1, (hb.cell (p := ⟨b2, off2 + k * 3 + 2, none⟩) l2).trans d2⟩)
        clear c0 c1 c2 d0 d1 d2
        go_wp2_with fail
        cases hg : (x.g == y.g) <;> cases hc : (x.c == y.c) <;> cases hs : (x.s == y.s)
        all_goals
          first
            | (have R := Lib.hid (show L.take (k + 1) = M.take (k + 1) by rw [take_snoc' HX.out, take_snoc' HY.out, HE.out, wt_ext hg hc hs]))
            | (have R := Lib.hid (show decide (L = M) = false by
                rw [decide_eq_false_iff_not]; rintro rfl
                have := HX.out.symm.trans HY.out
                cases this
                simp at hg hc hs))
          go_region_held3 (fun W => W.cell? ⟨b, off + k * 3, none⟩ = some (.int .i64 x.g) ∧ W.cell? ⟨b, off + k * 3 + 1, none⟩ = some (.int .i64 x.c) ∧ W.cell? ⟨b, off + k * 3 + 2, none⟩ = some (.int .i64 x.s) ∧ W.cell? ⟨b2, off2 + k * 3, none⟩ = some (.int .i64 y.g) ∧ W.cell? ⟨b2, off2 + k * 3 + 1, none⟩ = some (.int .i64 y.c) ∧ W.cell? ⟨b2, off2 + k * 3 + 2, none⟩ = some (.int .i64 y.s))
            (exact HSS.out _ ((Below.refl _ _).drew))
            (fail)
          go_wp2_with fail
          first
            | (go_roundw
               case rel => exact ⟨k + 1, by omega, by go_num, R.out, HW.out.drew⟩
               case measure => simp [intOf]; omega)
            | (go_ret; exact ⟨ret_bool R.out.symm, HW.out.drew⟩)
      · have hkn : k = len := by omega
        subst hkn
        have R := Lib.hid (show decide (L = M) = true by
          rw [decide_eq_true_eq]
          have := HE.out
          rwa [List.take_of_length_le (by rw [HLL.out]; exact Nat.le_refl _), List.take_of_length_le (by rw [HML.out]; exact Nat.le_refl _)] at this)
        go_wp2_with fail
        go_ret
        exact ⟨ret_bool R.out.symm, HW.out⟩
  · have hee : ((len : Int) != (len2 : Int)) = true := by rw [bne_iff_ne]; omega
    have R := Lib.hid (show decide (L = M) = false by rw [decide_eq_false_iff_not]; rintro rfl; exact hne (by rw [← HLL.out, ← HML.out]))
    clear hne
    go_enter Try.func22, Try.ntmps22
    go_wp2_with fail
    go_ret
    exact ⟨ret_bool R.out.symm, Below.refl _ _⟩

end Go.Proofs.Ytipjdkaibkmciaa
