/- The reference: what may be a once; whether two are the same; few. -/
import Derived.Test.YtnmopfimmindnaaK
import Derived.RegionTactic
import Derived.BigRegion
namespace Go.Proofs.Ytnmopfimmindnaa
open Go.RowKit
theorem drop_len (L : List Wt) (g : Int) : decide ((dropW L g).length = L.length) = !metW L g := by
  unfold dropW
  cases hm : metW L g with
  | false =>
    show _ = true
    rw [decide_eq_true_eq, List.length_filter_eq_length_iff]
    intro x hx
    have := List.any_eq_false.1 hm x hx
    simpa [bne] using this
  | true =>
    show _ = false
    rw [decide_eq_false_iff_not, List.length_filter_eq_length_iff]
    intro h
    obtain ⟨x, hx, hg⟩ := List.any_eq_true.1 hm
    have := h x hx
    simp only [bne, hg] at this
    cases this
set_option maxRecDepth 100000 in
set_option maxHeartbeats 4000000 in
theorem refORight_any (st by_ : Int) (a : Option Addr) (len cap : Nat) (L : List Wt) (w : World) (hL : Wts w a len cap L) (hs : I64 st) (hb : I64 by_) :
    Calls Try.prog 8 #[onV st by_ a len cap] w fun e w' => e = .returned (.bool (rightO st by_ L)) ∧ Below w.heap.size w w' := by
  have hcm := hL.recs.len_le
  have HLE : Hid (L.isEmpty = decide (len = 0)) := Lib.hid (by rw [← hL.recs.len_eq]; cases L <;> simp)
  have HR := Lib.hid (fun W (h : Wts W a len cap L) => refRight_any a len cap L W h)
  have L_0 := Lib.hid (hL.below (below_alloc w (.cells (onC st by_ a len cap) 24)))
  have X_0 := Lib.hid (Bx.new w (onC st by_ a len cap) 24)
  have BEL_0 := Lib.hid (below_alloc w (.cells (onC st by_ a len cap) 24))
  have HLL := Lib.hid hL.recs.len_eq
  have HDL := Lib.hid (drop_len L by_)
  clear hL
  have hbI := hb
  unfold I64 at hs hb
  have hcases : (st < 0 ∨ (0 ≤ st ∧ 2 < st) ∨ (0 ≤ st ∧ st ≤ 2 ∧ by_ < 0)) ∨ (0 ≤ st ∧ st ≤ 2 ∧ 0 ≤ by_) := by omega
  rcases hcases with hbad | ⟨h1, h2, h3⟩
  · have R := Lib.hid (show rightO st by_ L = false by unfold rightO; rw [decide_eq_false (by omega)]; rfl)
    rw [R.out]
    rcases hbad with h | ⟨h, h'⟩ | ⟨h, h', h''⟩
    all_goals
      try have hge : 3 ≤ st := by omega
      go_enter Try.func8, Try.ntmps8
      go_wp2_with fail
      go_ret
      exact ⟨rfl, BEL_0.out⟩
  · have R0 := Lib.hid (show rightO st by_ L = (rightW L && (if st = 1 then !metW L by_ else decide (by_ = 0) && L.isEmpty)) by unfold rightO; rw [decide_eq_true (by omega)]; simp)
    have hlt3 : st < 3 := by omega
    cases hr : rightW L with
    | false =>
      have R := Lib.hid (show rightO st by_ L = false by rw [R0.out, hr]; rfl)
      rw [hr] at HR
      rw [R.out]
      clear hr
      go_enter Try.func8, Try.ntmps8
      go_wp2_with fail
      refine (HR.out _ L_0.out).mono ?_
      rintro e w1 ⟨rfl, hb⟩
      have BEL_1 := Lib.hid (BEL_0.out.trans (Below.mono hb BEL_0.out.size))
      clear hb
      go_wp2_with fail
      go_ret
      exact ⟨rfl, BEL_1.out⟩
    | true =>
      rw [hr] at HR
      by_cases h1s : st = 1
      · subst h1s
        have h64 : len ≤ 1000 := by have := (rightW_iff.1 hr).1; rw [HLL.out] at this; omega
        have HDR := Lib.hid (fun W (h : Wts W a len cap L) => refDrop_own a len cap L by_ W h h64 hbI)
        unfold GotO at HDR
        have R := Lib.hid (show rightO 1 by_ L = !metW L by_ by rw [R0.out, hr]; simp)
        rw [R.out]
        clear hr
        go_enter Try.func8, Try.ntmps8
        go_wp2_with fail
        refine (HR.out _ L_0.out).mono ?_
        rintro e w1 ⟨rfl, hb⟩
        have BEL_1 := Lib.hid (BEL_0.out.trans (Below.mono hb BEL_0.out.size))
        have X_1 := Lib.hid (X_0.out.below hb); have L_1 := Lib.hid (L_0.out.below hb)
        clear hb
        obtain ⟨c0, c1, c2⟩ := X_1.out.cells3
        go_wp2_with fail
        clear c0 c1 c2
        have HSS : Hid (∀ W', Below w1.heap.size w1 W' → W'.cell? ⟨w.heap.size, 0, none⟩ = some (.int .i64 1) ∧ W'.cell? ⟨w.heap.size, 1, none⟩ = some (.int .i64 by_) ∧ W'.cell? ⟨w.heap.size, 2, none⟩ = some (.slice a len cap)) := Lib.hid (fun W' hb => (X_1.out.below hb).cells3)
        go_region_held3 (fun W => W.cell? ⟨w.heap.size, 0, none⟩ = some (.int .i64 1) ∧ W.cell? ⟨w.heap.size, 1, none⟩ = some (.int .i64 by_) ∧ W.cell? ⟨w.heap.size, 2, none⟩ = some (.slice a len cap))
          ((refine HSS.out _ ?_; (repeat (first | exact HBa.out | exact Below.refl _ _ | refine Below.drew ?_))))
          ((go_at_call 19; refine (HDR.out _ (L_1.out.below (by (repeat (first | exact Below.refl _ _ | refine Below.drew ?_))))).mono ?_; rintro e wa ⟨v1, rfl, ho1, hba⟩; have HBa : Hid (Below w1.heap.size w1 wa) := Lib.hid (Below.trans (b := _) (by (repeat (first | exact Below.refl _ _ | refine Below.drew ?_))) (Below.mono hba (by first | exact Nat.le_refl _ | (simp; done)))); obtain ⟨da, dc, rfl, _⟩ := OwnR.recs wcells_len ho1; clear ho1 hba))
        all_goals
          go_wp2_with fail
          go_ret
          exact ⟨ret_bool (by rw [← HDL.out, HLL.out, Bool.eq_iff_iff]; simp; omega), BEL_1.out.trans (Below.mono HBa.out BEL_1.out.size)⟩
      · have hn1 : (st != 1) = true := by rw [bne_iff_ne]; exact h1s
        have hn2 : (st == 1) = false := by rw [beq_eq_false_iff_ne]; exact h1s
        have R := Lib.hid (show rightO st by_ L = (decide (by_ = 0) && decide (len = 0)) by rw [R0.out, hr, if_neg h1s, HLE.out]; rfl)
        rw [R.out]
        clear hr h1s
        by_cases hb0 : by_ = 0 <;> by_cases hl0 : len = 0
        all_goals
          have HB0 := Lib.hid hb0; have HL0 := Lib.hid hl0
          first | (have hz : (by_ == 0) = true := by rw [beq_iff_eq]; exact hb0) | (have hz : (by_ == 0) = false := by rw [beq_eq_false_iff_ne]; exact hb0)
          first | (have hz2 : ((len : Int) == 0) = true := by rw [beq_iff_eq]; omega) | (have hz2 : ((len : Int) == 0) = false := by rw [beq_eq_false_iff_ne]; omega)
          clear hb0 hl0
          go_enter Try.func8, Try.ntmps8
          go_wp2_with fail
          refine (HR.out _ L_0.out).mono ?_
          rintro e w1 ⟨rfl, hb⟩
          have BEL_1 := Lib.hid (BEL_0.out.trans (Below.mono hb BEL_0.out.size))
          have X_1 := Lib.hid (X_0.out.below hb)
          clear hb
          obtain ⟨c0, c1, c2⟩ := X_1.out.cells3
          go_wp2_with fail
          go_ret
          exact ⟨ret_bool (by simp [HB0.out, HL0.out]), BEL_1.out⟩
set_option maxRecDepth 100000 in
set_option maxHeartbeats 4000000 in
theorem refSame_on (s1 b1 : Int) (a : Option Addr) (len cap : Nat) (L : List Wt) (s2 b2 : Int) (b : Option Addr) (len2 cap2 : Nat) (M : List Wt) (w : World) (hL : Wts w a len cap L) (hM : Wts w b len2 cap2 M) :
    Calls Try.prog 11 #[onV s1 b1 a len cap, onV s2 b2 b len2 cap2] w fun e w' => e = .returned (.bool (s1 == s2 && b1 == b2 && decide (L = M))) ∧ Below w.heap.size w w' := by
  have BEL_0 := Lib.hid ((below_alloc w (.cells (onC s1 b1 a len cap) 24)).alloc (by simp) (.cells (onC s2 b2 b len2 cap2) 24))
  have HS := Lib.hid (Same_any a len cap L b len2 cap2 M _ (hL.below BEL_0.out) (hM.below BEL_0.out)); clear hL hM
  cases h1 : (s1 == s2) <;> cases h2 : (b1 == b2)
  all_goals
    go_enter Try.func11, Try.ntmps11
    go_wp2_with fail
    first
    | (go_ret; exact ⟨ret_bool rfl, BEL_0.out⟩)
    | (refine HS.out.mono ?_
       rintro e w1 ⟨rfl, hb⟩
       have BEL_1 := Lib.hid (BEL_0.out.trans (Below.mono hb BEL_0.out.size))
       clear hb
       go_wp2_with fail
       go_ret
       exact ⟨ret_bool (by simp), BEL_1.out⟩)
set_option maxRecDepth 100000 in
set_option maxHeartbeats 4000000 in
theorem few_on (st by_ : Int) (a : Option Addr) (len cap : Nat) (w : World) (hlc : len ≤ cap) (hcc : cap ≤ maxLen) :
    Calls Try.prog 5 #[onV st by_ a len cap] w fun e w' => e = .returned (onV st by_ a (min len 70) cap) ∧ Below w.heap.size w w' := by
  unfold maxLen at hcc
  have hcm : len ≤ 9223372036854775807 := by omega
  by_cases h70 : len ≤ 70
  all_goals
    first
    | (have e : min len 70 = len := by omega
       rw [e]
       have h' : (len : Int) ≤ 70 := by omega
       clear e)
    | (have e : min len 70 = 70 := by omega
       rw [e]
       have h' : (70 : Int) < (len : Int) := by omega
       clear e)
    go_enter Try.func5, Try.ntmps5
    go_wp2_with fail
    refine bodyPost_ret (v := onV st by_ a _ cap) (by first | (rw [res_c0 Try.results5 _ (by rfl) ((Bx.new2 w _ #[.int .i64 st, .int .i64 by_, .slice a _ cap] 24).load Try.underlying24 inf24)])) rfl ⟨rfl, ?_⟩
    exact (below_alloc w _).alloc (by simp) _
end Go.Proofs.Ytnmopfimmindnaa
