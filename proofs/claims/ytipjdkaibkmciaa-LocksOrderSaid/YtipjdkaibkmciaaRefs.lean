/- Take, Give, Waiting as plain functions; the reference. -/
import Derived.Test.YtipjdkaibkmciaaCalls
namespace Go.Proofs.Ytipjdkaibkmciaa
open Go.RowKit
def takeZ (h : Bool) (L : List Wt) (x : Wt) : Bool × List Wt × Bool × Int :=
  if h = false then (true, [], true, 0) else if hasW L x.g x.c = true then (false, [], false, 7) else if L.length = 64 then (false, [], false, 5) else (true, L ++ [x], false, 0)
def giveZ (h : Bool) (L : List Wt) : Bool × List Wt × Wt × Bool × Int :=
  if h = false then (false, [], zeroW, false, 6) else match L with
    | [] => (false, [], zeroW, false, 0)
    | y :: ys => (true, ys, y, true, 0)
theorem rightK_W {h : Bool} {L : List Wt} (hr : rightK h L = true) : rightW L = true := by
  unfold rightK at hr; simp at hr; exact hr.1
theorem Take_any (h : Bool) (a : Option Addr) (len cap : Nat) (L : List Wt) (x : Wt) (w : World) (hL : Wts w a len cap L) (hx : WtOk x) (hr : rightK h L = true) (hm : mayW x = true) :
    Calls Try.prog 6 #[lkV h a len cap, wV x] w (GotT w (takeZ h L x).1 (takeZ h L x).2.1 (takeZ h L x).2.2.1 (takeZ h L x).2.2.2) := by
  have hrw := rightK_W hr
  have hlen := hL.recs.len_eq
  cases h with
  | false => exact Take_of false a len cap L x true [] zeroW true 0 0 w hL (fun W HL => told_ok_17 false a len cap L _ true [] zeroW true 0 W HL hr (fun W2 _ => take_free a len cap x W2 hx hm))
  | true =>
    cases hh : hasW L x.g x.c with
    | true =>
      have e : takeZ true L x = (false, [], false, 7) := by simp [takeZ, hh]
      rw [e]
      exact Take_of true a len cap L x false [] zeroW false 0 7 w hL (fun W HL => told_err_17 true a len cap L _ true [] zeroW false 0 7 (by decide) W HL hr (fun W2 H2 => take_twice a len cap L x W2 H2 hx hrw hm hh))
    | false =>
      by_cases hf : len = 64
      · have e : takeZ true L x = (false, [], false, 5) := by simp [takeZ, hh, hlen, hf]
        rw [e]
        exact Take_of true a len cap L x false [] zeroW false 0 5 w hL (fun W HL => told_err_17 true a len cap L _ true [] zeroW false 0 5 (by decide) W HL hr (fun W2 H2 => take_full a len cap L x W2 H2 hx hrw hm hh hf))
      · have e : takeZ true L x = (true, L ++ [x], false, 0) := by simp [takeZ, hh, hlen, hf]
        rw [e]
        exact Take_of true a len cap L x true (L ++ [x]) zeroW false 0 0 w hL (fun W HL => told_ok_17 true a len cap L _ true (L ++ [x]) zeroW false 0 W HL hr (fun W2 H2 => take_ok a len cap L x W2 H2 hx hrw hm hh hf))
theorem Take_arg (h : Bool) (a : Option Addr) (len cap : Nat) (L : List Wt) (x : Wt) (w : World) (hL : Wts w a len cap L) (hx : WtOk x) (hbad : rightK h L = false ∨ mayW x = false) :
    Calls Try.prog 6 #[lkV h a len cap, wV x] w (GotT w false [] false 1) := by
  refine Take_of h a len cap L x false [] zeroW false 0 1 w hL (fun W HL => ?_)
  cases hr : rightK h L with
  | false => exact told_bad h a len cap L _ W HL hr
  | true =>
    have hm : mayW x = false := by rcases hbad with hb | hb; · rw [hb] at hr; cases hr
                                   · exact hb
    exact told_err_17 h a len cap L _ false [] zeroW false 0 1 (by decide) W HL hr (fun W2 _ => take_arg h a len cap x W2 hx hm)
theorem Give_any (h : Bool) (a : Option Addr) (len cap : Nat) (L : List Wt) (w : World) (hL : Wts w a len cap L) (hr : rightK h L = true) :
    Calls Try.prog 7 #[lkV h a len cap] w (GotG w (giveZ h L).1 (giveZ h L).2.1 (giveZ h L).2.2.1 (giveZ h L).2.2.2.1 (giveZ h L).2.2.2.2) := by
  have hrw := rightK_W hr
  have h64 : len ≤ 64 := by have := (rightW_iff.1 hrw).1; rwa [hL.recs.len_eq] at this
  cases h with
  | false => exact Give_of false a len cap L false [] zeroW false 0 6 w hL (fun W HL => told_err_18 false a len cap L _ false [] zeroW false 0 6 (by decide) W HL hr (fun W2 _ => give_free a len cap zeroW W2))
  | true =>
    cases L with
    | nil =>
      obtain rfl : len = 0 := by have := hL.recs.len_eq; simpa using this.symm
      exact Give_of true a 0 cap [] false [] zeroW false 0 0 w hL (fun W HL => told_ok_18 true a 0 cap [] _ false [] zeroW false 0 W HL hr (fun W2 _ => give_none a cap zeroW W2))
    | cons y ys => exact Give_of true a len cap (y :: ys) true ys y true 0 0 w hL (fun W HL => told_ok_18 true a len cap (y :: ys) _ true ys y true 0 W HL hr (fun W2 H2 => give_ok a len cap y ys zeroW W2 H2 h64))
theorem Give_arg (h : Bool) (a : Option Addr) (len cap : Nat) (L : List Wt) (w : World) (hL : Wts w a len cap L) (hr : rightK h L = false) :
    Calls Try.prog 7 #[lkV h a len cap] w (GotG w false [] zeroW false 1) :=
  Give_of h a len cap L false [] zeroW false 0 1 w hL (fun W HL => told_bad h a len cap L _ W HL hr)
theorem Waiting_any (h : Bool) (a : Option Addr) (len cap : Nat) (L : List Wt) (w : World) (hL : Wts w a len cap L) (hr : rightK h L = true) :
    Calls Try.prog 8 #[lkV h a len cap] w fun e w' => e = .returned (.tuple #[.int .i64 len, .int .i64 0]) ∧ Below w.heap.size w w' :=
  Waiting_of h a len cap L false [] zeroW false len 0 w hL (fun W HL => told_ok_19 h a len cap L _ false [] zeroW false len W HL hr (fun W2 _ => waiting_any h a len cap zeroW W2))
theorem Waiting_arg (h : Bool) (a : Option Addr) (len cap : Nat) (L : List Wt) (w : World) (hL : Wts w a len cap L) (hr : rightK h L = false) :
    Calls Try.prog 8 #[lkV h a len cap] w fun e w' => e = .returned (.tuple #[.int .i64 0, .int .i64 1]) ∧ Below w.heap.size w w' :=
  Waiting_of h a len cap L false [] zeroW false 0 1 w hL (fun W HL => told_bad h a len cap L _ W HL hr)
set_option maxRecDepth 100000 in
set_option maxHeartbeats 4000000 in
theorem refRight_lk (h : Bool) (a : Option Addr) (len cap : Nat) (L : List Wt) (w : World) (hL : Wts w a len cap L) :
    Calls Try.prog 9 #[lkV h a len cap] w fun e w' => e = .returned (.bool (rightK h L)) ∧ Below w.heap.size w w' := by
  have hcm := hL.recs.len_le
  have HLE : Hid (L.isEmpty = decide (len = 0)) := Lib.hid (by rw [← hL.recs.len_eq]; cases L <;> simp)
  have HR := Lib.hid (fun W (h : Wts W a len cap L) => refRight_any a len cap L W h)
  have L_0 := Lib.hid (hL.below (below_alloc w (.cells #[.bool h, .slice a len cap] 24))); clear hL
  have X_0 := Lib.hid (Bx.new w #[.bool h, .slice a len cap] 24)
  have BEL_0 := Lib.hid (below_alloc w (.cells #[.bool h, .slice a len cap] 24))
  cases hr : rightW L
  all_goals
    rw [hr] at HR
    have HRR := Lib.hid hr; clear hr
    cases h
    all_goals
      by_cases h0 : len = 0
      all_goals
        have H0 := Lib.hid h0
        first | (have hz : ((len : Int) == 0) = true := by rw [beq_iff_eq]; omega) | (have hz : ((len : Int) == 0) = false := by rw [beq_eq_false_iff_ne]; omega)
        clear h0
        go_enter Try.func9, Try.ntmps9
        go_wp2_with fail
        refine (HR.out _ L_0.out).mono ?_
        rintro e w1 ⟨rfl, hb⟩
        have X_1 := Lib.hid (X_0.out.below hb)
        have BEL_1 := Lib.hid (BEL_0.out.trans (Below.mono hb BEL_0.out.size))
        clear hb
        obtain ⟨c0, c1⟩ := X_1.out.cells2
        go_wp2_with fail
        go_ret
        exact ⟨ret_bool (by rw [rightK, HRR.out, HLE.out]; simp [H0.out]), BEL_1.out⟩
set_option maxRecDepth 100000 in
set_option maxHeartbeats 4000000 in
theorem refSame_lk (h1 : Bool) (a : Option Addr) (len cap : Nat) (L : List Wt) (h2 : Bool) (b : Option Addr) (len2 cap2 : Nat) (M : List Wt) (w : World) (hL : Wts w a len cap L) (hM : Wts w b len2 cap2 M) :
    Calls Try.prog 12 #[lkV h1 a len cap, lkV h2 b len2 cap2] w fun e w' => e = .returned (.bool (h1 == h2 && decide (L = M))) ∧ Below w.heap.size w w' := by
  have BEL_0 := Lib.hid ((below_alloc w (.cells #[.bool h1, .slice a len cap] 24)).alloc (by simp) (.cells #[.bool h2, .slice b len2 cap2] 24))
  have HS := Lib.hid (Same_any a len cap L b len2 cap2 M _ (hL.below BEL_0.out) (hM.below BEL_0.out)); clear hL hM
  cases h1 <;> cases h2
  all_goals
    go_enter Try.func12, Try.ntmps12
    go_wp2_with fail
    first
    | (go_ret; exact ⟨ret_bool rfl, BEL_0.out⟩)
    | (refine HS.out.mono ?_
       rintro e w1 ⟨rfl, hb⟩
       have BEL_1 := Lib.hid (BEL_0.out.trans (Below.mono hb BEL_0.out.size))
       clear hb
       go_wp2_with fail
       go_ret
       exact ⟨ret_bool (by simp), BEL_1.out⟩)
end Go.Proofs.Ytipjdkaibkmciaa
