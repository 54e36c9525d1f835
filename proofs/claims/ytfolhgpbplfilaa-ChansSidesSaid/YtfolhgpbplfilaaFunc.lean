/- The library's calls: ContainsFunc, Clone, Contains. -/
import Derived.Test.YtfolhgpbplfilaaRight2
import Derived.StillTailTactics
import Derived.Deep.RegionHeld3
namespace Go.Proofs.Ytfolhgpbplfilaa
open Go.RowKit

def sameW (x : Wt) (g c : Int) : Bool := x.g == g && x.c == c
set_option maxRecDepth 100000 in
set_option maxHeartbeats 2000000 in
theorem cmp_any (x y : Wt) (B : Nat) (w : World) (hB : Box3 w B y) :
    Calls Try.prog 64 #[wV x, .pointer (some ⟨B, 0, none⟩)] w fun e w' => e = .returned (.bool (sameW x y.g y.c)) ∧ Below w.heap.size w w' := by
  have HB := Lib.hid hB; clear hB
  obtain ⟨q0, q1, q2⟩ := HB.out.cells
  have hl := HB.out.lt
  go_enter Try.func64, Try.ntmps64
  go_wp2_with fail
  have HX := Lib.hid (Box3.new w x)
  have HB0 := Lib.hid (HB.out.below (below_alloc w (.cells #[.int .i64 x.g, .int .i64 x.c, .int .i64 x.s] 48)))
  obtain ⟨W0, hW0⟩ : ∃ W0, W0 = w.alloc (.cells #[.int .i64 x.g, .int .i64 x.c, .int .i64 x.s] 48) := ⟨_, rfl⟩
  have HBL := Lib.hid (show Below w.heap.size w W0 by rw [hW0]; exact below_alloc w _)
  rw [← hW0] at HX HB0 ⊢
  obtain ⟨A, hA⟩ : ∃ A, A = w.heap.size := ⟨_, rfl⟩
  rw [← hA] at HX ⊢
  have HAW := Lib.hid hA
  clear q0 q1 q2 hl hW0 hA
  have HSS : Hid (∀ W', Below W0.heap.size W0 W' → W'.cell? ⟨A, 0, none⟩ = some (.int .i64 x.g) ∧ W'.cell? ⟨A, 1, none⟩ = some (.int .i64 x.c) ∧ W'.cell? ⟨A, 2, none⟩ = some (.int .i64 x.s) ∧ W'.cell? ⟨B, 0, none⟩ = some (.int .i64 y.g) ∧ W'.cell? ⟨B, 1, none⟩ = some (.int .i64 y.c) ∧ W'.cell? ⟨B, 2, none⟩ = some (.int .i64 y.s)) := Lib.hid (fun W' hb => by
    obtain ⟨a0, a1, a2⟩ := (HX.out.below hb).cells
    obtain ⟨b0, b1, b2⟩ := (HB0.out.below hb).cells
    exact ⟨a0, a1, a2, b0, b1, b2⟩)
  have HS := Lib.hid (show sameW x y.g y.c = (x.g == y.g && x.c == y.c) from rfl)
  cases hg : (x.g == y.g) <;> cases hc : (x.c == y.c) <;> rw [hg, hc] at HS
  all_goals
   go_region_held3 (fun W => W.cell? ⟨A, 0, none⟩ = some (.int .i64 x.g) ∧ W.cell? ⟨A, 1, none⟩ = some (.int .i64 x.c) ∧ W.cell? ⟨A, 2, none⟩ = some (.int .i64 x.s) ∧ W.cell? ⟨B, 0, none⟩ = some (.int .i64 y.g) ∧ W.cell? ⟨B, 1, none⟩ = some (.int .i64 y.c) ∧ W.cell? ⟨B, 2, none⟩ = some (.int .i64 y.s))
     ((refine HSS.out _ ?_; first | exact H2.out | exact H1.out | exact (Below.refl _ _).drew))
     ((go_at_call 60; first | (refine (of_any x _).mono ?_; rintro e w1 ⟨rfl, hb⟩; first | (have H2 : Hid (Below W0.heap.size W0 w1) := Lib.hid (H1.out.trans (Below.mono hb H1.out.size)); clear hb) | (have H1 : Hid (Below W0.heap.size W0 w1) := Lib.hid (((Below.refl W0.heap.size W0).drew).trans (Below.mono hb (Nat.le_refl _))); clear hb)) | (refine (of_any y _).mono ?_; rintro e w1 ⟨rfl, hb⟩; first | (have H2 : Hid (Below W0.heap.size W0 w1) := Lib.hid (H1.out.trans (Below.mono hb H1.out.size)); clear hb) | (have H1 : Hid (Below W0.heap.size W0 w1) := Lib.hid (((Below.refl W0.heap.size W0).drew).trans (Below.mono hb (Nat.le_refl _))); clear hb))))
   all_goals
    go_wp2_with fail
    go_ret
    exact ⟨ret_bool (by rw [HS.out]; rfl), HBL.out.trans (Below.mono H2.out HBL.out.size)⟩

set_option maxRecDepth 100000 in
set_option maxHeartbeats 2000000 in
theorem IndexFunc_any (a : Option Addr) (len cap : Nat) (L : List Wt) (y : Wt) (B : Nat) (w : World) (hL : Wts w a len cap L) (hB : Box3 w B y) :
    Calls Try.prog 70 #[.slice a len cap, .func (.func 64) #[] #[.pointer (some ⟨B, 0, none⟩)]] w fun e w' => (∃ i : Int, e = .returned (.int .i64 i) ∧ decide (0 ≤ i) = hasW L y.g y.c) ∧ Below w.heap.size w w' := by
  have hcm := hL.recs.len_le
  have HLL := Lib.hid hL.recs.len_eq
  have HL := Lib.hid hL; clear hL
  have HB := Lib.hid hB; clear hB
  go_enter Try.func70, Try.ntmps70
  go_wp2_with fail
  go_loopw [8] (fun i wr => ∃ k : Nat, k ≤ len ∧ i = .int .i64 k ∧ hasW (L.take k) y.g y.c = false ∧ Below w.heap.size w wr) (fun i _ => len - (intOf i).toNat)
  case atStart => exact ⟨0, Nat.zero_le _, rfl, rfl, Below.refl _ _⟩
  case round =>
    obtain ⟨k, hk, rfl, hno, hb⟩ := hrel
    have HN := Lib.hid hno; have HBW := Lib.hid hb
    clear hno hb
    by_cases hlt : k < len
    · have hlt' : (k : Int) < (len : Int) := by omega
      obtain ⟨x, b, off, hx, hok, rfl, c0, c1, c2⟩ := (HL.out.below HBW.out).at k hlt
      have HX := Lib.hid hx; clear hx
      have HC := Lib.hid (cmp_any x y B wr (HB.out.below HBW.out))
      have HN1 := Lib.hid (hasW_snoc (L.take k) x y.g y.c)
      go_wp2_with fail
      refine HC.out.mono ?_
      rintro e w1 ⟨rfl, hb1⟩
      have HBW1 := Lib.hid (HBW.out.trans (hb1.mono HBW.out.size))
      clear hb1 c0 c1 c2
      cases hs : sameW x y.g y.c with
      | true =>
        have R := Lib.hid (show hasW L y.g y.c = true from List.any_eq_true.2 ⟨x, List.mem_of_getElem? HX.out, hs⟩)
        clear hs
        go_wp2_with fail
        go_ret
        exact ⟨⟨_, rfl, by rw [R.out]; simp⟩, HBW1.out⟩
      | false =>
        have HS := Lib.hid hs; clear hs
        go_wp2_with fail
        go_roundw
        case rel => exact ⟨k + 1, by omega, by go_num, by rw [take_snoc' HX.out, HN1.out, HN.out]; exact HS.out, HBW1.out⟩
        case measure => simp [intOf]; omega
    · have hkn : k = len := by omega
      subst hkn
      have R := Lib.hid (show hasW L y.g y.c = false by have := HN.out; rwa [List.take_of_length_le (by rw [HLL.out]; exact Nat.le_refl _)] at this)
      go_wp2_with fail
      go_ret
      exact ⟨⟨-1, rfl, by rw [R.out]; rfl⟩, HBW.out⟩

set_option maxRecDepth 100000 in
theorem ContainsFunc_any (a : Option Addr) (len cap : Nat) (L : List Wt) (y : Wt) (B : Nat) (w : World) (hL : Wts w a len cap L) (hB : Box3 w B y) :
    Calls Try.prog 63 #[.slice a len cap, .func (.func 64) #[] #[.pointer (some ⟨B, 0, none⟩)]] w fun e w' => e = .returned (.bool (hasW L y.g y.c)) ∧ Below w.heap.size w w' := by
  have HC := Lib.hid (IndexFunc_any a len cap L y B w hL hB)
  clear hL hB
  go_enter Try.func63, Try.ntmps63
  go_wp2_with fail
  refine HC.out.mono ?_
  rintro e w1 ⟨⟨i, rfl, hi⟩, hb1⟩
  have HI := Lib.hid hi; have HB := Lib.hid hb1
  clear hi hb1
  by_cases h0 : 0 ≤ i
  all_goals
    go_wp2_with fail
    go_ret
    exact ⟨ret_bool (by rw [← HI.out]; try simp [h0]), HB.out⟩
end Go.Proofs.Ytfolhgpbplfilaa
