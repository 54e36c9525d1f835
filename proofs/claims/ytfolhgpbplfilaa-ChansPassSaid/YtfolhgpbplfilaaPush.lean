/- Push. -/
import Derived.Test.YtfolhgpbplfilaaApp
import Derived.Deep.RegionHeld3
namespace Go.Proofs.Ytfolhgpbplfilaa
open Go.RowKit

/-- what Push hands back where it refuses -/
def NoL (w : World) (why : Int) (e : Ending) (w' : World) : Prop := e = .returned (.tuple #[.slice none 0 0, .int .i64 why]) ∧ Below w.heap.size w w'
def GotW (w : World) (L : List Wt) (e : Ending) (w' : World) : Prop := ∃ a n cap, e = .returned (.tuple #[.slice a n cap, .int .i64 0]) ∧ Wts w' a n cap L ∧ Below w.heap.size w w'
theorem gotW {w w' : World} {v : Value} {L : List Wt} (ho : OwnW w' w.heap.size v L) (hok : ∀ x ∈ L, WtOk x) (hb : Below w.heap.size w w') : GotW w L (.returned (.tuple #[v, .int .i64 0])) w' := by
  obtain ⟨a, cap, rfl, hr⟩ := OwnR.recs wcells_len ho
  exact ⟨a, _, cap, rfl, ⟨hr, hok⟩, hb⟩

set_option maxRecDepth 100000 in
set_option maxHeartbeats 2000000 in
theorem Push_arg (a : Option Addr) (len cap : Nat) (L : List Wt) (x : Wt) (w : World) (hL : Wts w a len cap L) (hx : WtOk x) (hbad : rightW L = false ∨ mayW x = false) :
    Calls Try.prog 45 #[.slice a len cap, wV x] w (NoL w 1) := by
  have hcm := hL.recs.len_le
  have HR := Lib.hid (fun W (h : Wts W a len cap L) => Right_any a len cap L W h)
  have HL := Lib.hid (hL.below (below_alloc w (.cells #[.int .i64 x.g, .int .i64 x.c, .int .i64 x.s] 48))); clear hL
  have HBX := Lib.hid (Box3.new w x)
  have HB := Lib.hid (below_alloc w (.cells #[.int .i64 x.g, .int .i64 x.c, .int .i64 x.s] 48))
  cases hr : rightW L with
  | false =>
    rw [hr] at HR
    clear hbad hr
    go_enter Try.func45, Try.ntmps45
    go_wp2_with fail
    refine (HR.out _ HL.out).mono ?_
    rintro e w1 ⟨rfl, hb1⟩
    have HB1 := Lib.hid (HB.out.trans (Below.mono hb1 HB.out.size)); clear hb1
    go_wp2_with fail
    go_ret2
    exact ⟨rfl, HB1.out⟩
  | true =>
    have hm : mayW x = false := by rcases hbad with h | h; · rw [hr] at h; simp at h
                                   · exact h
    rw [hr] at HR
    have HM := Lib.hid (fun W => may_any x W hx)
    rw [hm] at HM
    clear hbad hr hm
    go_enter Try.func45, Try.ntmps45
    go_wp2_with fail
    refine (HR.out _ HL.out).mono ?_
    rintro e w1 ⟨rfl, hb1⟩
    have HB1 := Lib.hid (HB.out.trans (Below.mono hb1 HB.out.size))
    obtain ⟨c0, c1, c2⟩ := (HBX.out.below hb1).cells
    clear hb1
    go_wp2_with fail
    clear c0 c1 c2
    refine (HM.out _).mono ?_
    rintro e w2 ⟨rfl, hb2⟩
    have HB2 := Lib.hid (HB1.out.trans (Below.mono hb2 HB1.out.size)); clear hb2
    go_wp2_with fail
    go_ret2
    exact ⟨rfl, HB2.out⟩

theorem ok_snoc {L : List Wt} {x : Wt} (h : ∀ y ∈ L, WtOk y) (hx : WtOk x) : ∀ y ∈ L ++ [x], WtOk y := by
  intro y hy
  rcases List.mem_append.1 hy with h1 | h1
  · exact h y h1
  · simp at h1; rw [h1]; exact hx
set_option maxRecDepth 100000 in
set_option maxHeartbeats 4000000 in
theorem Push_twice (a : Option Addr) (len cap : Nat) (L : List Wt) (x : Wt) (w : World) (hL : Wts w a len cap L) (hx : WtOk x) (hr : rightW L = true) (hm : mayW x = true) (hh : hasW L x.g x.c = true) :
    Calls Try.prog 45 #[.slice a len cap, wV x] w (NoL w 7) := by
  have hcm := hL.recs.len_le
  have h64 : len ≤ 64 := by have := (rightW_iff.1 hr).1; rwa [hL.recs.len_eq] at this
  have HLL := Lib.hid hL.recs.len_eq
  have HR := Lib.hid (fun W (h : Wts W a len cap L) => Right_any a len cap L W h)
  rw [hr] at HR
  have L_0 := Lib.hid (hL.below (below_alloc w (.cells #[.int .i64 x.g, .int .i64 x.c, .int .i64 x.s] 48))); clear hL
  have X_0 := Lib.hid (Box3.new w x)
  have BEL_0 := Lib.hid (below_alloc w (.cells #[.int .i64 x.g, .int .i64 x.c, .int .i64 x.s] 48))
  have HM := Lib.hid (fun W => may_any x W hx)
  rw [hm] at HM
  clear hr hm
  have HC := Lib.hid (fun W (h : Wts W a len cap L) B (hB : Box3 W B x) => ContainsFunc_any a len cap L x B W h hB)
  rw [hh] at HC
  have HCl := Lib.hid (fun W (h : Wts W a len cap L) => Clone_any a len cap L W h (by omega))
  have HXO := Lib.hid hx
  clear hh
  go_enter Try.func45, Try.ntmps45
  go_wp2_with fail
  refine (HR.out _ L_0.out).mono ?_
  rintro e w1 ⟨rfl, hb⟩
  have L_1 := Lib.hid (L_0.out.below hb)
  have X_1 := Lib.hid (X_0.out.below hb)
  have BEL_1 := Lib.hid (BEL_0.out.trans (Below.mono hb BEL_0.out.size))
  clear L_0 X_0 BEL_0
  clear hb
  obtain ⟨c0, c1, c2⟩ := X_1.out.cells
  go_wp2_with fail
  clear c0 c1 c2
  refine (HM.out _).mono ?_
  rintro e w2 ⟨rfl, hb⟩
  have L_2 := Lib.hid (L_1.out.below hb)
  have X_2 := Lib.hid (X_1.out.below hb)
  have BEL_2 := Lib.hid (BEL_1.out.trans (Below.mono hb BEL_1.out.size))
  clear L_1 X_1 BEL_1
  clear hb
  go_wp2_with fail
  refine (HC.out _ L_2.out _ X_2.out).mono ?_
  rintro e w3 ⟨rfl, hb⟩
  have L_3 := Lib.hid (L_2.out.below hb)
  have X_3 := Lib.hid (X_2.out.below hb)
  have BEL_3 := Lib.hid (BEL_2.out.trans (Below.mono hb BEL_2.out.size))
  clear L_2 X_2 BEL_2
  clear hb
  go_wp2_with fail
  go_ret2
  exact ⟨rfl, BEL_3.out⟩
set_option maxRecDepth 100000 in
set_option maxHeartbeats 4000000 in
theorem Push_full (a : Option Addr) (len cap : Nat) (L : List Wt) (x : Wt) (w : World) (hL : Wts w a len cap L) (hx : WtOk x) (hr : rightW L = true) (hm : mayW x = true) (hh : hasW L x.g x.c = false) (hf : len = 64) :
    Calls Try.prog 45 #[.slice a len cap, wV x] w (NoL w 5) := by
  have hcm := hL.recs.len_le
  have h64 : len ≤ 64 := by have := (rightW_iff.1 hr).1; rwa [hL.recs.len_eq] at this
  have HLL := Lib.hid hL.recs.len_eq
  have HR := Lib.hid (fun W (h : Wts W a len cap L) => Right_any a len cap L W h)
  rw [hr] at HR
  have L_0 := Lib.hid (hL.below (below_alloc w (.cells #[.int .i64 x.g, .int .i64 x.c, .int .i64 x.s] 48))); clear hL
  have X_0 := Lib.hid (Box3.new w x)
  have BEL_0 := Lib.hid (below_alloc w (.cells #[.int .i64 x.g, .int .i64 x.c, .int .i64 x.s] 48))
  have HM := Lib.hid (fun W => may_any x W hx)
  rw [hm] at HM
  clear hr hm
  have HC := Lib.hid (fun W (h : Wts W a len cap L) B (hB : Box3 W B x) => ContainsFunc_any a len cap L x B W h hB)
  rw [hh] at HC
  have HCl := Lib.hid (fun W (h : Wts W a len cap L) => Clone_any a len cap L W h (by omega))
  have HXO := Lib.hid hx
  clear hh
  have hfb : ((len : Int) == 64) = true := by rw [beq_iff_eq]; omega
  clear hf
  go_enter Try.func45, Try.ntmps45
  go_wp2_with fail
  refine (HR.out _ L_0.out).mono ?_
  rintro e w1 ⟨rfl, hb⟩
  have L_1 := Lib.hid (L_0.out.below hb)
  have X_1 := Lib.hid (X_0.out.below hb)
  have BEL_1 := Lib.hid (BEL_0.out.trans (Below.mono hb BEL_0.out.size))
  clear L_0 X_0 BEL_0
  clear hb
  obtain ⟨c0, c1, c2⟩ := X_1.out.cells
  go_wp2_with fail
  clear c0 c1 c2
  refine (HM.out _).mono ?_
  rintro e w2 ⟨rfl, hb⟩
  have L_2 := Lib.hid (L_1.out.below hb)
  have X_2 := Lib.hid (X_1.out.below hb)
  have BEL_2 := Lib.hid (BEL_1.out.trans (Below.mono hb BEL_1.out.size))
  clear L_1 X_1 BEL_1
  clear hb
  go_wp2_with fail
  refine (HC.out _ L_2.out _ X_2.out).mono ?_
  rintro e w3 ⟨rfl, hb⟩
  have L_3 := Lib.hid (L_2.out.below hb)
  have X_3 := Lib.hid (X_2.out.below hb)
  have BEL_3 := Lib.hid (BEL_2.out.trans (Below.mono hb BEL_2.out.size))
  clear L_2 X_2 BEL_2
  clear hb
  go_wp2_with fail
  go_ret2
  exact ⟨rfl, BEL_3.out⟩
set_option maxRecDepth 100000 in
set_option maxHeartbeats 4000000 in
theorem Push_ok (a : Option Addr) (len cap : Nat) (L : List Wt) (x : Wt) (w : World) (hL : Wts w a len cap L) (hx : WtOk x) (hr : rightW L = true) (hm : mayW x = true) (hh : hasW L x.g x.c = false) (hf : len ≠ 64) :
    Calls Try.prog 45 #[.slice a len cap, wV x] w (GotW w (L ++ [x])) := by
  have hcm := hL.recs.len_le
  have h64 : len ≤ 64 := by have := (rightW_iff.1 hr).1; rwa [hL.recs.len_eq] at this
  have HLL := Lib.hid hL.recs.len_eq
  have HR := Lib.hid (fun W (h : Wts W a len cap L) => Right_any a len cap L W h)
  rw [hr] at HR
  have L_0 := Lib.hid (hL.below (below_alloc w (.cells #[.int .i64 x.g, .int .i64 x.c, .int .i64 x.s] 48))); clear hL
  have X_0 := Lib.hid (Box3.new w x)
  have BEL_0 := Lib.hid (below_alloc w (.cells #[.int .i64 x.g, .int .i64 x.c, .int .i64 x.s] 48))
  have HM := Lib.hid (fun W => may_any x W hx)
  rw [hm] at HM
  clear hr hm
  have HC := Lib.hid (fun W (h : Wts W a len cap L) B (hB : Box3 W B x) => ContainsFunc_any a len cap L x B W h hB)
  rw [hh] at HC
  have HCl := Lib.hid (fun W (h : Wts W a len cap L) => Clone_any a len cap L W h (by omega))
  have HXO := Lib.hid hx
  clear hh
  have hfb : ((len : Int) == 64) = false := by rw [beq_eq_false_iff_ne]; omega
  clear hf
  go_enter Try.func45, Try.ntmps45
  go_wp2_with fail
  refine (HR.out _ L_0.out).mono ?_
  rintro e w1 ⟨rfl, hb⟩
  have L_1 := Lib.hid (L_0.out.below hb)
  have X_1 := Lib.hid (X_0.out.below hb)
  have BEL_1 := Lib.hid (BEL_0.out.trans (Below.mono hb BEL_0.out.size))
  clear L_0 X_0 BEL_0
  clear hb
  obtain ⟨c0, c1, c2⟩ := X_1.out.cells
  go_wp2_with fail
  clear c0 c1 c2
  refine (HM.out _).mono ?_
  rintro e w2 ⟨rfl, hb⟩
  have L_2 := Lib.hid (L_1.out.below hb)
  have X_2 := Lib.hid (X_1.out.below hb)
  have BEL_2 := Lib.hid (BEL_1.out.trans (Below.mono hb BEL_1.out.size))
  clear L_1 X_1 BEL_1
  clear hb
  go_wp2_with fail
  refine (HC.out _ L_2.out _ X_2.out).mono ?_
  rintro e w3 ⟨rfl, hb⟩
  have L_3 := Lib.hid (L_2.out.below hb)
  have X_3 := Lib.hid (X_2.out.below hb)
  have BEL_3 := Lib.hid (BEL_2.out.trans (Below.mono hb BEL_2.out.size))
  clear L_2 X_2 BEL_2
  clear hb
  go_wp2_with fail
  have HSS : Hid (∀ W', Below w3.heap.size w3 W' → W'.cell? ⟨w.heap.size, 0, none⟩ = some (.int .i64 x.g) ∧ W'.cell? ⟨w.heap.size, 1, none⟩ = some (.int .i64 x.c) ∧ W'.cell? ⟨w.heap.size, 2, none⟩ = some (.int .i64 x.s)) := Lib.hid (fun W' hb => (X_3.out.below hb).cells)
  go_region_held3 (fun W => W.cell? ⟨w.heap.size, 0, none⟩ = some (.int .i64 x.g) ∧ W.cell? ⟨w.heap.size, 1, none⟩ = some (.int .i64 x.c) ∧ W.cell? ⟨w.heap.size, 2, none⟩ = some (.int .i64 x.s))
    ((refine HSS.out _ ?_; (repeat (first | exact HBb.out | exact HBa.out | exact Below.refl _ _ | refine Below.drew ?_ | refine belowX_alloc ?_ _))))
    (first
      | (go_at_call 53; refine (HCl.out _ (L_3.out.below (by (repeat (first | exact Below.refl _ _ | refine Below.drew ?_ | refine belowX_alloc ?_ _))))).mono ?_; rintro e wa ⟨v1, rfl, ho1, hba⟩; have HBa : Hid (Below w3.heap.size w3 wa) := Lib.hid (Below.trans (b := _) (by (repeat (first | exact Below.refl _ _ | refine Below.drew ?_ | refine belowX_alloc ?_ _))) (Below.mono hba (by first | exact Nat.le_refl _ | (simp; done)))); have HO1 : Hid (OwnW wa w3.heap.size v1 L) := Lib.hid (World.ownsRow.mono' ho1 (by first | exact Nat.le_refl _ | (simp; done))); have HWA := Lib.hid hba; clear ho1 hba)
      | (refine step_appR (by first | rfl | kernel_rfl) (.tmp 21) (.tmp 23) (by rfl) w3.heap.size _ L (by rfl) (by first | exact HO1.out | exact World.ownsRow.alloc HO1.out _) _ 1 1 [x] (by rfl) (recs_one (by first | exact Box3.new _ x | exact Box3.below (show Box3 ((w3.alloc (.cells #[.int .i64 x.g, .int .i64 x.c, .int .i64 x.s] 48)).drew) w3.heap.size x from Box3.new w3 x) HWA.out)) (by rw [HLL.out]; omega) (by omega) (by first | exact HBa.out.size | exact Nat.le_trans HBa.out.size (by simp)) ?_; intro v2 wb ho2 hg2; have HBb : Hid (Below w3.heap.size w3 wb) := Lib.hid (Below.grown (w := _) (by (repeat (first | exact HBa.out | refine Below.drew ?_ | refine belowX_alloc ?_ _))) hg2.out (by first | exact HBa.out.size | exact Nat.le_trans HBa.out.size (by simp)) (fun r hr => OwnR.lt HO1.out r hr))))
  all_goals
    go_wp2_with fail
    go_ret2
    exact gotW (World.ownsRow.mono' ho2.out BEL_3.out.size) (ok_snoc L_3.out.ok HXO.out) (BEL_3.out.trans (Below.mono HBb.out BEL_3.out.size))
end Go.Proofs.Ytfolhgpbplfilaa
