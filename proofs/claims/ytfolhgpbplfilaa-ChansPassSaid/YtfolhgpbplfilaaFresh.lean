/- Push, Drop and the reference's Drop, told with where the new slice lies. -/
import Derived.Test.YtfolhgpbplfilaaRef2
namespace Go.Proofs.Ytfolhgpbplfilaa
open Go.RowKit
def GotF (w : World) (L : List Wt) (e : Ending) (w' : World) : Prop := ∃ a n cap, e = .returned (.tuple #[.slice a n cap, .int .i64 0]) ∧ Wts w' a n cap L ∧ Below w.heap.size w w' ∧ ∀ x, a = some x → w.heap.size ≤ x.block
theorem gotF {w w' : World} {v : Value} {L : List Wt} (ho : OwnW w' w.heap.size v L) (hok : ∀ x ∈ L, WtOk x) (hb : Below w.heap.size w w') : GotF w L (.returned (.tuple #[v, .int .i64 0])) w' := by
  have h0 := ho
  obtain ⟨a, cap, rfl, hr⟩ := OwnR.recs wcells_len ho
  exact ⟨a, _, cap, rfl, ⟨hr, hok⟩, hb, fun x hx => by subst hx; exact OwnR.lt h0 _ rfl⟩
def GotO (w : World) (L : List Wt) (e : Ending) (w' : World) : Prop := ∃ v, e = .returned v ∧ OwnW w' w.heap.size v L ∧ Below w.heap.size w w'
set_option maxRecDepth 100000 in
set_option maxHeartbeats 4000000 in
theorem Push_okF (a : Option Addr) (len cap : Nat) (L : List Wt) (x : Wt) (w : World) (hL : Wts w a len cap L) (hx : WtOk x) (hr : rightW L = true) (hm : mayW x = true) (hh : hasW L x.g x.c = false) (hf : len ≠ 64) :
    Calls Try.prog 45 #[.slice a len cap, wV x] w (GotF w (L ++ [x])) := by
  have hcm := hL.recs.len_le
  have h64 : len ≤ 64 := by have := (rightW_iff.1 hr).1; rwa [hL.recs.len_eq] at this
  have HLL := Lib.hid hL.recs.len_eq
  have HR := Lib.hid (fun W (h : Wts W a len cap L) => Right_any a len cap L W h)
  rw [hr] at HR
  have L_0 := Lib.hid (hL.below (below_alloc w (.cells #[.int .i64 x.g, .int .i64 x.c, .int .i64 x.s] 48))); clear hL
  have X_0 := Lib.hid (Box3.new w x)
  have BEL_0 := Lib.hid (below_alloc w (.cells #[.int .i64 x.g, .int .i64 x.c, .int .i64 x.s] 48))
  have HM := Lib.hid (fun W => may_any x W hx)
  rw [hm] at HM
  clear hr hm
  have HC := Lib.hid (fun W (h : Wts W a len cap L) B (hB : Box3 W B x) => ContainsFunc_any a len cap L x B W h hB)
  rw [hh] at HC
  have HCl := Lib.hid (fun W (h : Wts W a len cap L) => Clone_any a len cap L W h (by omega))
  have HXO := Lib.hid hx
  clear hh
  have hfb : ((len : Int) == 64) = false := by rw [beq_eq_false_iff_ne]; omega
  clear hf
  go_enter Try.func45, Try.ntmps45
  go_wp2_with fail
  refine (HR.out _ L_0.out).mono ?_
  rintro e w1 ⟨rfl, hb⟩
  have L_1 := Lib.hid (L_0.out.below hb)
  have X_1 := Lib.hid (X_0.out.below hb)
  have BEL_1 := Lib.hid (BEL_0.out.trans (Below.mono hb BEL_0.out.size))
  clear L_0 X_0 BEL_0
  clear hb
  obtain ⟨c0, c1, c2⟩ := X_1.out.cells
  go_wp2_with fail
  clear c0 c1 c2
  refine (HM.out _).mono ?_
  rintro e w2 ⟨rfl, hb⟩
  have L_2 := Lib.hid (L_1.out.below hb)
  have X_2 := Lib.hid (X_1.out.below hb)
  have BEL_2 := Lib.hid (BEL_1.out.trans (Below.mono hb BEL_1.out.size))
  clear L_1 X_1 BEL_1
  clear hb
  go_wp2_with fail
  refine (HC.out _ L_2.out _ X_2.out).mono ?_
  rintro e w3 ⟨rfl, hb⟩
  have L_3 := Lib.hid (L_2.out.below hb)
  have X_3 := Lib.hid (X_2.out.below hb)
  have BEL_3 := Lib.hid (BEL_2.out.trans (Below.mono hb BEL_2.out.size))
  clear L_2 X_2 BEL_2
  clear hb
  go_wp2_with fail
  have HSS : Hid (∀ W', Below w3.heap.size w3 W' → W'.cell? ⟨w.heap.size, 0, none⟩ = some (.int .i64 x.g) ∧ W'.cell? ⟨w.heap.size, 1, none⟩ = some (.int .i64 x.c) ∧ W'.cell? ⟨w.heap.size, 2, none⟩ = some (.int .i64 x.s)) := Lib.hid (fun W' hb => (X_3.out.below hb).cells)
  go_region_held3 (fun W => W.cell? ⟨w.heap.size, 0, none⟩ = some (.int .i64 x.g) ∧ W.cell? ⟨w.heap.size, 1, none⟩ = some (.int .i64 x.c) ∧ W.cell? ⟨w.heap.size, 2, none⟩ = some (.int .i64 x.s))
    ((refine HSS.out _ ?_; (repeat (first | exact HBb.out | exact HBa.out | exact Below.refl _ _ | refine Below.drew ?_ | refine belowX_alloc ?_ _))))
    (first
      | (go_at_call 53; refine (HCl.out _ (L_3.out.below (by (repeat (first | exact Below.refl _ _ | refine Below.drew ?_ | refine belowX_alloc ?_ _))))).mono ?_; rintro e wa ⟨v1, rfl, ho1, hba⟩; have HBa : Hid (Below w3.heap.size w3 wa) := Lib.hid (Below.trans (b := _) (by (repeat (first | exact Below.refl _ _ | refine Below.drew ?_ | refine belowX_alloc ?_ _))) (Below.mono hba (by first | exact Nat.le_refl _ | (simp; done)))); have HO1 : Hid (OwnW wa w3.heap.size v1 L) := Lib.hid (World.ownsRow.mono' ho1 (by first | exact Nat.le_refl _ | (simp; done))); have HWA := Lib.hid hba; clear ho1 hba)
      | (refine step_appR (by first | rfl | kernel_rfl) (.tmp 21) (.tmp 23) (by rfl) w3.heap.size _ L (by rfl) (by first | exact HO1.out | exact World.ownsRow.alloc HO1.out _) _ 1 1 [x] (by rfl) (recs_one (by first | exact Box3.new _ x | exact Box3.below (show Box3 ((w3.alloc (.cells #[.int .i64 x.g, .int .i64 x.c, .int .i64 x.s] 48)).drew) w3.heap.size x from Box3.new w3 x) HWA.out)) (by rw [HLL.out]; omega) (by omega) (by first | exact HBa.out.size | exact Nat.le_trans HBa.out.size (by simp)) ?_; intro v2 wb ho2 hg2; have HBb : Hid (Below w3.heap.size w3 wb) := Lib.hid (Below.grown (w := _) (by (repeat (first | exact HBa.out | refine Below.drew ?_ | refine belowX_alloc ?_ _))) hg2.out (by first | exact HBa.out.size | exact Nat.le_trans HBa.out.size (by simp)) (fun r hr => OwnR.lt HO1.out r hr))))
  all_goals
    go_wp2_with fail
    go_ret2
    exact gotF (World.ownsRow.mono' ho2.out BEL_3.out.size) (ok_snoc L_3.out.ok HXO.out) (BEL_3.out.trans (Below.mono HBb.out BEL_3.out.size))
set_option maxRecDepth 100000 in
set_option maxHeartbeats 2000000 in
theorem Drop_goF (a : Option Addr) (len cap : Nat) (L : List Wt) (g : Int) (w : World) (hL : Wts w a len cap L) (hr : rightW L = true) (hg : 0 ≤ g) (hgI : I64 g) :
    Calls Try.prog 54 #[.slice a len cap, .int .i64 g] w (GotF w (dropW L g)) := by
  have hcm := hL.recs.len_le
  unfold I64 at hgI
  have h64 : len ≤ 64 := by have := (rightW_iff.1 hr).1; rwa [hL.recs.len_eq] at this
  have HLL := Lib.hid hL.recs.len_eq
  have HR := Lib.hid (fun W (h : Wts W a len cap L) => Right_any a len cap L W h)
  rw [hr] at HR
  have HL := Lib.hid hL; clear hL hr
  have HDL := Lib.hid (fun k => Nat.le_trans (dropW_len (L.take k) g) (by rw [List.length_take]; exact Nat.min_le_left k L.length))
  have HOK := Lib.hid HL.out.ok
  go_enter Try.func54, Try.ntmps54
  go_wp2_with fail
  refine (HR.out _ HL.out).mono ?_
  rintro e w1 ⟨rfl, hb1⟩
  have HB1 := Lib.hid hb1
  have HL1 := Lib.hid (HL.out.below hb1)
  clear hb1
  go_wp2_with fail
  go_loopw [6, 18] (fun v i wr => ∃ k : Nat, k ≤ len ∧ i = .int .i64 k ∧ OwnW wr w1.heap.size v (dropW (L.take k) g) ∧ Below w1.heap.size w1 wr) (fun _ i _ => len - (intOf i).toNat)
  case atStart => exact ⟨0, Nat.zero_le _, rfl, ownR_nil _ _, Below.refl _ _⟩
  case round =>
    obtain ⟨k, hk, rfl, hown, hbw⟩ := hrel
    have HO := Lib.hid hown; have HW := Lib.hid hbw
    clear hown hbw
    by_cases hlt : k < len
    · have hlt' : (k : Int) < (len : Int) := by omega
      obtain ⟨x, bb, off, hx, hok, rfl, c0, c1, c2⟩ := (HL1.out.below HW.out).at k hlt
      have HX := Lib.hid (take_snoc' hx)
      have HDS := Lib.hid (dropW_snoc (L.take k) x g)
      clear hx
      cases hgc : (x.g != g) with
      | true =>
        have HN : Hid (dropW (L.take (k + 1)) g = dropW (L.take k) g ++ [x]) := Lib.hid (by rw [HX.out, HDS.out, if_pos hgc])
        go_wp2_with (at_builtin; refine wpList_appR rfl _ _ rfl w1.heap.size _ (dropW (L.take k) g) rfl (OwnR.below HO.out ((below_alloc wr _).alloc (by simp) _)) _ 1 1 [x] rfl (recs_one (box3_two _ _ x)) (by have := HDL.out k; omega) (by omega) (by have := HW.out.size; simp; omega) ?_; intro v' w2 ho hg2)
        have HB2 := Lib.hid (Below.grown (belowX_alloc (belowX_alloc HW.out _) _) hg2.out (by have := HW.out.size; simp; omega) (fun r hr => OwnR.lt HO.out r hr))
        clear hg2
        go_roundw
        case rel => exact ⟨k + 1, by omega, by go_num, by rw [HN.out]; exact ho.out, HB2.out⟩
        case measure => simp [intOf]; omega
      | false =>
        have HN : Hid (dropW (L.take (k + 1)) g = dropW (L.take k) g) := Lib.hid (by rw [HX.out, HDS.out, if_neg (by rw [hgc]; simp)])
        go_wp2_with fail
        go_roundw
        case rel => exact ⟨k + 1, by omega, by go_num, by rw [HN.out]; exact OwnR.below HO.out (below_alloc wr _), belowX_alloc HW.out _⟩
        case measure => simp [intOf]; omega
    · have hkn : k = len := by omega
      subst hkn
      have HT : Hid (L.take k = L) := Lib.hid (List.take_of_length_le (by rw [HLL.out]; exact Nat.le_refl _))
      go_wp2_with fail
      go_ret2
      exact gotF (World.ownsRow.mono' (by have := HO.out; rw [HT.out] at this; exact this) HB1.out.size) (fun y hy => HOK.out y (List.mem_filter.1 hy).1) (HB1.out.trans (Below.mono HW.out HB1.out.size))
set_option maxRecDepth 100000 in
set_option maxHeartbeats 2000000 in
theorem refDrop_own (a : Option Addr) (len cap : Nat) (L : List Wt) (g : Int) (w : World) (hL : Wts w a len cap L) (h64 : len ≤ 1000) (_hgI : I64 g) :
    Calls Try.prog 41 #[.slice a len cap, .int .i64 g] w (GotO w (dropW L g)) := by
  have hcm := hL.recs.len_le
  have hgI := _hgI
  unfold I64 at hgI
  have HLL := Lib.hid hL.recs.len_eq
  have HDL := Lib.hid (fun k => Nat.le_trans (dropW_len (L.take k) g) (by rw [List.length_take]; exact Nat.min_le_left k L.length))
  have HL := Lib.hid hL; clear hL
  have HOK := Lib.hid HL.out.ok
  go_enter Try.func41, Try.ntmps41
  go_wp2_with fail
  go_loopw [5, 11] (fun v i wr => ∃ k : Nat, k ≤ len ∧ i = .int .i64 k ∧ OwnW wr w.heap.size v (dropW (L.take k) g) ∧ Below w.heap.size w wr) (fun _ i _ => len - (intOf i).toNat)
  case atStart => exact ⟨0, Nat.zero_le _, rfl, ownR_empty (heap_alloc_new w _) (Nat.le_refl _), below_alloc w _⟩
  case round =>
    obtain ⟨k, hk, rfl, hown, hbw⟩ := hrel
    have HO := Lib.hid hown; have HW := Lib.hid hbw
    clear hown hbw
    by_cases hlt : k < len
    · have hlt' : (k : Int) < (len : Int) := by omega
      obtain ⟨x, bb, off, hx, hok, rfl, c0, c1, c2⟩ := (HL.out.below HW.out).at k hlt
      have HX := Lib.hid (take_snoc' hx)
      have HDS := Lib.hid (dropW_snoc (L.take k) x g)
      clear hx
      cases hgc : (x.g != g) with
      | true =>
        have HN : Hid (dropW (L.take (k + 1)) g = dropW (L.take k) g ++ [x]) := Lib.hid (by rw [HX.out, HDS.out, if_pos hgc])
        go_wp2_with (at_builtin; refine wpList_appR rfl _ _ rfl w.heap.size _ (dropW (L.take k) g) rfl (OwnR.below HO.out ((below_alloc wr _).alloc (by simp) _)) _ 1 1 [x] rfl (recs_one (box3_two _ _ x)) (by have := HDL.out k; omega) (by omega) (by have := HW.out.size; simp; omega) ?_; intro v' w2 ho hg2)
        have HB2 := Lib.hid (Below.grown (belowX_alloc (belowX_alloc HW.out _) _) hg2.out (by have := HW.out.size; simp; omega) (fun r hr => OwnR.lt HO.out r hr))
        clear hg2
        go_roundw
        case rel => exact ⟨k + 1, by omega, by go_num, by rw [HN.out]; exact ho.out, HB2.out⟩
        case measure => simp [intOf]; omega
      | false =>
        have HN : Hid (dropW (L.take (k + 1)) g = dropW (L.take k) g) := Lib.hid (by rw [HX.out, HDS.out, if_neg (by rw [hgc]; simp)])
        go_wp2_with fail
        go_roundw
        case rel => exact ⟨k + 1, by omega, by go_num, by rw [HN.out]; exact OwnR.below HO.out (below_alloc wr _), belowX_alloc HW.out _⟩
        case measure => simp [intOf]; omega
    · have hkn : k = len := by omega
      subst hkn
      have HT : Hid (L.take k = L) := Lib.hid (List.take_of_length_le (by rw [HLL.out]; exact Nat.le_refl _))
      have hO := HO.out
      rw [HT.out] at hO
      have HO2 := Lib.hid hO
      clear hO HO
      go_wp2_with fail
      go_ret
      exact ⟨_, rfl, HO2.out, HW.out⟩
end Go.Proofs.Ytfolhgpbplfilaa
