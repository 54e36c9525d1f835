/- TextPrints: the walk. -/
import Derived.Test.YtpdlfijcicboiaaDoorT17
namespace Go.Proofs.YtpdlfijcicboiaaDoor
open Go.RowKit
set_option linter.unusedSimpArgs false
set_option linter.unusedVariables false
def Says (w : World) (e : Ending) (w' : World) : Prop := e = .returned (.bool true) ∧ Below w.heap.size w w'
theorem pr_big {L : List Ins} (h : 24 < L.length) : prZ L = (⟨#[]⟩, 2) := by unfold prZ; rw [if_pos h]
theorem pr_bad {L : List Ins} {k : Nat} {x : Ins} (h : ¬ 24 < L.length) (hx : L[k]? = some x) (hm : mayZ x = false) : prZ L = (⟨#[]⟩, 1) := by
  unfold prZ
  rw [if_neg h, if_neg]
  intro hall
  rw [List.all_eq_true.1 hall x (List.mem_of_getElem? hx)] at hm
  cases hm
theorem pr_ok {L : List Ins} (h : ¬ 24 < L.length) (hm : L.all mayZ = true) : prZ L = (prB L, 0) := by unfold prZ; rw [if_neg h, if_pos hm]
theorem all_snoc {L : List Ins} {k : Nat} {x : Ins} (hx : L[k]? = some x) (h : (L.take k).all mayZ = true) (hm : mayZ x = true) : (L.take (k + 1)).all mayZ = true := by
  rw [List.take_add_one, hx, List.all_append, h]; simp [hm]
set_option maxRecDepth 100000 in
set_option maxHeartbeats 8000000 in
theorem prints_lo (a : Option Addr) (n c : Nat) (L : List Ins) (op : Int) (w : World) (h : Blk w a n c L) (hE : Env w) (hop : op < 0) : Calls Tryd.prog 3 #[.slice a n c, .int .i64 op] w (Says w) := by
  have HN := Lib.hid (fun W (h : Env W) => Name_bad op W (.inl hop))
  unfold PairTo at HN
  have h30 : min n 30 ≤ 30 := Nat.min_le_right _ _
  have HF := Lib.hid (few_any a n c L w h)
  have H0 := Lib.hid (h.take 30)
  obtain ⟨m, hm⟩ : ∃ m, m = min n 30 := ⟨_, rfl⟩
  obtain ⟨L', hL'⟩ : ∃ z, z = L.take 30 := ⟨_, rfl⟩
  rw [← hm] at HF H0 h30
  rw [← hL'] at H0
  have hlen := H0.out.recs.len_eq
  have HLN := Lib.hid hlen
  have HP := Lib.hid (Print_any a m c L' w H0.out hE)
  have HE := Lib.hid hE
  have HA := Lib.hid (fun W (h : Env W) => alive_any W h.1)
  have HM := Lib.hid (fun x W => refMay_any x W)
  unfold PairTo at HP
  obtain ⟨⟨S, why⟩, hp⟩ : ∃ p, p = prZ L' := ⟨_, rfl⟩
  rw [← hp] at HP
  dsimp only at HP
  have HPZ := Lib.hid hp
  clear h hm hL' hE hp hlen
  go_enter Tryd.func3, Tryd.ntmps3
  go_wp2_with fail
  refine HF.out.mono ?_
  rintro e w1 ⟨rfl, rfl⟩
  go_wp2_with fail
  refine HP.out.mono ?_
  rintro e w1 ⟨rfl, hb⟩
  have B1 := Lib.hid hb
  clear hb
  go_wp2_with fail
  refine (HN.out _ (HE.out.below B1.out)).mono ?_
  rintro e w2 ⟨rfl, hb⟩
  have BX := Lib.hid (B1.out.trans (Below.mono hb B1.out.size))
  clear hb
  by_cases h24 : 24 < m
  · have h24' : (24 : Int) < (m : Int) := by omega
    have HZ := Lib.hid (HPZ.out.trans (pr_big (by rw [HLN.out]; exact h24)))
    have HAL := HA.out _ (HE.out.below BX.out)
    injection HZ.out with e1 e2
    subst e1; subst e2
    clear HZ HPZ
    have HAL := Lib.hid HAL
    go_wp2_with fail
    refine HAL.out.mono ?_
    rintro e wz ⟨rfl, hb⟩
    have BZ := Lib.hid (BX.out.trans (Below.mono hb BX.out.size))
    clear hb
    go_wp2_with fail
    go_ret
    exact ⟨rfl, BZ.out⟩
  · have h24' : ¬ (24 : Int) < (m : Int) := by omega
    have HNB := Lib.hid (show ¬ 24 < L'.length by rw [HLN.out]; exact h24)
    clear h24
    go_wp2_with fail
    go_loopw [57] (fun i wr => ∃ k : Nat, k ≤ m ∧ i = .int .i64 k ∧ (L'.take k).all mayZ = true ∧ Below w.heap.size w wr) (fun i _ => m - (intOf i).toNat)
    case atStart => exact ⟨0, Nat.zero_le _, rfl, rfl, BX.out⟩
    case round =>
      obtain ⟨k, hk, rfl, hall, hb⟩ := hrel
      have HAA := Lib.hid hall; have HB := Lib.hid hb
      clear hall hb
      by_cases hlt : k < m
      · have hlt' : (k : Int) < (m : Int) := by omega
        obtain ⟨x, b, off, hx, _, rfl, c0, c1, c2⟩ := (H0.out.below HB.out).at k hlt
        have HX := Lib.hid hx
        have HMX := Lib.hid (HM.out x)
        have BA := below_alloc wr (.cells #[.int .i64 x.op, .int .i64 x.a, .int .i64 x.b] 31)
        have K2 := Lib.hid (Bx.new wr #[.int .i64 x.op, .int .i64 x.a, .int .i64 x.b] 31)
        have B2 := Lib.hid (HB.out.trans (Below.mono BA HB.out.size))
        clear BA hx
        obtain ⟨b0, hb0⟩ : ∃ z, z = wr.heap.size := ⟨_, rfl⟩
        obtain ⟨v0, hv0⟩ : ∃ z, z = wr.alloc (.cells #[.int .i64 x.op, .int .i64 x.a, .int .i64 x.b] 31) := ⟨_, rfl⟩
        rw [← hv0] at K2 B2
        rw [← hb0] at K2
        have HB0 := Lib.hid hb0; have HV0 := Lib.hid hv0
        clear hb0 hv0
        go_upto_region 14 with (fail)
        rw [← HV0.out, ← HB0.out]
        clear c0 c1 c2
        obtain ⟨x0, x1, x2⟩ := Bx.cells3 K2.out
        go_wp2_with fail
        clear x0 x1 x2
        refine (HMX.out _).mono ?_
        rintro e w3 ⟨rfl, hb⟩
        have B3 := Lib.hid (B2.out.trans (Below.mono hb B2.out.size))
        clear hb
        cases hm : mayZ x with
        | false =>
          have HZ := Lib.hid (HPZ.out.trans (pr_bad HNB.out HX.out hm))
          have HAL := Lib.hid (HA.out _ (HE.out.below B3.out))
          clear hm
          injection HZ.out with e1 e2
          subst e1; subst e2
          clear HZ HPZ
          go_wp2_with fail
          refine HAL.out.mono ?_
          rintro e wz ⟨rfl, hb⟩
          have BZ := Lib.hid (B3.out.trans (Below.mono hb B3.out.size))
          clear hb
          go_wp2_with fail
          go_ret
          exact ⟨rfl, BZ.out⟩
        | true =>
          have HT := Lib.hid (all_snoc HX.out HAA.out hm)
          clear hm
          go_wp2_with fail
          go_roundw
          case rel => exact ⟨k + 1, by omega, by go_num, HT.out, B3.out⟩
          case measure => simp [intOf]; omega
      · have hke : k = m := by omega
        have HALL := Lib.hid (show L'.all mayZ = true by have := HAA.out; rwa [List.take_of_length_le (by rw [HLN.out]; omega)] at this)
        have HZ := Lib.hid (HPZ.out.trans (pr_ok HNB.out HALL.out))
        have HAL := Lib.hid (HA.out _ (HE.out.below HB.out))
        subst hke
        injection HZ.out with e1 e2
        subst e2
        have HS := Lib.hid e1
        clear HZ HPZ e1
        go_wp2_with fail
        refine HAL.out.mono ?_
        rintro e wz ⟨rfl, hb⟩
        have BZ := Lib.hid (HB.out.trans (Below.mono hb HB.out.size))
        clear hb
        have HRP := Lib.hid (refPrint_any a k c L' _ (H0.out.below BZ.out) (fun x hx => List.all_eq_true.1 HALL.out x hx) h30)
        unfold StrTo at HRP
        rw [← HS.out] at HRP
        have hss : (S.toList == S.toList) = true := by simp
        go_wp2_with fail
        refine HRP.out.mono ?_
        rintro e wy ⟨rfl, hb⟩
        have BY := Lib.hid (BZ.out.trans (Below.mono hb BZ.out.size))
        clear hb
        go_wp2_with fail
        go_ret
        exact ⟨rfl, BY.out⟩
set_option maxRecDepth 100000 in
set_option maxHeartbeats 8000000 in
theorem prints_hi (a : Option Addr) (n c : Nat) (L : List Ins) (op : Int) (w : World) (h : Blk w a n c L) (hE : Env w) (hop : 14 ≤ op) : Calls Tryd.prog 3 #[.slice a n c, .int .i64 op] w (Says w) := by
  have HN := Lib.hid (fun W (h : Env W) => Name_bad op W (.inr hop))
  unfold PairTo at HN
  have hop0 : ¬ op < 0 := by omega
  have hop1 : 13 < op := by omega
  have h30 : min n 30 ≤ 30 := Nat.min_le_right _ _
  have HF := Lib.hid (few_any a n c L w h)
  have H0 := Lib.hid (h.take 30)
  obtain ⟨m, hm⟩ : ∃ m, m = min n 30 := ⟨_, rfl⟩
  obtain ⟨L', hL'⟩ : ∃ z, z = L.take 30 := ⟨_, rfl⟩
  rw [← hm] at HF H0 h30
  rw [← hL'] at H0
  have hlen := H0.out.recs.len_eq
  have HLN := Lib.hid hlen
  have HP := Lib.hid (Print_any a m c L' w H0.out hE)
  have HE := Lib.hid hE
  have HA := Lib.hid (fun W (h : Env W) => alive_any W h.1)
  have HM := Lib.hid (fun x W => refMay_any x W)
  unfold PairTo at HP
  obtain ⟨⟨S, why⟩, hp⟩ : ∃ p, p = prZ L' := ⟨_, rfl⟩
  rw [← hp] at HP
  dsimp only at HP
  have HPZ := Lib.hid hp
  clear h hm hL' hE hp hlen
  go_enter Tryd.func3, Tryd.ntmps3
  go_wp2_with fail
  refine HF.out.mono ?_
  rintro e w1 ⟨rfl, rfl⟩
  go_wp2_with fail
  refine HP.out.mono ?_
  rintro e w1 ⟨rfl, hb⟩
  have B1 := Lib.hid hb
  clear hb
  go_wp2_with fail
  refine (HN.out _ (HE.out.below B1.out)).mono ?_
  rintro e w2 ⟨rfl, hb⟩
  have BX := Lib.hid (B1.out.trans (Below.mono hb B1.out.size))
  clear hb
  by_cases h24 : 24 < m
  · have h24' : (24 : Int) < (m : Int) := by omega
    have HZ := Lib.hid (HPZ.out.trans (pr_big (by rw [HLN.out]; exact h24)))
    have HAL := HA.out _ (HE.out.below BX.out)
    injection HZ.out with e1 e2
    subst e1; subst e2
    clear HZ HPZ
    have HAL := Lib.hid HAL
    go_wp2_with fail
    refine HAL.out.mono ?_
    rintro e wz ⟨rfl, hb⟩
    have BZ := Lib.hid (BX.out.trans (Below.mono hb BX.out.size))
    clear hb
    go_wp2_with fail
    go_ret
    exact ⟨rfl, BZ.out⟩
  · have h24' : ¬ (24 : Int) < (m : Int) := by omega
    have HNB := Lib.hid (show ¬ 24 < L'.length by rw [HLN.out]; exact h24)
    clear h24
    go_wp2_with fail
    go_loopw [57] (fun i wr => ∃ k : Nat, k ≤ m ∧ i = .int .i64 k ∧ (L'.take k).all mayZ = true ∧ Below w.heap.size w wr) (fun i _ => m - (intOf i).toNat)
    case atStart => exact ⟨0, Nat.zero_le _, rfl, rfl, BX.out⟩
    case round =>
      obtain ⟨k, hk, rfl, hall, hb⟩ := hrel
      have HAA := Lib.hid hall; have HB := Lib.hid hb
      clear hall hb
      by_cases hlt : k < m
      · have hlt' : (k : Int) < (m : Int) := by omega
        obtain ⟨x, b, off, hx, _, rfl, c0, c1, c2⟩ := (H0.out.below HB.out).at k hlt
        have HX := Lib.hid hx
        have HMX := Lib.hid (HM.out x)
        have BA := below_alloc wr (.cells #[.int .i64 x.op, .int .i64 x.a, .int .i64 x.b] 31)
        have K2 := Lib.hid (Bx.new wr #[.int .i64 x.op, .int .i64 x.a, .int .i64 x.b] 31)
        have B2 := Lib.hid (HB.out.trans (Below.mono BA HB.out.size))
        clear BA hx
        obtain ⟨b0, hb0⟩ : ∃ z, z = wr.heap.size := ⟨_, rfl⟩
        obtain ⟨v0, hv0⟩ : ∃ z, z = wr.alloc (.cells #[.int .i64 x.op, .int .i64 x.a, .int .i64 x.b] 31) := ⟨_, rfl⟩
        rw [← hv0] at K2 B2
        rw [← hb0] at K2
        have HB0 := Lib.hid hb0; have HV0 := Lib.hid hv0
        clear hb0 hv0
        go_upto_region 14 with (fail)
        rw [← HV0.out, ← HB0.out]
        clear c0 c1 c2
        obtain ⟨x0, x1, x2⟩ := Bx.cells3 K2.out
        go_wp2_with fail
        clear x0 x1 x2
        refine (HMX.out _).mono ?_
        rintro e w3 ⟨rfl, hb⟩
        have B3 := Lib.hid (B2.out.trans (Below.mono hb B2.out.size))
        clear hb
        cases hm : mayZ x with
        | false =>
          have HZ := Lib.hid (HPZ.out.trans (pr_bad HNB.out HX.out hm))
          have HAL := Lib.hid (HA.out _ (HE.out.below B3.out))
          clear hm
          injection HZ.out with e1 e2
          subst e1; subst e2
          clear HZ HPZ
          go_wp2_with fail
          refine HAL.out.mono ?_
          rintro e wz ⟨rfl, hb⟩
          have BZ := Lib.hid (B3.out.trans (Below.mono hb B3.out.size))
          clear hb
          go_wp2_with fail
          go_ret
          exact ⟨rfl, BZ.out⟩
        | true =>
          have HT := Lib.hid (all_snoc HX.out HAA.out hm)
          clear hm
          go_wp2_with fail
          go_roundw
          case rel => exact ⟨k + 1, by omega, by go_num, HT.out, B3.out⟩
          case measure => simp [intOf]; omega
      · have hke : k = m := by omega
        have HALL := Lib.hid (show L'.all mayZ = true by have := HAA.out; rwa [List.take_of_length_le (by rw [HLN.out]; omega)] at this)
        have HZ := Lib.hid (HPZ.out.trans (pr_ok HNB.out HALL.out))
        have HAL := Lib.hid (HA.out _ (HE.out.below HB.out))
        subst hke
        injection HZ.out with e1 e2
        subst e2
        have HS := Lib.hid e1
        clear HZ HPZ e1
        go_wp2_with fail
        refine HAL.out.mono ?_
        rintro e wz ⟨rfl, hb⟩
        have BZ := Lib.hid (HB.out.trans (Below.mono hb HB.out.size))
        clear hb
        have HRP := Lib.hid (refPrint_any a k c L' _ (H0.out.below BZ.out) (fun x hx => List.all_eq_true.1 HALL.out x hx) h30)
        unfold StrTo at HRP
        rw [← HS.out] at HRP
        have hss : (S.toList == S.toList) = true := by simp
        go_wp2_with fail
        refine HRP.out.mono ?_
        rintro e wy ⟨rfl, hb⟩
        have BY := Lib.hid (BZ.out.trans (Below.mono hb BZ.out.size))
        clear hb
        go_wp2_with fail
        go_ret
        exact ⟨rfl, BY.out⟩
set_option maxRecDepth 100000 in
set_option maxHeartbeats 8000000 in
theorem prints_ok (a : Option Addr) (n c : Nat) (L : List Ins) (j : Nat) (w : World) (h : Blk w a n c L) (hE : Env w) (hj : j < 14) : Calls Tryd.prog 3 #[.slice a n c, .int .i64 (j : Int)] w (Says w) := by
  have HN := Lib.hid (fun W (h : Env W) => Name_ok j W hj h)
  have HRN := Lib.hid (fun W => refName_any j W hj)
  unfold PairTo at HN
  unfold StrTo at HRN
  have hop0 : ¬ (j : Int) < 0 := by omega
  have hop1 : ¬ 13 < (j : Int) := by omega
  obtain ⟨D, hD⟩ : ∃ z, z = wordB (j : Int) := ⟨_, rfl⟩
  rw [← hD] at HN HRN
  have hdd : (D.toList == D.toList) = true := by simp
  clear hD
  have h30 : min n 30 ≤ 30 := Nat.min_le_right _ _
  have HF := Lib.hid (few_any a n c L w h)
  have H0 := Lib.hid (h.take 30)
  obtain ⟨m, hm⟩ : ∃ m, m = min n 30 := ⟨_, rfl⟩
  obtain ⟨L', hL'⟩ : ∃ z, z = L.take 30 := ⟨_, rfl⟩
  rw [← hm] at HF H0 h30
  rw [← hL'] at H0
  have hlen := H0.out.recs.len_eq
  have HLN := Lib.hid hlen
  have HP := Lib.hid (Print_any a m c L' w H0.out hE)
  have HE := Lib.hid hE
  have HA := Lib.hid (fun W (h : Env W) => alive_any W h.1)
  have HM := Lib.hid (fun x W => refMay_any x W)
  unfold PairTo at HP
  obtain ⟨⟨S, why⟩, hp⟩ : ∃ p, p = prZ L' := ⟨_, rfl⟩
  rw [← hp] at HP
  dsimp only at HP
  have HPZ := Lib.hid hp
  clear h hm hL' hE hp hlen
  go_enter Tryd.func3, Tryd.ntmps3
  go_wp2_with fail
  refine HF.out.mono ?_
  rintro e w1 ⟨rfl, rfl⟩
  go_wp2_with fail
  refine HP.out.mono ?_
  rintro e w1 ⟨rfl, hb⟩
  have B1 := Lib.hid hb
  clear hb
  go_wp2_with fail
  refine (HN.out _ (HE.out.below B1.out)).mono ?_
  rintro e w2 ⟨rfl, hb⟩
  have BW := Lib.hid (B1.out.trans (Below.mono hb B1.out.size))
  clear hb
  go_wp2_with fail
  refine (HRN.out _).mono ?_
  rintro e w3 ⟨rfl, hb⟩
  have BX := Lib.hid (BW.out.trans (Below.mono hb BW.out.size))
  clear hb
  by_cases h24 : 24 < m
  · have h24' : (24 : Int) < (m : Int) := by omega
    have HZ := Lib.hid (HPZ.out.trans (pr_big (by rw [HLN.out]; exact h24)))
    have HAL := HA.out _ (HE.out.below BX.out)
    injection HZ.out with e1 e2
    subst e1; subst e2
    clear HZ HPZ
    have HAL := Lib.hid HAL
    go_wp2_with fail
    refine HAL.out.mono ?_
    rintro e wz ⟨rfl, hb⟩
    have BZ := Lib.hid (BX.out.trans (Below.mono hb BX.out.size))
    clear hb
    go_wp2_with fail
    go_ret
    exact ⟨rfl, BZ.out⟩
  · have h24' : ¬ (24 : Int) < (m : Int) := by omega
    have HNB := Lib.hid (show ¬ 24 < L'.length by rw [HLN.out]; exact h24)
    clear h24
    go_wp2_with fail
    go_loopw [57] (fun i wr => ∃ k : Nat, k ≤ m ∧ i = .int .i64 k ∧ (L'.take k).all mayZ = true ∧ Below w.heap.size w wr) (fun i _ => m - (intOf i).toNat)
    case atStart => exact ⟨0, Nat.zero_le _, rfl, rfl, BX.out⟩
    case round =>
      obtain ⟨k, hk, rfl, hall, hb⟩ := hrel
      have HAA := Lib.hid hall; have HB := Lib.hid hb
      clear hall hb
      by_cases hlt : k < m
      · have hlt' : (k : Int) < (m : Int) := by omega
        obtain ⟨x, b, off, hx, _, rfl, c0, c1, c2⟩ := (H0.out.below HB.out).at k hlt
        have HX := Lib.hid hx
        have HMX := Lib.hid (HM.out x)
        have BA := below_alloc wr (.cells #[.int .i64 x.op, .int .i64 x.a, .int .i64 x.b] 31)
        have K2 := Lib.hid (Bx.new wr #[.int .i64 x.op, .int .i64 x.a, .int .i64 x.b] 31)
        have B2 := Lib.hid (HB.out.trans (Below.mono BA HB.out.size))
        clear BA hx
        obtain ⟨b0, hb0⟩ : ∃ z, z = wr.heap.size := ⟨_, rfl⟩
        obtain ⟨v0, hv0⟩ : ∃ z, z = wr.alloc (.cells #[.int .i64 x.op, .int .i64 x.a, .int .i64 x.b] 31) := ⟨_, rfl⟩
        rw [← hv0] at K2 B2
        rw [← hb0] at K2
        have HB0 := Lib.hid hb0; have HV0 := Lib.hid hv0
        clear hb0 hv0
        go_upto_region 14 with (fail)
        rw [← HV0.out, ← HB0.out]
        clear c0 c1 c2
        obtain ⟨x0, x1, x2⟩ := Bx.cells3 K2.out
        go_wp2_with fail
        clear x0 x1 x2
        refine (HMX.out _).mono ?_
        rintro e w3 ⟨rfl, hb⟩
        have B3 := Lib.hid (B2.out.trans (Below.mono hb B2.out.size))
        clear hb
        cases hm : mayZ x with
        | false =>
          have HZ := Lib.hid (HPZ.out.trans (pr_bad HNB.out HX.out hm))
          have HAL := Lib.hid (HA.out _ (HE.out.below B3.out))
          clear hm
          injection HZ.out with e1 e2
          subst e1; subst e2
          clear HZ HPZ
          go_wp2_with fail
          refine HAL.out.mono ?_
          rintro e wz ⟨rfl, hb⟩
          have BZ := Lib.hid (B3.out.trans (Below.mono hb B3.out.size))
          clear hb
          go_wp2_with fail
          go_ret
          exact ⟨rfl, BZ.out⟩
        | true =>
          have HT := Lib.hid (all_snoc HX.out HAA.out hm)
          clear hm
          go_wp2_with fail
          go_roundw
          case rel => exact ⟨k + 1, by omega, by go_num, HT.out, B3.out⟩
          case measure => simp [intOf]; omega
      · have hke : k = m := by omega
        have HALL := Lib.hid (show L'.all mayZ = true by have := HAA.out; rwa [List.take_of_length_le (by rw [HLN.out]; omega)] at this)
        have HZ := Lib.hid (HPZ.out.trans (pr_ok HNB.out HALL.out))
        have HAL := Lib.hid (HA.out _ (HE.out.below HB.out))
        subst hke
        injection HZ.out with e1 e2
        subst e2
        have HS := Lib.hid e1
        clear HZ HPZ e1
        go_wp2_with fail
        refine HAL.out.mono ?_
        rintro e wz ⟨rfl, hb⟩
        have BZ := Lib.hid (HB.out.trans (Below.mono hb HB.out.size))
        clear hb
        have HRP := Lib.hid (refPrint_any a k c L' _ (H0.out.below BZ.out) (fun x hx => List.all_eq_true.1 HALL.out x hx) h30)
        unfold StrTo at HRP
        rw [← HS.out] at HRP
        have hss : (S.toList == S.toList) = true := by simp
        go_wp2_with fail
        refine HRP.out.mono ?_
        rintro e wy ⟨rfl, hb⟩
        have BY := Lib.hid (BZ.out.trans (Below.mono hb BZ.out.size))
        clear hb
        go_wp2_with fail
        go_ret
        exact ⟨rfl, BY.out⟩
theorem prints_walk (a : Option Addr) (n c : Nat) (L : List Ins) (op : Int) (w : World) (h : Blk w a n c L) (hE : Env w) : Calls Tryd.prog 3 #[.slice a n c, .int .i64 op] w (Says w) := by
  by_cases h0 : op < 0
  · exact prints_lo a n c L op w h hE h0
  · by_cases h1 : 14 ≤ op
    · exact prints_hi a n c L op w h hE h1
    · obtain ⟨j, rfl⟩ : ∃ j : Nat, op = (j : Int) := ⟨op.toNat, by omega⟩
      exact prints_ok a n c L j w h hE (by omega)
end Go.Proofs.YtpdlfijcicboiaaDoor
