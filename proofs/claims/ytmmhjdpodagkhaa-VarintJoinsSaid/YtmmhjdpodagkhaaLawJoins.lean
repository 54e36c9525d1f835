/- VarintJoins: the walk. -/
import Derived.Test.YtmmhjdpodagkhaaBack
import Derived.Test.YtmmhjdpodagkhaaAppN
namespace Go.Proofs.Ytmmhjdpodagkhaa
open Go.RowKit

theorem mods_app_small (l m : List Int) : Smalls (mods l ++ mods m) := by
  intro n hn
  rcases List.mem_append.1 hn with h | h
  · exact mods_small l n h
  · exact mods_small m n h
theorem every_one (z : Int) (h0 : 0 ≤ z) (h1 : z ≤ 2147483647) : everyL (tx (strOf (putL z))) = ([z], 0) := by
  have := every_again [z] (fun n hn => by rw [List.mem_singleton.1 hn]; exact smallB_iff.2 ⟨h0, h1⟩)
  rwa [show allL [z] = putL z by simp [allL]] at this
theorem odd_fold {n : Int} (h0 : -1073741824 ≤ n) (h1 : n < 1073741824) : ((foldZ n) % 2 == 1) = decide (n < 0) := by
  unfold foldZ
  by_cases hn : n < 0
  · rw [if_pos hn, decide_eq_true hn, beq_iff_eq]; omega
  · rw [if_neg hn, decide_eq_false hn, beq_eq_false_iff_ne]; omega
set_option maxRecDepth 100000 in
set_option maxHeartbeats 4000000 in
theorem joins_00 (a : Option Addr) (len cap : Nat) (l : List Int) (a2 : Option Addr) (len2 cap2 : Nat) (l2 : List Int) (n : Int) (w : World) (x : Int) (hx : wrap64 ((IntKind.u64.wrap n).tmod 2147483648) = x) (x0 : 0 ≤ x) (x1 : x ≤ 2147483647) (h : Ints w a len cap l) (h2 : Ints w a2 len2 cap2 l2) (hlt : len ≤ 30) (hlt2 : len2 ≤ 30) : Calls Try.prog 7 #[.slice a len cap, .slice a2 len2 cap2, .int .i64 n] w (Says w) := by
  have hI := h.take 30
  have hJ := h2.take 30
  rw [Nat.min_eq_left (by omega)] at hI
  rw [Nat.min_eq_left (by omega)] at hJ
  have hle := h.len_le
  have hlc := h.le_cap
  have hcm := h.cap_le
  have hnn := h.none_
  have hle2 := h2.len_le
  have hlc2 := h2.le_cap
  have hcm2 := h2.cap_le
  have hnn2 := h2.none_
  unfold maxLen at hcm hcm2
  clear h h2
  obtain ⟨L, hL⟩ : ∃ L, L = l.take 30 := ⟨_, rfl⟩
  obtain ⟨M, hM⟩ : ∃ L, L = l2.take 30 := ⟨_, rfl⟩
  rw [← hL] at hI
  rw [← hM] at hJ
  clear hL hM
  have hltI : (len : Int) ≤ 30 := by omega
  have hltJ : (len2 : Int) ≤ 30 := by omega
  have LE := Lib.hid hI.len_eq
  have LE2 := Lib.hid hJ.len_eq
  have HI := Lib.hid hI; have HJ := Lib.hid hJ
  have MS := Lib.hid (mods_succ L); have ML := Lib.hid (mods_len L); have MM := Lib.hid (mods_small L)
  have MS2 := Lib.hid (mods_succ M); have ML2 := Lib.hid (mods_len M); have MM2 := Lib.hid (mods_small M)
  have MB := Lib.hid (mods_app_small L M)
  clear hI hJ
  have P0 : -1073741824 ≤ x - 1073741824 := by omega
  have P1 : x - 1073741824 < 1073741824 := by omega
  obtain ⟨f0, f1⟩ := foldZ_bd P0 P1
  have EO := Lib.hid (every_one _ f0 f1)
  have OF := Lib.hid (odd_fold P0 P1)
  have ht5 : (strOf (putL (foldZ (x - 1073741824)))).size ≤ 5 := by rw [strOf_size]; exact (putL_len _).2
  obtain ⟨z, hz⟩ : ∃ z, z = foldZ (x - 1073741824) := ⟨_, rfl⟩
  rw [← hz] at EO OF ht5 f0 f1
  have HZ := Lib.hid hz; clear hz
  obtain ⟨V, hV⟩ : ∃ S, S = strOf (putL z) := ⟨_, rfl⟩
  have HV := Lib.hid hV
  rw [← hV] at EO ht5
  clear hV
  go_enter Try.func7, Try.ntmps7
  go_wp2_with fail
  go_loopw [7, 32] (fun v i wr => ∃ k : Nat, k ≤ len ∧ i = .int .i64 k ∧ Own wr w.heap.size v (mods (L.take k)) ∧ Below w.heap.size w wr) (fun _ i _ => len - (intOf i).toNat)
  case atStart => exact ⟨0, Nat.zero_le _, rfl, World.ownsRow_nil _ _ _ _, Below.refl _ _⟩
  case round =>
    obtain ⟨k, hk, rfl, ho, hb⟩ := hrel
    have HO := Lib.hid ho; have HB := Lib.hid hb; clear ho hb
    by_cases hlt : k < len
    · obtain ⟨b, off, rfl, hc⟩ := (HI.out.below HB.out).cell k hlt
      have hlt' : (k : Int) < (len : Int) := by omega
      have SUC := Lib.hid (MS.out k (by rw [LE.out]; exact hlt))
      have hwm := wrap_mod (en L k) (HI.out.bound k)
      have hlen : (mods (L.take k)).length ≤ 1000000 := by rw [mods_len, List.length_take]; omega
      obtain ⟨m, hm⟩ : ∃ m, m = en L k := ⟨_, rfl⟩
      rw [← hm] at hc SUC hwm
      have HLEN := Lib.hid hlen
      clear hm hlen
      have hsz := HB.out.size
      go_wp2_with (at_builtin; refine app1 rfl (.tmp 36) (.tmp 41) rfl w.heap.size _ _ rfl HO.out (m % 2147483648) rfl HLEN.out w HB.out hsz ?_; intro v' w3 ho3 hb3)
      go_roundw
      case rel => exact ⟨k + 1, by omega, by go_num, by rw [SUC.out]; exact ho3.out, hb3.out⟩
      case measure => simp [intOf]; omega
    · have hkm : L.take k = L := List.take_of_length_le (by rw [LE.out]; omega)
      rw [hkm] at HO
      obtain ⟨sa, sc, rfl, hsi⟩ := HO.out.ints MM.out.i64
      have hml : (mods L).length ≤ 30 := by rw [ML.out, LE.out]; omega
      clear hkm
      have HX := Lib.hid hsi; have HBA := HB
      clear hsi HB HO
      have HJ1 := Lib.hid (HJ.out.below HBA.out)
      obtain ⟨wA, rfl⟩ : ∃ x, x = wr := ⟨_, rfl⟩
      go_wp2_with fail
      go_loopw [8, 50] (fun v i wr => ∃ k : Nat, k ≤ len2 ∧ i = .int .i64 k ∧ Own wr wA.heap.size v (mods (M.take k)) ∧ Below wA.heap.size wA wr) (fun _ i _ => len2 - (intOf i).toNat)
      case atStart => exact ⟨0, Nat.zero_le _, rfl, World.ownsRow_nil _ _ _ _, Below.refl _ _⟩
      case round =>
        obtain ⟨k, hk, rfl, ho, hb⟩ := hrel
        have HO := Lib.hid ho; have HB := Lib.hid hb; clear ho hb
        by_cases hlt : k < len2
        · obtain ⟨b, off, rfl, hc⟩ := (HJ1.out.below HB.out).cell k hlt
          have hlt' : (k : Int) < (len2 : Int) := by omega
          have SUC := Lib.hid (MS2.out k (by rw [LE2.out]; exact hlt))
          have hwm := wrap_mod (en M k) (HJ1.out.bound k)
          have hlen : (mods (M.take k)).length ≤ 1000000 := by rw [mods_len, List.length_take]; omega
          obtain ⟨m, hm⟩ : ∃ m, m = en M k := ⟨_, rfl⟩
          rw [← hm] at hc SUC hwm
          have HLEN := Lib.hid hlen
          clear hm hlen
          have hsz := HB.out.size
          go_wp2_with (at_builtin; refine app1 rfl (.tmp 54) (.tmp 59) rfl wA.heap.size _ _ rfl HO.out (m % 2147483648) rfl HLEN.out wA HB.out hsz ?_; intro v' w3 ho3 hb3)
          go_roundw
          case rel => exact ⟨k + 1, by omega, by go_num, by rw [SUC.out]; exact ho3.out, hb3.out⟩
          case measure => simp [intOf]; omega
        · have hkm : M.take k = M := List.take_of_length_le (by rw [LE2.out]; omega)
          rw [hkm] at HO
          obtain ⟨sa2, sc2, rfl, hsi⟩ := HO.out.ints MM2.out.i64
          have hml : (mods M).length ≤ 30 := by rw [ML2.out, LE2.out]; omega
          clear hkm
          have HY := Lib.hid hsi
          have HX2 := Lib.hid (HX.out.below HB.out)
          have HBB := Lib.hid (HBA.out.trans (HB.out.mono HBA.out.size))
          clear hsi HB HO HX
          have hx6 : (mods L).length ≤ 1000000 := by omega
          have hy6 : (mods M).length ≤ 1000000 := by omega
          have hz0 : ([] : List Int).length ≤ 1000000 := by simp
          have SAP := Lib.hid (show strOf (allL (mods L)) ++ strOf (allL (mods M)) = strOf (allL (mods L ++ mods M)) by rw [allL_append, strOf_append])
          have EA := Lib.hid (every_again _ MB.out)
          have ZA := allL_len (mods L)
          have ZB := allL_len (mods M)
          have ZC := allL_len (mods L ++ mods M)
          have hbl : (mods L ++ mods M).length = (mods L).length + (mods M).length := by rw [List.length_append]
          have hsa : (strOf (allL (mods L))).size ≤ 150 := by rw [strOf_size]; omega
          have hsb : (strOf (allL (mods M))).size ≤ 150 := by rw [strOf_size]; omega
          have hsc : (strOf (allL (mods L ++ mods M))).size ≤ 300 := by rw [strOf_size]; omega
          obtain ⟨SA, hSA⟩ : ∃ S, S = strOf (allL (mods L)) := ⟨_, rfl⟩
          obtain ⟨SB, hSB⟩ : ∃ S, S = strOf (allL (mods M)) := ⟨_, rfl⟩
          obtain ⟨SC, hSC⟩ : ∃ S, S = strOf (allL (mods L ++ mods M)) := ⟨_, rfl⟩
          rw [← hSA] at SAP hsa; rw [← hSB] at SAP hsb; rw [← hSC] at SAP EA hsc
          have HSA := Lib.hid hSA; have HSB := Lib.hid hSB; have HSC := Lib.hid hSC
          clear hSA hSB hSC ZA ZB ZC
          have hsap := SAP.out
          obtain ⟨wB, rfl⟩ : ∃ x, x = wr := ⟨_, rfl⟩
          have hxl : (mods L ++ mods M).length ≤ 1000 := by omega
          have hsc6 : SC.size ≤ 1000000 := by omega
          go_wp2_with (at_builtin; first | (refine appN rfl (.tmp 62) (.tmp 63) rfl wB.heap.size _ [] rfl (own_nil wB) _ _ _ _ rfl (HX2.out.below (below_alloc _ _)) hz0 hx6 wB (below_alloc _ _) (below_alloc wB _).size ?_; intro v1 wC ho1 hb1) | (refine appN rfl (.tmp 64) (.tmp 65) rfl wB.heap.size v1 (mods L) rfl ho1.out _ _ _ _ rfl (HY.out.below hb1.out) hx6 hy6 wB hb1.out hb1.out.size ?_; intro v2 wD ho2 hb2; obtain ⟨bo, bc, rfl, hbi⟩ := ho2.out.ints MB.out.i64; have HBI := Lib.hid hbi; clear hbi))
          have HBD := Lib.hid (HBB.out.trans (hb2.out.mono HBB.out.size))
          have HXD := Lib.hid (HX2.out.below hb2.out)
          have HYD := Lib.hid (HY.out.below hb2.out)
          clear HX2 HY ho1 hb1 ho2 hb2
          rw [hbl] at HBI
          
          refine (all_ok _ _ _ _ _ HXD.out (by omega) (smalls_all MM.out)).mono ?_
          rintro e w11 ⟨rfl, hb11⟩
          have HXD_11 := Lib.hid (HXD.out.below hb11)
          have HYD_11 := Lib.hid (HYD.out.below hb11)
          have HBI_11 := Lib.hid (HBI.out.below hb11)
          have HBW11 := Lib.hid (HBD.out.trans (hb11.mono HBD.out.size))
          clear hb11 HXD HYD HBI
          rw [← HSA.out]
          go_wp2_with fail
          refine (all_ok _ _ _ _ _ HYD_11.out (by omega) (smalls_all MM2.out)).mono ?_
          rintro e w12 ⟨rfl, hb12⟩
          have HXD_12 := Lib.hid (HXD_11.out.below hb12)
          have HYD_12 := Lib.hid (HYD_11.out.below hb12)
          have HBI_12 := Lib.hid (HBI_11.out.below hb12)
          have HBW12 := Lib.hid (HBW11.out.trans (hb12.mono HBW11.out.size))
          clear hb12 HXD_11 HYD_11 HBI_11
          rw [← HSB.out]
          go_wp2_with fail
          refine (all_ok _ _ _ _ _ HBI_12.out (by omega) (smalls_all MB.out)).mono ?_
          rintro e w13 ⟨rfl, hb13⟩
          have HXD_13 := Lib.hid (HXD_12.out.below hb13)
          have HYD_13 := Lib.hid (HYD_12.out.below hb13)
          have HBI_13 := Lib.hid (HBI_12.out.below hb13)
          have HBW13 := Lib.hid (HBW12.out.trans (hb13.mono HBW12.out.size))
          clear hb13 HXD_12 HYD_12 HBI_12
          rw [← HSC.out]
          go_wp2_with fail
          refine (every_any _ _ hsc6).mono ?_
          rintro e w14 ⟨m, mn, mc, rfl, hm, hb14⟩
          rw [EA.out] at hm
          have HXD_14 := Lib.hid (HXD_13.out.below hb14)
          have HYD_14 := Lib.hid (HYD_13.out.below hb14)
          have HBI_14 := Lib.hid (HBI_13.out.below hb14)
          have HM_14 := Lib.hid hm
          have HBW14 := Lib.hid (HBW13.out.trans (hb14.mono HBW13.out.size))
          clear hb14 hm HXD_13 HYD_13 HBI_13
          rw [EA.out]
          go_wp2_with fail
          refine (Sign_ok _ _ P0 P1).mono ?_
          rintro e w15 ⟨rfl, hb15⟩
          have HXD_15 := Lib.hid (HXD_14.out.below hb15)
          have HYD_15 := Lib.hid (HYD_14.out.below hb15)
          have HBI_15 := Lib.hid (HBI_14.out.below hb15)
          have HM_15 := Lib.hid (HM_14.out.below hb15)
          have HBW15 := Lib.hid (HBW14.out.trans (hb15.mono HBW14.out.size))
          clear hb15 HXD_14 HYD_14 HBI_14 HM_14
          rw [← HZ.out, ← HV.out]
          go_wp2_with fail
          refine (every_any _ _ (by omega)).mono ?_
          rintro e w16 ⟨m2, mn2, mc2, rfl, hm2, hb16⟩
          rw [EO.out] at hm2
          have HXD_16 := Lib.hid (HXD_15.out.below hb16)
          have HYD_16 := Lib.hid (HYD_15.out.below hb16)
          have HBI_16 := Lib.hid (HBI_15.out.below hb16)
          have HM_16 := Lib.hid (HM_15.out.below hb16)
          have HM2_16 := Lib.hid hm2
          have HBW16 := Lib.hid (HBW15.out.trans (hb16.mono HBW15.out.size))
          clear hb16 hm2 HXD_15 HYD_15 HBI_15 HM_15
          rw [EO.out]
          go_wp2_with fail
          refine (alive_any _).mono ?_
          rintro e w17 ⟨rfl, hb17⟩
          have HXD_17 := Lib.hid (HXD_16.out.below hb17)
          have HYD_17 := Lib.hid (HYD_16.out.below hb17)
          have HBI_17 := Lib.hid (HBI_16.out.below hb17)
          have HM_17 := Lib.hid (HM_16.out.below hb17)
          have HM2_17 := Lib.hid (HM2_16.out.below hb17)
          have HBW17 := Lib.hid (HBW16.out.trans (hb17.mono HBW16.out.size))
          clear hb17 HXD_16 HYD_16 HBI_16 HM_16 HM2_16
          go_wp2_with fail
          refine (rows_any _ _ _ _ _ _ _ _ _ HM_17.out HBI_17.out).mono ?_
          rintro e w18 ⟨rfl, hb18⟩
          have HXD_18 := Lib.hid (HXD_17.out.below hb18)
          have HYD_18 := Lib.hid (HYD_17.out.below hb18)
          have HBI_18 := Lib.hid (HBI_17.out.below hb18)
          have HM_18 := Lib.hid (HM_17.out.below hb18)
          have HM2_18 := Lib.hid (HM2_17.out.below hb18)
          have HBW18 := Lib.hid (HBW17.out.trans (hb18.mono HBW17.out.size))
          clear hb18 HXD_17 HYD_17 HBI_17 HM_17 HM2_17
          rw [decide_eq_true (show mods L ++ mods M = mods L ++ mods M from rfl)]
          obtain rfl : mn2 = 1 := by have := HM2_18.out.len_eq; simp at this; omega
          obtain ⟨b, off, rfl, hc⟩ := HM2_18.out.cell 0 (by omega)
          rw [en_cons_zero, Nat.add_zero] at hc
          have hof := OF.out
          by_cases hneg : x - 1073741824 < 0
          · rw [decide_eq_true hneg] at hof
            go_wp2_with fail
            go_ret
            exact ⟨ret_bool (by first | rfl | exact hof | (rw [decide_eq_false (show ¬ x - 1073741824 < 0 by omega)]; rfl)), HBW18.out⟩
          · rw [decide_eq_false hneg] at hof
            go_wp2_with fail
            go_ret
            exact ⟨ret_bool (by first | rfl | exact hof | (rw [decide_eq_false (show ¬ x - 1073741824 < 0 by omega)]; rfl)), HBW18.out⟩

set_option maxRecDepth 100000 in
set_option maxHeartbeats 4000000 in
theorem joins_01 (a : Option Addr) (len cap : Nat) (l : List Int) (a2 : Option Addr) (len2 cap2 : Nat) (l2 : List Int) (n : Int) (w : World) (x : Int) (hx : wrap64 ((IntKind.u64.wrap n).tmod 2147483648) = x) (x0 : 0 ≤ x) (x1 : x ≤ 2147483647) (h : Ints w a len cap l) (h2 : Ints w a2 len2 cap2 l2) (hlt : len ≤ 30) (hlt2 : 30 < len2) : Calls Try.prog 7 #[.slice a len cap, .slice a2 len2 cap2, .int .i64 n] w (Says w) := by
  have hI := h.take 30
  have hJ := h2.take 30
  rw [Nat.min_eq_left (by omega)] at hI
  rw [Nat.min_eq_right (by omega)] at hJ
  have hle := h.len_le
  have hlc := h.le_cap
  have hcm := h.cap_le
  have hnn := h.none_
  have hle2 := h2.len_le
  have hlc2 := h2.le_cap
  have hcm2 := h2.cap_le
  have hnn2 := h2.none_
  unfold maxLen at hcm hcm2
  clear h h2
  obtain ⟨L, hL⟩ : ∃ L, L = l.take 30 := ⟨_, rfl⟩
  obtain ⟨M, hM⟩ : ∃ L, L = l2.take 30 := ⟨_, rfl⟩
  rw [← hL] at hI
  rw [← hM] at hJ
  clear hL hM
  have hltI : (len : Int) ≤ 30 := by omega
  have hltJ : ¬ (len2 : Int) ≤ 30 := by omega
  have LE := Lib.hid hI.len_eq
  have LE2 := Lib.hid hJ.len_eq
  have HI := Lib.hid hI; have HJ := Lib.hid hJ
  have MS := Lib.hid (mods_succ L); have ML := Lib.hid (mods_len L); have MM := Lib.hid (mods_small L)
  have MS2 := Lib.hid (mods_succ M); have ML2 := Lib.hid (mods_len M); have MM2 := Lib.hid (mods_small M)
  have MB := Lib.hid (mods_app_small L M)
  clear hI hJ
  have P0 : -1073741824 ≤ x - 1073741824 := by omega
  have P1 : x - 1073741824 < 1073741824 := by omega
  obtain ⟨f0, f1⟩ := foldZ_bd P0 P1
  have EO := Lib.hid (every_one _ f0 f1)
  have OF := Lib.hid (odd_fold P0 P1)
  have ht5 : (strOf (putL (foldZ (x - 1073741824)))).size ≤ 5 := by rw [strOf_size]; exact (putL_len _).2
  obtain ⟨z, hz⟩ : ∃ z, z = foldZ (x - 1073741824) := ⟨_, rfl⟩
  rw [← hz] at EO OF ht5 f0 f1
  have HZ := Lib.hid hz; clear hz
  obtain ⟨V, hV⟩ : ∃ S, S = strOf (putL z) := ⟨_, rfl⟩
  have HV := Lib.hid hV
  rw [← hV] at EO ht5
  clear hV
  go_enter Try.func7, Try.ntmps7
  go_wp2_with fail
  go_loopw [7, 32] (fun v i wr => ∃ k : Nat, k ≤ len ∧ i = .int .i64 k ∧ Own wr w.heap.size v (mods (L.take k)) ∧ Below w.heap.size w wr) (fun _ i _ => len - (intOf i).toNat)
  case atStart => exact ⟨0, Nat.zero_le _, rfl, World.ownsRow_nil _ _ _ _, Below.refl _ _⟩
  case round =>
    obtain ⟨k, hk, rfl, ho, hb⟩ := hrel
    have HO := Lib.hid ho; have HB := Lib.hid hb; clear ho hb
    by_cases hlt : k < len
    · obtain ⟨b, off, rfl, hc⟩ := (HI.out.below HB.out).cell k hlt
      have hlt' : (k : Int) < (len : Int) := by omega
      have SUC := Lib.hid (MS.out k (by rw [LE.out]; exact hlt))
      have hwm := wrap_mod (en L k) (HI.out.bound k)
      have hlen : (mods (L.take k)).length ≤ 1000000 := by rw [mods_len, List.length_take]; omega
      obtain ⟨m, hm⟩ : ∃ m, m = en L k := ⟨_, rfl⟩
      rw [← hm] at hc SUC hwm
      have HLEN := Lib.hid hlen
      clear hm hlen
      have hsz := HB.out.size
      go_wp2_with (at_builtin; refine app1 rfl (.tmp 36) (.tmp 41) rfl w.heap.size _ _ rfl HO.out (m % 2147483648) rfl HLEN.out w HB.out hsz ?_; intro v' w3 ho3 hb3)
      go_roundw
      case rel => exact ⟨k + 1, by omega, by go_num, by rw [SUC.out]; exact ho3.out, hb3.out⟩
      case measure => simp [intOf]; omega
    · have hkm : L.take k = L := List.take_of_length_le (by rw [LE.out]; omega)
      rw [hkm] at HO
      obtain ⟨sa, sc, rfl, hsi⟩ := HO.out.ints MM.out.i64
      have hml : (mods L).length ≤ 30 := by rw [ML.out, LE.out]; omega
      clear hkm
      have HX := Lib.hid hsi; have HBA := HB
      clear hsi HB HO
      have HJ1 := Lib.hid (HJ.out.below HBA.out)
      obtain ⟨wA, rfl⟩ : ∃ x, x = wr := ⟨_, rfl⟩
      go_wp2_with fail
      go_loopw [8, 50] (fun v i wr => ∃ k : Nat, k ≤ 30 ∧ i = .int .i64 k ∧ Own wr wA.heap.size v (mods (M.take k)) ∧ Below wA.heap.size wA wr) (fun _ i _ => 30 - (intOf i).toNat)
      case atStart => exact ⟨0, Nat.zero_le _, rfl, World.ownsRow_nil _ _ _ _, Below.refl _ _⟩
      case round =>
        obtain ⟨k, hk, rfl, ho, hb⟩ := hrel
        have HO := Lib.hid ho; have HB := Lib.hid hb; clear ho hb
        by_cases hlt : k < 30
        · obtain ⟨b, off, rfl, hc⟩ := (HJ1.out.below HB.out).cell k hlt
          have hlt' : (k : Int) < 30 := by omega
          have SUC := Lib.hid (MS2.out k (by rw [LE2.out]; exact hlt))
          have hwm := wrap_mod (en M k) (HJ1.out.bound k)
          have hlen : (mods (M.take k)).length ≤ 1000000 := by rw [mods_len, List.length_take]; omega
          obtain ⟨m, hm⟩ : ∃ m, m = en M k := ⟨_, rfl⟩
          rw [← hm] at hc SUC hwm
          have HLEN := Lib.hid hlen
          clear hm hlen
          have hsz := HB.out.size
          go_wp2_with (at_builtin; refine app1 rfl (.tmp 54) (.tmp 59) rfl wA.heap.size _ _ rfl HO.out (m % 2147483648) rfl HLEN.out wA HB.out hsz ?_; intro v' w3 ho3 hb3)
          go_roundw
          case rel => exact ⟨k + 1, by omega, by go_num, by rw [SUC.out]; exact ho3.out, hb3.out⟩
          case measure => simp [intOf]; omega
        · have hkm : M.take k = M := List.take_of_length_le (by rw [LE2.out]; omega)
          rw [hkm] at HO
          obtain ⟨sa2, sc2, rfl, hsi⟩ := HO.out.ints MM2.out.i64
          have hml : (mods M).length ≤ 30 := by rw [ML2.out, LE2.out]; omega
          clear hkm
          have HY := Lib.hid hsi
          have HX2 := Lib.hid (HX.out.below HB.out)
          have HBB := Lib.hid (HBA.out.trans (HB.out.mono HBA.out.size))
          clear hsi HB HO HX
          have hx6 : (mods L).length ≤ 1000000 := by omega
          have hy6 : (mods M).length ≤ 1000000 := by omega
          have hz0 : ([] : List Int).length ≤ 1000000 := by simp
          have SAP := Lib.hid (show strOf (allL (mods L)) ++ strOf (allL (mods M)) = strOf (allL (mods L ++ mods M)) by rw [allL_append, strOf_append])
          have EA := Lib.hid (every_again _ MB.out)
          have ZA := allL_len (mods L)
          have ZB := allL_len (mods M)
          have ZC := allL_len (mods L ++ mods M)
          have hbl : (mods L ++ mods M).length = (mods L).length + (mods M).length := by rw [List.length_append]
          have hsa : (strOf (allL (mods L))).size ≤ 150 := by rw [strOf_size]; omega
          have hsb : (strOf (allL (mods M))).size ≤ 150 := by rw [strOf_size]; omega
          have hsc : (strOf (allL (mods L ++ mods M))).size ≤ 300 := by rw [strOf_size]; omega
          obtain ⟨SA, hSA⟩ : ∃ S, S = strOf (allL (mods L)) := ⟨_, rfl⟩
          obtain ⟨SB, hSB⟩ : ∃ S, S = strOf (allL (mods M)) := ⟨_, rfl⟩
          obtain ⟨SC, hSC⟩ : ∃ S, S = strOf (allL (mods L ++ mods M)) := ⟨_, rfl⟩
          rw [← hSA] at SAP hsa; rw [← hSB] at SAP hsb; rw [← hSC] at SAP EA hsc
          have HSA := Lib.hid hSA; have HSB := Lib.hid hSB; have HSC := Lib.hid hSC
          clear hSA hSB hSC ZA ZB ZC
          have hsap := SAP.out
          obtain ⟨wB, rfl⟩ : ∃ x, x = wr := ⟨_, rfl⟩
          have hxl : (mods L ++ mods M).length ≤ 1000 := by omega
          have hsc6 : SC.size ≤ 1000000 := by omega
          go_wp2_with (at_builtin; first | (refine appN rfl (.tmp 62) (.tmp 63) rfl wB.heap.size _ [] rfl (own_nil wB) _ _ _ _ rfl (HX2.out.below (below_alloc _ _)) hz0 hx6 wB (below_alloc _ _) (below_alloc wB _).size ?_; intro v1 wC ho1 hb1) | (refine appN rfl (.tmp 64) (.tmp 65) rfl wB.heap.size v1 (mods L) rfl ho1.out _ _ _ _ rfl (HY.out.below hb1.out) hx6 hy6 wB hb1.out hb1.out.size ?_; intro v2 wD ho2 hb2; obtain ⟨bo, bc, rfl, hbi⟩ := ho2.out.ints MB.out.i64; have HBI := Lib.hid hbi; clear hbi))
          have HBD := Lib.hid (HBB.out.trans (hb2.out.mono HBB.out.size))
          have HXD := Lib.hid (HX2.out.below hb2.out)
          have HYD := Lib.hid (HY.out.below hb2.out)
          clear HX2 HY ho1 hb1 ho2 hb2
          rw [hbl] at HBI
          
          refine (all_ok _ _ _ _ _ HXD.out (by omega) (smalls_all MM.out)).mono ?_
          rintro e w11 ⟨rfl, hb11⟩
          have HXD_11 := Lib.hid (HXD.out.below hb11)
          have HYD_11 := Lib.hid (HYD.out.below hb11)
          have HBI_11 := Lib.hid (HBI.out.below hb11)
          have HBW11 := Lib.hid (HBD.out.trans (hb11.mono HBD.out.size))
          clear hb11 HXD HYD HBI
          rw [← HSA.out]
          go_wp2_with fail
          refine (all_ok _ _ _ _ _ HYD_11.out (by omega) (smalls_all MM2.out)).mono ?_
          rintro e w12 ⟨rfl, hb12⟩
          have HXD_12 := Lib.hid (HXD_11.out.below hb12)
          have HYD_12 := Lib.hid (HYD_11.out.below hb12)
          have HBI_12 := Lib.hid (HBI_11.out.below hb12)
          have HBW12 := Lib.hid (HBW11.out.trans (hb12.mono HBW11.out.size))
          clear hb12 HXD_11 HYD_11 HBI_11
          rw [← HSB.out]
          go_wp2_with fail
          refine (all_ok _ _ _ _ _ HBI_12.out (by omega) (smalls_all MB.out)).mono ?_
          rintro e w13 ⟨rfl, hb13⟩
          have HXD_13 := Lib.hid (HXD_12.out.below hb13)
          have HYD_13 := Lib.hid (HYD_12.out.below hb13)
          have HBI_13 := Lib.hid (HBI_12.out.below hb13)
          have HBW13 := Lib.hid (HBW12.out.trans (hb13.mono HBW12.out.size))
          clear hb13 HXD_12 HYD_12 HBI_12
          rw [← HSC.out]
          go_wp2_with fail
          refine (every_any _ _ hsc6).mono ?_
          rintro e w14 ⟨m, mn, mc, rfl, hm, hb14⟩
          rw [EA.out] at hm
          have HXD_14 := Lib.hid (HXD_13.out.below hb14)
          have HYD_14 := Lib.hid (HYD_13.out.below hb14)
          have HBI_14 := Lib.hid (HBI_13.out.below hb14)
          have HM_14 := Lib.hid hm
          have HBW14 := Lib.hid (HBW13.out.trans (hb14.mono HBW13.out.size))
          clear hb14 hm HXD_13 HYD_13 HBI_13
          rw [EA.out]
          go_wp2_with fail
          refine (Sign_ok _ _ P0 P1).mono ?_
          rintro e w15 ⟨rfl, hb15⟩
          have HXD_15 := Lib.hid (HXD_14.out.below hb15)
          have HYD_15 := Lib.hid (HYD_14.out.below hb15)
          have HBI_15 := Lib.hid (HBI_14.out.below hb15)
          have HM_15 := Lib.hid (HM_14.out.below hb15)
          have HBW15 := Lib.hid (HBW14.out.trans (hb15.mono HBW14.out.size))
          clear hb15 HXD_14 HYD_14 HBI_14 HM_14
          rw [← HZ.out, ← HV.out]
          go_wp2_with fail
          refine (every_any _ _ (by omega)).mono ?_
          rintro e w16 ⟨m2, mn2, mc2, rfl, hm2, hb16⟩
          rw [EO.out] at hm2
          have HXD_16 := Lib.hid (HXD_15.out.below hb16)
          have HYD_16 := Lib.hid (HYD_15.out.below hb16)
          have HBI_16 := Lib.hid (HBI_15.out.below hb16)
          have HM_16 := Lib.hid (HM_15.out.below hb16)
          have HM2_16 := Lib.hid hm2
          have HBW16 := Lib.hid (HBW15.out.trans (hb16.mono HBW15.out.size))
          clear hb16 hm2 HXD_15 HYD_15 HBI_15 HM_15
          rw [EO.out]
          go_wp2_with fail
          refine (alive_any _).mono ?_
          rintro e w17 ⟨rfl, hb17⟩
          have HXD_17 := Lib.hid (HXD_16.out.below hb17)
          have HYD_17 := Lib.hid (HYD_16.out.below hb17)
          have HBI_17 := Lib.hid (HBI_16.out.below hb17)
          have HM_17 := Lib.hid (HM_16.out.below hb17)
          have HM2_17 := Lib.hid (HM2_16.out.below hb17)
          have HBW17 := Lib.hid (HBW16.out.trans (hb17.mono HBW16.out.size))
          clear hb17 HXD_16 HYD_16 HBI_16 HM_16 HM2_16
          go_wp2_with fail
          refine (rows_any _ _ _ _ _ _ _ _ _ HM_17.out HBI_17.out).mono ?_
          rintro e w18 ⟨rfl, hb18⟩
          have HXD_18 := Lib.hid (HXD_17.out.below hb18)
          have HYD_18 := Lib.hid (HYD_17.out.below hb18)
          have HBI_18 := Lib.hid (HBI_17.out.below hb18)
          have HM_18 := Lib.hid (HM_17.out.below hb18)
          have HM2_18 := Lib.hid (HM2_17.out.below hb18)
          have HBW18 := Lib.hid (HBW17.out.trans (hb18.mono HBW17.out.size))
          clear hb18 HXD_17 HYD_17 HBI_17 HM_17 HM2_17
          rw [decide_eq_true (show mods L ++ mods M = mods L ++ mods M from rfl)]
          obtain rfl : mn2 = 1 := by have := HM2_18.out.len_eq; simp at this; omega
          obtain ⟨b, off, rfl, hc⟩ := HM2_18.out.cell 0 (by omega)
          rw [en_cons_zero, Nat.add_zero] at hc
          have hof := OF.out
          by_cases hneg : x - 1073741824 < 0
          · rw [decide_eq_true hneg] at hof
            go_wp2_with fail
            go_ret
            exact ⟨ret_bool (by first | rfl | exact hof | (rw [decide_eq_false (show ¬ x - 1073741824 < 0 by omega)]; rfl)), HBW18.out⟩
          · rw [decide_eq_false hneg] at hof
            go_wp2_with fail
            go_ret
            exact ⟨ret_bool (by first | rfl | exact hof | (rw [decide_eq_false (show ¬ x - 1073741824 < 0 by omega)]; rfl)), HBW18.out⟩

set_option maxRecDepth 100000 in
set_option maxHeartbeats 4000000 in
theorem joins_10 (a : Option Addr) (len cap : Nat) (l : List Int) (a2 : Option Addr) (len2 cap2 : Nat) (l2 : List Int) (n : Int) (w : World) (x : Int) (hx : wrap64 ((IntKind.u64.wrap n).tmod 2147483648) = x) (x0 : 0 ≤ x) (x1 : x ≤ 2147483647) (h : Ints w a len cap l) (h2 : Ints w a2 len2 cap2 l2) (hlt : 30 < len) (hlt2 : len2 ≤ 30) : Calls Try.prog 7 #[.slice a len cap, .slice a2 len2 cap2, .int .i64 n] w (Says w) := by
  have hI := h.take 30
  have hJ := h2.take 30
  rw [Nat.min_eq_right (by omega)] at hI
  rw [Nat.min_eq_left (by omega)] at hJ
  have hle := h.len_le
  have hlc := h.le_cap
  have hcm := h.cap_le
  have hnn := h.none_
  have hle2 := h2.len_le
  have hlc2 := h2.le_cap
  have hcm2 := h2.cap_le
  have hnn2 := h2.none_
  unfold maxLen at hcm hcm2
  clear h h2
  obtain ⟨L, hL⟩ : ∃ L, L = l.take 30 := ⟨_, rfl⟩
  obtain ⟨M, hM⟩ : ∃ L, L = l2.take 30 := ⟨_, rfl⟩
  rw [← hL] at hI
  rw [← hM] at hJ
  clear hL hM
  have hltI : ¬ (len : Int) ≤ 30 := by omega
  have hltJ : (len2 : Int) ≤ 30 := by omega
  have LE := Lib.hid hI.len_eq
  have LE2 := Lib.hid hJ.len_eq
  have HI := Lib.hid hI; have HJ := Lib.hid hJ
  have MS := Lib.hid (mods_succ L); have ML := Lib.hid (mods_len L); have MM := Lib.hid (mods_small L)
  have MS2 := Lib.hid (mods_succ M); have ML2 := Lib.hid (mods_len M); have MM2 := Lib.hid (mods_small M)
  have MB := Lib.hid (mods_app_small L M)
  clear hI hJ
  have P0 : -1073741824 ≤ x - 1073741824 := by omega
  have P1 : x - 1073741824 < 1073741824 := by omega
  obtain ⟨f0, f1⟩ := foldZ_bd P0 P1
  have EO := Lib.hid (every_one _ f0 f1)
  have OF := Lib.hid (odd_fold P0 P1)
  have ht5 : (strOf (putL (foldZ (x - 1073741824)))).size ≤ 5 := by rw [strOf_size]; exact (putL_len _).2
  obtain ⟨z, hz⟩ : ∃ z, z = foldZ (x - 1073741824) := ⟨_, rfl⟩
  rw [← hz] at EO OF ht5 f0 f1
  have HZ := Lib.hid hz; clear hz
  obtain ⟨V, hV⟩ : ∃ S, S = strOf (putL z) := ⟨_, rfl⟩
  have HV := Lib.hid hV
  rw [← hV] at EO ht5
  clear hV
  go_enter Try.func7, Try.ntmps7
  go_wp2_with fail
  go_loopw [7, 32] (fun v i wr => ∃ k : Nat, k ≤ 30 ∧ i = .int .i64 k ∧ Own wr w.heap.size v (mods (L.take k)) ∧ Below w.heap.size w wr) (fun _ i _ => 30 - (intOf i).toNat)
  case atStart => exact ⟨0, Nat.zero_le _, rfl, World.ownsRow_nil _ _ _ _, Below.refl _ _⟩
  case round =>
    obtain ⟨k, hk, rfl, ho, hb⟩ := hrel
    have HO := Lib.hid ho; have HB := Lib.hid hb; clear ho hb
    by_cases hlt : k < 30
    · obtain ⟨b, off, rfl, hc⟩ := (HI.out.below HB.out).cell k hlt
      have hlt' : (k : Int) < 30 := by omega
      have SUC := Lib.hid (MS.out k (by rw [LE.out]; exact hlt))
      have hwm := wrap_mod (en L k) (HI.out.bound k)
      have hlen : (mods (L.take k)).length ≤ 1000000 := by rw [mods_len, List.length_take]; omega
      obtain ⟨m, hm⟩ : ∃ m, m = en L k := ⟨_, rfl⟩
      rw [← hm] at hc SUC hwm
      have HLEN := Lib.hid hlen
      clear hm hlen
      have hsz := HB.out.size
      go_wp2_with (at_builtin; refine app1 rfl (.tmp 36) (.tmp 41) rfl w.heap.size _ _ rfl HO.out (m % 2147483648) rfl HLEN.out w HB.out hsz ?_; intro v' w3 ho3 hb3)
      go_roundw
      case rel => exact ⟨k + 1, by omega, by go_num, by rw [SUC.out]; exact ho3.out, hb3.out⟩
      case measure => simp [intOf]; omega
    · have hkm : L.take k = L := List.take_of_length_le (by rw [LE.out]; omega)
      rw [hkm] at HO
      obtain ⟨sa, sc, rfl, hsi⟩ := HO.out.ints MM.out.i64
      have hml : (mods L).length ≤ 30 := by rw [ML.out, LE.out]; omega
      clear hkm
      have HX := Lib.hid hsi; have HBA := HB
      clear hsi HB HO
      have HJ1 := Lib.hid (HJ.out.below HBA.out)
      obtain ⟨wA, rfl⟩ : ∃ x, x = wr := ⟨_, rfl⟩
      go_wp2_with fail
      go_loopw [8, 50] (fun v i wr => ∃ k : Nat, k ≤ len2 ∧ i = .int .i64 k ∧ Own wr wA.heap.size v (mods (M.take k)) ∧ Below wA.heap.size wA wr) (fun _ i _ => len2 - (intOf i).toNat)
      case atStart => exact ⟨0, Nat.zero_le _, rfl, World.ownsRow_nil _ _ _ _, Below.refl _ _⟩
      case round =>
        obtain ⟨k, hk, rfl, ho, hb⟩ := hrel
        have HO := Lib.hid ho; have HB := Lib.hid hb; clear ho hb
        by_cases hlt : k < len2
        · obtain ⟨b, off, rfl, hc⟩ := (HJ1.out.below HB.out).cell k hlt
          have hlt' : (k : Int) < (len2 : Int) := by omega
          have SUC := Lib.hid (MS2.out k (by rw [LE2.out]; exact hlt))
          have hwm := wrap_mod (en M k) (HJ1.out.bound k)
          have hlen : (mods (M.take k)).length ≤ 1000000 := by rw [mods_len, List.length_take]; omega
          obtain ⟨m, hm⟩ : ∃ m, m = en M k := ⟨_, rfl⟩
          rw [← hm] at hc SUC hwm
          have HLEN := Lib.hid hlen
          clear hm hlen
          have hsz := HB.out.size
          go_wp2_with (at_builtin; refine app1 rfl (.tmp 54) (.tmp 59) rfl wA.heap.size _ _ rfl HO.out (m % 2147483648) rfl HLEN.out wA HB.out hsz ?_; intro v' w3 ho3 hb3)
          go_roundw
          case rel => exact ⟨k + 1, by omega, by go_num, by rw [SUC.out]; exact ho3.out, hb3.out⟩
          case measure => simp [intOf]; omega
        · have hkm : M.take k = M := List.take_of_length_le (by rw [LE2.out]; omega)
          rw [hkm] at HO
          obtain ⟨sa2, sc2, rfl, hsi⟩ := HO.out.ints MM2.out.i64
          have hml : (mods M).length ≤ 30 := by rw [ML2.out, LE2.out]; omega
          clear hkm
          have HY := Lib.hid hsi
          have HX2 := Lib.hid (HX.out.below HB.out)
          have HBB := Lib.hid (HBA.out.trans (HB.out.mono HBA.out.size))
          clear hsi HB HO HX
          have hx6 : (mods L).length ≤ 1000000 := by omega
          have hy6 : (mods M).length ≤ 1000000 := by omega
          have hz0 : ([] : List Int).length ≤ 1000000 := by simp
          have SAP := Lib.hid (show strOf (allL (mods L)) ++ strOf (allL (mods M)) = strOf (allL (mods L ++ mods M)) by rw [allL_append, strOf_append])
          have EA := Lib.hid (every_again _ MB.out)
          have ZA := allL_len (mods L)
          have ZB := allL_len (mods M)
          have ZC := allL_len (mods L ++ mods M)
          have hbl : (mods L ++ mods M).length = (mods L).length + (mods M).length := by rw [List.length_append]
          have hsa : (strOf (allL (mods L))).size ≤ 150 := by rw [strOf_size]; omega
          have hsb : (strOf (allL (mods M))).size ≤ 150 := by rw [strOf_size]; omega
          have hsc : (strOf (allL (mods L ++ mods M))).size ≤ 300 := by rw [strOf_size]; omega
          obtain ⟨SA, hSA⟩ : ∃ S, S = strOf (allL (mods L)) := ⟨_, rfl⟩
          obtain ⟨SB, hSB⟩ : ∃ S, S = strOf (allL (mods M)) := ⟨_, rfl⟩
          obtain ⟨SC, hSC⟩ : ∃ S, S = strOf (allL (mods L ++ mods M)) := ⟨_, rfl⟩
          rw [← hSA] at SAP hsa; rw [← hSB] at SAP hsb; rw [← hSC] at SAP EA hsc
          have HSA := Lib.hid hSA; have HSB := Lib.hid hSB; have HSC := Lib.hid hSC
          clear hSA hSB hSC ZA ZB ZC
          have hsap := SAP.out
          obtain ⟨wB, rfl⟩ : ∃ x, x = wr := ⟨_, rfl⟩
          have hxl : (mods L ++ mods M).length ≤ 1000 := by omega
          have hsc6 : SC.size ≤ 1000000 := by omega
          go_wp2_with (at_builtin; first | (refine appN rfl (.tmp 62) (.tmp 63) rfl wB.heap.size _ [] rfl (own_nil wB) _ _ _ _ rfl (HX2.out.below (below_alloc _ _)) hz0 hx6 wB (below_alloc _ _) (below_alloc wB _).size ?_; intro v1 wC ho1 hb1) | (refine appN rfl (.tmp 64) (.tmp 65) rfl wB.heap.size v1 (mods L) rfl ho1.out _ _ _ _ rfl (HY.out.below hb1.out) hx6 hy6 wB hb1.out hb1.out.size ?_; intro v2 wD ho2 hb2; obtain ⟨bo, bc, rfl, hbi⟩ := ho2.out.ints MB.out.i64; have HBI := Lib.hid hbi; clear hbi))
          have HBD := Lib.hid (HBB.out.trans (hb2.out.mono HBB.out.size))
          have HXD := Lib.hid (HX2.out.below hb2.out)
          have HYD := Lib.hid (HY.out.below hb2.out)
          clear HX2 HY ho1 hb1 ho2 hb2
          rw [hbl] at HBI
          
          refine (all_ok _ _ _ _ _ HXD.out (by omega) (smalls_all MM.out)).mono ?_
          rintro e w11 ⟨rfl, hb11⟩
          have HXD_11 := Lib.hid (HXD.out.below hb11)
          have HYD_11 := Lib.hid (HYD.out.below hb11)
          have HBI_11 := Lib.hid (HBI.out.below hb11)
          have HBW11 := Lib.hid (HBD.out.trans (hb11.mono HBD.out.size))
          clear hb11 HXD HYD HBI
          rw [← HSA.out]
          go_wp2_with fail
          refine (all_ok _ _ _ _ _ HYD_11.out (by omega) (smalls_all MM2.out)).mono ?_
          rintro e w12 ⟨rfl, hb12⟩
          have HXD_12 := Lib.hid (HXD_11.out.below hb12)
          have HYD_12 := Lib.hid (HYD_11.out.below hb12)
          have HBI_12 := Lib.hid (HBI_11.out.below hb12)
          have HBW12 := Lib.hid (HBW11.out.trans (hb12.mono HBW11.out.size))
          clear hb12 HXD_11 HYD_11 HBI_11
          rw [← HSB.out]
          go_wp2_with fail
          refine (all_ok _ _ _ _ _ HBI_12.out (by omega) (smalls_all MB.out)).mono ?_
          rintro e w13 ⟨rfl, hb13⟩
          have HXD_13 := Lib.hid (HXD_12.out.below hb13)
          have HYD_13 := Lib.hid (HYD_12.out.below hb13)
          have HBI_13 := Lib.hid (HBI_12.out.below hb13)
          have HBW13 := Lib.hid (HBW12.out.trans (hb13.mono HBW12.out.size))
          clear hb13 HXD_12 HYD_12 HBI_12
          rw [← HSC.out]
          go_wp2_with fail
          refine (every_any _ _ hsc6).mono ?_
          rintro e w14 ⟨m, mn, mc, rfl, hm, hb14⟩
          rw [EA.out] at hm
          have HXD_14 := Lib.hid (HXD_13.out.below hb14)
          have HYD_14 := Lib.hid (HYD_13.out.below hb14)
          have HBI_14 := Lib.hid (HBI_13.out.below hb14)
          have HM_14 := Lib.hid hm
          have HBW14 := Lib.hid (HBW13.out.trans (hb14.mono HBW13.out.size))
          clear hb14 hm HXD_13 HYD_13 HBI_13
          rw [EA.out]
          go_wp2_with fail
          refine (Sign_ok _ _ P0 P1).mono ?_
          rintro e w15 ⟨rfl, hb15⟩
          have HXD_15 := Lib.hid (HXD_14.out.below hb15)
          have HYD_15 := Lib.hid (HYD_14.out.below hb15)
          have HBI_15 := Lib.hid (HBI_14.out.below hb15)
          have HM_15 := Lib.hid (HM_14.out.below hb15)
          have HBW15 := Lib.hid (HBW14.out.trans (hb15.mono HBW14.out.size))
          clear hb15 HXD_14 HYD_14 HBI_14 HM_14
          rw [← HZ.out, ← HV.out]
          go_wp2_with fail
          refine (every_any _ _ (by omega)).mono ?_
          rintro e w16 ⟨m2, mn2, mc2, rfl, hm2, hb16⟩
          rw [EO.out] at hm2
          have HXD_16 := Lib.hid (HXD_15.out.below hb16)
          have HYD_16 := Lib.hid (HYD_15.out.below hb16)
          have HBI_16 := Lib.hid (HBI_15.out.below hb16)
          have HM_16 := Lib.hid (HM_15.out.below hb16)
          have HM2_16 := Lib.hid hm2
          have HBW16 := Lib.hid (HBW15.out.trans (hb16.mono HBW15.out.size))
          clear hb16 hm2 HXD_15 HYD_15 HBI_15 HM_15
          rw [EO.out]
          go_wp2_with fail
          refine (alive_any _).mono ?_
          rintro e w17 ⟨rfl, hb17⟩
          have HXD_17 := Lib.hid (HXD_16.out.below hb17)
          have HYD_17 := Lib.hid (HYD_16.out.below hb17)
          have HBI_17 := Lib.hid (HBI_16.out.below hb17)
          have HM_17 := Lib.hid (HM_16.out.below hb17)
          have HM2_17 := Lib.hid (HM2_16.out.below hb17)
          have HBW17 := Lib.hid (HBW16.out.trans (hb17.mono HBW16.out.size))
          clear hb17 HXD_16 HYD_16 HBI_16 HM_16 HM2_16
          go_wp2_with fail
          refine (rows_any _ _ _ _ _ _ _ _ _ HM_17.out HBI_17.out).mono ?_
          rintro e w18 ⟨rfl, hb18⟩
          have HXD_18 := Lib.hid (HXD_17.out.below hb18)
          have HYD_18 := Lib.hid (HYD_17.out.below hb18)
          have HBI_18 := Lib.hid (HBI_17.out.below hb18)
          have HM_18 := Lib.hid (HM_17.out.below hb18)
          have HM2_18 := Lib.hid (HM2_17.out.below hb18)
          have HBW18 := Lib.hid (HBW17.out.trans (hb18.mono HBW17.out.size))
          clear hb18 HXD_17 HYD_17 HBI_17 HM_17 HM2_17
          rw [decide_eq_true (show mods L ++ mods M = mods L ++ mods M from rfl)]
          obtain rfl : mn2 = 1 := by have := HM2_18.out.len_eq; simp at this; omega
          obtain ⟨b, off, rfl, hc⟩ := HM2_18.out.cell 0 (by omega)
          rw [en_cons_zero, Nat.add_zero] at hc
          have hof := OF.out
          by_cases hneg : x - 1073741824 < 0
          · rw [decide_eq_true hneg] at hof
            go_wp2_with fail
            go_ret
            exact ⟨ret_bool (by first | rfl | exact hof | (rw [decide_eq_false (show ¬ x - 1073741824 < 0 by omega)]; rfl)), HBW18.out⟩
          · rw [decide_eq_false hneg] at hof
            go_wp2_with fail
            go_ret
            exact ⟨ret_bool (by first | rfl | exact hof | (rw [decide_eq_false (show ¬ x - 1073741824 < 0 by omega)]; rfl)), HBW18.out⟩

set_option maxRecDepth 100000 in
set_option maxHeartbeats 4000000 in
theorem joins_11 (a : Option Addr) (len cap : Nat) (l : List Int) (a2 : Option Addr) (len2 cap2 : Nat) (l2 : List Int) (n : Int) (w : World) (x : Int) (hx : wrap64 ((IntKind.u64.wrap n).tmod 2147483648) = x) (x0 : 0 ≤ x) (x1 : x ≤ 2147483647) (h : Ints w a len cap l) (h2 : Ints w a2 len2 cap2 l2) (hlt : 30 < len) (hlt2 : 30 < len2) : Calls Try.prog 7 #[.slice a len cap, .slice a2 len2 cap2, .int .i64 n] w (Says w) := by
  have hI := h.take 30
  have hJ := h2.take 30
  rw [Nat.min_eq_right (by omega)] at hI
  rw [Nat.min_eq_right (by omega)] at hJ
  have hle := h.len_le
  have hlc := h.le_cap
  have hcm := h.cap_le
  have hnn := h.none_
  have hle2 := h2.len_le
  have hlc2 := h2.le_cap
  have hcm2 := h2.cap_le
  have hnn2 := h2.none_
  unfold maxLen at hcm hcm2
  clear h h2
  obtain ⟨L, hL⟩ : ∃ L, L = l.take 30 := ⟨_, rfl⟩
  obtain ⟨M, hM⟩ : ∃ L, L = l2.take 30 := ⟨_, rfl⟩
  rw [← hL] at hI
  rw [← hM] at hJ
  clear hL hM
  have hltI : ¬ (len : Int) ≤ 30 := by omega
  have hltJ : ¬ (len2 : Int) ≤ 30 := by omega
  have LE := Lib.hid hI.len_eq
  have LE2 := Lib.hid hJ.len_eq
  have HI := Lib.hid hI; have HJ := Lib.hid hJ
  have MS := Lib.hid (mods_succ L); have ML := Lib.hid (mods_len L); have MM := Lib.hid (mods_small L)
  have MS2 := Lib.hid (mods_succ M); have ML2 := Lib.hid (mods_len M); have MM2 := Lib.hid (mods_small M)
  have MB := Lib.hid (mods_app_small L M)
  clear hI hJ
  have P0 : -1073741824 ≤ x - 1073741824 := by omega
  have P1 : x - 1073741824 < 1073741824 := by omega
  obtain ⟨f0, f1⟩ := foldZ_bd P0 P1
  have EO := Lib.hid (every_one _ f0 f1)
  have OF := Lib.hid (odd_fold P0 P1)
  have ht5 : (strOf (putL (foldZ (x - 1073741824)))).size ≤ 5 := by rw [strOf_size]; exact (putL_len _).2
  obtain ⟨z, hz⟩ : ∃ z, z = foldZ (x - 1073741824) := ⟨_, rfl⟩
  rw [← hz] at EO OF ht5 f0 f1
  have HZ := Lib.hid hz; clear hz
  obtain ⟨V, hV⟩ : ∃ S, S = strOf (putL z) := ⟨_, rfl⟩
  have HV := Lib.hid hV
  rw [← hV] at EO ht5
  clear hV
  go_enter Try.func7, Try.ntmps7
  go_wp2_with fail
  go_loopw [7, 32] (fun v i wr => ∃ k : Nat, k ≤ 30 ∧ i = .int .i64 k ∧ Own wr w.heap.size v (mods (L.take k)) ∧ Below w.heap.size w wr) (fun _ i _ => 30 - (intOf i).toNat)
  case atStart => exact ⟨0, Nat.zero_le _, rfl, World.ownsRow_nil _ _ _ _, Below.refl _ _⟩
  case round =>
    obtain ⟨k, hk, rfl, ho, hb⟩ := hrel
    have HO := Lib.hid ho; have HB := Lib.hid hb; clear ho hb
    by_cases hlt : k < 30
    · obtain ⟨b, off, rfl, hc⟩ := (HI.out.below HB.out).cell k hlt
      have hlt' : (k : Int) < 30 := by omega
      have SUC := Lib.hid (MS.out k (by rw [LE.out]; exact hlt))
      have hwm := wrap_mod (en L k) (HI.out.bound k)
      have hlen : (mods (L.take k)).length ≤ 1000000 := by rw [mods_len, List.length_take]; omega
      obtain ⟨m, hm⟩ : ∃ m, m = en L k := ⟨_, rfl⟩
      rw [← hm] at hc SUC hwm
      have HLEN := Lib.hid hlen
      clear hm hlen
      have hsz := HB.out.size
      go_wp2_with (at_builtin; refine app1 rfl (.tmp 36) (.tmp 41) rfl w.heap.size _ _ rfl HO.out (m % 2147483648) rfl HLEN.out w HB.out hsz ?_; intro v' w3 ho3 hb3)
      go_roundw
      case rel => exact ⟨k + 1, by omega, by go_num, by rw [SUC.out]; exact ho3.out, hb3.out⟩
      case measure => simp [intOf]; omega
    · have hkm : L.take k = L := List.take_of_length_le (by rw [LE.out]; omega)
      rw [hkm] at HO
      obtain ⟨sa, sc, rfl, hsi⟩ := HO.out.ints MM.out.i64
      have hml : (mods L).length ≤ 30 := by rw [ML.out, LE.out]; omega
      clear hkm
      have HX := Lib.hid hsi; have HBA := HB
      clear hsi HB HO
      have HJ1 := Lib.hid (HJ.out.below HBA.out)
      obtain ⟨wA, rfl⟩ : ∃ x, x = wr := ⟨_, rfl⟩
      go_wp2_with fail
      go_loopw [8, 50] (fun v i wr => ∃ k : Nat, k ≤ 30 ∧ i = .int .i64 k ∧ Own wr wA.heap.size v (mods (M.take k)) ∧ Below wA.heap.size wA wr) (fun _ i _ => 30 - (intOf i).toNat)
      case atStart => exact ⟨0, Nat.zero_le _, rfl, World.ownsRow_nil _ _ _ _, Below.refl _ _⟩
      case round =>
        obtain ⟨k, hk, rfl, ho, hb⟩ := hrel
        have HO := Lib.hid ho; have HB := Lib.hid hb; clear ho hb
        by_cases hlt : k < 30
        · obtain ⟨b, off, rfl, hc⟩ := (HJ1.out.below HB.out).cell k hlt
          have hlt' : (k : Int) < 30 := by omega
          have SUC := Lib.hid (MS2.out k (by rw [LE2.out]; exact hlt))
          have hwm := wrap_mod (en M k) (HJ1.out.bound k)
          have hlen : (mods (M.take k)).length ≤ 1000000 := by rw [mods_len, List.length_take]; omega
          obtain ⟨m, hm⟩ : ∃ m, m = en M k := ⟨_, rfl⟩
          rw [← hm] at hc SUC hwm
          have HLEN := Lib.hid hlen
          clear hm hlen
          have hsz := HB.out.size
          go_wp2_with (at_builtin; refine app1 rfl (.tmp 54) (.tmp 59) rfl wA.heap.size _ _ rfl HO.out (m % 2147483648) rfl HLEN.out wA HB.out hsz ?_; intro v' w3 ho3 hb3)
          go_roundw
          case rel => exact ⟨k + 1, by omega, by go_num, by rw [SUC.out]; exact ho3.out, hb3.out⟩
          case measure => simp [intOf]; omega
        · have hkm : M.take k = M := List.take_of_length_le (by rw [LE2.out]; omega)
          rw [hkm] at HO
          obtain ⟨sa2, sc2, rfl, hsi⟩ := HO.out.ints MM2.out.i64
          have hml : (mods M).length ≤ 30 := by rw [ML2.out, LE2.out]; omega
          clear hkm
          have HY := Lib.hid hsi
          have HX2 := Lib.hid (HX.out.below HB.out)
          have HBB := Lib.hid (HBA.out.trans (HB.out.mono HBA.out.size))
          clear hsi HB HO HX
          have hx6 : (mods L).length ≤ 1000000 := by omega
          have hy6 : (mods M).length ≤ 1000000 := by omega
          have hz0 : ([] : List Int).length ≤ 1000000 := by simp
          have SAP := Lib.hid (show strOf (allL (mods L)) ++ strOf (allL (mods M)) = strOf (allL (mods L ++ mods M)) by rw [allL_append, strOf_append])
          have EA := Lib.hid (every_again _ MB.out)
          have ZA := allL_len (mods L)
          have ZB := allL_len (mods M)
          have ZC := allL_len (mods L ++ mods M)
          have hbl : (mods L ++ mods M).length = (mods L).length + (mods M).length := by rw [List.length_append]
          have hsa : (strOf (allL (mods L))).size ≤ 150 := by rw [strOf_size]; omega
          have hsb : (strOf (allL (mods M))).size ≤ 150 := by rw [strOf_size]; omega
          have hsc : (strOf (allL (mods L ++ mods M))).size ≤ 300 := by rw [strOf_size]; omega
          obtain ⟨SA, hSA⟩ : ∃ S, S = strOf (allL (mods L)) := ⟨_, rfl⟩
          obtain ⟨SB, hSB⟩ : ∃ S, S = strOf (allL (mods M)) := ⟨_, rfl⟩
          obtain ⟨SC, hSC⟩ : ∃ S, S = strOf (allL (mods L ++ mods M)) := ⟨_, rfl⟩
          rw [← hSA] at SAP hsa; rw [← hSB] at SAP hsb; rw [← hSC] at SAP EA hsc
          have HSA := Lib.hid hSA; have HSB := Lib.hid hSB; have HSC := Lib.hid hSC
          clear hSA hSB hSC ZA ZB ZC
          have hsap := SAP.out
          obtain ⟨wB, rfl⟩ : ∃ x, x = wr := ⟨_, rfl⟩
          have hxl : (mods L ++ mods M).length ≤ 1000 := by omega
          have hsc6 : SC.size ≤ 1000000 := by omega
          go_wp2_with (at_builtin; first | (refine appN rfl (.tmp 62) (.tmp 63) rfl wB.heap.size _ [] rfl (own_nil wB) _ _ _ _ rfl (HX2.out.below (below_alloc _ _)) hz0 hx6 wB (below_alloc _ _) (below_alloc wB _).size ?_; intro v1 wC ho1 hb1) | (refine appN rfl (.tmp 64) (.tmp 65) rfl wB.heap.size v1 (mods L) rfl ho1.out _ _ _ _ rfl (HY.out.below hb1.out) hx6 hy6 wB hb1.out hb1.out.size ?_; intro v2 wD ho2 hb2; obtain ⟨bo, bc, rfl, hbi⟩ := ho2.out.ints MB.out.i64; have HBI := Lib.hid hbi; clear hbi))
          have HBD := Lib.hid (HBB.out.trans (hb2.out.mono HBB.out.size))
          have HXD := Lib.hid (HX2.out.below hb2.out)
          have HYD := Lib.hid (HY.out.below hb2.out)
          clear HX2 HY ho1 hb1 ho2 hb2
          rw [hbl] at HBI
          
          refine (all_ok _ _ _ _ _ HXD.out (by omega) (smalls_all MM.out)).mono ?_
          rintro e w11 ⟨rfl, hb11⟩
          have HXD_11 := Lib.hid (HXD.out.below hb11)
          have HYD_11 := Lib.hid (HYD.out.below hb11)
          have HBI_11 := Lib.hid (HBI.out.below hb11)
          have HBW11 := Lib.hid (HBD.out.trans (hb11.mono HBD.out.size))
          clear hb11 HXD HYD HBI
          rw [← HSA.out]
          go_wp2_with fail
          refine (all_ok _ _ _ _ _ HYD_11.out (by omega) (smalls_all MM2.out)).mono ?_
          rintro e w12 ⟨rfl, hb12⟩
          have HXD_12 := Lib.hid (HXD_11.out.below hb12)
          have HYD_12 := Lib.hid (HYD_11.out.below hb12)
          have HBI_12 := Lib.hid (HBI_11.out.below hb12)
          have HBW12 := Lib.hid (HBW11.out.trans (hb12.mono HBW11.out.size))
          clear hb12 HXD_11 HYD_11 HBI_11
          rw [← HSB.out]
          go_wp2_with fail
          refine (all_ok _ _ _ _ _ HBI_12.out (by omega) (smalls_all MB.out)).mono ?_
          rintro e w13 ⟨rfl, hb13⟩
          have HXD_13 := Lib.hid (HXD_12.out.below hb13)
          have HYD_13 := Lib.hid (HYD_12.out.below hb13)
          have HBI_13 := Lib.hid (HBI_12.out.below hb13)
          have HBW13 := Lib.hid (HBW12.out.trans (hb13.mono HBW12.out.size))
          clear hb13 HXD_12 HYD_12 HBI_12
          rw [← HSC.out]
          go_wp2_with fail
          refine (every_any _ _ hsc6).mono ?_
          rintro e w14 ⟨m, mn, mc, rfl, hm, hb14⟩
          rw [EA.out] at hm
          have HXD_14 := Lib.hid (HXD_13.out.below hb14)
          have HYD_14 := Lib.hid (HYD_13.out.below hb14)
          have HBI_14 := Lib.hid (HBI_13.out.below hb14)
          have HM_14 := Lib.hid hm
          have HBW14 := Lib.hid (HBW13.out.trans (hb14.mono HBW13.out.size))
          clear hb14 hm HXD_13 HYD_13 HBI_13
          rw [EA.out]
          go_wp2_with fail
          refine (Sign_ok _ _ P0 P1).mono ?_
          rintro e w15 ⟨rfl, hb15⟩
          have HXD_15 := Lib.hid (HXD_14.out.below hb15)
          have HYD_15 := Lib.hid (HYD_14.out.below hb15)
          have HBI_15 := Lib.hid (HBI_14.out.below hb15)
          have HM_15 := Lib.hid (HM_14.out.below hb15)
          have HBW15 := Lib.hid (HBW14.out.trans (hb15.mono HBW14.out.size))
          clear hb15 HXD_14 HYD_14 HBI_14 HM_14
          rw [← HZ.out, ← HV.out]
          go_wp2_with fail
          refine (every_any _ _ (by omega)).mono ?_
          rintro e w16 ⟨m2, mn2, mc2, rfl, hm2, hb16⟩
          rw [EO.out] at hm2
          have HXD_16 := Lib.hid (HXD_15.out.below hb16)
          have HYD_16 := Lib.hid (HYD_15.out.below hb16)
          have HBI_16 := Lib.hid (HBI_15.out.below hb16)
          have HM_16 := Lib.hid (HM_15.out.below hb16)
          have HM2_16 := Lib.hid hm2
          have HBW16 := Lib.hid (HBW15.out.trans (hb16.mono HBW15.out.size))
          clear hb16 hm2 HXD_15 HYD_15 HBI_15 HM_15
          rw [EO.out]
          go_wp2_with fail
          refine (alive_any _).mono ?_
          rintro e w17 ⟨rfl, hb17⟩
          have HXD_17 := Lib.hid (HXD_16.out.below hb17)
          have HYD_17 := Lib.hid (HYD_16.out.below hb17)
          have HBI_17 := Lib.hid (HBI_16.out.below hb17)
          have HM_17 := Lib.hid (HM_16.out.below hb17)
          have HM2_17 := Lib.hid (HM2_16.out.below hb17)
          have HBW17 := Lib.hid (HBW16.out.trans (hb17.mono HBW16.out.size))
          clear hb17 HXD_16 HYD_16 HBI_16 HM_16 HM2_16
          go_wp2_with fail
          refine (rows_any _ _ _ _ _ _ _ _ _ HM_17.out HBI_17.out).mono ?_
          rintro e w18 ⟨rfl, hb18⟩
          have HXD_18 := Lib.hid (HXD_17.out.below hb18)
          have HYD_18 := Lib.hid (HYD_17.out.below hb18)
          have HBI_18 := Lib.hid (HBI_17.out.below hb18)
          have HM_18 := Lib.hid (HM_17.out.below hb18)
          have HM2_18 := Lib.hid (HM2_17.out.below hb18)
          have HBW18 := Lib.hid (HBW17.out.trans (hb18.mono HBW17.out.size))
          clear hb18 HXD_17 HYD_17 HBI_17 HM_17 HM2_17
          rw [decide_eq_true (show mods L ++ mods M = mods L ++ mods M from rfl)]
          obtain rfl : mn2 = 1 := by have := HM2_18.out.len_eq; simp at this; omega
          obtain ⟨b, off, rfl, hc⟩ := HM2_18.out.cell 0 (by omega)
          rw [en_cons_zero, Nat.add_zero] at hc
          have hof := OF.out
          by_cases hneg : x - 1073741824 < 0
          · rw [decide_eq_true hneg] at hof
            go_wp2_with fail
            go_ret
            exact ⟨ret_bool (by first | rfl | exact hof | (rw [decide_eq_false (show ¬ x - 1073741824 < 0 by omega)]; rfl)), HBW18.out⟩
          · rw [decide_eq_false hneg] at hof
            go_wp2_with fail
            go_ret
            exact ⟨ret_bool (by first | rfl | exact hof | (rw [decide_eq_false (show ¬ x - 1073741824 < 0 by omega)]; rfl)), HBW18.out⟩

set_option maxRecDepth 100000 in
theorem joins_walk (a : Option Addr) (len cap : Nat) (l : List Int) (a2 : Option Addr) (len2 cap2 : Nat) (l2 : List Int) (n : Int) (w : World) (hn : I64 n) (h : Ints w a len cap l) (h2 : Ints w a2 len2 cap2 l2) : Calls Try.prog 7 #[.slice a len cap, .slice a2 len2 cap2, .int .i64 n] w (Says w) := by
  have e := wrap_mod n hn
  by_cases h3 : len ≤ 30 <;> by_cases h4 : len2 ≤ 30
  · exact joins_00 a len cap l a2 len2 cap2 l2 n w _ e (by omega) (by omega) h h2 (by omega) (by omega)
  · exact joins_01 a len cap l a2 len2 cap2 l2 n w _ e (by omega) (by omega) h h2 (by omega) (by omega)
  · exact joins_10 a len cap l a2 len2 cap2 l2 n w _ e (by omega) (by omega) h h2 (by omega) (by omega)
  · exact joins_11 a len cap l a2 len2 cap2 l2 n w _ e (by omega) (by omega) h h2 (by omega) (by omega)
end Go.Proofs.Ytmmhjdpodagkhaa
