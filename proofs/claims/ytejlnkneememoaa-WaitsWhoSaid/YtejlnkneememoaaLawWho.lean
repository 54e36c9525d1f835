/- WaitsWho: the walk. -/
import Derived.Test.YtejlnkneememoaaLaw0
import Derived.Test.YtejlnkneememoaaWPlain
namespace Go.Proofs.Ytejlnkneememoaa
open Go.RowKit
set_option maxRecDepth 100000 in
set_option maxHeartbeats 4000000 in
theorem who_bad (a : Option Addr) (len l2 cap : Nat) (L : List Wt) (g0 : Int) (w : World) (hl2 : l2 = min len 70) (hL : Wts w a l2 cap L) (hlc : len ≤ cap) (hr : rightW L = false) :
    Calls Try.prog 5 #[.slice a len cap, .int .i64 g0] w (Says w) := by
  have hcm := hL.recs.cap_le
  unfold maxLen at hcm
  have hl70 : l2 ≤ 70 := by omega
  have HLL := Lib.hid hL.recs.len_eq
  have hFew := Lib.hid (fun W => few_any a len cap W hlc (by omega))
  rw [← hl2] at hFew
  have hWh := Lib.hid (fun W (h : Wts W a l2 cap L) => Who_bad a l2 cap L W h hr)
  unfold NoL at hWh
  have L_0 := Lib.hid hL
  have BEL_0 := Lib.hid (Below.refl w.heap.size w)
  clear hr hl2 hL
  go_enter Try.func5, Try.ntmps5
  go_wp2_with fail
  refine (hFew.out _).mono ?_
  rintro e w1 ⟨rfl, hb⟩
  have L_1 := Lib.hid (L_0.out.below hb)
  have BEL_1 := Lib.hid (BEL_0.out.trans (Below.mono hb BEL_0.out.size))
  clear L_0 BEL_0
  clear hb
  go_wp2_with fail
  refine (hWh.out _ L_1.out).mono ?_
  rintro e w2 ⟨rfl, hb⟩
  have L_2 := Lib.hid (L_1.out.below hb)
  have BEL_2 := Lib.hid (BEL_1.out.trans (Below.mono hb BEL_1.out.size))
  clear L_1 BEL_1
  clear hb
  go_wp2_with fail
  refine (alive_any _).mono ?_
  rintro e w3 ⟨rfl, hb⟩
  have L_3 := Lib.hid (L_2.out.below hb)
  have BEL_3 := Lib.hid (BEL_2.out.trans (Below.mono hb BEL_2.out.size))
  clear L_2 BEL_2
  clear hb
  go_wp2_with fail
  go_ret
  exact ⟨ret_bool rfl, BEL_3.out⟩
set_option maxRecDepth 100000 in
set_option maxHeartbeats 8000000 in
theorem who_none (a : Option Addr) (len l2 cap : Nat) (L : List Wt) (g0 : Int) (w : World) (hl2 : l2 = min len 70) (hL : Wts w a l2 cap L) (hlc : len ≤ cap) (hr : rightW L = true) (hgI : I64 g0) (hne : L = []) :
    Calls Try.prog 5 #[.slice a len cap, .int .i64 g0] w (Says w) := by
  have hcm := hL.recs.cap_le
  unfold maxLen at hcm
  have hl70 : l2 ≤ 70 := by omega
  have HLL := Lib.hid hL.recs.len_eq
  have hFew := Lib.hid (fun W => few_any a len cap W hlc (by omega))
  rw [← hl2] at hFew
  obtain ⟨m0, hm0⟩ : ∃ m, g0.tmod 16 = m := ⟨_, rfl⟩
  have hb1 : -16 < m0 := by rw [← hm0]; have := Int.lt_tmod_of_pos g0 (show (0:Int) < 16 by omega); omega
  have hb2 : m0 < 16 := by rw [← hm0]; exact Int.tmod_lt_of_pos g0 (by omega)
  obtain ⟨g, hgm⟩ : ∃ g : Int, (m0 + 16) % 16 = g := ⟨_, rfl⟩
  have hg0 : 0 ≤ g := by omega
  have hg1 : g < 16 := by omega
  have h64 : l2 ≤ 64 := by have := (rightW_iff.1 hr).1; rw [hL.recs.len_eq] at this; exact this
  obtain ⟨ws, hws⟩ : ∃ ws, ws = whoW L := ⟨_, rfl⟩
  obtain ⟨m, hm⟩ : ∃ m, m = ws.length := ⟨_, rfl⟩
  have hm64 : m ≤ 64 := by rw [hm, hws]; have := whoW_len L; rw [HLL.out] at this; omega
  have hmI : (m : Int) ≤ 64 := by omega
  have hWh := Lib.hid (fun W (h : Wts W a l2 cap L) => Who_go a l2 cap L W h hr)
  have hDr := Lib.hid (fun W ra rn rc M z (h : Wts W ra rn rc M) (hm : rightW M = true) (hz : 0 ≤ z) (hzI : I64 z) => Drop_go ra rn rc M z W h hm hz hzI)
  rw [← hws] at hWh
  unfold GotI at hWh
  unfold GotW at hDr
  have HND := Lib.hid (show ws.Nodup by rw [hws]; exact who_nodup L)
  have HMY := Lib.hid (show ∀ n ∈ ws, 0 ≤ n by rw [hws]; exact who_may hr)
  have HW64 := Lib.hid (show ∀ i, I64 (en ws i) by rw [hws]; exact whoW_i64 hL.ok)
  have HWL := Lib.hid hm; have HWS := Lib.hid hws; have HR := Lib.hid hr; have HNE := Lib.hid hne
  have HOK := Lib.hid hL.ok
  have L_0 := Lib.hid hL
  have BEL_0 := Lib.hid (Below.refl w.heap.size w)
  unfold I64 at hgI
  clear hr hl2 hL hws hm hne
  go_enter Try.func5, Try.ntmps5
  go_wp2_with fail
  refine (hFew.out _).mono ?_
  rintro e w1 ⟨rfl, hb⟩
  have L_1 := Lib.hid (L_0.out.below hb)
  have BEL_1 := Lib.hid (BEL_0.out.trans (Below.mono hb BEL_0.out.size))
  clear L_0 BEL_0
  clear hb
  go_wp2_with fail
  refine (hWh.out _ L_1.out).mono ?_
  rintro e w2 ⟨wa, wn, wcap, rfl, hi, hb⟩
  have L_2 := Lib.hid (L_1.out.below hb)
  have BEL_2 := Lib.hid (BEL_1.out.trans (Below.mono hb BEL_1.out.size))
  clear L_1 BEL_1
  have WI_2 := Lib.hid (hi)
  clear hb hi
  obtain rfl : wn = m := by rw [← WI_2.out.len_eq, HWL.out]
  have hwc : (wn : Int) ≤ (wcap : Int) := by have := WI_2.out.le_cap; omega
  have hwcm : (wcap : Int) ≤ 9223372036854775807 := by have := WI_2.out.cap_le; unfold maxLen at this; omega
  go_wp2_with fail
  rw [hgm]
  go_loopw [7, 8, 48] (fun mt rs i wr => ∃ (k : Nat) (ra : Option Addr) (rn rcap : Nat), k ≤ wn ∧ i = .int .i64 k ∧ mt = .bool (hasI (ws.take k) g) ∧ rs = .slice ra rn rcap ∧ Wts wr ra rn rcap (restW L (ws.take k)) ∧ Below w2.heap.size w2 wr) (fun _ _ i _ => wn - (intOf i).toNat)
  case atStart => exact ⟨0, a, l2, cap, Nat.zero_le _, rfl, rfl, rfl, by rw [List.take_zero, rest_nil]; exact L_2.out, Below.refl _ _⟩
  case round =>
    obtain ⟨k, ra, rn, rcap, hk, rfl, rfl, rfl, hrest, hbl⟩ := hrel
    have HRE := Lib.hid hrest; have HBL := Lib.hid hbl
    clear hrest hbl
    by_cases hlt : k < wn
    · have hlt' : (k : Int) < (wn : Int) := by omega
      have hk0 : (0 : Int) ≤ (k : Int) := by omega
      have hkcc : (k : Int) ≤ (wcap : Int) := by omega
      have HWK := Lib.hid (WI_2.out.below HBL.out)
      obtain ⟨wb, woff, rfl, hc⟩ := HWK.out.cell k hlt
      obtain ⟨x, hx⟩ : ∃ x, x = en ws k := ⟨_, rfl⟩
      rw [← hx] at hc
      have hxI : I64 x := by rw [hx]; exact HW64.out k
      have HXM := Lib.hid (show x ∈ ws by rw [hx]; exact en_mem ws k (by rw [← HWL.out]; exact hlt))
      have HXN := Lib.hid (fun j (hj : j < k) => show (x == en ws j) = false by
        rw [beq_eq_false_iff_ne, hx]
        intro e
        rw [en_get ws k (by rw [← HWL.out]; exact hlt), en_get ws j (by rw [← HWL.out]; omega)] at e
        have := (List.nodup_iff_pairwise_ne.1 HND.out)
        rw [List.pairwise_iff_getElem] at this
        exact this j k (by rw [← HWL.out]; omega) (by rw [← HWL.out]; exact hlt) hj e.symm)
      have HTK := Lib.hid (show ws.take (k + 1) = ws.take k ++ [x] by rw [List.take_add_one, List.getElem?_eq_getElem (by rw [← HWL.out]; exact hlt), hx, en_get ws k (by rw [← HWL.out]; exact hlt)]; rfl)
      have HXT := Lib.hid (show x ∉ ws.take k by
        intro hmem
        obtain ⟨j, hj, he⟩ := List.getElem_of_mem hmem
        have hjk : j < k := by simp at hj; omega
        have := HXN.out j hjk
        rw [List.getElem_take] at he
        rw [beq_eq_false_iff_ne, en_get ws j (by rw [← HWL.out]; omega), he] at this
        exact this rfl)
      have hx0 : 0 ≤ x := HMY.out x HXM.out
      have HSN := Lib.hid (hasI_snoc (ws.take k) x g)
      have HDS := Lib.hid (show (dropW (restW L (ws.take k)) x).length < (restW L (ws.take k)).length from drop_short (by rw [← HWS.out]; exact HXM.out) HXT.out)
      have HRS := Lib.hid (rest_snoc L (ws.take k) x)
      clear hx
      go_wp2_with fail
      go_loop [57] (fun i2 => ∃ j : Nat, j ≤ k ∧ i2 = .int .i64 j) (fun i2 => k - (intOf i2).toNat)
      case atStart => exact ⟨0, Nat.zero_le _, rfl⟩
      case round =>
        obtain ⟨j, hj, rfl⟩ := hrel
        by_cases hlj : j < k
        · have hlj' : (j : Int) < (k : Int) := by omega
          obtain ⟨wb2, woff2, he2, hc2⟩ := HWK.out.cell j (by omega)
          cases he2
          have hne2 := HXN.out j hlj
          obtain ⟨y, hy⟩ : ∃ y, y = en ws j := ⟨_, rfl⟩
          rw [← hy] at hc2 hne2
          clear hy
          go_wp2_with fail
          go_round
          case rel => exact ⟨j + 1, by omega, by go_num⟩
          case measure => simp [intOf]; omega
        · have hjk : j = k := by omega
          subst hjk
          have hDD := Lib.hid (hDr.out wr ra rn rcap (restW L (ws.take j)) x HRE.out (right_filter HR.out _) hx0 hxI)
          have hrl := Lib.hid HRE.out.recs.len_eq
          cases hmet : hasI (ws.take j) g <;> cases hxg : (x == g)
          all_goals
            have R := Lib.hid (show hasI (ws.take (j + 1)) g = _ by rw [HTK.out, HSN.out, hmet, hxg])
            clear hmet
            go_wp2_with fail
            refine hDD.out.mono ?_
            rintro e wz ⟨na, nn, ncap, rfl, hi, hb⟩
            have hnl : (nn : Int) < (rn : Int) := by have h1 := hi.recs.len_eq; have h2 := hrl.out; have h3 := HDS.out; omega
            have HI := Lib.hid hi; have HBZ := Lib.hid (HBL.out.trans (Below.mono hb HBL.out.size))
            clear hi hb
            go_wp2_with fail
            go_roundw
            case rel => exact ⟨j + 1, na, nn, ncap, by omega, by go_num, by rw [R.out]; rfl, rfl, by rw [HTK.out, ← HRS.out]; exact HI.out, HBZ.out⟩
            case measure => simp [intOf]; omega
    · have hkn : k = wn := by omega
      subst hkn
      have HTT : Hid (ws.take k = ws) := Lib.hid (List.take_of_length_le (by rw [← HWL.out]; exact Nat.le_refl _))
      have hrn : rn = 0 := by have h1 := HRE.out.recs.len_eq; rw [HTT.out, HWS.out, rest_who] at h1; exact h1.symm
      subst hrn
      have HLB := Lib.hid (L_2.out.below HBL.out)
      have HWB := Lib.hid (WI_2.out.below HBL.out)
      have HBB := Lib.hid (BEL_2.out.trans (Below.mono HBL.out BEL_2.out.size))
      rw [HTT.out]
      have hD2 := Lib.hid (hDr.out wr a l2 cap L g HLB.out HR.out hg0 ⟨by omega, by omega⟩)
      go_wp2_with fail
      refine hD2.out.mono ?_
      rintro e wd ⟨da, dn, dcap, rfl, hi, hb⟩
      have HDA := Lib.hid hi; have HLD := Lib.hid (HLB.out.below hb); have HWD := Lib.hid (HWB.out.below hb); have HBD := Lib.hid (HBB.out.trans (Below.mono hb HBB.out.size))
      clear hi hb
      go_wp2_with fail
      clear hD2
      have hkk : k ≤ 64 := hm64
      go_loop [17, 96] (fun o i => ∃ p : Nat, p ≤ k ∧ i = .int .i64 p ∧ o = .int .i64 (passes ws p)) (fun _ i => k - (intOf i).toNat)
      case atStart => exact ⟨0, Nat.zero_le _, rfl, rfl⟩
      case round =>
        obtain ⟨p, hp, rfl, rfl⟩ := hrel
        have hpb := passes_bd (l := ws) (p := p) (by omega) (by rw [← HWL.out]; exact hkk)
        by_cases hlp : p < k
        · have hlp' : (p : Int) < (k : Int) := by omega
          have HPS := Lib.hid (show passes ws (p + 1) = pass ws (passes ws p) from rfl)
          obtain ⟨o0, ho0⟩ : ∃ o, o = passes ws p := ⟨_, rfl⟩
          rw [← ho0] at hpb HPS ⊢
          have HO0 := Lib.hid ho0; clear ho0
          go_wp2_with fail
          go_loop [17, 100] (fun o i => ∃ j : Nat, j ≤ k ∧ i = .int .i64 j ∧ o = .int .i64 (pass (ws.take j) o0)) (fun _ i => k - (intOf i).toNat)
          case atStart => exact ⟨0, Nat.zero_le _, rfl, rfl⟩
          case round =>
            obtain ⟨j, hj, rfl, rfl⟩ := hrel
            have hjb := pass_ge (ws.take j) o0
            have hjb1 : 0 ≤ pass (ws.take j) o0 := by omega
            have hjb2 : pass (ws.take j) o0 ≤ 5000 := by have := hjb.2.1; have : ((ws.take j).length : Int) ≤ j := (by rw [List.length_take]; omega); omega
            clear hjb
            by_cases hlj : j < k
            · have hlj' : (j : Int) < (k : Int) := by omega
              obtain ⟨wb2, woff2, he2, hc2⟩ := HWD.out.cell j hlj
              obtain ⟨y, hy⟩ : ∃ y, y = en ws j := ⟨_, rfl⟩
              have HTK := Lib.hid (show ws.take (j + 1) = ws.take j ++ [y] by rw [List.take_add_one, List.getElem?_eq_getElem (by rw [← HWL.out]; exact hlj), hy, en_get ws j (by rw [← HWL.out]; exact hlj)]; rfl)
              have HSN := Lib.hid (pass_snoc (ws.take j) y o0)
              rw [← hy] at hc2
              subst he2
              clear hy
              by_cases hyo : y = pass (ws.take j) o0
              · have R := Lib.hid (show pass (ws.take (j + 1)) o0 = pass (ws.take j) o0 + 1 by rw [HTK.out, HSN.out, if_pos hyo])
                have hyb : (y == pass (ws.take j) o0) = true := by rw [beq_iff_eq]; exact hyo
                clear hyo
                go_wp2_with fail
                go_round
                case rel => exact ⟨j + 1, by omega, by go_num, by rw [R.out]⟩
                case measure => simp [intOf]; omega
              · have R := Lib.hid (show pass (ws.take (j + 1)) o0 = pass (ws.take j) o0 by rw [HTK.out, HSN.out, if_neg hyo])
                have hyb : (y == pass (ws.take j) o0) = false := by rw [beq_eq_false_iff_ne]; exact hyo
                clear hyo
                go_wp2_with fail
                go_round
                case rel => exact ⟨j + 1, by omega, by go_num, by rw [R.out]⟩
                case measure => simp [intOf]; omega
            · have hjk : j = k := by omega
              subst hjk
              have R := Lib.hid (show pass (ws.take j) o0 = passes ws (p + 1) by rw [HTT.out]; exact HPS.out.symm)
              rw [R.out]
              go_wp2_with fail
              go_round
              case rel => exact ⟨p + 1, by omega, by go_num, rfl⟩
              case measure => simp [intOf]; omega
        · have hpk : p = k := by omega
          subst hpk
          have HOUT := Lib.hid (show passes ws p ∉ whoW L by have := passes_out ws; rw [← HWL.out] at this; rw [← HWS.out]; exact this)
          obtain ⟨b, hb⟩ : ∃ b, b = passes ws p := ⟨_, rfl⟩
          rw [← hb] at hpb HOUT ⊢
          clear hb
          have hF := Lib.hid (First_go a l2 cap L b wd HLD.out HR.out hpb.1 ⟨by omega, by omega⟩)
          rw [first_other HOUT.out, HNE.out] at hF
          unfold GotFirst GotWait at hF
          have HS := Lib.hid (fun W (h1 : Wts W da dn dcap (dropW L g)) (h2 : Wts W a l2 cap L) => Same_any da dn dcap (dropW L g) a l2 cap L W h1 h2)
          rw [drop_same] at HS
          have HME := Lib.hid (hasI_who L g)
          rw [HWS.out, HME.out]
          have hl0 : l2 = 0 := by have := HLL.out; rw [HNE.out] at this; simpa using this.symm
          have hlb : ((l2 : Int) == 0) = true := by rw [beq_iff_eq]; omega
          have hl1 : (l2 : Int) ≤ 0 := by omega
          have hl2 : decide ((0 : Int) < (l2 : Int)) = false := by rw [decide_eq_false_iff_not]; omega
          have hl3 : decide (0 < l2) = false := by rw [decide_eq_false_iff_not]; omega
          have hmf : metW L g = false := by rw [HNE.out]; rfl
          have HL0 := Lib.hid hl0
          clear hl0
          rw [hmf] at HS ⊢
          simp only [Bool.not_false] at HS
          clear hmf
          simp only [List.head?_nil, zeroW] at hF
          go_wp2_with fail
          refine hF.out.mono ?_
          rintro e w9 ⟨rfl, hb⟩
          have HL9 := Lib.hid (HLD.out.below hb); have HD9 := Lib.hid (HDA.out.below hb); have HB9 := Lib.hid (HBD.out.trans (Below.mono hb HBD.out.size))
          clear hb
          go_wp2_with fail
          have HLA := Lib.hid (HL9.out.below (below_alloc w9 (.cells #[.int .i64 0, .int .i64 0, .int .i64 0] 24))); have HDA2 := Lib.hid (HD9.out.below (below_alloc w9 (.cells #[.int .i64 0, .int .i64 0, .int .i64 0] 24))); have HBA := Lib.hid (HB9.out.alloc HB9.out.size (.cells #[.int .i64 0, .int .i64 0, .int .i64 0] 24))
          obtain ⟨XA, hXA⟩ : ∃ x, x = w9.alloc (.cells #[.int .i64 0, .int .i64 0, .int .i64 0] 24) := ⟨_, rfl⟩
          rw [← hXA] at HLA HDA2 HBA ⊢
          clear hXA
          refine wp_region_held_drew (S := fun _ => True) (by kernel_rfl) ?_ (fun hHeld => ?_)
          · trivial
          refine wpAnyH_ready (rs := [0]) (by kernel_rfl) (by simp) ?_
          refine AllReadyH.cons (o := _) rfl (fun K hK => ?_) AllReadyH.nil
          go_simp
          (refine (alive_any _).mono ?_; rintro e wp ⟨rfl, hbp⟩; have HBp : Hid (Below XA.heap.size XA wp) := Lib.hid (((Below.refl XA.heap.size XA).drew).trans (Below.mono hbp (Nat.le_refl _))); clear hbp)
          refine hK.out _ _ ?_ (fun hHeld => ?_)
          · trivial
          clear hK K
          (try simp only [Act.put, List.getElem_toArray, List.getElem_cons_zero, List.getElem_cons_succ, List.setIfInBounds_toArray, List.set_cons_zero, List.set_cons_succ])
          refine wpAnyH_take (i := 1) (v := ?_) rfl (by kernel_rfl) (by kernel_rfl) (by kernel_rfl) (fun _ _ _ h => h) (Or.inl ⟨by rfl, ?_⟩) (by assumption) ?_
          rotate_left
          · (intro w hSw; (try dsimp only at hSw); go_simp; try with_reducible rfl)
          (try simp only [Act.put, List.getElem_toArray, List.getElem_cons_zero, List.getElem_cons_succ, List.setIfInBounds_toArray, List.set_cons_zero, List.set_cons_succ])
          refine wpAnyH_take (i := 2) (v := ?_) rfl (by kernel_rfl) (by kernel_rfl) (by kernel_rfl) (fun _ _ _ h => h) (Or.inl ⟨by rfl, ?_⟩) (by assumption) ?_
          rotate_left
          · (intro w hSw; (try dsimp only at hSw); go_simp; try with_reducible rfl)
          (try simp only [Act.put, List.getElem_toArray, List.getElem_cons_zero, List.getElem_cons_succ, List.setIfInBounds_toArray, List.set_cons_zero, List.set_cons_succ])
          refine wpAnyH_take (i := 3) (v := ?_) rfl (by kernel_rfl) (by kernel_rfl) (by kernel_rfl) (fun _ _ _ h => h) (Or.inl ⟨by rfl, ?_⟩) (by assumption) ?_
          rotate_left
          · (intro w hSw; (try dsimp only at hSw); go_simp; try with_reducible rfl)
          (try simp only [Act.put, List.getElem_toArray, List.getElem_cons_zero, List.getElem_cons_succ, List.setIfInBounds_toArray, List.set_cons_zero, List.set_cons_succ])
          refine wpAnyH_take (i := 4) (v := ?_) rfl (by kernel_rfl) (by kernel_rfl) (by kernel_rfl) (fun _ _ _ h => h) (Or.inl ⟨by rfl, ?_⟩) (by assumption) ?_
          rotate_left
          · (intro w hSw; (try dsimp only at hSw); go_simp; try with_reducible rfl)
          (try simp only [Act.put, List.getElem_toArray, List.getElem_cons_zero, List.getElem_cons_succ, List.setIfInBounds_toArray, List.set_cons_zero, List.set_cons_succ])
          refine wpAnyH_take (i := 5) (v := ?_) rfl (by kernel_rfl) (by kernel_rfl) (by kernel_rfl) (fun _ _ _ h => h) (Or.inl ⟨by rfl, ?_⟩) (by assumption) ?_
          rotate_left
          · (intro w hSw; (try dsimp only at hSw); go_simp; try with_reducible rfl)
          (try simp only [Act.put, List.getElem_toArray, List.getElem_cons_zero, List.getElem_cons_succ, List.setIfInBounds_toArray, List.set_cons_zero, List.set_cons_succ])
          refine wpAnyH_take (i := 6) (v := ?_) rfl (by kernel_rfl) (by kernel_rfl) (by kernel_rfl) (fun _ _ _ h => h) (Or.inl ⟨by rfl, ?_⟩) (by assumption) ?_
          rotate_left
          · (intro w hSw; (try dsimp only at hSw); go_simp; try with_reducible rfl)
          (try simp only [Act.put, List.getElem_toArray, List.getElem_cons_zero, List.getElem_cons_succ, List.setIfInBounds_toArray, List.set_cons_zero, List.set_cons_succ])
          refine wpAnyH_take (i := 7) (v := ?_) rfl (by kernel_rfl) (by kernel_rfl) (by kernel_rfl) (fun _ _ _ h => h) (Or.inl ⟨by rfl, ?_⟩) (by assumption) ?_
          rotate_left
          · (intro w hSw; (try dsimp only at hSw); go_simp; try with_reducible rfl)
          (try simp only [Act.put, List.getElem_toArray, List.getElem_cons_zero, List.getElem_cons_succ, List.setIfInBounds_toArray, List.set_cons_zero, List.set_cons_succ])
          refine wpAnyH_take (i := 8) (v := ?_) rfl (by kernel_rfl) (by kernel_rfl) (by kernel_rfl) (fun _ _ _ h => h) (Or.inl ⟨by rfl, ?_⟩) (by assumption) ?_
          rotate_left
          · (intro w hSw; (try dsimp only at hSw); go_simp; try with_reducible rfl)
          (try simp only [Act.put, List.getElem_toArray, List.getElem_cons_zero, List.getElem_cons_succ, List.setIfInBounds_toArray, List.set_cons_zero, List.set_cons_succ])
          refine wpAnyH_take (i := 9) (v := ?_) rfl (by kernel_rfl) (by kernel_rfl) (by kernel_rfl) (fun _ _ _ h => h) (Or.inl ⟨by rfl, ?_⟩) (by assumption) ?_
          rotate_left
          · (intro w hSw; (try dsimp only at hSw); go_simp; try with_reducible rfl)
          (try simp only [Act.put, List.getElem_toArray, List.getElem_cons_zero, List.getElem_cons_succ, List.setIfInBounds_toArray, List.set_cons_zero, List.set_cons_succ])
          refine wpAnyH_take (i := 10) (v := ?_) rfl (by kernel_rfl) (by kernel_rfl) (by kernel_rfl) (fun _ _ _ h => h) (Or.inl ⟨by rfl, ?_⟩) (by assumption) ?_
          rotate_left
          · (intro w hSw; (try dsimp only at hSw); go_simp; try with_reducible rfl)
          (try simp only [Act.put, List.getElem_toArray, List.getElem_cons_zero, List.getElem_cons_succ, List.setIfInBounds_toArray, List.set_cons_zero, List.set_cons_succ])
          refine wpAnyH_take (i := 11) (v := ?_) rfl (by kernel_rfl) (by kernel_rfl) (by kernel_rfl) (fun _ _ _ h => h) (Or.inl ⟨by rfl, ?_⟩) (by assumption) ?_
          rotate_left
          · (intro w hSw; (try dsimp only at hSw); go_simp; try with_reducible rfl)
          (try simp only [Act.put, List.getElem_toArray, List.getElem_cons_zero, List.getElem_cons_succ, List.setIfInBounds_toArray, List.set_cons_zero, List.set_cons_succ])
          refine wpAnyH_take (i := 12) (v := ?_) rfl (by kernel_rfl) (by kernel_rfl) (by kernel_rfl) (fun _ _ _ h => h) (Or.inl ⟨by rfl, ?_⟩) (by assumption) ?_
          rotate_left
          · (intro w hSw; (try dsimp only at hSw); go_simp; try with_reducible rfl)
          (try simp only [Act.put, List.getElem_toArray, List.getElem_cons_zero, List.getElem_cons_succ, List.setIfInBounds_toArray, List.set_cons_zero, List.set_cons_succ])
          refine wpAnyH_take (i := 14) (v := ?_) rfl (by kernel_rfl) (by kernel_rfl) (by kernel_rfl) (fun _ _ _ h => h) (Or.inl ⟨by rfl, ?_⟩) (by assumption) ?_
          rotate_left
          · (intro w hSw; (try dsimp only at hSw); go_simp; try with_reducible rfl)
          (try simp only [Act.put, List.getElem_toArray, List.getElem_cons_zero, List.getElem_cons_succ, List.setIfInBounds_toArray, List.set_cons_zero, List.set_cons_succ])
          refine wpAnyH_take (i := 15) (v := ?_) rfl (by kernel_rfl) (by kernel_rfl) (by kernel_rfl) (fun _ _ _ h => h) (Or.inl ⟨by rfl, ?_⟩) (by assumption) ?_
          rotate_left
          · (intro w hSw; (try dsimp only at hSw); go_simp; try with_reducible rfl)
          (try simp only [Act.put, List.getElem_toArray, List.getElem_cons_zero, List.getElem_cons_succ, List.setIfInBounds_toArray, List.set_cons_zero, List.set_cons_succ])
          refine wpAnyH_ready (rs := [13]) (by kernel_rfl) (by simp) ?_
          refine AllReadyH.cons (o := _) rfl (fun K hK => ?_) AllReadyH.nil
          go_simp
          (refine (HS.out _ (HDA2.out.below HBp.out) (HLA.out.below HBp.out)).mono ?_; rintro e wq ⟨rfl, hbq⟩; have HBq : Hid (Below XA.heap.size XA wq) := Lib.hid (HBp.out.trans (Below.mono hbq HBp.out.size)); clear hbq)
          refine hK.out _ _ ?_ (fun hHeld => ?_)
          · trivial
          clear hK K
          (try simp only [Act.put, List.getElem_toArray, List.getElem_cons_zero, List.getElem_cons_succ, List.setIfInBounds_toArray, List.set_cons_zero, List.set_cons_succ])
          refine wpAnyH_take (i := 16) (v := ?_) rfl (by kernel_rfl) (by kernel_rfl) (by kernel_rfl) (fun _ _ _ h => h) (Or.inl ⟨by rfl, ?_⟩) (by assumption) ?_
          rotate_left
          · (intro w hSw; (try dsimp only at hSw); go_simp; try with_reducible rfl)
          (try simp only [Act.put, List.getElem_toArray, List.getElem_cons_zero, List.getElem_cons_succ, List.setIfInBounds_toArray, List.set_cons_zero, List.set_cons_succ])
          refine wpAnyH_take (i := 17) (v := ?_) rfl (by kernel_rfl) (by kernel_rfl) (by kernel_rfl) (fun _ _ _ h => h) (Or.inl ⟨by rfl, ?_⟩) (by assumption) ?_
          rotate_left
          · (intro w hSw; (try dsimp only at hSw); go_simp; try with_reducible rfl)
          (try simp only [Act.put, List.getElem_toArray, List.getElem_cons_zero, List.getElem_cons_succ, List.setIfInBounds_toArray, List.set_cons_zero, List.set_cons_succ])
          refine wpAnyH_take (i := 18) (v := ?_) rfl (by kernel_rfl) (by kernel_rfl) (by kernel_rfl) (fun _ _ _ h => h) (Or.inl ⟨by rfl, ?_⟩) (by assumption) ?_
          rotate_left
          · (intro w hSw; (try dsimp only at hSw); go_simp; try with_reducible rfl)
          (try simp only [Act.put, List.getElem_toArray, List.getElem_cons_zero, List.getElem_cons_succ, List.setIfInBounds_toArray, List.set_cons_zero, List.set_cons_succ])
          refine wpAnyH_take (i := 19) (v := ?_) rfl (by kernel_rfl) (by kernel_rfl) (by kernel_rfl) (fun _ _ _ h => h) (Or.inl ⟨by rfl, ?_⟩) (by assumption) ?_
          rotate_left
          · (intro w hSw; (try dsimp only at hSw); go_simp; try with_reducible rfl)
          (try simp only [Act.put, List.getElem_toArray, List.getElem_cons_zero, List.getElem_cons_succ, List.setIfInBounds_toArray, List.set_cons_zero, List.set_cons_succ])
          refine wpAnyH_take (i := 20) (v := ?_) rfl (by kernel_rfl) (by kernel_rfl) (by kernel_rfl) (fun _ _ _ h => h) (Or.inl ⟨by rfl, ?_⟩) (by assumption) ?_
          rotate_left
          · (intro w hSw; (try dsimp only at hSw); go_simp; try with_reducible rfl)
          (try simp only [Act.put, List.getElem_toArray, List.getElem_cons_zero, List.getElem_cons_succ, List.setIfInBounds_toArray, List.set_cons_zero, List.set_cons_succ])
          refine wpAnyH_take (i := 21) (v := ?_) rfl (by kernel_rfl) (by kernel_rfl) (by kernel_rfl) (fun _ _ _ h => h) (Or.inl ⟨by rfl, ?_⟩) (by assumption) ?_
          rotate_left
          · (intro w hSw; (try dsimp only at hSw); go_simp; try with_reducible rfl)
          (try simp only [Act.put, List.getElem_toArray, List.getElem_cons_zero, List.getElem_cons_succ, List.setIfInBounds_toArray, List.set_cons_zero, List.set_cons_succ])
          refine wpAnyH_take (i := 22) (v := ?_) rfl (by kernel_rfl) (by kernel_rfl) (by kernel_rfl) (fun _ _ _ h => h) (Or.inl ⟨by rfl, ?_⟩) (by assumption) ?_
          rotate_left
          · (intro w hSw; (try dsimp only at hSw); go_simp; try with_reducible rfl)
          (try simp only [Act.put, List.getElem_toArray, List.getElem_cons_zero, List.getElem_cons_succ, List.setIfInBounds_toArray, List.set_cons_zero, List.set_cons_succ])
          refine wpAnyH_take (i := 23) (v := ?_) rfl (by kernel_rfl) (by kernel_rfl) (by kernel_rfl) (fun _ _ _ h => h) (Or.inl ⟨by rfl, ?_⟩) (by assumption) ?_
          rotate_left
          · (intro w hSw; (try dsimp only at hSw); go_simp; try with_reducible rfl)
          (try simp only [Act.put, List.getElem_toArray, List.getElem_cons_zero, List.getElem_cons_succ, List.setIfInBounds_toArray, List.set_cons_zero, List.set_cons_succ])
          refine wpAnyH_take (i := 24) (v := ?_) rfl (by kernel_rfl) (by kernel_rfl) (by kernel_rfl) (fun _ _ _ h => h) (Or.inl ⟨by rfl, ?_⟩) (by assumption) ?_
          rotate_left
          · (intro w hSw; (try dsimp only at hSw); go_simp; try with_reducible rfl)
          (try simp only [Act.put, List.getElem_toArray, List.getElem_cons_zero, List.getElem_cons_succ, List.setIfInBounds_toArray, List.set_cons_zero, List.set_cons_succ])
          refine wpAnyH_take (i := 25) (v := ?_) rfl (by kernel_rfl) (by kernel_rfl) (by kernel_rfl) (fun _ _ _ h => h) (Or.inl ⟨by rfl, ?_⟩) (by assumption) ?_
          rotate_left
          · (intro w hSw; (try dsimp only at hSw); go_simp; try with_reducible rfl)
          (try simp only [Act.put, List.getElem_toArray, List.getElem_cons_zero, List.getElem_cons_succ, List.setIfInBounds_toArray, List.set_cons_zero, List.set_cons_succ])
          refine wpAnyH_take (i := 26) (v := ?_) rfl (by kernel_rfl) (by kernel_rfl) (by kernel_rfl) (fun _ _ _ h => h) (Or.inl ⟨by rfl, ?_⟩) (by assumption) ?_
          rotate_left
          · (intro w hSw; (try dsimp only at hSw); go_simp; try with_reducible rfl)
          (try simp only [Act.put, List.getElem_toArray, List.getElem_cons_zero, List.getElem_cons_succ, List.setIfInBounds_toArray, List.set_cons_zero, List.set_cons_succ])
          refine wpAnyH_take (i := 27) (v := ?_) rfl (by kernel_rfl) (by kernel_rfl) (by kernel_rfl) (fun _ _ _ h => h) (Or.inl ⟨by rfl, ?_⟩) (by assumption) ?_
          rotate_left
          · (intro w hSw; (try dsimp only at hSw); go_simp; try with_reducible rfl)
          (try simp only [Act.put, List.getElem_toArray, List.getElem_cons_zero, List.getElem_cons_succ, List.setIfInBounds_toArray, List.set_cons_zero, List.set_cons_succ])
          refine wpAnyH_take (i := 28) (v := ?_) rfl (by kernel_rfl) (by kernel_rfl) (by kernel_rfl) (fun _ _ _ h => h) (Or.inl ⟨by rfl, ?_⟩) (by assumption) ?_
          rotate_left
          · (intro w hSw; (try dsimp only at hSw); go_simp; try with_reducible rfl)
          (try simp only [Act.put, List.getElem_toArray, List.getElem_cons_zero, List.getElem_cons_succ, List.setIfInBounds_toArray, List.set_cons_zero, List.set_cons_succ])
          refine wpAnyH_take (i := 29) (v := ?_) rfl (by kernel_rfl) (by kernel_rfl) (by kernel_rfl) (fun _ _ _ h => h) (Or.inl ⟨by rfl, ?_⟩) (by assumption) ?_
          rotate_left
          · (intro w hSw; (try dsimp only at hSw); go_simp; try with_reducible rfl)
          (try simp only [Act.put, List.getElem_toArray, List.getElem_cons_zero, List.getElem_cons_succ, List.setIfInBounds_toArray, List.set_cons_zero, List.set_cons_succ])
          refine wpAnyH_take (i := 30) (v := ?_) rfl (by kernel_rfl) (by kernel_rfl) (by kernel_rfl) (fun _ _ _ h => h) (Or.inl ⟨by rfl, ?_⟩) (by assumption) ?_
          rotate_left
          · (intro w hSw; (try dsimp only at hSw); go_simp; try with_reducible rfl)
          (try simp only [Act.put, List.getElem_toArray, List.getElem_cons_zero, List.getElem_cons_succ, List.setIfInBounds_toArray, List.set_cons_zero, List.set_cons_succ])
          refine wpAnyH_take (i := 31) (v := undef) rfl (by kernel_rfl) (by kernel_rfl) (by kernel_rfl) (fun _ _ _ h => h) (Or.inr ⟨by kernel_rfl, rfl⟩) (by assumption) ?_
          (try simp only [Act.put, List.getElem_toArray, List.getElem_cons_zero, List.getElem_cons_succ, List.setIfInBounds_toArray, List.set_cons_zero, List.set_cons_succ])
          refine wpAnyH_take (i := 32) (v := undef) rfl (by kernel_rfl) (by kernel_rfl) (by kernel_rfl) (fun _ _ _ h => h) (Or.inr ⟨by kernel_rfl, rfl⟩) (by assumption) ?_
          (try simp only [Act.put, List.getElem_toArray, List.getElem_cons_zero, List.getElem_cons_succ, List.setIfInBounds_toArray, List.set_cons_zero, List.set_cons_succ])
          refine wpAnyH_take (i := 33) (v := undef) rfl (by kernel_rfl) (by kernel_rfl) (by kernel_rfl) (fun _ _ _ h => h) (Or.inr ⟨by kernel_rfl, rfl⟩) (by assumption) ?_
          (try simp only [Act.put, List.getElem_toArray, List.getElem_cons_zero, List.getElem_cons_succ, List.setIfInBounds_toArray, List.set_cons_zero, List.set_cons_succ])
          refine wpAnyH_take (i := 34) (v := undef) rfl (by kernel_rfl) (by kernel_rfl) (by kernel_rfl) (fun _ _ _ h => h) (Or.inr ⟨by kernel_rfl, rfl⟩) (by assumption) ?_
          (try simp only [Act.put, List.getElem_toArray, List.getElem_cons_zero, List.getElem_cons_succ, List.setIfInBounds_toArray, List.set_cons_zero, List.set_cons_succ])
          refine wpAnyH_take (i := 35) (v := undef) rfl (by kernel_rfl) (by kernel_rfl) (by kernel_rfl) (fun _ _ _ h => h) (Or.inr ⟨by kernel_rfl, rfl⟩) (by assumption) ?_
          (try simp only [Act.put, List.getElem_toArray, List.getElem_cons_zero, List.getElem_cons_succ, List.setIfInBounds_toArray, List.set_cons_zero, List.set_cons_succ])
          refine wpAnyH_take (i := 36) (v := ?_) rfl (by kernel_rfl) (by kernel_rfl) (by kernel_rfl) (fun _ _ _ h => h) (Or.inl ⟨by rfl, ?_⟩) (by assumption) ?_
          rotate_left
          · (intro w hSw; (try dsimp only at hSw); go_simp; try with_reducible rfl)
          (try simp only [Act.put, List.getElem_toArray, List.getElem_cons_zero, List.getElem_cons_succ, List.setIfInBounds_toArray, List.set_cons_zero, List.set_cons_succ])
          refine wpAnyH_take (i := 37) (v := ?_) rfl (by kernel_rfl) (by kernel_rfl) (by kernel_rfl) (fun _ _ _ h => h) (Or.inl ⟨by rfl, ?_⟩) (by assumption) ?_
          rotate_left
          · (intro w hSw; (try dsimp only at hSw); go_simp; try with_reducible rfl)
          (try simp only [Act.put, List.getElem_toArray, List.getElem_cons_zero, List.getElem_cons_succ, List.setIfInBounds_toArray, List.set_cons_zero, List.set_cons_succ])
          refine wpAnyH_take (i := 38) (v := ?_) rfl (by kernel_rfl) (by kernel_rfl) (by kernel_rfl) (fun _ _ _ h => h) (Or.inl ⟨by rfl, ?_⟩) (by assumption) ?_
          rotate_left
          · (intro w hSw; (try dsimp only at hSw); go_simp; try with_reducible rfl)
          (try simp only [Act.put, List.getElem_toArray, List.getElem_cons_zero, List.getElem_cons_succ, List.setIfInBounds_toArray, List.set_cons_zero, List.set_cons_succ])
          refine wpAnyH_done (by kernel_rfl) ?_ _
          go_wp2_with fail
          go_ret
          exact ⟨ret_bool rfl, HBA.out.trans (Below.mono HBq.out HBA.out.size)⟩
set_option maxRecDepth 100000 in
set_option maxHeartbeats 8000000 in
theorem who_some (a : Option Addr) (len l2 cap : Nat) (L : List Wt) (g0 : Int) (w : World) (hl2 : l2 = min len 70) (hL : Wts w a l2 cap L) (hlc : len ≤ cap) (hr : rightW L = true) (hgI : I64 g0) (y0 : Wt) (ys : List Wt) (hne : L = y0 :: ys) :
    Calls Try.prog 5 #[.slice a len cap, .int .i64 g0] w (Says w) := by
  have hcm := hL.recs.cap_le
  unfold maxLen at hcm
  have hl70 : l2 ≤ 70 := by omega
  have HLL := Lib.hid hL.recs.len_eq
  have hFew := Lib.hid (fun W => few_any a len cap W hlc (by omega))
  rw [← hl2] at hFew
  obtain ⟨m0, hm0⟩ : ∃ m, g0.tmod 16 = m := ⟨_, rfl⟩
  have hb1 : -16 < m0 := by rw [← hm0]; have := Int.lt_tmod_of_pos g0 (show (0:Int) < 16 by omega); omega
  have hb2 : m0 < 16 := by rw [← hm0]; exact Int.tmod_lt_of_pos g0 (by omega)
  obtain ⟨g, hgm⟩ : ∃ g : Int, (m0 + 16) % 16 = g := ⟨_, rfl⟩
  have hg0 : 0 ≤ g := by omega
  have hg1 : g < 16 := by omega
  have h64 : l2 ≤ 64 := by have := (rightW_iff.1 hr).1; rw [hL.recs.len_eq] at this; exact this
  obtain ⟨ws, hws⟩ : ∃ ws, ws = whoW L := ⟨_, rfl⟩
  obtain ⟨m, hm⟩ : ∃ m, m = ws.length := ⟨_, rfl⟩
  have hm64 : m ≤ 64 := by rw [hm, hws]; have := whoW_len L; rw [HLL.out] at this; omega
  have hmI : (m : Int) ≤ 64 := by omega
  have hWh := Lib.hid (fun W (h : Wts W a l2 cap L) => Who_go a l2 cap L W h hr)
  have hDr := Lib.hid (fun W ra rn rc M z (h : Wts W ra rn rc M) (hm : rightW M = true) (hz : 0 ≤ z) (hzI : I64 z) => Drop_go ra rn rc M z W h hm hz hzI)
  rw [← hws] at hWh
  unfold GotI at hWh
  unfold GotW at hDr
  have HND := Lib.hid (show ws.Nodup by rw [hws]; exact who_nodup L)
  have HMY := Lib.hid (show ∀ n ∈ ws, 0 ≤ n by rw [hws]; exact who_may hr)
  have HW64 := Lib.hid (show ∀ i, I64 (en ws i) by rw [hws]; exact whoW_i64 hL.ok)
  have HWL := Lib.hid hm; have HWS := Lib.hid hws; have HR := Lib.hid hr; have HNE := Lib.hid hne
  have HOK := Lib.hid hL.ok
  have L_0 := Lib.hid hL
  have BEL_0 := Lib.hid (Below.refl w.heap.size w)
  unfold I64 at hgI
  clear hr hl2 hL hws hm hne
  go_enter Try.func5, Try.ntmps5
  go_wp2_with fail
  refine (hFew.out _).mono ?_
  rintro e w1 ⟨rfl, hb⟩
  have L_1 := Lib.hid (L_0.out.below hb)
  have BEL_1 := Lib.hid (BEL_0.out.trans (Below.mono hb BEL_0.out.size))
  clear L_0 BEL_0
  clear hb
  go_wp2_with fail
  refine (hWh.out _ L_1.out).mono ?_
  rintro e w2 ⟨wa, wn, wcap, rfl, hi, hb⟩
  have L_2 := Lib.hid (L_1.out.below hb)
  have BEL_2 := Lib.hid (BEL_1.out.trans (Below.mono hb BEL_1.out.size))
  clear L_1 BEL_1
  have WI_2 := Lib.hid (hi)
  clear hb hi
  obtain rfl : wn = m := by rw [← WI_2.out.len_eq, HWL.out]
  have hwc : (wn : Int) ≤ (wcap : Int) := by have := WI_2.out.le_cap; omega
  have hwcm : (wcap : Int) ≤ 9223372036854775807 := by have := WI_2.out.cap_le; unfold maxLen at this; omega
  go_wp2_with fail
  rw [hgm]
  go_loopw [7, 8, 48] (fun mt rs i wr => ∃ (k : Nat) (ra : Option Addr) (rn rcap : Nat), k ≤ wn ∧ i = .int .i64 k ∧ mt = .bool (hasI (ws.take k) g) ∧ rs = .slice ra rn rcap ∧ Wts wr ra rn rcap (restW L (ws.take k)) ∧ Below w2.heap.size w2 wr) (fun _ _ i _ => wn - (intOf i).toNat)
  case atStart => exact ⟨0, a, l2, cap, Nat.zero_le _, rfl, rfl, rfl, by rw [List.take_zero, rest_nil]; exact L_2.out, Below.refl _ _⟩
  case round =>
    obtain ⟨k, ra, rn, rcap, hk, rfl, rfl, rfl, hrest, hbl⟩ := hrel
    have HRE := Lib.hid hrest; have HBL := Lib.hid hbl
    clear hrest hbl
    by_cases hlt : k < wn
    · have hlt' : (k : Int) < (wn : Int) := by omega
      have hk0 : (0 : Int) ≤ (k : Int) := by omega
      have hkcc : (k : Int) ≤ (wcap : Int) := by omega
      have HWK := Lib.hid (WI_2.out.below HBL.out)
      obtain ⟨wb, woff, rfl, hc⟩ := HWK.out.cell k hlt
      obtain ⟨x, hx⟩ : ∃ x, x = en ws k := ⟨_, rfl⟩
      rw [← hx] at hc
      have hxI : I64 x := by rw [hx]; exact HW64.out k
      have HXM := Lib.hid (show x ∈ ws by rw [hx]; exact en_mem ws k (by rw [← HWL.out]; exact hlt))
      have HXN := Lib.hid (fun j (hj : j < k) => show (x == en ws j) = false by
        rw [beq_eq_false_iff_ne, hx]
        intro e
        rw [en_get ws k (by rw [← HWL.out]; exact hlt), en_get ws j (by rw [← HWL.out]; omega)] at e
        have := (List.nodup_iff_pairwise_ne.1 HND.out)
        rw [List.pairwise_iff_getElem] at this
        exact this j k (by rw [← HWL.out]; omega) (by rw [← HWL.out]; exact hlt) hj e.symm)
      have HTK := Lib.hid (show ws.take (k + 1) = ws.take k ++ [x] by rw [List.take_add_one, List.getElem?_eq_getElem (by rw [← HWL.out]; exact hlt), hx, en_get ws k (by rw [← HWL.out]; exact hlt)]; rfl)
      have HXT := Lib.hid (show x ∉ ws.take k by
        intro hmem
        obtain ⟨j, hj, he⟩ := List.getElem_of_mem hmem
        have hjk : j < k := by simp at hj; omega
        have := HXN.out j hjk
        rw [List.getElem_take] at he
        rw [beq_eq_false_iff_ne, en_get ws j (by rw [← HWL.out]; omega), he] at this
        exact this rfl)
      have hx0 : 0 ≤ x := HMY.out x HXM.out
      have HSN := Lib.hid (hasI_snoc (ws.take k) x g)
      have HDS := Lib.hid (show (dropW (restW L (ws.take k)) x).length < (restW L (ws.take k)).length from drop_short (by rw [← HWS.out]; exact HXM.out) HXT.out)
      have HRS := Lib.hid (rest_snoc L (ws.take k) x)
      clear hx
      go_wp2_with fail
      go_loop [57] (fun i2 => ∃ j : Nat, j ≤ k ∧ i2 = .int .i64 j) (fun i2 => k - (intOf i2).toNat)
      case atStart => exact ⟨0, Nat.zero_le _, rfl⟩
      case round =>
        obtain ⟨j, hj, rfl⟩ := hrel
        by_cases hlj : j < k
        · have hlj' : (j : Int) < (k : Int) := by omega
          obtain ⟨wb2, woff2, he2, hc2⟩ := HWK.out.cell j (by omega)
          cases he2
          have hne2 := HXN.out j hlj
          obtain ⟨y, hy⟩ : ∃ y, y = en ws j := ⟨_, rfl⟩
          rw [← hy] at hc2 hne2
          clear hy
          go_wp2_with fail
          go_round
          case rel => exact ⟨j + 1, by omega, by go_num⟩
          case measure => simp [intOf]; omega
        · have hjk : j = k := by omega
          subst hjk
          have hDD := Lib.hid (hDr.out wr ra rn rcap (restW L (ws.take j)) x HRE.out (right_filter HR.out _) hx0 hxI)
          have hrl := Lib.hid HRE.out.recs.len_eq
          cases hmet : hasI (ws.take j) g <;> cases hxg : (x == g)
          all_goals
            have R := Lib.hid (show hasI (ws.take (j + 1)) g = _ by rw [HTK.out, HSN.out, hmet, hxg])
            clear hmet
            go_wp2_with fail
            refine hDD.out.mono ?_
            rintro e wz ⟨na, nn, ncap, rfl, hi, hb⟩
            have hnl : (nn : Int) < (rn : Int) := by have h1 := hi.recs.len_eq; have h2 := hrl.out; have h3 := HDS.out; omega
            have HI := Lib.hid hi; have HBZ := Lib.hid (HBL.out.trans (Below.mono hb HBL.out.size))
            clear hi hb
            go_wp2_with fail
            go_roundw
            case rel => exact ⟨j + 1, na, nn, ncap, by omega, by go_num, by rw [R.out]; rfl, rfl, by rw [HTK.out, ← HRS.out]; exact HI.out, HBZ.out⟩
            case measure => simp [intOf]; omega
    · have hkn : k = wn := by omega
      subst hkn
      have HTT : Hid (ws.take k = ws) := Lib.hid (List.take_of_length_le (by rw [← HWL.out]; exact Nat.le_refl _))
      have hrn : rn = 0 := by have h1 := HRE.out.recs.len_eq; rw [HTT.out, HWS.out, rest_who] at h1; exact h1.symm
      subst hrn
      have HLB := Lib.hid (L_2.out.below HBL.out)
      have HWB := Lib.hid (WI_2.out.below HBL.out)
      have HBB := Lib.hid (BEL_2.out.trans (Below.mono HBL.out BEL_2.out.size))
      rw [HTT.out]
      have hD2 := Lib.hid (hDr.out wr a l2 cap L g HLB.out HR.out hg0 ⟨by omega, by omega⟩)
      go_wp2_with fail
      refine hD2.out.mono ?_
      rintro e wd ⟨da, dn, dcap, rfl, hi, hb⟩
      have HDA := Lib.hid hi; have HLD := Lib.hid (HLB.out.below hb); have HWD := Lib.hid (HWB.out.below hb); have HBD := Lib.hid (HBB.out.trans (Below.mono hb HBB.out.size))
      clear hi hb
      go_wp2_with fail
      clear hD2
      have hkk : k ≤ 64 := hm64
      go_loop [17, 96] (fun o i => ∃ p : Nat, p ≤ k ∧ i = .int .i64 p ∧ o = .int .i64 (passes ws p)) (fun _ i => k - (intOf i).toNat)
      case atStart => exact ⟨0, Nat.zero_le _, rfl, rfl⟩
      case round =>
        obtain ⟨p, hp, rfl, rfl⟩ := hrel
        have hpb := passes_bd (l := ws) (p := p) (by omega) (by rw [← HWL.out]; exact hkk)
        by_cases hlp : p < k
        · have hlp' : (p : Int) < (k : Int) := by omega
          have HPS := Lib.hid (show passes ws (p + 1) = pass ws (passes ws p) from rfl)
          obtain ⟨o0, ho0⟩ : ∃ o, o = passes ws p := ⟨_, rfl⟩
          rw [← ho0] at hpb HPS ⊢
          have HO0 := Lib.hid ho0; clear ho0
          go_wp2_with fail
          go_loop [17, 100] (fun o i => ∃ j : Nat, j ≤ k ∧ i = .int .i64 j ∧ o = .int .i64 (pass (ws.take j) o0)) (fun _ i => k - (intOf i).toNat)
          case atStart => exact ⟨0, Nat.zero_le _, rfl, rfl⟩
          case round =>
            obtain ⟨j, hj, rfl, rfl⟩ := hrel
            have hjb := pass_ge (ws.take j) o0
            have hjb1 : 0 ≤ pass (ws.take j) o0 := by omega
            have hjb2 : pass (ws.take j) o0 ≤ 5000 := by have := hjb.2.1; have : ((ws.take j).length : Int) ≤ j := (by rw [List.length_take]; omega); omega
            clear hjb
            by_cases hlj : j < k
            · have hlj' : (j : Int) < (k : Int) := by omega
              obtain ⟨wb2, woff2, he2, hc2⟩ := HWD.out.cell j hlj
              obtain ⟨y, hy⟩ : ∃ y, y = en ws j := ⟨_, rfl⟩
              have HTK := Lib.hid (show ws.take (j + 1) = ws.take j ++ [y] by rw [List.take_add_one, List.getElem?_eq_getElem (by rw [← HWL.out]; exact hlj), hy, en_get ws j (by rw [← HWL.out]; exact hlj)]; rfl)
              have HSN := Lib.hid (pass_snoc (ws.take j) y o0)
              rw [← hy] at hc2
              subst he2
              clear hy
              by_cases hyo : y = pass (ws.take j) o0
              · have R := Lib.hid (show pass (ws.take (j + 1)) o0 = pass (ws.take j) o0 + 1 by rw [HTK.out, HSN.out, if_pos hyo])
                have hyb : (y == pass (ws.take j) o0) = true := by rw [beq_iff_eq]; exact hyo
                clear hyo
                go_wp2_with fail
                go_round
                case rel => exact ⟨j + 1, by omega, by go_num, by rw [R.out]⟩
                case measure => simp [intOf]; omega
              · have R := Lib.hid (show pass (ws.take (j + 1)) o0 = pass (ws.take j) o0 by rw [HTK.out, HSN.out, if_neg hyo])
                have hyb : (y == pass (ws.take j) o0) = false := by rw [beq_eq_false_iff_ne]; exact hyo
                clear hyo
                go_wp2_with fail
                go_round
                case rel => exact ⟨j + 1, by omega, by go_num, by rw [R.out]⟩
                case measure => simp [intOf]; omega
            · have hjk : j = k := by omega
              subst hjk
              have R := Lib.hid (show pass (ws.take j) o0 = passes ws (p + 1) by rw [HTT.out]; exact HPS.out.symm)
              rw [R.out]
              go_wp2_with fail
              go_round
              case rel => exact ⟨p + 1, by omega, by go_num, rfl⟩
              case measure => simp [intOf]; omega
        · have hpk : p = k := by omega
          subst hpk
          have HOUT := Lib.hid (show passes ws p ∉ whoW L by have := passes_out ws; rw [← HWL.out] at this; rw [← HWS.out]; exact this)
          obtain ⟨b, hb⟩ : ∃ b, b = passes ws p := ⟨_, rfl⟩
          rw [← hb] at hpb HOUT ⊢
          clear hb
          have hF := Lib.hid (First_go a l2 cap L b wd HLD.out HR.out hpb.1 ⟨by omega, by omega⟩)
          rw [first_other HOUT.out, HNE.out] at hF
          unfold GotFirst GotWait at hF
          have HS := Lib.hid (fun W (h1 : Wts W da dn dcap (dropW L g)) (h2 : Wts W a l2 cap L) => Same_any da dn dcap (dropW L g) a l2 cap L W h1 h2)
          rw [drop_same] at HS
          have HME := Lib.hid (hasI_who L g)
          rw [HWS.out, HME.out]
          have hl0 : 0 < l2 := by have := HLL.out; rw [HNE.out] at this; simp at this; omega
          have hlb : ((l2 : Int) == 0) = false := by rw [beq_eq_false_iff_ne]; omega
          have hl1 : (0 : Int) < (l2 : Int) := by omega
          simp only [List.head?_cons] at hF
          go_wp2_with fail
          refine hF.out.mono ?_
          rintro e w9 ⟨rfl, hb⟩
          have HL9 := Lib.hid (HLD.out.below hb); have HD9 := Lib.hid (HDA.out.below hb); have HB9 := Lib.hid (HBD.out.trans (Below.mono hb HBD.out.size))
          clear hb
          obtain ⟨x0, bb, off, hx0, hok0, rfl, c0, c1, c2⟩ := HL9.out.at 0 hl0
          obtain rfl : y0 = x0 := by rw [HNE.out] at hx0; simpa using hx0
          rw [Nat.zero_mul, Nat.add_zero] at c0 c1 c2
          clear hx0
          have HC := Lib.hid (And.intro c0 (And.intro c1 c2))
          clear c0 c1 c2
          have e1 : (y0.g == y0.g) = true := by simp
          have e2 : (y0.c == y0.c) = true := by simp
          have e3 : (y0.s == y0.s) = true := by simp
          cases hme : metW L g
          all_goals
            rw [hme] at HS
            simp only [Bool.not_false, Bool.not_true] at HS
            clear hme
            go_wp2_with fail
            have HLA := Lib.hid (HL9.out.below (below_alloc w9 (.cells #[.int .i64 y0.g, .int .i64 y0.c, .int .i64 y0.s] 24))); have HDA2 := Lib.hid (HD9.out.below (below_alloc w9 (.cells #[.int .i64 y0.g, .int .i64 y0.c, .int .i64 y0.s] 24))); have HBA := Lib.hid (HB9.out.alloc HB9.out.size (.cells #[.int .i64 y0.g, .int .i64 y0.c, .int .i64 y0.s] 24))
            have HZ := Lib.hid (Box3.new w9 y0)
            have HSS : Hid (∀ W', Below (w9.alloc (.cells #[.int .i64 y0.g, .int .i64 y0.c, .int .i64 y0.s] 24)).heap.size (w9.alloc (.cells #[.int .i64 y0.g, .int .i64 y0.c, .int .i64 y0.s] 24)) W' → W'.cell? ⟨w9.heap.size, 0, none⟩ = some (.int .i64 y0.g) ∧ W'.cell? ⟨w9.heap.size, 1, none⟩ = some (.int .i64 y0.c) ∧ W'.cell? ⟨w9.heap.size, 2, none⟩ = some (.int .i64 y0.s) ∧ W'.cell? ⟨bb, off, none⟩ = some (.int .i64 y0.g) ∧ W'.cell? ⟨bb, off + 1, none⟩ = some (.int .i64 y0.c) ∧ W'.cell? ⟨bb, off + 2, none⟩ = some (.int .i64 y0.s)) := Lib.hid (fun W' hb => by
              obtain ⟨z0, z1, z2⟩ := (HZ.out.below hb).cells
              obtain ⟨d0, d1, d2⟩ := HC.out
              have hb9 := (below_alloc w9 (.cells #[.int .i64 y0.g, .int .i64 y0.c, .int .i64 y0.s] 24)).trans (Below.mono hb (by simp))
              have l1 := World.block_lt_of_cell? _ _ d0
              exact ⟨z0, z1, z2, (hb9.cell (p := ⟨bb, off, none⟩) l1).trans d0, (hb9.cell (p := ⟨bb, off + 1, none⟩) l1).trans d1, (hb9.cell (p := ⟨bb, off + 2, none⟩) l1).trans d2⟩)
            obtain ⟨XA, hXA⟩ : ∃ x, x = w9.alloc (.cells #[.int .i64 y0.g, .int .i64 y0.c, .int .i64 y0.s] 24) := ⟨_, rfl⟩
            obtain ⟨BZ, hBZ⟩ : ∃ x, x = w9.heap.size := ⟨_, rfl⟩
            rw [← hXA] at HLA HDA2 HBA HSS ⊢
            rw [← hBZ] at HSS ⊢
            clear hXA hBZ HZ
            go_region_held3 (fun W => W.cell? ⟨BZ, 0, none⟩ = some (.int .i64 y0.g) ∧ W.cell? ⟨BZ, 1, none⟩ = some (.int .i64 y0.c) ∧ W.cell? ⟨BZ, 2, none⟩ = some (.int .i64 y0.s) ∧ W.cell? ⟨bb, off, none⟩ = some (.int .i64 y0.g) ∧ W.cell? ⟨bb, off + 1, none⟩ = some (.int .i64 y0.c) ∧ W.cell? ⟨bb, off + 2, none⟩ = some (.int .i64 y0.s))
              ((refine HSS.out _ ?_; first | exact HBq.out | exact HBp.out | exact (Below.refl _ _).drew))
              (first | (go_at_call 13; refine (alive_any _).mono ?_; rintro e wp ⟨rfl, hbp⟩; have HBp : Hid (Below XA.heap.size XA wp) := Lib.hid (((Below.refl XA.heap.size XA).drew).trans (Below.mono hbp (Nat.le_refl _))); clear hbp) | (go_at_call 16; refine (HS.out _ (HDA2.out.below HBp.out) (HLA.out.below HBp.out)).mono ?_; rintro e wq ⟨rfl, hbq⟩; have HBq : Hid (Below XA.heap.size XA wq) := Lib.hid (HBp.out.trans (Below.mono hbq HBp.out.size)); clear hbq))
            all_goals
              go_wp2_with fail
              go_ret
              exact ⟨ret_bool rfl, HBA.out.trans (Below.mono HBq.out HBA.out.size)⟩
end Go.Proofs.Ytejlnkneememoaa
