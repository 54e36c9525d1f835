/- The program: Reach. -/
import Derived.Test.YtdjfgodjdcfibaaR5
import Derived.Test.YtdjfgodjdcfibaaSortL
import Derived.Sort.OwnSortedInts
import Derived.Test.YtdjfgodjdcfibaaCPlain
namespace Go.Proofs.Ytdjfgodjdcfibaa
open Go.RowKit
set_option maxRecDepth 100000 in
theorem index_any (a : Option Addr) (len cap : Nat) (l : List Int) (n : Int) (w : World) (h : Ints w a len cap l) :
    Calls Try.prog 24 #[.slice a len cap, .int .i64 n] w fun e w' => ∃ r : Int, e = .returned (.int .i64 r) ∧ (n ∈ l → 0 ≤ r) ∧ (¬ n ∈ l → r < 0) ∧ Below w.heap.size w w' := by
  have hle := h.len_le
  have Hl := Lib.hid h.len_eq
  have H := Lib.hid h; clear h
  go_enter Try.func24, Try.ntmps24
  go_wp2_with fail
  go_loopw [8] (fun i wr => ∃ k : Nat, k ≤ len ∧ i = .int .i64 k ∧ (∀ j, j < k → en l j ≠ n) ∧ Below w.heap.size w wr) (fun i _ => len - (intOf i).toNat)
  case atStart => exact ⟨0, Nat.zero_le _, rfl, fun j hj => absurd hj (by omega), Below.refl _ _⟩
  case round =>
    obtain ⟨k, hk, rfl, hall, hb⟩ := hrel
    have Ha := Lib.hid hall; clear hall
    have HB := Lib.hid hb; clear hb
    by_cases hlt : k < len
    · obtain ⟨b, off, rfl, hc⟩ := (H.out.below HB.out).cell k hlt
      have hlt' : (k : Int) < (len : Int) := by omega
      obtain ⟨m, hm⟩ : ∃ n, n = en l k := ⟨_, rfl⟩
      rw [← hm] at hc
      have Hm := Lib.hid hm; clear hm
      by_cases hc : n = m
      · subst hc
        have hmem := Lib.hid (show n ∈ l by rw [Hm.out]; exact en_mem l k (by rw [Hl.out]; exact hlt))
        go_wp2_with fail
        go_ret
        exact ⟨_, rfl, fun _ => by omega, fun hn => absurd hmem.out hn, HB.out⟩
      · have hcb : (n == m) = false := by simpa using hc
        have HC := Lib.hid hc; clear hc
        go_wp2_with fail
        go_roundw
        case rel =>
          refine ⟨k + 1, by omega, by go_num, fun j hj => ?_, HB.out⟩
          by_cases hjk : j = k
          · rw [hjk, ← Hm.out]; exact fun h => HC.out h.symm
          · exact Ha.out j (by omega)
        case measure => simp [intOf]; omega
    · have hx : ¬ n ∈ l := fun hx => by
        obtain ⟨i, hi, he⟩ := List.getElem_of_mem hx
        exact Ha.out i (by rw [Hl.out] at hi; omega) (by rw [en_get l i hi]; exact he)
      have Hx := Lib.hid hx; clear hx
      go_wp2_with fail
      go_ret
      exact ⟨_, rfl, fun h => absurd h Hx.out, fun _ => by omega, HB.out⟩
set_option maxRecDepth 100000 in
theorem contains_any (a : Option Addr) (len cap : Nat) (l : List Int) (n : Int) (w : World) (h : Ints w a len cap l) :
    Calls Try.prog 17 #[.slice a len cap, .int .i64 n] w fun e w' => e = .returned (.bool (decide (n ∈ l))) ∧ Below w.heap.size w w' := by
  have H := Lib.hid (index_any a len cap l n w h); clear h
  by_cases hn : n ∈ l
  all_goals
    have Hn := Lib.hid hn; clear hn
    go_enter Try.func17, Try.ntmps17
    go_wp2_with fail
    refine H.out.mono ?_
    rintro e w1 ⟨r, rfl, h1, h2, hb⟩
    have HB := Lib.hid hb; clear hb
    first
    | (have h0 := h1 Hn.out
       clear h1 h2
       go_wp2_with fail
       go_ret
       exact ⟨ret_bool (by symm; exact decide_eq_true Hn.out), HB.out⟩)
    | (have h0 := h2 Hn.out
       clear h1 h2
       go_wp2_with fail
       go_ret
       exact ⟨ret_bool (by rw [decide_eq_false Hn.out]; first | rfl | exact decide_eq_false (by omega)), HB.out⟩)
def ofn (l : List Nat) : List Int := l.map Int.ofNat
theorem ofn_i64 {n : Nat} {S} {l : List Nat} {a : Nat} (h : Work n S l a) (hn : n ≤ 1000) (i : Nat) : I64 (en (ofn l) i) := by
  by_cases hi : i < (ofn l).length
  · obtain ⟨x, hx, he⟩ := List.mem_map.1 (en_mem (ofn l) i hi)
    show I64 (en (ofn l) i)
    rw [show en (ofn l) i = Int.ofNat x from he.symm]
    have := h.lt hx
    have h2 : Int.ofNat x = (x : Int) := rfl
    rw [h2]
    exact ⟨by omega, by omega⟩
  · rw [en_of_le _ i (by omega)]; exact ⟨by omega, by omega⟩
theorem en_ofn {l : List Nat} {a f : Nat} (h : l[a]? = some f) : en (ofn l) a = (f : Int) := by
  simp [en, ofn, h]
theorem mem_ofn {l : List Nat} {t : Nat} : (t : Int) ∈ ofn l ↔ t ∈ l := by
  constructor
  · intro h
    obtain ⟨x, hx, he⟩ := List.mem_map.1 h
    have : x = t := by have h2 : Int.ofNat x = (x : Int) := rfl
                       rw [h2] at he; omega
    rw [← this]; exact hx
  · intro h; exact List.mem_map.2 ⟨t, h, rfl⟩
theorem own_one (w : World) : Own (w.alloc (.cells #[.int .i64 0] 3)) w.heap.size (.slice (some ⟨w.heap.size, 0, none⟩) 1 1) (ofn [0]) :=
  World.ownsRow_lit w #[.int .i64 0] 1 (Nat.le_refl _) (by decide) rfl
theorem Own.blkI {w : World} {base : Nat} {v : Value} {L : List Int} (h : Own w base v L) (hp : 0 < L.length) :
    ∃ g cap cur, v = .slice (some ⟨g, 0, none⟩) L.length cap ∧ base ≤ g ∧ w.heap[g]? = some (.cells cur 3 (0, 0)) ∧ L.length ≤ cap ∧ cap ≤ maxLen ∧ cur.size = cap * 1 ∧ cur.toList.take L.length = L.map (Value.int .i64) := by
  rcases h.2 with ⟨_, hn⟩ | ⟨g, cap, cur, hv, hg, hh, h1, h2, h3, h4⟩
  · omega
  · exact ⟨g, cap, cur, hv, hg, hh, h1, h2, h3, by rw [Nat.mul_one] at h4; exact h4⟩
theorem Own.belowO {w w' : World} {base : Nat} {v : Value} {L : List Int} (h : Own w base v L) (hb : Below w.heap.size w w') : Own w' base v L := by
  refine ⟨h.1, ?_⟩
  rcases h.2 with h0 | ⟨g, cap, cur, hv, hg, hh, r⟩
  · exact .inl h0
  · exact .inr ⟨g, cap, cur, hv, hg, (hb.block _ (Array.getElem?_eq_some_iff.1 hh).1).trans hh, r⟩
theorem ofn_snoc (l : List Nat) (t : Nat) : ofn (l ++ [t]) = ofn l ++ [(t : Int)] := by simp [ofn]
theorem Own.drewN' {w : World} {base : Nat} {v : Value} {L : List Int} (h : Own w base v L) (n : Nat) : Own (w.drewN n) base v L := by
  have h' := h
  unfold Own World.ownsRow at h' ⊢
  exact h'
set_option maxRecDepth 100000 in
set_option maxHeartbeats 8000000 in
theorem Reach_go (p : Pr) (q : PAt) (w : World) (h : Prg w p q) (hr : rightP p = true) :
    Calls Try.prog 7 #[prV p q] w (fun e w' => ∃ a n cap, e = .returned (.tuple #[.slice a n cap, .int .i64 0]) ∧ Ints w' a n cap (reachL p) ∧ Below w.heap.size w w') := by
  have X_0 := Lib.hid (Bx.new w (prC p q) 26)
  have B_0 := Lib.hid (below_alloc w (.cells (prC p q) 26))
  have P_0 := Lib.hid (h.below B_0.out)
  have HR := Lib.hid (Right_any p q _ P_0.out)
  rw [hr] at HR
  obtain ⟨ht, hbk⟩ := right_parts hr
  have hsb := szB_not h.szs (tab_parts ht).2
  obtain ⟨_, _, _, hb1, hb6⟩ := hsb
  have HN := Lib.hid h.blks.len
  have HBK := Lib.hid hbk
  have HRT := Lib.hid hr
  have HSZ := Lib.hid h.szs
  clear h hr ht hbk
  go_enter Try.func7, Try.ntmps7
  go_wp2_with fail
  refine HR.out.mono ?_
  rintro e w1 ⟨rfl, hb⟩
  have X_1 := Lib.hid (X_0.out.below hb); have P_1 := Lib.hid (P_0.out.below hb); have B_1 := Lib.hid (B_0.out.trans (Below.mono hb B_0.out.size))
  clear hb HR
  obtain ⟨BX, hBX⟩ : ∃ x, x = w.heap.size := ⟨_, rfl⟩
  rw [← hBX] at X_1 ⊢
  have HBX := Lib.hid hBX
  clear hBX X_0 P_0 B_0
  go_upto_region 4 with (fail)
  have O_2 := Lib.hid (own_one w1)
  have B_2 := Lib.hid (below_alloc w1 (.cells #[.int .i64 0] 3))
  obtain ⟨w2, hw2⟩ : ∃ x, x = w1.alloc (.cells #[.int .i64 0] 3) := ⟨_, rfl⟩
  have HSZ2 := Lib.hid (show w1.heap.size + 1 = w2.heap.size by rw [hw2]; simp)
  rw [← hw2] at O_2 B_2 ⊢
  clear hw2
  obtain ⟨B0, hB0⟩ : ∃ x, x = w1.heap.size := ⟨_, rfl⟩
  have HB0 := Lib.hid hB0
  rw [← hB0] at O_2 B_2 HSZ2 ⊢
  clear hB0
  have HKP := Lib.hid (fun W (H : Below B0 w2 W) => show Below w1.heap.size w1 W by rw [← HB0.out]; exact B_2.out.trans H)
  obtain ⟨S, hS⟩ : ∃ S, S = SM p := ⟨_, rfl⟩
  have HSS := Lib.hid hS
  clear hS
  obtain ⟨n, hn⟩ : ∃ n, n = q.bn := ⟨_, rfl⟩
  have HNN := Lib.hid hn
  rw [← hn] at hb1 hb6
  clear hn
  go_wp2_with fail
  go_loopw [4, 5] (fun u i wr => ∃ (l : List Nat) (a : Nat), i = .int .i64 a ∧ a ≤ l.length ∧ Own wr B0 u (ofn l) ∧ Work n S l a ∧ Below B0 w2 wr) (fun _ i _ => n - (intOf i).toNat)
  case atStart => exact ⟨[0], 0, rfl, by simp, O_2.out, Work.start (by omega), Below.refl _ _⟩
  case round =>
    obtain ⟨l, a, rfl, hal, hown, hwork, hbw⟩ := hrel
    have HO := Lib.hid hown; have HK := Lib.hid hwork; have HW := Lib.hid hbw
    clear hown hwork hbw
    have hln := HK.out.len
    have HLL := Lib.hid (show (ofn l).length = l.length by simp [ofn])
    by_cases hlt : a < l.length
    · have hlt' : (a : Int) < (l.length : Int) := by omega
      obtain ⟨ua, uc, hu, hi⟩ := Own.ints HO.out (ofn_i64 HK.out (by omega))
      rw [HLL.out] at hu hi
      subst hu
      obtain ⟨b, off, rfl, hc⟩ := hi.cell a hlt
      obtain ⟨f, hf⟩ : ∃ f, f = l[a] := ⟨_, rfl⟩
      have HF := Lib.hid (show l[a]? = some f by rw [hf]; exact List.getElem?_eq_getElem hlt)
      rw [en_ofn HF.out] at hc
      have hfn : f < n := HK.out.lt (List.mem_of_getElem? HF.out)
      have hfn' : (f : Int) < (n : Int) := by omega
      clear hf hi
      obtain ⟨x, b2, o2, ca, cn, cc, hx, hba2, d1, hblk⟩ := P_1.out.blks.at f (by rw [← HNN.out]; exact hfn)
      have d0 := ((HKP.out _ HW.out).cell (p := ⟨b2, o2 + f, none⟩) (World.block_lt_of_cell? _ _ d1)).trans d1
      have HX := Lib.hid hx; have HC := Lib.hid hblk
      have HCL := Lib.hid hblk.recs.len_eq
      have HIN := Lib.hid (fun y (hy : y ∈ x) => ins_parts ((blk_parts (HBK.out x (List.mem_of_getElem? hx))).2 y hy))
      have hc24 : cn ≤ 24 := by rw [← hblk.recs.len_eq]; exact (blk_parts (HBK.out x (List.mem_of_getElem? hx))).1
      clear hblk hx d1
      obtain ⟨x0, x1, x2, x3, x4, x5⟩ := (X_1.out.below (HKP.out _ HW.out)).cells6
      rw [hba2, ← HNN.out] at x5
      clear hba2
      go_wp2_with fail
      go_quiet (fail)
      have HW1 := Lib.hid (below_drewN HW.out nq)
      have HO1 := Lib.hid (HO.out.drewN' nq)
      clear HW HO x0 x1 x2 x3 x4 x5 d0 hc
      obtain ⟨wa, hwa⟩ : ∃ x, x = wr.drewN nq := ⟨_, rfl⟩
      rw [← hwa] at HW1 HO1 ⊢
      clear hwa
      go_wp2_with fail
      go_loopw [4, 27] (fun u i wr => ∃ (l2 : List Nat) (j : Nat), i = .int .i64 j ∧ j ≤ cn ∧ Own wr B0 u (ofn l2) ∧ Work n S l2 a ∧ l2[a]? = some f ∧ (∀ m y, m < j → x[m]? = some y → y.op = 9 → y.a ∈ ofn l2) ∧ Below B0 w2 wr) (fun _ i _ => cn - (intOf i).toNat)
      case atStart => exact ⟨l, 0, rfl, Nat.zero_le _, HO1.out, HK.out, HF.out, fun m y hm => by omega, HW1.out⟩
      case round =>
        clear HO1 HW1
        obtain ⟨l2, j, rfl, hj, hown, hwork, hla, hall, hbw⟩ := hrel
        have HO := Lib.hid hown; have HK2 := Lib.hid hwork; have HW := Lib.hid hbw; have HA := Lib.hid hall; have HLA := Lib.hid hla
        clear hown hwork hbw hall hla
        have HLL2 := Lib.hid (show (ofn l2).length = l2.length by simp [ofn])
        have hl2n := HK2.out.len
        obtain ⟨ua2, uc2, hu, hi⟩ := Own.ints HO.out (ofn_i64 HK2.out (by omega))
        rw [HLL2.out] at hu hi
        subst hu
        have HI := Lib.hid hi
        clear hi
        by_cases hlj : j < cn
        · have hlj' : (j : Int) < (cn : Int) := by omega
          obtain ⟨y, b3, o3, hy, hyok, hca3, e0, e1, e2⟩ := (HC.out.below (HKP.out _ HW.out)).at j hlj
          have HY := Lib.hid hy
          have hyp := HIN.out y (List.mem_of_getElem? hy)
          rw [HN.out, ← HNN.out] at hyp
          have HYP := Lib.hid hyp
          clear hy hyok hyp
          rw [hca3]
          have HB := Lib.hid (belowX_alloc (Below.refl wr.heap.size wr) (.cells #[.int .i64 y.op, .int .i64 y.a, .int .i64 y.b] 43))
          have HWA := Lib.hid (HW.out.trans (Below.mono HB.out (by have := HSZ2.out; have := HW.out.size; omega)))
          by_cases h9 : y.op = 9
          · obtain ⟨t, ht⟩ : ∃ t, t = y.a.toNat := ⟨_, rfl⟩
            have hya : y.a = (t : Int) := by have := HYP.out.2.1; omega
            have htn : t < n := by have := HYP.out.2.2.2.2.1 h9; omega
            have HST := Lib.hid (show S f t = true by
              rw [HSS.out, SM, HX.out]
              exact List.any_eq_true.2 ⟨y, List.mem_of_getElem? HY.out, by simp [h9, hya]⟩)
            have HYA := Lib.hid hya; have HTN := Lib.hid htn
            rw [h9] at e0 HB HWA
            rw [hya] at e1 HB HWA
            clear h9 ht hya htn
            have HST2 := Lib.hid (fun (l3 : List Nat) (hold : ∀ z ∈ ofn l2, z ∈ ofn l3) (hnew : (t : Int) ∈ ofn l3) => show ∀ m z, m < j + 1 → x[m]? = some z → z.op = 9 → z.a ∈ ofn l3 from fun m z hm hz hz9 => by
              rcases Nat.lt_or_ge m j with h1 | h1
              · exact hold _ (HA.out m z h1 hz hz9)
              · obtain rfl : m = j := by omega
                rw [HY.out] at hz; cases hz
                rw [HYA.out]; exact hnew)
            have HCO := Lib.hid (contains_any _ _ _ (ofn l2) t _ (HI.out.below HB.out))
            have HBX2 := Lib.hid (Bx.new wr #[.int .i64 9, .int .i64 t, .int .i64 y.b] 43)
            by_cases hm : (t : Int) ∈ ofn l2
            · rw [decide_eq_true hm] at HCO
              have HR := Lib.hid (HST2.out l2 (fun _ h => h) hm)
              clear hm
              go_wp2_with fail
              refine HCO.out.mono ?_
              rintro e w5 ⟨rfl, hb⟩
              have HW5 := Lib.hid (HWA.out.trans (Below.mono hb (by have := HSZ2.out; have := HWA.out.size; omega)))
              have HO5 := Lib.hid ((HO.out.belowO HB.out).belowO hb)
              clear hb
              go_wp2_with fail
              go_roundw
              case rel => exact ⟨l2, j + 1, by go_num, by omega, HO5.out, HK2.out, HLA.out, HR.out, HW5.out⟩
              case measure => simp [intOf]; omega
            · rw [decide_eq_false hm] at HCO
              have HNM := Lib.hid (show ¬ t ∈ l2 from fun h => hm (mem_ofn.2 h))
              clear hm
              go_wp2_with fail
              refine HCO.out.mono ?_
              rintro e w5 ⟨rfl, hb⟩
              have HW5 := Lib.hid (HWA.out.trans (Below.mono hb (by have := HSZ2.out; have := HWA.out.size; omega)))
              have HO5 := Lib.hid ((HO.out.belowO HB.out).belowO hb)
              obtain ⟨k0, k1, k2⟩ := (HBX2.out.below hb).cells3
              clear hb
              have hB5 : B0 ≤ w5.heap.size := by have := HSZ2.out; have := HW5.out.size; omega
              have HB5 := Lib.hid hB5
              clear hB5
              have HFL := Lib.hid (show (ofn l2).length ≤ 1000000 by rw [HLL2.out]; omega)
              go_wp2_with (at_builtin; refine app1 rfl _ _ rfl B0 _ (ofn l2) rfl HO5.out t rfl HFL.out w2 HW5.out HB5.out ?_; intro v' w6 ho hb6)
              go_roundw
              case rel =>
                refine ⟨l2 ++ [t], j + 1, by go_num, by omega, by rw [ofn_snoc]; exact ho.out, HK2.out.push (List.mem_of_getElem? HLA.out) HTN.out HST.out HNM.out (by have := (List.getElem?_eq_some_iff.1 HLA.out).1; omega), ?_, HST2.out _ (fun z hz => by rw [ofn_snoc]; exact List.mem_append_left _ hz) (by rw [ofn_snoc]; simp), hb6.out⟩
                rw [List.getElem?_append_left (List.getElem?_eq_some_iff.1 HLA.out).1]; exact HLA.out
              case measure => simp [intOf]; omega
          · have t9 : (y.op == 9) = false := by rw [beq_eq_false_iff_ne]; exact h9
            have HR := Lib.hid (show ∀ m z, m < j + 1 → x[m]? = some z → z.op = 9 → z.a ∈ ofn l2 from fun m z hm hz hz9 => by
              rcases Nat.lt_or_ge m j with h1 | h1
              · exact HA.out m z h1 hz hz9
              · obtain rfl : m = j := by omega
                rw [HY.out] at hz; cases hz
                exact absurd hz9 h9)
            have HO5 := Lib.hid (HO.out.belowO HB.out)
            clear h9
            go_wp2_with fail
            go_roundw
            case rel => exact ⟨l2, j + 1, by go_num, by omega, HO5.out, HK2.out, HLA.out, HR.out, HWA.out⟩
            case measure => simp [intOf]; omega
        · have hje : (cn : Int) ≤ (j : Int) := by omega
          have HST := Lib.hid (show Work n S l2 (a + 1) from HK2.out.step HLA.out (fun t ht hs => by
            rw [HSS.out, SM, HX.out] at hs
            obtain ⟨z, hz, hzz⟩ := List.any_eq_true.1 hs
            simp only [Bool.and_eq_true, beq_iff_eq] at hzz
            obtain ⟨m, hm, hmz⟩ := List.mem_iff_getElem.1 hz
            have h3 := HA.out m z (by have := HCL.out; omega) (by rw [List.getElem?_eq_getElem hm, hmz]) hzz.1
            rw [hzz.2] at h3
            exact mem_ofn.1 h3))
          have hlt3 := (List.getElem?_eq_some_iff.1 HLA.out).1
          clear hl2n
          go_wp2_with fail
          go_roundw
          case rel => exact ⟨l2, a + 1, by go_num, by omega, HO.out, HST.out, HW.out⟩
          case measure => simp [intOf]; omega
    · have hal' : ((ofn l).length : Int) ≤ (a : Int) := by rw [HLL.out]; omega
      obtain ⟨g, cap, cur, hv, hg, hh, h1, h2, h3, h4⟩ := HO.out.blkI (by rw [HLL.out]; exact List.length_pos_of_mem HK.out.zero)
      subst hv
      have HS := Lib.hid (sort_any g 0 cap (ofn l) wr (holds_of_blockI hh h4) (Array.getElem?_eq_some_iff.1 hh).1 (by rw [HLL.out]; omega))
      have HE := Lib.hid (show (ofn l).mergeSort (fun x y => decide (x ≤ y)) = reachL p by
        have := sort_filter (n := n) (m := roundsM n S (fun i => i == 0) n) HK.out.once (fun i => by
          rw [HK.out.all (by omega) i]
          exact ⟨fun h => ⟨h.lt, (rounds_reach (by omega) i h.lt).2 h⟩, fun h => (rounds_reach (by omega) i h.1).1 h.2⟩)
        rw [show ofn l = l.map Int.ofNat from rfl, this, reachL, HN.out, ← HNN.out, ← HSS.out])
      have HLE := Lib.hid (show (reachL p).length = (ofn l).length by rw [← HE.out, List.length_mergeSort])
      have HOW := Lib.hid (fun nn (os : Array Obj) => ownsRow_sortedI (w := wr) (n := nn) (os := os) (ss := ofn l) (ts := reachL p) HLE.out hg hh h1 h2 h3)
      have HGR := Lib.hid (fun nn (os : Array Obj) => grownBy_sortedI (w := wr) (g := g) (n := nn) (os := os) (reachL p).toArray)
      have HG := Lib.hid hg
      have HI6 := Lib.hid (show ∀ i, I64 (en (reachL p) i) from fun i => by rw [reachL]; exact filter_i64 _ _ (by rw [HN.out, ← HNN.out]; omega) i)
      clear hh h1 h2 h3 h4 hg
      rw [HE.out] at HS
      go_wp2_with fail
      refine HS.out.mono ?_
      rintro e w5 ⟨rfl, nn, os, hw5⟩
      have HO5 := Lib.hid (show Own w5 B0 (.slice (some ⟨g, 0, none⟩) (ofn l).length cap) (reachL p) by
        have := HOW.out nn os
        rw [← hw5] at this
        unfold Own; rw [HLE.out]; exact this)
      have HB5 := Lib.hid (show Below B0 w2 w5 by
        have h5 := HGR.out nn os
        rw [← hw5] at h5
        exact Below.grown HW.out h5 (by have := HSZ2.out; have := HW.out.size; omega) (fun k hk => by cases hk; exact HG.out))
      clear hw5
      obtain ⟨ua, uc, hu, hi⟩ := Own.ints HO5.out HI6.out
      rw [← HLE.out]
      rw [← HLE.out] at hu
      cases hu
      have HI := Lib.hid hi
      clear hi
      go_wp2_with fail
      go_ret2
      exact ⟨_, _, _, rfl, HI.out, B_1.out.trans (Below.mono (HKP.out _ HB5.out) B_1.out.size)⟩
set_option maxRecDepth 100000 in
set_option maxHeartbeats 8000000 in
theorem Reach_arg (p : Pr) (q : PAt) (w : World) (h : Prg w p q) (hr : rightP p = false) :
    Calls Try.prog 7 #[prV p q] w (fun e w' => e = .returned (.tuple #[.slice none 0 0, .int .i64 1]) ∧ Below w.heap.size w w') := by
  have B_0 := Lib.hid (below_alloc w (.cells (prC p q) 26))
  have HR := Lib.hid (Right_any p q _ (h.below B_0.out))
  rw [hr] at HR
  clear h hr
  go_enter Try.func7, Try.ntmps7
  go_wp2_with fail
  refine HR.out.mono ?_
  rintro e w1 ⟨rfl, hb⟩
  have B_1 := Lib.hid (B_0.out.trans (Below.mono hb B_0.out.size))
  clear hb
  go_wp2_with fail
  go_ret2
  exact ⟨rfl, B_1.out⟩
end Go.Proofs.Ytdjfgodjdcfibaa
