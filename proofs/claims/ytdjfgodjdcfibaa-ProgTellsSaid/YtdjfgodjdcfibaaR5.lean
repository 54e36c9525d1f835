/- The reference: Reach. -/
import Derived.Test.YtdjfgodjdcfibaaR4
import Derived.Test.YtdjfgodjdcfibaaRl
import Derived.Test.YtdjfgodjdcfibaaApp
namespace Go.Proofs.Ytdjfgodjdcfibaa
open Go.RowKit
def encb (b : Bool) : List Value := [.bool b]
theorem encb_len (b : Bool) : (encb b).length = 1 := rfl
theorem encb_one (b : Bool) : ∀ u ∈ encb b, u.oneCell' = true := by intro u hu; simp [encb] at hu; subst hu; rfl
theorem inf4b : (Try.prog.info? 4).map (fun i => (i.zero, i.size, i.bytes)) = some (some (.bool false), 1, 1) := by kernel_rfl
theorem flat_encb (L : List Bool) : L.flatMap encb = L.map Value.bool := by
  induction L with
  | nil => rfl
  | cons x xs ih => rw [List.flatMap_cons, ih]; rfl
theorem ownb_lit (w : World) : OwnR 4 1 encb (w.alloc (.cells #[] 4)) w.heap.size (.slice (some ⟨w.heap.size, 0, none⟩) 0 0) [] :=
  World.ownsRow_lit w #[] 0 (Nat.le_refl _) (by decide) rfl
theorem setb_at {W : World} {B : Nat} {cs : Array Value} {t : TypeId} (h : W.heap[B]? = some (.cells cs t (0, 0))) (j : Nat) (v : Value) : (W.setCell ⟨B, j, none⟩ v).heap[B]? = some (.cells (cs.setIfInBounds j v) t (0, 0)) := by
  obtain ⟨hlt, hk⟩ := Array.getElem?_eq_some_iff.1 h
  show (W.heap.modify B _)[B]? = _
  rw [Array.getElem?_eq_getElem (by rw [Array.size_modify]; exact hlt), Array.getElem_modify_self, hk]
  rfl
theorem OwnR.blkb {w : World} {base : Nat} {v : Value} {L : List Bool} (h : OwnR 4 1 encb w base v L) (hp : 0 < L.length) : ∃ g cap, v = .slice (some ⟨g, 0, none⟩) L.length cap ∧ base ≤ g := by
  rcases h.2 with ⟨_, hn⟩ | ⟨g, cap, cur, hv, hg, _⟩
  · omega
  · exact ⟨g, cap, hv, hg⟩
theorem OwnR.readb {w : World} {base g n cap : Nat} {L : List Bool} (h : OwnR 4 1 encb w base (.slice (some ⟨g, 0, none⟩) n cap) L) (i : Nat) (hi : i < L.length) {b : Bool} (hb : L[i]? = some b) :
    w.cell? ⟨g, i, none⟩ = some (.bool b) ∧ w.frozen? ⟨g, i, none⟩ = false ∧ g < w.heap.size := by
  rcases h.2 with ⟨hv, _⟩ | ⟨g', cap', cur, hv, _, hh, hnc, hcm, hcs, htake⟩
  · simp at hv
  · simp only [Value.slice.injEq, Option.some.injEq, Addr.mk.injEq, and_true] at hv
    obtain ⟨rfl, _⟩ := hv
    refine ⟨?_, by simp [World.frozen?, hh], (Array.getElem?_eq_some_iff.1 hh).1⟩
    rw [cell_of_row w _ i _ 4 (0, 0) hh]
    have e : cur[i]? = (cur.toList.take (L.length * 1))[i]? := by rw [List.getElem?_take, if_pos (by omega)]; simp
    rw [e, htake, flat_encb, List.getElem?_map, hb]; rfl
theorem OwnR.setb {w : World} {base g n cap : Nat} {L : List Bool} (h : OwnR 4 1 encb w base (.slice (some ⟨g, 0, none⟩) n cap) L) (i : Nat) (b : Bool) :
    OwnR 4 1 encb (w.setCell ⟨g, i, none⟩ (.bool b)) base (.slice (some ⟨g, 0, none⟩) n cap) (L.set i b) := by
  refine ⟨by rw [List.length_set, flat_encb, List.length_map, List.length_set, Nat.mul_one], ?_⟩
  rcases h.2 with ⟨hv, _⟩ | ⟨g', cap', cur, hv, hb, hh, hnc, hcm, hcs, htake⟩
  · simp at hv
  · have hv0 := hv
    simp only [Value.slice.injEq, Option.some.injEq, Addr.mk.injEq, and_true] at hv
    obtain ⟨rfl, _⟩ := hv
    refine .inr ⟨g, cap', cur.setIfInBounds i (.bool b), ?_, hb, setb_at hh i _, by rw [List.length_set]; exact hnc, hcm, by rw [Array.size_setIfInBounds]; exact hcs, ?_⟩
    · rw [List.length_set]; exact hv0
    · rw [List.length_set, Array.toList_setIfInBounds, List.take_set, htake, flat_encb, flat_encb, List.map_set]
def SM (p : Pr) (f t : Nat) : Bool := match p.blks[f]? with | some x => stB x t | none => false
theorem range_snoc (m : Nat → Bool) (k : Nat) : (List.range (k + 1)).map m = (List.range k).map m ++ [m k] := by rw [List.range_succ, List.map_append]; rfl
theorem range_at (m : Nat → Bool) {n i : Nat} (hi : i < n) : ((List.range n).map m)[i]? = some (m i) := by
  rw [List.getElem?_map, List.getElem?_range hi]; rfl
theorem range_step {S : Nat → Nat → Bool} {m : Nat → Bool} {n f t : Nat} (hm : m f = true) (hs : S f t = true) :
    ((List.range n).map m).set t true = (List.range n).map (stepM S m f t) := by
  refine List.ext_getElem? fun i => ?_
  rw [List.getElem?_set]
  by_cases hi : i < n
  · rw [range_at _ hi, range_at _ hi]
    by_cases hit : t = i
    · subst hit; rw [if_pos rfl, if_pos (by simpa using hi)]; simp [stepM, hm, hs]
    · rw [if_neg hit]; simp [stepM]
      intro h; exact absurd h.symm hit
  · by_cases hit : t = i
    · subst hit; rw [if_pos rfl, if_neg (by simpa using hi)]; symm; rw [List.getElem?_eq_none_iff]; simp; omega
    · rw [if_neg hit, List.getElem?_eq_none (by simp; omega), List.getElem?_eq_none (by simp; omega)]
theorem step_no {S : Nat → Nat → Bool} {m : Nat → Bool} {f t : Nat} (h : (m f && S f t) = false) : stepM S m f t = m := by
  funext i; simp [stepM, h]
def reachL (p : Pr) : List Int := ((List.range p.blks.length).filter (roundsM p.blks.length (SM p) (fun i => i == 0) p.blks.length)).map Int.ofNat
theorem filter_snoc (m : Nat → Bool) (k : Nat) : ((List.range (k + 1)).filter m).map Int.ofNat = ((List.range k).filter m).map Int.ofNat ++ (if m k then [Int.ofNat k] else []) := by
  rw [List.range_succ, List.filter_append, List.map_append]
  congr 1
  rw [List.filter_cons, List.filter_nil]; split <;> rfl
theorem filter_i64 (m : Nat → Bool) (k : Nat) (hk : k ≤ 1000) (i : Nat) : I64 (en (((List.range k).filter m).map Int.ofNat) i) := by
  by_cases hi : i < (((List.range k).filter m).map Int.ofNat).length
  · obtain ⟨x, hx, he⟩ := List.mem_map.1 (en_mem _ i hi)
    rw [← he]
    have := List.mem_range.1 (List.mem_filter.1 hx).1
    have h2 : Int.ofNat x = (x : Int) := rfl
    rw [h2]
    exact ⟨by omega, by omega⟩
  · rw [en_of_le _ i (by omega)]; exact ⟨by omega, by omega⟩
set_option maxRecDepth 100000 in
set_option maxHeartbeats 8000000 in
theorem refReach_any (p : Pr) (q : PAt) (w : World) (h : Prg w p q) (hr : rightP p = true) :
    Calls Try.prog 13 #[prV p q] w (GotInts w (reachL p)) := by
  have X_0 := Lib.hid (Bx.new w (prC p q) 26)
  have B_0 := Lib.hid (below_alloc w (.cells (prC p q) 26))
  have P_0 := Lib.hid (h.below B_0.out)
  obtain ⟨ht, hbk⟩ := right_parts hr
  have hsb := szB_not h.szs (tab_parts ht).2
  obtain ⟨_, _, _, hb1, hb6⟩ := hsb
  have HN := Lib.hid h.blks.len
  have HRT := Lib.hid hr
  clear h hr ht hbk
  have HS := Lib.hid (fun f t W (H : Prg W p q) hf => refStarts_any p q f t W H hf HRT.out)
  go_enter Try.func13, Try.ntmps13
  obtain ⟨BX, hBX⟩ : ∃ x, x = w.heap.size := ⟨_, rfl⟩
  rw [← hBX] at X_0
  have HBX := Lib.hid hBX
  clear hBX
  obtain ⟨w1, hw1⟩ : ∃ w1, w1 = w.alloc (.cells (prC p q) 26) := ⟨_, rfl⟩
  rw [← hw1] at X_0 B_0 P_0
  go_upto_region 1 with (fail)
  rw [← hw1]
  try rw [← HBX.out]
  clear hw1
  go_upto_region 2 with (fail)
  have O_0 := Lib.hid (ownb_lit w1)
  have B_1 := Lib.hid (below_alloc w1 (.cells #[] 4))
  have X_1 := Lib.hid (X_0.out.below B_1.out); have P_1 := Lib.hid (P_0.out.below B_1.out)
  have HB0 := Lib.hid (show w1.heap.size ≤ w1.heap.size from Nat.le_refl _)
  obtain ⟨w2, hw2⟩ : ∃ x, x = w1.alloc (.cells #[] 4) := ⟨_, rfl⟩
  have hsz2 : w1.heap.size + 1 = w2.heap.size := by rw [hw2]; simp
  rw [← hw2] at O_0 B_1 X_1 P_1 ⊢
  obtain ⟨B0, hB0⟩ : ∃ x, x = w1.heap.size := ⟨_, rfl⟩
  rw [← hB0] at O_0 B_1 hsz2 ⊢
  have HB0' := Lib.hid hB0
  have HSZ2 := Lib.hid hsz2
  clear hB0 hw2 hsz2 HB0
  obtain ⟨x0, x1, x2, x3, x4, x5⟩ := X_1.out.cells6
  go_wp2_with fail
  clear x0 x1 x2 x3 x4 x5
  go_loopw [3, 13] (fun u i wr => ∃ k : Nat, k ≤ q.bn ∧ i = .int .i64 k ∧ OwnR 4 1 encb wr B0 u ((List.range k).map (fun i => i == 0)) ∧ Below B0 w2 wr) (fun _ i _ => q.bn - (intOf i).toNat)
  case atStart => exact ⟨0, Nat.zero_le _, rfl, O_0.out, Below.refl _ _⟩
  case round =>
    obtain ⟨k, hk, rfl, hown, hbw⟩ := hrel
    have HO := Lib.hid hown; have HW := Lib.hid hbw
    clear hown hbw
    by_cases hlt : k < q.bn
    · have hlt' : (k : Int) < (q.bn : Int) := by omega
      have hl : ((List.range k).map (fun i : Nat => i == 0)).length = k := by simp
      obtain ⟨ua, uc, hu, hur⟩ := OwnR.recs encb_len HO.out
      rw [hl] at hu
      subst hu
      have HSN := Lib.hid (range_snoc (fun i => i == 0) k)
      have HL := Lib.hid hl
      clear hur hl
      by_cases hk0 : k = 0
      · subst hk0
        go_wp2_with (at_builtin; refine wpList_appG encb_len (by decide) encb_one 51 4 1 _ Try.underlying51 inf4b rfl (by decide) rfl _ _ rfl B0 _ ((List.range 0).map (fun i => i == 0)) rfl (OwnR.below HO.out (below_alloc wr _)) ⟨wr.heap.size, 0, none⟩ 1 1 [true] rfl (recs_oneG (t := 4) (heap_alloc_new wr _)) (by simp) (by omega) (by have := HW.out.size; have := HSZ2.out; simp; omega) ?_; intro v' w3 ho hg2)
        have HB3 := Lib.hid (Below.grown (HW.out.alloc (by have := HW.out.size; have := HSZ2.out; omega) _) hg2.out (by have := HW.out.size; have := HSZ2.out; simp; omega) (fun r hr => OwnR.lt HO.out r hr))
        clear hg2
        go_roundw
        case rel => exact ⟨0 + 1, by omega, by go_num, ho.out, HB3.out⟩
        case measure => simp [intOf]; omega
      · have hkb : ((k : Int) == 0) = false := by rw [beq_eq_false_iff_ne]; omega
        have HK0 := Lib.hid (show (k == 0) = false by rw [beq_eq_false_iff_ne]; exact hk0)
        clear hk0
        go_wp2_with (at_builtin; refine wpList_appG encb_len (by decide) encb_one 51 4 1 _ Try.underlying51 inf4b rfl (by decide) rfl _ _ rfl B0 _ ((List.range k).map (fun i => i == 0)) rfl (OwnR.below HO.out (below_alloc wr _)) ⟨wr.heap.size, 0, none⟩ 1 1 [false] rfl (recs_oneG (t := 4) (heap_alloc_new wr _)) (by rw [HL.out]; omega) (by omega) (by have := HW.out.size; have := HSZ2.out; simp; omega) ?_; intro v' w3 ho hg2)
        have HB3 := Lib.hid (Below.grown (HW.out.alloc (by have := HW.out.size; have := HSZ2.out; omega) _) hg2.out (by have := HW.out.size; have := HSZ2.out; simp; omega) (fun r hr => OwnR.lt HO.out r hr))
        clear hg2
        go_roundw
        case rel => exact ⟨k + 1, by omega, by go_num, by rw [HSN.out, HK0.out]; exact ho.out, HB3.out⟩
        case measure => simp [intOf]; omega
    · have hke : k = q.bn := by omega
      subst hke
      clear hlt hk
      have hl : ((List.range q.bn).map (fun i : Nat => i == 0)).length = q.bn := by simp
      obtain ⟨g, uc, hu, hgb⟩ := OwnR.blkb HO.out (by omega)
      rw [hl] at hu
      subst hu
      have HG := Lib.hid hgb
      clear hgb hl
      have HKP := Lib.hid (fun W (H : Below B0 w2 W) => show Below w1.heap.size w1 W by rw [← HB0'.out]; exact B_1.out.trans H)
      have HN1 := Lib.hid (show 1 ≤ q.bn ∧ q.bn ≤ 6 from ⟨hb1, hb6⟩)
      obtain ⟨S, hS⟩ : ∃ S, S = SM p := ⟨_, rfl⟩
      have HSS := Lib.hid hS
      clear hS
      obtain ⟨n, hn⟩ : ∃ n, n = q.bn := ⟨_, rfl⟩
      have HNN := Lib.hid hn
      rw [← hn] at HS HO HN1 hb1 hb6 ⊢
      clear hn
      obtain ⟨x0, x1, x2, x3, x4, x5⟩ := (X_0.out.below (HKP.out _ HW.out)).cells6
      rw [← HNN.out] at x5
      go_wp2_with fail
      clear x0 x1 x2 x3 x4 x5
      go_loopw [25] (fun i wa => ∃ k : Nat, k ≤ n ∧ i = .int .i64 k ∧ OwnR 4 1 encb wa B0 (.slice (some ⟨g, 0, none⟩) n uc) ((List.range n).map (roundsM n S (fun i => i == 0) k)) ∧ Below B0 w2 wa) (fun i _ => n - (intOf i).toNat)
      case atStart => exact ⟨0, Nat.zero_le _, rfl, HO.out, HW.out⟩
      case round =>
        clear HO HW
        obtain ⟨k, hk, rfl, hown, hbw⟩ := hrel
        have HO := Lib.hid hown; have HW := Lib.hid hbw
        clear hown hbw
        by_cases hlt : k < n
        · have hlt' : (k : Int) < (n : Int) := by omega
          have HR := Lib.hid (show roundsM n S (fun i => i == 0) (k + 1) = midM n S (roundsM n S (fun i => i == 0) k) n from rfl)
          obtain ⟨M, hM⟩ : ∃ M, M = roundsM n S (fun i => i == 0) k := ⟨_, rfl⟩
          rw [← hM] at HO HR
          clear hM
          obtain ⟨x0, x1, x2, x3, x4, x5⟩ := (X_0.out.below (HKP.out _ HW.out)).cells6
          rw [← HNN.out] at x5
          go_wp2_with fail
          clear x0 x1 x2 x3 x4 x5
          go_loopw [30] (fun i wb => ∃ j : Nat, j ≤ n ∧ i = .int .i64 j ∧ OwnR 4 1 encb wb B0 (.slice (some ⟨g, 0, none⟩) n uc) ((List.range n).map (midM n S M j)) ∧ Below B0 w2 wb) (fun i _ => n - (intOf i).toNat)
          case atStart => exact ⟨0, Nat.zero_le _, rfl, HO.out, HW.out⟩
          case round =>
            clear HO HW
            obtain ⟨j, hj, rfl, hown, hbw⟩ := hrel
            have HO := Lib.hid hown; have HW := Lib.hid hbw
            clear hown hbw
            by_cases hlj : j < n
            · have hlj' : (j : Int) < (n : Int) := by omega
              have HR2 := Lib.hid (show midM n S M (j + 1) = innerM S (midM n S M j) j n from rfl)
              obtain ⟨M2, hM⟩ : ∃ M2, M2 = midM n S M j := ⟨_, rfl⟩
              rw [← hM] at HO HR2
              clear hM
              obtain ⟨x0, x1, x2, x3, x4, x5⟩ := (X_0.out.below (HKP.out _ HW.out)).cells6
              rw [← HNN.out] at x5
              go_wp2_with fail
              clear x0 x1 x2 x3 x4 x5
              go_loopw [36] (fun i wc => ∃ t : Nat, t ≤ n ∧ i = .int .i64 t ∧ OwnR 4 1 encb wc B0 (.slice (some ⟨g, 0, none⟩) n uc) ((List.range n).map (innerM S M2 j t)) ∧ Below B0 w2 wc) (fun i _ => n - (intOf i).toNat)
              case atStart => exact ⟨0, Nat.zero_le _, rfl, HO.out, HW.out⟩
              case round =>
                clear HO HW
                obtain ⟨t, ht, rfl, hown, hbw⟩ := hrel
                have HO := Lib.hid hown; have HW := Lib.hid hbw
                clear hown hbw
                by_cases hlt2 : t < n
                · have hlt2' : (t : Int) < (n : Int) := by omega
                  have HR3 := Lib.hid (show innerM S M2 j (t + 1) = stepM S (innerM S M2 j t) j t from rfl)
                  obtain ⟨M3, hM⟩ : ∃ M3, M3 = innerM S M2 j t := ⟨_, rfl⟩
                  rw [← hM] at HO HR3
                  clear hM
                  obtain ⟨hcj, hfj, hgj⟩ := HO.out.readb j (by simpa using hlj) (range_at M3 hlj)
                  clear hfj hgj
                  cases hmj : M3 j with
                  | false =>
                    rw [hmj] at hcj
                    have R := Lib.hid (show stepM S M3 j t = M3 from step_no (by rw [hmj]; rfl))
                    clear hmj
                    go_wp2_with fail
                    go_roundw
                    case rel => exact ⟨t + 1, by omega, by go_num, by rw [HR3.out, R.out]; exact HO.out, HW.out⟩
                    case measure => simp [intOf]; omega
                  | true =>
                    rw [hmj] at hcj
                    have HMJ := Lib.hid hmj
                    clear hmj
                    have HC := Lib.hid (HS.out j t wr (P_0.out.below (HKP.out _ HW.out)) hlj)
                    obtain ⟨x0, x1, x2, x3, x4, x5⟩ := (X_0.out.below (HKP.out _ HW.out)).cells6
                    go_wp2_with fail
                    clear x0 x1 x2 x3 x4 x5
                    refine HC.out.mono ?_
                    rintro e w4 ⟨x, hx, rfl, hb⟩
                    have HO4 := Lib.hid (HO.out.below hb)
                    have HW4 := Lib.hid (HW.out.trans (Below.mono hb (Nat.le_trans (by have := HSZ2.out; omega) HW.out.size)))
                    have HX := Lib.hid (show S j t = stB x t by rw [HSS.out, SM, hx])
                    clear hb hx
                    cases hst : stB x t with
                    | false =>
                      have R := Lib.hid (show stepM S M3 j t = M3 from step_no (by rw [HX.out, hst]; simp))
                      clear hst
                      go_wp2_with fail
                      go_roundw
                      case rel => exact ⟨t + 1, by omega, by go_num, by rw [HR3.out, R.out]; exact HO4.out, HW4.out⟩
                      case measure => simp [intOf]; omega
                    | true =>
                      have R := Lib.hid (show ((List.range n).map M3).set t true = (List.range n).map (stepM S M3 j t) from range_step HMJ.out (by rw [HX.out, hst]))
                      clear hst
                      obtain ⟨hct, hft, hgt⟩ := HO4.out.readb t (by simpa using hlt2) (range_at M3 hlt2)
                      go_wp2_with fail
                      go_roundw
                      case rel => exact ⟨t + 1, by omega, by go_num, by rw [HR3.out, ← R.out]; exact HO4.out.setb t true, HW4.out.setCell (by exact HG.out) _⟩
                      case measure => simp [intOf]; omega
                · have hte : t = n := by omega
                  subst hte
                  go_wp2_with fail
                  go_roundw
                  case rel => exact ⟨j + 1, by omega, by go_num, by rw [HR2.out]; exact HO.out, HW.out⟩
                  case measure => simp [intOf]; omega
            · have hje : j = n := by omega
              subst hje
              go_wp2_with fail
              go_roundw
              case rel => exact ⟨k + 1, by omega, by go_num, by rw [HR.out]; exact HO.out, HW.out⟩
              case measure => simp [intOf]; omega
        · have hke : k = n := by omega
          subst hke
          have HRE := Lib.hid (show reachL p = ((List.range k).filter (roundsM k S (fun i => i == 0) k)).map Int.ofNat by rw [reachL, HN.out, ← HNN.out, ← HSS.out])
          obtain ⟨M, hM⟩ : ∃ M, M = roundsM k S (fun i => i == 0) k := ⟨_, rfl⟩
          rw [← hM] at HO HRE
          clear hM
          go_upto_region 20 with (fail)
          have B_4 := Lib.hid (below_alloc wr (.cells #[] 3))
          have O_4 := Lib.hid (own_nil wr)
          have HO4 := Lib.hid (HO.out.below B_4.out)
          have HW4 := Lib.hid (HW.out.trans (Below.mono B_4.out (Nat.le_trans (by have := HSZ2.out; omega) HW.out.size)))
          obtain ⟨w5, hw5⟩ : ∃ x, x = wr.alloc (.cells #[] 3) := ⟨_, rfl⟩
          have HSZ5 := Lib.hid (show wr.heap.size + 1 = w5.heap.size by rw [hw5]; simp)
          rw [← hw5] at B_4 O_4 HO4 HW4 ⊢
          clear hw5
          obtain ⟨B5, hB5⟩ : ∃ x, x = wr.heap.size := ⟨_, rfl⟩
          have HB05 := Lib.hid (show B0 ≤ B5 by have := HSZ2.out; have := HW.out.size; omega)
          have HGL := Lib.hid (show g < B5 by rw [hB5]; exact (HO.out.readb 0 (by simp; omega) (range_at M (by omega))).2.2)
          rw [← hB5] at B_4 O_4 HSZ5 ⊢
          clear hB5
          go_wp2_with fail
          go_loopw [6, 58] (fun u i wr => ∃ j : Nat, j ≤ k ∧ i = .int .i64 j ∧ Own wr B5 u (((List.range j).filter M).map Int.ofNat) ∧ Below B5 w5 wr) (fun _ i _ => k - (intOf i).toNat)
          case atStart => exact ⟨0, Nat.zero_le _, rfl, O_4.out, Below.refl _ _⟩
          case round =>
            obtain ⟨j, hj, rfl, hown, hbw⟩ := hrel
            have HF := Lib.hid hown; have HV := Lib.hid hbw
            clear hown hbw
            have HB5 := Lib.hid (show B5 ≤ wr.heap.size by have := HV.out.size; have := HSZ5.out; omega)
            by_cases hlj : j < k
            · have hlj' : (j : Int) < (k : Int) := by omega
              have HSN := Lib.hid (filter_snoc M j)
              obtain ⟨hcj, hfj, hgj⟩ := HO4.out.readb j (by simpa using hlj) (range_at M hlj)
              have hcw := (HV.out.cell (p := ⟨g, j, none⟩) HGL.out).trans hcj
              clear hcj hfj hgj
              cases hmj : M j with
              | false =>
                rw [hmj] at hcw
                have R := Lib.hid (show ((List.range (j + 1)).filter M).map Int.ofNat = ((List.range j).filter M).map Int.ofNat by rw [HSN.out, hmj]; simp)
                clear hmj
                go_wp2_with fail
                go_roundw
                case rel => exact ⟨j + 1, by omega, by go_num, by rw [R.out]; exact HF.out, HV.out⟩
                case measure => simp [intOf]; omega
              | true =>
                rw [hmj] at hcw
                have R := Lib.hid (show ((List.range (j + 1)).filter M).map Int.ofNat = ((List.range j).filter M).map Int.ofNat ++ [(j : Int)] by rw [HSN.out, hmj]; rfl)
                have HFL := Lib.hid (show (((List.range j).filter M).map Int.ofNat).length ≤ 1000000 by rw [List.length_map]; refine Nat.le_trans (List.length_filter_le _ _) ?_; simp; omega)
                clear hmj
                go_wp2_with (at_builtin; refine app1 rfl _ _ rfl B5 _ (((List.range j).filter M).map Int.ofNat) rfl HF.out j rfl HFL.out w5 HV.out HB5.out ?_; intro v' w6 ho hb6)
                go_roundw
                case rel => exact ⟨j + 1, by omega, by go_num, by rw [R.out]; exact ho.out, hb6.out⟩
                case measure => simp [intOf]; omega
            · have hje : j = k := by omega
              subst hje
              obtain ⟨ua, uc2, hu, hi⟩ := Own.ints HF.out (filter_i64 M j (by omega))
              subst hu
              have HI := Lib.hid hi
              clear hi
              go_wp2_with fail
              go_ret
              exact ⟨ua, _, uc2, rfl, by rw [HRE.out]; exact HI.out, B_0.out.trans (Below.mono (HKP.out _ (HW4.out.trans (Below.mono HV.out HB05.out))) B_0.out.size)⟩
end Go.Proofs.Ytdjfgodjdcfibaa
