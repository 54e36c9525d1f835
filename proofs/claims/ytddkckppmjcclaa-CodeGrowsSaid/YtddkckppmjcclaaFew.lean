/- few. -/
import Derived.Test.YtddkckppmjcclaaCount
import Derived.Test.YtddkckppmjcclaaApp
import Derived.Deep.DeepCutAuto
namespace Go.Proofs.Ytddkckppmjcclaa
open Go.RowKit
set_option linter.unusedSimpArgs false
set_option linter.unusedVariables false
theorem alloc_two (w : World) (A B : Obj) : ((w.alloc A).alloc B).heap[w.heap.size + 1]? = some B := by
  have := heap_alloc_new (w.alloc A) B
  rwa [World.size_alloc] at this
def fewS (s : Sel) : Sel := ⟨s.cs.take 6, s.d⟩
def fewP (p : Pr) : Pr := ⟨p.caps.take 6, p.mu, p.on, p.va, (p.sels.take 6).map fewS, (p.blks.take 8).map (·.take 30)⟩
/-- a program that reads so in the last world, and in each other one that keeps what lay below v, and the blocks that the call made -/
def GotP (v w : World) (p : Pr) (e : Ending) (w' : World) : Prop := ∃ q, e = .returned (prV p q) ∧ (∀ W', Below v.heap.size v W' → (∀ g, w.heap.size < g + 1 → W'.heap[g]? = w'.heap[g]?) → Prg W' p q) ∧ Below w.heap.size w w'
theorem Recs.other {α : Type} {k : Nat} {enc : α → List Value} {w w' : World} {a : Option Addr} {len cap : Nat} {L : List α} (h : Recs k enc w a len cap L) (hk : ∀ x, a = some x → w'.heap[x.block]? = w.heap[x.block]?) : Recs k enc w' a len cap L := by
  refine ⟨h.len_eq, h.le_cap, h.cap_le, h.none_, fun i x hx => ?_⟩
  obtain ⟨b, off, e, hc⟩ := h.cell i x hx
  refine ⟨b, off, e, fun j v hv => ?_⟩
  have h1 := hc j v hv
  rw [← h1]
  have := hk _ e
  simp only [] at this
  simp [World.cell?, this]
theorem map_snocT {α β : Type} {L : List α} {k : Nat} {x : α} (hx : L[k]? = some x) (f : α → β) : (L.take (k + 1)).map f = (L.take k).map f ++ [f x] := by
  rw [take_snocP hx, List.map_append]; rfl
theorem inf26 : (Try.prog.info? 26).map (·.size) = some 6 := by kernel_rfl
theorem set_atB {W : World} {B : Nat} {cs : Array Value} {t : TypeId} (h : Bx W B cs t) (j : Nat) (v : Value) : Bx (W.setCell ⟨B, j, none⟩ v) B (cs.setIfInBounds j v) t := by
  obtain ⟨hlt, hk⟩ := Array.getElem?_eq_some_iff.1 h
  show (W.heap.modify B _)[B]? = _
  rw [Array.getElem?_eq_getElem (by rw [Array.size_modify]; exact hlt), Array.getElem_modify_self, hk]
  rfl
abbrev set8 (W : World) (BK BX : Nat) (s b c m o v : Value) : World := (((((((W.setCell ⟨BK, 4, none⟩ s).setCell ⟨BK, 5, none⟩ b).setCell ⟨BX, 0, none⟩ c).setCell ⟨BX, 1, none⟩ m).setCell ⟨BX, 2, none⟩ o).setCell ⟨BX, 3, none⟩ v).setCell ⟨BX, 4, none⟩ s).setCell ⟨BX, 5, none⟩ b
theorem set8_below {w W : World} {n₀ BK BX : Nat} (h : Below n₀ w W) (hK : n₀ ≤ BK) (hX : n₀ ≤ BX) (s b c m o v : Value) : Below n₀ w (set8 W BK BX s b c m o v) :=
  (((((((h.setCell (p := ⟨BK, 4, none⟩) hK _).setCell (p := ⟨BK, 5, none⟩) hK _).setCell (p := ⟨BX, 0, none⟩) hX _).setCell (p := ⟨BX, 1, none⟩) hX _).setCell (p := ⟨BX, 2, none⟩) hX _).setCell (p := ⟨BX, 3, none⟩) hX _).setCell (p := ⟨BX, 4, none⟩) hX _).setCell (p := ⟨BX, 5, none⟩) hX _
theorem few_end {W : World} {BK BX : Nat} {kc : Array Value} {x0 x1 x2 x3 x4 x5 : Value} {t t2 : TypeId} (hK : Bx W BK kc t) (hX : Bx W BX #[x0, x1, x2, x3, x4, x5] t2) (hne : BK ≠ BX) (s b c m o v : Value) :
    Bx (set8 W BK BX s b c m o v) BX #[c, m, o, v, s, b] t2 ∧ ∀ g, BK < g → BX < g → (set8 W BK BX s b c m o v).heap[g]? = W.heap[g]? := by
  refine ⟨?_, fun g h1 h2 => ?_⟩
  · have h0 : Bx ((W.setCell ⟨BK, 4, none⟩ s).setCell ⟨BK, 5, none⟩ b) BX #[x0, x1, x2, x3, x4, x5] t2 := by
      unfold Bx
      rw [Below.heap_setCell _ _ _ _ (by exact hne.symm), Below.heap_setCell _ _ _ _ (by exact hne.symm)]
      exact hX
    unfold set8
    generalize (W.setCell ⟨BK, 4, none⟩ s).setCell ⟨BK, 5, none⟩ b = W0 at h0 ⊢
    have a0 : Bx (W0.setCell ⟨BX, 0, none⟩ c) BX #[c, x1, x2, x3, x4, x5] t2 := set_atB h0 0 c
    generalize W0.setCell ⟨BX, 0, none⟩ c = W1 at a0 ⊢
    have a1 : Bx (W1.setCell ⟨BX, 1, none⟩ m) BX #[c, m, x2, x3, x4, x5] t2 := set_atB a0 1 m
    generalize W1.setCell ⟨BX, 1, none⟩ m = W2 at a1 ⊢
    have a2 : Bx (W2.setCell ⟨BX, 2, none⟩ o) BX #[c, m, o, x3, x4, x5] t2 := set_atB a1 2 o
    generalize W2.setCell ⟨BX, 2, none⟩ o = W3 at a2 ⊢
    have a3 : Bx (W3.setCell ⟨BX, 3, none⟩ v) BX #[c, m, o, v, x4, x5] t2 := set_atB a2 3 v
    generalize W3.setCell ⟨BX, 3, none⟩ v = W4 at a3 ⊢
    have a4 : Bx (W4.setCell ⟨BX, 4, none⟩ s) BX #[c, m, o, v, s, x5] t2 := set_atB a3 4 s
    generalize W4.setCell ⟨BX, 4, none⟩ s = W5 at a4 ⊢
    exact set_atB a4 5 b
  · unfold set8
    iterate 6 rw [Below.heap_setCell _ _ _ _ (by exact (Nat.ne_of_gt h2))]
    iterate 2 rw [Below.heap_setCell _ _ _ _ (by exact (Nat.ne_of_gt h1))]
set_option maxRecDepth 100000 in
set_option maxHeartbeats 8000000 in
theorem few_any (p : Pr) (q : PAt) (v w : World) (h : Prg v p q) (hv : Below v.heap.size v w) : Calls Try.prog 8 #[prV p q] w (GotP v w (fewP p)) := by
  have HV := Lib.hid hv; clear hv
  have hc1 := h.caps.le_cap
  have hc2 := h.caps.cap_le
  have hs1 := h.sels.caps
  have hb1 := h.blks.caps
  unfold maxLen at hc2 hs1 hb1
  have HH := Lib.hid h; clear h
  obtain ⟨c1, hc1e⟩ : ∃ n, n = min q.cn 6 := ⟨_, rfl⟩
  obtain ⟨s1, hs1e⟩ : ∃ n, n = min q.sn 6 := ⟨_, rfl⟩
  obtain ⟨b1, hb1e⟩ : ∃ n, n = min q.bn 8 := ⟨_, rfl⟩
  have HC1 := Lib.hid hc1e; have HS1 := Lib.hid hs1e; have HB1 := Lib.hid hb1e
  clear hc1e hs1e hb1e
  unfold prV prC
  go_enter Try.func8, Try.ntmps8
  go_upto_region 1 with (fail)
  go_cut [14] (fun z wx => z = .int .i64 c1 ∧ wx = (w.alloc (.cells #[.slice q.ca c1 q.cc, .int .i64 p.mu, .int .i64 p.on, .int .i64 p.va, .slice q.sa q.sn q.sc, .slice q.ba q.bn q.bc] 26)).alloc (.cells #[.slice none 0 0, .int .i64 0, .int .i64 0, .int .i64 0, .slice none 0 0, .slice none 0 0] 26))
  case first =>
    by_cases h6 : q.cn ≤ 6
    · have h' : (q.cn : Int) ≤ 6 := by omega
      have hcc : c1 = q.cn := by have := HC1.out; omega
      subst hcc
      clear HC1
      go_wp2_with fail
      go_meet
      exact ⟨rfl, rfl⟩
    · have h' : (6 : Int) < (q.cn : Int) := by omega
      have hcc : c1 = 6 := by have := HC1.out; omega
      subst hcc
      clear HC1
      go_wp2_with fail
      go_meet
      exact ⟨rfl, rfl⟩
  case rest =>
    obtain ⟨rfl, rfl⟩ := hcut
    obtain ⟨X0, hX0⟩ : ∃ x, x = (w.alloc (.cells #[.slice q.ca c1 q.cc, .int .i64 p.mu, .int .i64 p.on, .int .i64 p.va, .slice q.sa q.sn q.sc, .slice q.ba q.bn q.bc] 26)).alloc (.cells #[.slice none 0 0, .int .i64 0, .int .i64 0, .int .i64 0, .slice none 0 0, .slice none 0 0] 26) := ⟨_, rfl⟩
    obtain ⟨BX, hBX⟩ : ∃ x, x = w.heap.size + 1 := ⟨_, rfl⟩
    obtain ⟨BK, hBK⟩ : ∃ x, x = w.heap.size := ⟨_, rfl⟩
    have K_0 := Lib.hid (show Bx X0 BK #[.slice q.ca c1 q.cc, .int .i64 p.mu, .int .i64 p.on, .int .i64 p.va, .slice q.sa q.sn q.sc, .slice q.ba q.bn q.bc] 26 by rw [hX0, hBK]; exact (Bx.new w _ 26).below (below_alloc _ _))
    have X_0 := Lib.hid (show Bx X0 BX #[.slice none 0 0, .int .i64 0, .int .i64 0, .int .i64 0, .slice none 0 0, .slice none 0 0] 26 by rw [hX0, hBX]; exact Bx.new2 w _ _ 26)
    have B_0 := Lib.hid (show Below w.heap.size w X0 by rw [hX0]; exact (below_alloc w _).alloc (by simp) _)
    have HKX := Lib.hid (show w.heap.size ≤ BK ∧ w.heap.size ≤ BX ∧ BK ≠ BX by omega)
    have hKX : BK ≠ BX := by omega
    have hXK : BX ≠ BK := by omega
    rw [← hX0, ← hBX, ← hBK]
    clear hX0 hBX hBK
    obtain ⟨k0, k1, k2, k3, k4, k5⟩ := K_0.out.cells6
    go_upto_region 3 with (fail)
    go_cut [23, 24, 25] (fun s n i wx => s = .slice q.sa s1 q.sc ∧ n = .int .i64 s1 ∧ i = .int .i64 0 ∧ X0 = wx)
    case first =>
      by_cases h6 : q.sn ≤ 6
      · have h' : (q.sn : Int) ≤ 6 := by omega
        have hcc : s1 = q.sn := by have := HS1.out; omega
        subst hcc
        clear HS1
        go_wp2_with fail
        go_meet
        exact ⟨rfl, rfl, rfl, rfl⟩
      · have h' : (6 : Int) < (q.sn : Int) := by omega
        have hcc : s1 = 6 := by have := HS1.out; omega
        subst hcc
        clear HS1
        go_wp2_with fail
        go_meet
        exact ⟨rfl, rfl, rfl, rfl⟩
    case rest =>
      obtain ⟨rfl, rfl, rfl, rfl⟩ := hcut
      clear k0 k1 k2 k3 k4 k5
      have hs16 : s1 ≤ 6 := by have := HS1.out; omega
      have HSE := Lib.hid (show s1 = min q.sn 6 from HS1.out)
      have hsle : s1 ≤ q.sn := by have := HS1.out; omega
      go_wp2_with fail
      go_loopw [3, 25] (fun u i wr => ∃ (k : Nat) (R : List RSel), k ≤ s1 ∧ i = .int .i64 k ∧ OwnR 47 2 encS wr X0.heap.size u R ∧ All2 (SelOf v) R ((p.sels.take k).map fewS) ∧ Below X0.heap.size X0 wr) (fun _ i _ => s1 - (intOf i).toNat)
      case atStart => exact ⟨0, [], Nat.zero_le _, rfl, ownG_nil _ _ _, trivial, Below.refl _ _⟩
      case round =>
        obtain ⟨k, R, hk, rfl, hown, hall, hbel⟩ := hrel
        have HO := Lib.hid hown; have HA := Lib.hid hall; have HW := Lib.hid hbel
        clear hown hall hbel
        by_cases hlt : k < s1
        · have hlt' : (k : Int) < (s1 : Int) := by omega
          have hBW := HV.out.trans (Below.mono (B_0.out.trans (Below.mono HW.out B_0.out.size)) HV.out.size)
          obtain ⟨x, b, off, ca, cn, cc, hx, hsa, d0, d1, hcs⟩ := HH.out.sels.at k (by omega)
          have e0 := (hBW.cell (p := ⟨b, off + k * 2, none⟩) (World.block_lt_of_cell? _ _ d0)).trans d0
          have e1 := (hBW.cell (p := ⟨b, off + k * 2 + 1, none⟩) (World.block_lt_of_cell? _ _ d1)).trans d1
          have HMS := Lib.hid (map_snocT hx fewS)
          have HSO := Lib.hid (show SelOf v ⟨ca, min cn 6, cc, x.d⟩ (fewS x) from ⟨rfl, hcs.take 6⟩)
          have hccl := hcs.recs.le_cap
          have hccc := hcs.recs.cap_le
          unfold maxLen at hccc
          have hRl := HA.out.len
          rw [List.length_map, List.length_take] at hRl
          have hR6 : R.length ≤ 6 := by omega
          clear d0 d1 hx hcs hBW hRl
          rw [hsa]
          obtain ⟨n2, hn2⟩ : ∃ n, n = min cn 6 := ⟨_, rfl⟩
          rw [← hn2] at HSO
          by_cases h6 : cn ≤ 6
          all_goals
            first
            | (have h6' : (cn : Int) ≤ 6 := by omega
               have hnc : n2 = cn := by omega)
            | (have h6' : (6 : Int) < (cn : Int) := by omega
               have hnc : n2 = 6 := by omega)
            subst hnc
            clear hn2
            go_wp2_with (at_builtin; refine wpList_appG encS_len (by decide) encS_one 23 47 32 _ Try.underlying23 inf46 rfl (by decide) rfl _ _ rfl X0.heap.size _ R rfl (OwnR.below HO.out ((below_alloc wr _).alloc (by simp) _)) ⟨wr.heap.size + 1, 0, none⟩ 1 1 [⟨ca, _, cc, x.d⟩] rfl (recs_oneG (t := 47) (alloc_two wr _ _)) (by omega) (by omega) (by have := HW.out.size; simp; omega) ?_; intro v' w2 ho hg2)
            have HB2 := Lib.hid (Below.grown (belowX_alloc (belowX_alloc HW.out _) _) hg2.out (by have := HW.out.size; simp; omega) (fun r hr => OwnR.lt HO.out r hr))
            clear hg2
            go_roundw
            case rel => exact ⟨k + 1, _, by omega, by go_num, ho.out, by rw [HMS.out]; exact HA.out.snoc HSO.out, HB2.out⟩
            case measure => simp [intOf]; omega
        · have hke : k = s1 := by omega
          have HT := Lib.hid (show (p.sels.take k).map fewS = (p.sels.take 6).map fewS from by rw [hke, HSE.out]; congr 1; have := HH.out.sels.len; rw [← this]; rw [Nat.min_comm]; exact (List.take_eq_take_min).symm)
          have hall := HA.out
          rw [HT.out] at hall
          have HA2 := Lib.hid hall
          have hkI : (s1 : Int) ≤ (k : Int) := by omega
          have hBW := Lib.hid (B_0.out.trans (Below.mono HW.out B_0.out.size))
          clear hall HA HT hke
          obtain ⟨sa2, sc2, rfl, hrec⟩ := OwnR.recs encS_len HO.out
          have HRS := Lib.hid hrec; have HSL := Lib.hid (OwnR.lt HO.out); clear hrec HO
          obtain ⟨x0, x1, x2, x3, x4, x5⟩ := (K_0.out.below HW.out).cells6
          go_upto_region 10 with (fail)
          go_cut [48, 49, 50] (fun s n i wx => s = .slice q.ba b1 q.bc ∧ n = .int .i64 b1 ∧ i = .int .i64 0 ∧ wr = wx)
          case first =>
            by_cases h6 : q.bn ≤ 8
            · have h' : (q.bn : Int) ≤ 8 := by omega
              have hcc : b1 = q.bn := by have := HB1.out; omega
              subst hcc
              clear HB1
              go_wp2_with fail
              go_meet
              exact ⟨rfl, rfl, rfl, rfl⟩
            · have h' : (8 : Int) < (q.bn : Int) := by omega
              have hcc : b1 = 8 := by have := HB1.out; omega
              subst hcc
              clear HB1
              go_wp2_with fail
              go_meet
              exact ⟨rfl, rfl, rfl, rfl⟩
          case rest =>
            obtain ⟨rfl, rfl, rfl, rfl⟩ := hcut
            clear x0 x1 x2 x3 x4 x5
            obtain ⟨wo, rfl⟩ : ∃ wo : World, wo = wr := ⟨_, rfl⟩
            have hb18 : b1 ≤ 8 := by have := HB1.out; omega
            have hble : b1 ≤ q.bn := by have := HB1.out; omega
            go_wp2_with fail
            go_loopw [6, 50] (fun u i w2 => ∃ (m : Nat) (R2 : List RBlk), m ≤ b1 ∧ i = .int .i64 m ∧ OwnR 42 1 encB w2 wo.heap.size u R2 ∧ All2 (BlkOf v) R2 ((p.blks.take m).map (·.take 30)) ∧ Below wo.heap.size wo w2) (fun _ i _ => b1 - (intOf i).toNat)
            case atStart => exact ⟨0, [], Nat.zero_le _, rfl, ownG_nil _ _ _, trivial, Below.refl _ _⟩
            case round =>
              obtain ⟨m, R2, hm, rfl, hown, hall, hbel⟩ := hrel
              have HO2 := Lib.hid hown; have HAL := Lib.hid hall; have HW2 := Lib.hid hbel
              clear hown hall hbel
              have hbw2 := HV.out.trans (Below.mono (hBW.out.trans (Below.mono HW2.out hBW.out.size)) HV.out.size)
              by_cases hlm : m < b1
              · have hlm' : (m : Int) < (b1 : Int) := by omega
                obtain ⟨x, b, off, ca, cn, cc, hx, hba, d0, hblk⟩ := HH.out.blks.at m (by omega)
                have e0 := (hbw2.cell (p := ⟨b, off + m, none⟩) (World.block_lt_of_cell? _ _ d0)).trans d0
                have HMS := Lib.hid (map_snocT hx (fun (l : List Ins) => l.take 30))
                have HBO := Lib.hid (show BlkOf v ⟨ca, min cn 30, cc⟩ (x.take 30) from hblk.take 30)
                have hccl := hblk.recs.le_cap
                have hccc := hblk.recs.cap_le
                unfold maxLen at hccc
                have hRl := HAL.out.len
                rw [List.length_map, List.length_take] at hRl
                have hR8 : R2.length ≤ 8 := by omega
                clear d0 hx hblk hbw2 hRl
                rw [hba]
                obtain ⟨n2, hn2⟩ : ∃ n, n = min cn 30 := ⟨_, rfl⟩
                rw [← hn2] at HBO
                by_cases h6 : cn ≤ 30
                all_goals
                  first
                  | (have h6' : (cn : Int) ≤ 30 := by omega
                     have hnc : n2 = cn := by omega)
                  | (have h6' : (30 : Int) < (cn : Int) := by omega
                     have hnc : n2 = 30 := by omega)
                  subst hnc
                  clear hn2
                  go_wp2_with (at_builtin; refine wpList_appG encB_len (by decide) encB_one 24 42 24 _ Try.underlying24 inf41 rfl (by decide) rfl _ _ rfl wo.heap.size _ R2 rfl (OwnR.below HO2.out (below_alloc wr _)) ⟨wr.heap.size, 0, none⟩ 1 1 [⟨ca, _, cc⟩] rfl (recs_oneG (t := 42) (heap_alloc_new wr _)) (by omega) (by omega) (by have := HW2.out.size; simp; omega) ?_; intro v' w3 ho hg2)
                  have HB2 := Lib.hid (Below.grown (belowX_alloc HW2.out _) hg2.out (by have := HW2.out.size; simp; omega) (fun r hr => OwnR.lt HO2.out r hr))
                  clear hg2
                  go_roundw
                  case rel => exact ⟨m + 1, _, by omega, by go_num, ho.out, by rw [HMS.out]; exact HAL.out.snoc HBO.out, HB2.out⟩
                  case measure => simp [intOf]; omega
              · have hme : m = b1 := by omega
                have HT := Lib.hid (show (p.blks.take m).map (·.take 30) = (p.blks.take 8).map (·.take 30) from by rw [hme, HB1.out]; congr 1; have := HH.out.blks.len; rw [← this]; rw [Nat.min_comm]; exact (List.take_eq_take_min).symm)
                have hall := HAL.out
                rw [HT.out] at hall
                have HAL2 := Lib.hid hall
                have hmI : (b1 : Int) ≤ (m : Int) := by omega
                clear hall HAL HT hme
                obtain ⟨la2, lc2, rfl, hrec⟩ := OwnR.recs encB_len HO2.out
                have HRB := Lib.hid hrec; have HBL := Lib.hid (OwnR.lt HO2.out); clear hrec HO2
                have HXW := Lib.hid (HW.out.trans (Below.mono HW2.out HW.out.size))
                have K_2 := Lib.hid (K_0.out.below HXW.out); have X_2 := Lib.hid (X_0.out.below HXW.out)
                obtain ⟨k0, k1, k2, k3, k4, k5⟩ := K_2.out.cells6
                obtain ⟨x0, x1, x2, x3, x4, x5⟩ := X_2.out.cells6
                have lk := K_2.out.lt; have lx := X_2.out.lt
                have g4 := K_2.out.froz 4; have g5 := K_2.out.froz 5
                have f0 := X_2.out.froz 0; have f1 := X_2.out.froz 1; have f2 := X_2.out.froz 2; have f3 := X_2.out.froz 3; have f4 := X_2.out.froz 4; have f5 := X_2.out.froz 5
                go_wp2_with fail
                have D := few_end K_2.out X_2.out HKX.out.2.2 (.slice sa2 R.length sc2) (.slice la2 R2.length lc2) (.slice q.ca c1 q.cc) (.int .i64 p.mu) (.int .i64 p.on) (.int .i64 p.va)
                have hbf := set8_below (hBW.out.trans (Below.mono HW2.out hBW.out.size)) HKX.out.1 HKX.out.2.1 (.slice sa2 R.length sc2) (.slice la2 R2.length lc2) (.slice q.ca c1 q.cc) (.int .i64 p.mu) (.int .i64 p.on) (.int .i64 p.va)
                refine bodyPost_ret (v := prV (fewP p) ⟨q.ca, c1, q.cc, sa2, R.length, sc2, la2, R2.length, lc2⟩) (by first | (rw [res_c0 Try.results8 _ (by rfl) (D.1.load Try.underlying26 inf26)]; rfl)) rfl ⟨⟨q.ca, c1, q.cc, sa2, R.length, sc2, la2, R2.length, lc2⟩, rfl, fun W' hb' hk' => ⟨?_, HH.out.mu, HH.out.on, HH.out.va, ⟨R, ((HRS.out.below HW2.out).other (fun x hx => D.2 _ ?_ ?_)).other (fun x hx => hk' _ ?_), HA2.out.mono fun r x hr => ⟨hr.1, hr.2.below hb'⟩⟩, ⟨R2, (HRB.out.other (fun x hx => D.2 _ ?_ ?_)).other (fun x hx => hk' _ ?_), HAL2.out.mono fun r x hr => Blk.below hr hb'⟩⟩, hbf⟩
                · have := (HH.out.caps.take 6).below hb'
                  rw [← HC1.out] at this; exact this
                · have h1 := HSL.out x.block (by rw [hx]; rfl); have h2 := K_0.out.lt; omega
                · have h1 := HSL.out x.block (by rw [hx]; rfl); have h2 := X_0.out.lt; omega
                · have h1 := HSL.out x.block (by rw [hx]; rfl); have h2 := B_0.out.size; omega
                · have h1 := HBL.out x.block (by rw [hx]; rfl); have h2 := (K_0.out.below HW.out).lt; omega
                · have h1 := HBL.out x.block (by rw [hx]; rfl); have h2 := (X_0.out.below HW.out).lt; omega
                · have h1 := HBL.out x.block (by rw [hx]; rfl); have h2 := hBW.out.size; omega
end Go.Proofs.Ytddkckppmjcclaa
