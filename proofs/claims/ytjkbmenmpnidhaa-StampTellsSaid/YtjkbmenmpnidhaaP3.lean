/- The edges of an event, rising. -/
import Derived.Test.YtjkbmenmpnidhaaP2
import Derived.Test.YtjkbmenmpnidhaaSh
import Derived.Test.YtjkbmenmpnidhaaE3
import Derived.Sort.OwnSortedInts
import Derived.Lib.RowBridge
namespace Go.Proofs.Ytjkbmenmpnidhaa
open Go.RowKit Go.Shelf Go.Sort
attribute [local go_sem] Oper.semAt_some
set_option linter.unusedSimpArgs false
set_option linter.unusedVariables false
theorem Own.blk {w : World} {base : Nat} {v : Value} {L : List Int} (h : Own w base v L) (hp : 0 < L.length) :
    ∃ g cap cur, v = .slice (some ⟨g, 0, none⟩) L.length cap ∧ base ≤ g ∧ w.heap[g]? = some (.cells cur 3 (0, 0)) ∧ L.length ≤ cap ∧ cap ≤ maxLen ∧ cur.size = cap ∧ cur.toList.take L.length = L.map (Value.int .i64) := by
  rcases h.2 with ⟨hv, hn⟩ | ⟨g, cap, cur, hv, hg, hh, hnc, hcm, hcs, htake⟩
  · omega
  · exact ⟨g, cap, cur, hv, hg, hh, hnc, hcm, by omega, by rw [Nat.mul_one] at htake; exact htake⟩
theorem raw_i64 {caps : List Int} {L : List Ev} {i : Nat} (hi : i ≤ 1000) {x : Int} (h : x ∈ rawZ caps L i) : I64 x := by
  have := raw_range h
  exact ⟨by omega, by omega⟩
theorem raw_len (caps : List Int) (L : List Ev) (i : Nat) (h : L.length ≤ 1000) : (rawZ caps L i).length ≤ 1001 := by
  unfold rawZ
  rw [List.length_append]
  have h1 := List.length_filter_le (fun k => decide (0 ≤ k ∧ k < (i : Int))) (othersZ caps L (evAt L i))
  have h2 := others_len caps L (evAt L i) h
  have h3 : (if 0 ≤ lastZ L (evAt L i).g i then [lastZ L (evAt L i).g i] else []).length ≤ 1 := by split <;> simp
  omega
theorem Own.keptI {B : Nat} {A C : World} {base : Nat} {v : Value} {L : List Int} (h : Own A base v L) (hk : Kept (itP B) A C) : Own C base v L := by
  refine ⟨h.1, ?_⟩
  rcases h.2 with h0 | ⟨g, cap, cur, hv, hg, hh, r⟩
  · exact .inl h0
  · exact .inr ⟨g, cap, cur, hv, hg, hk.same g _ hh (.inr rfl), r⟩
theorem Own.other {A C : World} {base : Nat} {v : Value} {L : List Int} {row : Option Nat} (h : Own A base v L) (hg : A.grownBy C row) (hne : v.ownBlock = none ∨ v.ownBlock ≠ row) : Own C base v L := World.ownsRow.kept h hg hne
theorem Own.ge {A : World} {base : Nat} {v : Value} {L : List Int} (h : Own A base v L) : ∀ r, v.ownBlock = some r → base ≤ r := fun r hr => (World.ownsRow.lt h r hr).1
theorem Own.row {A : World} {base : Nat} {v : Value} {L : List Int} (h : Own A base v L) : ∀ r o, v.ownBlock = some r → A.heap[r]? = some o → isRow o = true := fun r o hr ho => by
  rcases h.2 with ⟨rfl, _⟩ | ⟨g, cap, cur, rfl, hg, hh, _⟩
  · simp [Value.ownBlock] at hr
  · have e : r = g := by simpa [Value.ownBlock] using hr.symm
    subst e; rw [hh] at ho; cases ho; rfl
theorem Own.mono {A : World} {base base' : Nat} {v : Value} {L : List Int} (h : Own A base v L) (hb : base' ≤ base) : Own A base' v L := World.ownsRow.mono' h hb
theorem putRow_heap {w : World} {g n : Nat} {cur : Array Value} {e : TypeId} {fr : Nat × Nat} (d : Array Int) (hb : w.heap[g]? = some (.cells cur e fr)) : (putRow (Value.int .i64) (Sort.ahead w n) g 0 d).heap[g]? = some (.cells (putCells (Value.int .i64) 0 d cur) e fr) := by
  have := heap_sortedI (n := n) (os := #[]) d hb
  rwa [grow_empty] at this
theorem putRow_grown {w : World} {g n : Nat} (d : Array Int) : w.grownBy (putRow (Value.int .i64) (Sort.ahead w n) g 0 d) (some g) := by
  have := grownBy_sortedI (w := w) (g := g) (n := n) (os := #[]) d
  rwa [grow_empty] at this
/-- what slices.Compact leaves -/
theorem own_compact {w : World} {base g cap n : Nat} {cur : Array Value} {ss ts : List Int} (hl : ts.length ≤ ss.length) (hbase : base ≤ g) (hb : w.heap[g]? = some (.cells cur 3 (0, 0))) (h1 : ss.length ≤ cap) (h2 : cap ≤ maxLen) (h3 : cur.size = cap) (k : Nat) :
    Own (putRow (Value.int .i64) (Sort.ahead w n) g 0 (ts ++ List.replicate k 0).toArray) base (.slice (some ⟨g, 0, none⟩) ts.length cap) ts := by
  refine ⟨by simp [ints], .inr ⟨g, cap, _, rfl, hbase, putRow_heap _ hb, by omega, h2, by simp [putCells, h3], ?_⟩⟩
  rw [Nat.mul_one]
  apply List.ext_getElem?
  intro j
  by_cases hj : j < ts.length
  · rw [List.getElem?_take_of_lt hj, Array.getElem?_toList]
    simp [putCells, ints, hj, show j < cur.size by omega, List.getElem?_append_left hj]
    intro hc; omega
  · rw [List.getElem?_take_eq_none (by omega), List.getElem?_eq_none (by simp [ints]; omega)]
set_option maxRecDepth 100000 in
set_option maxHeartbeats 8000000 in
theorem rising_in (n : Nat) (hn : 8 ≤ n) (p : BP) (caps : List Int) (L : List Ev) (i : Nat) (w : World) (hb : Book w p caps L) (hi : i < p.n) (hfew : L.length ≤ 1000)
    (hcap : (evAt L i).kind = 3 → 0 ≤ (evAt L i).obj ∧ (evAt L i).obj < (p.cn : Int) ∧ -9223372036854775808 ≤ (evAt L i).no - capAt caps (evAt L i).obj ∧ (evAt L i).no - capAt caps (evAt L i).obj ≤ 9223372036854775807) :
    CallsIn Fence.wide n Try.prog 20 #[bkV p, .int .i64 (i : Int)] w fun e W' => ∃ v, e = .returned v ∧ Own W' w.heap.size v (Lib.compact (sortZ (rawZ caps L i))) ∧ Below w.heap.size w W' := by
  have h1 : 1 ≤ n := by omega
  have h2 : 1 ≤ n - 1 := by omega
  have h3 : 1 ≤ n - 1 - 1 := by omega
  have h4 : 1 ≤ n - 1 - 1 - 1 := by omega
  obtain ⟨i0, hii, hz0, hz1, hz2⟩ := info_parts Try.info3
  have HB := Lib.hid hb
  have HRL := Lib.hid (raw_len caps L i hfew)
  have HCAP := Lib.hid hcap
  have HI := Lib.hid hi
  have HE := Lib.hid (fun V => edges_in (n - 1) p (i : Int) V)
  unfold bkV bkC at HE
  clear hb hcap hi
  obtain ⟨ca, cn, cc, a, n2, c, M⟩ := p
  dsimp only at HE
  refine callsIn_of_wp_marks Try.func20 rfl trivial ?_ rfl
  simp only [Try.ntmps20, List.size_toArray, List.length_cons, List.length_nil, Nat.reduceAdd, Nat.reduceSub, Array.replicate_succ, Array.replicate_zero, List.push_toArray, List.append_toArray, List.nil_append, List.cons_append]
  gi_wp2_with (refine ⟨trivial, ?_⟩; gi_at_call 29; refine (HE.out _).mono ?_; rintro e w' ⟨rfl, rfl⟩)
  obtain ⟨N0, hN0⟩ : ∃ z, z = w.heap.size := ⟨_, rfl⟩
  obtain ⟨X, hX⟩ : ∃ X, X = (((w.alloc (.cells #[.slice ca cn cc, .slice a n2 c, .map (some M)] 41)).alloc (.cells #[.slice none 0 0] 22)).alloc (.cells #[.slice ca cn cc, .slice a n2 c, .map (some M)] 41)).alloc (.cells #[.int .i64 (i : Int)] 3) := ⟨_, rfl⟩
  have hXs : X.heap.size = N0 + 4 := by rw [hX, hN0]; simp
  have BX := Lib.hid (show Below N0 w X by rw [hX, hN0]; exact (((below_alloc w _).alloc (by simp) _).alloc (by simp; omega) _).alloc (by simp; omega) _)
  have IX := Lib.hid (show Bx X (N0 + 3) #[.int .i64 (i : Int)] 3 by
    rw [hX, hN0]; have := Bx.new (((w.alloc (.cells #[.slice ca cn cc, .slice a n2 c, .map (some M)] 41)).alloc (.cells #[.slice none 0 0] 22)).alloc (.cells #[.slice ca cn cc, .slice a n2 c, .map (some M)] 41)) #[.int .i64 (i : Int)] 3
    simpa using this)
  have KX := Lib.hid (show Bx X (N0 + 2) #[.slice ca cn cc, .slice a n2 c, .map (some M)] 41 by
    rw [hX, hN0]; have := (Bx.new ((w.alloc (.cells #[.slice ca cn cc, .slice a n2 c, .map (some M)] 41)).alloc (.cells #[.slice none 0 0] 22)) #[.slice ca cn cc, .slice a n2 c, .map (some M)] 41).below (below_alloc _ (.cells #[.int .i64 (i : Int)] 3))
    simpa using this)
  have TX := Lib.hid (show Bx X (N0 + 1) #[.slice none 0 0] 22 by
    rw [hX, hN0]; have := ((Bx.new (w.alloc (.cells #[.slice ca cn cc, .slice a n2 c, .map (some M)] 41)) #[.slice none 0 0] 22).below (below_alloc _ (.cells #[.slice ca cn cc, .slice a n2 c, .map (some M)] 41))).below (below_alloc _ (.cells #[.int .i64 (i : Int)] 3))
    simpa using this)
  rw [← hX]
  clear hX HE
  try rw [← hN0]
  have HB0 := Lib.hid (show ∀ k, k < w.heap.size → k < N0 from fun k hk => by omega)
  have BX2 := Lib.hid (show Below w.heap.size w X by rw [← hN0]; exact BX.out)
  have HNN := Lib.hid hN0
  have hNle : N0 ≤ w.heap.size := by omega
  clear hN0
  refine range_by rfl (enters_of Try.func43 (by kernel_rfl) rfl) (fix := fun k => k < N0 ∨ k = N0 + 2 ∨ k = N0 + 3) (S := fun ys => ys = rawZ caps L i) (N := 2000)
    (fun k hk => by omega)
    (edges_by (n - 1) (by omega) ⟨ca, cn, cc, a, n2, c, M⟩ caps L i w X (N0 + 2) (N0 + 3) _ HB.out BX2.out KX.out IX.out (fun k hk => .inl (HB0.out k hk)) (.inr (.inl rfl)) (.inr (.inr rfl)) (fun k hk => by omega) HI.out hfew HCAP.out) rfl
    (fun pre V => (∃ v, Bx V (N0 + 1) #[v] 22 ∧ Own V (N0 + 4) v pre) ∧ Below N0 w V)
    (fun _ _ _ => False)
    (fun s A C h hk => ⟨by obtain ⟨v, hv, ho⟩ := h.1; exact ⟨v, hv.keptI hk (by omega), ho.keptI hk⟩, h.2.trans (hk.below (fun k o hk _ => .inl (by omega)) (by have := h.2.size; omega))⟩)
    (fun c s A C h hk => h)
    ⟨⟨_, TX.out, World.ownsRow_nil _ _ _ _⟩, BX.out⟩
    (fun x => { tmps := #[.agg #[.slice ca cn cc, .slice a n2 c, .map (some M)], .int .i64 (i : Int), .pointer (some ⟨N0, 0, none⟩), undef, .slice none 0 0, .pointer (some ⟨N0 + 1, 0, none⟩), .int .i64 x, .agg #[.slice ca cn cc, .slice a n2 c, .map (some M)], .int .i64 (i : Int), .func (.func 43) #[] #[.pointer (some ⟨N0 + 1 + 1, 0, none⟩), .pointer (some ⟨N0 + 1 + 1 + 1, 0, none⟩)], .int .i64 x, undef, undef, undef, undef, undef, undef, undef, undef], defers := [] }) ?assign ?body ?done ?stop
  case assign =>
    intro l0 x W K hK
    unfold encI
    gi_wp2
    exact hK
  case body =>
    rintro l0 pre x W hs0 ⟨⟨v, hv, hrow⟩, hB⟩ hlen
    have hc := hv.cell 0 rfl
    have hl1 := hv.lt
    have HV := Lib.hid hv; have HRW := Lib.hid hrow; have HBW := Lib.hid hB
    gi_wp2_with (gi_at_builtin; refine wpListIn_append_own _ rfl _ _ 22 rfl (N0 + 4) 3 i0 (.int .i64 0) 1 8 Try.underlying22 hii hz0 hz1 hz2 rfl (by decide) _ _ _ rfl (World.ownsRow.alloc HRW.out _) ⟨W.heap.size, 0, none⟩ 1 1 [.int .i64 x] rfl rfl (cell_one_new _ _ _) (by simp [Value.oneCell']) (by unfold maxLen; omega) (by omega) (by simp; omega) ?_; intro v' wx hown' hgrow _; obtain ⟨g', cap', rfl⟩ := ownsRow_succ hown'; have HT := Lib.hid ((HV.out.below (below_alloc W (.cells #[.int .i64 x] 3))).other hgrow (fun e => by have := HRW.out.ge _ e.symm; omega)); have hc1 := HT.out.cell 0 rfl; have hf1 := HT.out.froz 0; have HO := Lib.hid hown'; have HG := Lib.hid hgrow; clear hown' hgrow)
    have hG : (W.alloc (.cells #[.int .i64 x] 3)).grownBy wx v.ownBlock := HG.out
    have k1 : Kept (rdP (fun k => k < N0 ∨ k = N0 + 2 ∨ k = N0 + 3) X.heap.size) W wx := (Kept.alloc _ _ _).trans (Kept.grown hG (fun r o hr ho hp => by
      have hge := HRW.out.ge r hr
      have hrr := (HRW.out.below (below_alloc W (.cells #[.int .i64 x] 3))).row r o hr ho
      rcases hp with hp | ⟨_, hp⟩
      · omega
      · rw [hrr] at hp; cases hp))
    have k2 := k1.trans (Kept.setCell (i := 0) (.slice (some ⟨g', 0, none⟩) (pre.length + 1) cap') HT.out (fun hp => by rcases hp with hp | ⟨hp, _⟩ <;> omega))
    have ho : Own wx (N0 + 4) (.slice (some ⟨g', 0, none⟩) (pre.length + 1) cap') (pre ++ [x]) := by
      show wx.ownsRow _ 3 1 _ (pre ++ [x]).length (ints (pre ++ [x]))
      rw [List.length_append, show ints (pre ++ [x]) = ints pre ++ [.int .i64 x] by simp [ints]]
      exact HO.out
    have hne : N0 + 1 ≠ g' := by have := ho.ge g' rfl; omega
    exact ⟨k2, ⟨_, HT.out.set 0 _, ho.other (grow_setCell wx (N0 + 1) 0 _) (.inr (some_ne (Ne.symm hne)))⟩, HBW.out.trans (k2.below (fun k o hk _ => .inl (.inl hk)) (by have := HBW.out.size; omega))⟩
  case done =>
    rintro xs W hs0 hS ⟨⟨v, hv, hrow⟩, hB⟩ hd
    subst hS
    rw [hXs] at hd
    have HD := Lib.hid hd
    obtain ⟨R, hR⟩ : ∃ R, R = rawZ caps L i := ⟨_, rfl⟩
    rw [← hR] at hrow HRL
    have HRQ := Lib.hid hR
    have hNge : w.heap.size ≤ N0 := by rw [HNN.out]; exact Nat.le_refl _
    clear hR
    have hrl := HRL.out
    by_cases hl : R.length = 0
    · obtain rfl : R = [] := List.eq_nil_of_length_eq_zero hl
      obtain ⟨pp, cp, rfl⟩ : ∃ pp cp, v = .slice pp 0 cp := by
        rcases hrow.2 with ⟨h0, _⟩ | ⟨g, cap, cur, h0, _⟩
        · exact ⟨_, _, h0⟩
        · exact ⟨_, _, h0⟩
      have HRW := Lib.hid hrow; have HBW := Lib.hid hB
      have hc := hv.cell 0 rfl
      have HS := Lib.hid (callsIn_wide (n := n - 1) |>.2 (Try.slices_Sort_int_none pp cp W))
      clear hv hrow hB hd
      have HC := Lib.hid (callsIn_wide (n := n - 1) |>.2 (Try.slices_Compact_int_empty pp cp W))
      gi_wp2_with (first | (refine ⟨trivial, ?_⟩; gi_at_call 30; refine HS.out.mono ?_; rintro e W1 ⟨rfl, hW1⟩; rw [hW1]; clear hW1) | (refine ⟨trivial, ?_⟩; gi_at_call 31; refine HC.out.mono ?_; rintro e W1 ⟨rfl, hW1⟩; rw [hW1]; clear hW1))
      refine ⟨by simp, .inl ⟨_, _, rfl, run_takeDeferred HD.out, ?_⟩⟩
      have kp : ∀ q : Nat → Obj → Prop, (¬ q (N0 + 4) (.deferred (some []))) → Kept q W (W.putObj (N0 + 4) (.deferred none)) := fun q hq => Kept.put _ HD.out hq
      refine ⟨_, results_tmp rfl _ _ _, _, rfl, ?_, ?_⟩
      · rw [← HRQ.out]
        have e0 : Lib.compact (sortZ []) = [] := by simp [sortZ, Lib.compact, Lib.compactUpTo]
        rw [e0]
        have ho := (HRW.out.keptI (kp (itP 0) (fun h => by rcases h with h | h; omega; simp [isRow] at h))).mono (base' := w.heap.size) (by omega)
        exact ho
      · exact (HBW.out.trans ((kp (fun k _ => k < N0) (fun h => by omega)).below (fun k o hk _ => hk) (by have := HBW.out.size; omega))).mono (by omega)
    · obtain ⟨g, cap, cur, rfl, hg, hh, hc1, hc2, hc3, hc4⟩ := hrow.blk (by omega)
      have hc := hv.cell 0 rfl
      have hgl := (Array.getElem?_eq_some_iff.1 hh).1
      have HS := Lib.hid (callsIn_wide (n := n - 1) |>.2 (Try.slices_Sort_int g 0 cap R W (holds_of_blockI hh hc4) hgl (by omega)))
      have hsl : (sortZ R).length = R.length := List.length_mergeSort _
      have HSL := Lib.hid hsl
      have HOS := Lib.hid (fun nn (os : Array Obj) => ownsRow_sortedI (w := W) (n := nn) (os := os) (ss := R) (ts := sortZ R) hsl hg hh hc1 hc2 (by rw [hc3, Nat.mul_one]))
      have HGS := Lib.hid (fun nn (os : Array Obj) => grownBy_sortedI (w := W) (g := g) (n := nn) (os := os) (sortZ R).toArray)
      have HBW := Lib.hid hB
      have HT := Lib.hid hv
      have hgT : N0 + 1 ≠ g := by omega
      have hgD : N0 + 4 ≠ g := fun e => by rw [e] at hd; rw [hd] at hh; cases hh
      have hmz : (R.mergeSort fun x y => decide (x ≤ y)) = sortZ R := rfl
      rw [hmz] at HS
      clear hv hrow hB hd hh hc1 hc2 hc3 hc4 hsl hmz
      gi_wp2_with (refine ⟨trivial, ?_⟩; gi_at_call 30; refine HS.out.mono ?_; rintro e W1 ⟨rfl, nn, os, hW1⟩; have O1 := Lib.hid (HOS.out nn os); have G1 := Lib.hid (HGS.out nn os); rw [← hW1] at O1 G1; clear hW1; have T1 := Lib.hid (HT.out.other G1.out (some_ne hgT)); have hcT := T1.out.cell 0 rfl)
      have OW := Lib.hid (show Own W1 (N0 + 4) (.slice (some ⟨g, 0, none⟩) (sortZ R).length cap) (sortZ R) by
        have := O1.out
        rw [← HSL.out] at this
        exact this)
      have hD1 : W1.heap[N0 + 4]? = some (.deferred (some [])) := (G1.out.block _ (Array.getElem?_eq_some_iff.1 HD.out).1 (fun e => hgD (by cases e; rfl))).trans HD.out
      obtain ⟨g2, cap2, cur2, hv2, hg2, hh2, hd1, hd2, hd3, hd4⟩ := OW.out.blk (by rw [HSL.out]; omega)
      cases hv2
      have hle := Lib.compact_length_le (sortZ R)
      have HC := Lib.hid (callsIn_wide (n := n - 1) |>.2 (Try.slices_Compact_int g 0 cap (sortZ R) W1 (holds_of_blockI hh2 hd4) (by rw [HSL.out]; omega) hd1))
      have HOC := Lib.hid (fun nn => own_compact (w := W1) (n := nn) (ss := sortZ R) (ts := Lib.compact (sortZ R)) hle hg2 hh2 hd1 hd2 hd3 ((sortZ R).length - (Lib.compact (sortZ R)).length))
      have HGC := Lib.hid (fun nn => putRow_grown (w := W1) (g := g) (n := nn) (Lib.compact (sortZ R) ++ List.replicate ((sortZ R).length - (Lib.compact (sortZ R)).length) 0).toArray)
      rw [HSL.out] at HC HOC HGC
      have B1 := Lib.hid (HBW.out.grown G1.out (by have := HBW.out.size; omega) (fun k hk => by cases hk; omega))
      have HD1 := Lib.hid hD1
      clear hh2 hd1 hd2 hd3 hd4 hle hD1
      gi_wp2_with (refine ⟨trivial, ?_⟩; gi_at_call 31; refine HC.out.mono ?_; rintro e W2 ⟨rfl, q, hW2⟩; have O2 := Lib.hid (HOC.out q); have G2 := Lib.hid (HGC.out q); rw [← hW2] at O2 G2; clear hW2)
      have HD2 := Lib.hid ((G2.out.block _ (Array.getElem?_eq_some_iff.1 HD1.out).1 (fun e => hgD (by cases e; rfl))).trans HD1.out)
      have B2 := Lib.hid (B1.out.grown G2.out (by have := B1.out.size; omega) (fun k hk => by cases hk; omega))
      refine ⟨by simp, .inl ⟨_, _, rfl, run_takeDeferred HD2.out, ?_⟩⟩
      have kp : ∀ q : Nat → Obj → Prop, (¬ q (N0 + 4) (.deferred (some []))) → Kept q W2 (W2.putObj (N0 + 4) (.deferred none)) := fun q hq => Kept.put _ HD2.out hq
      refine ⟨_, results_tmp rfl _ _ _, _, rfl, ?_, ?_⟩
      · rw [← HRQ.out]
        exact (O2.out.keptI (kp (itP 0) (fun h => by rcases h with h | h; omega; simp [isRow] at h))).mono (base' := w.heap.size) (by omega)
      · exact (B2.out.trans ((kp (fun k _ => k < N0) (fun h => by omega)).below (fun k o hk _ => hk) (by have := B2.out.size; omega))).mono (by omega)
  case stop =>
    rintro c0 pre W hs0 h hd
    exact h.elim
end Go.Proofs.Ytjkbmenmpnidhaa
