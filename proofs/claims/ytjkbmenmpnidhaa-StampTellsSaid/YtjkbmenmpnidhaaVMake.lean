/- greater: the row that is made, copied into, and raised where the other one is greater. -/
import Derived.Test.YtjkbmenmpnidhaaVRows
namespace Go.Proofs.Ytjkbmenmpnidhaa
open Go.RowKit
theorem Try.info3 : (Try.prog.info? 3).map (fun i => (i.zero, i.size, i.bytes)) = some (some (.int .i64 0), 1, 8) := by kernel_rfl
theorem Try.info3s : (Try.prog.info? 3).map (·.size) = some 1 := by kernel_rfl

def NewInts (w : World) (L : List Int) (e : Ending) (w' : World) : Prop := ∃ g n, e = .returned (.slice (some ⟨g, 0, none⟩) n n) ∧ Ints w' (some ⟨g, 0, none⟩) n n L ∧ Below w.heap.size w w'

abbrev ints (l : List Int) : List Value := l.map (Value.int .i64)

theorem row_of_own {w : World} {base e g n : Nat} {xs : List Value} (h : w.ownsRow base e 1 (.slice (some ⟨g, 0, none⟩) n n) n xs) : w.heap[g]? = some (.cells xs.toArray e (0, 0)) := by
  rcases h.2 with ⟨h', _⟩ | ⟨g', cap', cur, h', _, hg, _, _, hcs, htake⟩
  · simp at h'
  · simp only [Value.slice.injEq, Option.some.injEq, Addr.mk.injEq, and_true, true_and] at h'
    obtain ⟨rfl, rfl⟩ := h'
    rw [List.take_of_length_le (by rw [Array.length_toList, hcs]; exact Nat.le_refl _)] at htake
    rw [hg, ← htake]

theorem Ints.src {w : World} {a : Option Addr} {len cap : Nat} {l : List Int} (h : Ints w a len cap l) (hp : 0 < len) :
    ∃ ad, a = some ad ∧ ∀ (j : Nat) v, (ints l)[j]? = some v → w.cell? (ad.add j) = some v := by
  obtain ⟨b, off, rfl, _⟩ := h.cell 0 hp
  refine ⟨_, rfl, fun j v hv => ?_⟩
  have hj : j < l.length := by
    have := (List.getElem?_eq_some_iff.1 hv).1
    simpa [ints] using this
  obtain ⟨b', off', he, hc⟩ := h.cell j (by rw [← h.len_eq]; exact hj)
  simp only [Option.some.injEq, Addr.mk.injEq, and_true] at he
  obtain ⟨rfl, rfl⟩ := he
  rw [Addr.add_lit, hc, ← hv]
  simp [ints, en_get l j hj, hj]

theorem Ints.of_row {w : World} {g n e : Nat} {L : List Int} (h : w.heap[g]? = some (.cells (ints L).toArray e (0, 0))) (hn : L.length = n) (hm : n ≤ maxLen) (hb : ∀ i, I64 (en L i)) :
    Ints w (some ⟨g, 0, none⟩) n n L := by
  refine ⟨hn, Nat.le_refl _, hm, fun h => by simp at h, hb, fun i hi => ⟨g, 0, rfl, ?_⟩⟩
  rw [Nat.zero_add, cell_of_row w g i _ e (0, 0) h]
  simp [ints, en_get L i (by omega), hn, hi]

def grk (a b : List Int) (k : Nat) : List Int := (List.range (max a.length b.length)).map fun i => if i < k then grAt a b i else en a i
theorem grk_len (a b : List Int) (k : Nat) : (grk a b k).length = max a.length b.length := by simp [grk]
theorem grk_at (a b : List Int) (k i : Nat) (h : i < max a.length b.length) : (grk a b k)[i]? = some (if i < k then grAt a b i else en a i) := by
  simp [grk, h]
theorem grk_zero (a b : List Int) : splice (List.replicate (max a.length b.length) (Value.int .i64 0)) 0 (ints a) = ints (grk a b 0) := by
  refine List.ext_getElem? fun i => ?_
  simp only [splice, List.take_zero, List.nil_append, Nat.zero_add, ints]
  by_cases hi : i < a.length
  · rw [List.getElem?_append_left (by simpa using hi), List.getElem?_map, List.getElem?_map, grk_at _ _ _ _ (by omega)]
    simp [en_get a i hi, hi]
  · rw [List.getElem?_append_right (by simpa using hi), List.getElem?_map]
    by_cases hm : i < max a.length b.length
    · rw [grk_at _ _ _ _ hm]
      have e0 := en_of_le a i (by omega)
      simp [e0, List.getElem?_replicate]; omega
    · rw [List.getElem?_eq_none (by simp; omega), List.getElem?_eq_none (by rw [grk_len]; omega)]; rfl
theorem grk_full (a b : List Int) (k : Nat) (h : b.length ≤ k) : grk a b k = gr a b := by
  refine List.ext_getElem? fun i => ?_
  by_cases hm : i < max a.length b.length
  · rw [grk_at _ _ _ _ hm]
    simp only [gr, List.getElem?_map, List.getElem?_range hm, Option.map_some, Option.some.injEq]
    by_cases hik : i < k
    · rw [if_pos hik]
    · rw [if_neg hik]; unfold grAt; rw [if_neg (by omega)]
  · rw [List.getElem?_eq_none (by rw [grk_len]; omega), List.getElem?_eq_none (by rw [gr_len]; omega)]
theorem grk_keep (a b : List Int) (k : Nat) (h : grAt a b k = en a k) : grk a b (k + 1) = grk a b k := by
  unfold grk
  refine List.map_congr_left fun i _ => ?_
  by_cases hik : i < k
  · rw [if_pos (by omega), if_pos hik]
  · by_cases hk : i = k
    · subst hk; rw [if_pos (by omega), if_neg hik, h]
    · rw [if_neg (by omega), if_neg hik]
theorem grk_set (a b : List Int) (k : Nat) (hk : k < max a.length b.length) : (ints (grk a b k)).toArray.setIfInBounds k (.int .i64 (grAt a b k)) = (ints (grk a b (k + 1))).toArray := by
  apply Array.ext'
  rw [Array.toList_setIfInBounds]
  refine List.ext_getElem? fun i => ?_
  simp only [ints]
  rw [List.getElem?_set]
  by_cases hik : k = i
  · subst hik
    rw [if_pos rfl, if_pos (by simp [grk_len]; omega), List.getElem?_map, grk_at _ _ _ _ hk]; simp
  · rw [if_neg hik, List.getElem?_map, List.getElem?_map]
    by_cases hm : i < max a.length b.length
    · rw [grk_at _ _ _ _ hm, grk_at _ _ _ _ hm]
      by_cases h2 : i < k
      · rw [if_pos h2, if_pos (by omega)]
      · rw [if_neg h2, if_neg (by omega)]
    · rw [List.getElem?_eq_none (by rw [grk_len]; omega), List.getElem?_eq_none (by rw [grk_len]; omega)]
theorem grAt_i64 {a b : List Int} (ha : ∀ i, I64 (en a i)) (hb : ∀ i, I64 (en b i)) (i : Nat) : I64 (en (gr a b) i) := by
  rw [en_gr]; unfold grAt; split
  · exact hb i
  · exact ha i
theorem grAt_of_ge {a b : List Int} {k : Nat} (hb : k < b.length) (h : a.length ≤ k) : grAt a b k = en b k := if_pos ⟨hb, .inl h⟩
theorem grAt_of_lt {a b : List Int} {k : Nat} (hb : k < b.length) (h : en a k < en b k) : grAt a b k = en b k := if_pos ⟨hb, .inr h⟩
theorem grAt_of_not {a b : List Int} {k : Nat} (ha : k < a.length) (h : ¬ en a k < en b k) : grAt a b k = en a k := if_neg (by omega)

set_option maxRecDepth 100000 in
theorem greater_any (a : Option Addr) (len cap : Nat) (l : List Int) (a2 : Option Addr) (len2 cap2 : Nat) (l2 : List Int) (w : World) (h : Ints w a len cap l) (h2 : Ints w a2 len2 cap2 l2)
    (hs : len ≤ 1000) (hs2 : len2 ≤ 1000) :
    Calls Try.prog 98 #[.slice a len cap, .slice a2 len2 cap2] w (NewInts w (gr l l2)) := by
  obtain ⟨i0, hi, hz0, hz1, hz2⟩ := info_parts Try.info3
  have Hl := Lib.hid h.len_eq
  have Hl2 := Lib.hid h2.len_eq
  have H := Lib.hid h; have H2 := Lib.hid h2; clear h h2
  have hcell2 := H2.out.cell
  have hcell0 := Lib.hid hcell2; clear hcell2
  by_cases hc : len < len2
  all_goals
    go_enter Try.func98, Try.ntmps98
    obtain ⟨n, hn⟩ : ∃ n, n = max l.length l2.length := ⟨_, rfl⟩
    have hn' := hn; rw [Hl.out, Hl2.out] at hn'
    have Hn := Lib.hid hn; have Hn' := Lib.hid hn'; have hn1 : n ≤ 1000 := by omega
    clear hn hn'
    go_wp2_with (at_make; refine wpList_make_full _ rfl _ _ 22 rfl w.heap.size 3 i0 (.int .i64 0) 1 Try.underlying22 hi hz0 hz1 .i64 .i64 _ _ n rfl rfl (by have := Hn'.out; omega) (by have := Hn'.out; omega) (by rw [hz2]; omega) (by unfold maxLen; omega) (Nat.le_refl _) ?_)
    intro w1 hown hgrow
    have hb1 := Lib.hid ((Below.refl w.heap.size w).grown hgrow (Nat.le_refl _) (fun k hk => by cases hk))
    have hrow := row_of_own hown
    have hrow' : w1.heap[w.heap.size]? = some (.cells (List.replicate n (Value.int .i64 0)).toArray 3 (0, 0)) := by rw [hrow]; simp [toList_madeCells_one]
    have HR := Lib.hid hrow'
    clear hown hgrow hrow hrow'
    obtain ⟨C, hC⟩ : ∃ C, C = ints l := ⟨_, rfl⟩
    have hCl : C.length = l.length := by rw [hC]; simp [ints]
    have HC := Lib.hid hC; have HCl := Lib.hid hCl; clear hC hCl
    go_wp2_with (with_reducible refine wpList_copy_splice rfl (.tmp 14) (.tmp 15) 22 22 rfl 3 Try.underlying22 Try.info3s _ _ _ _ _ _ rfl rfl w.heap.size 0 _ 3 HR.out C ?_ ?_ ?_ ?_ w.heap.size w hb1.out (Nat.le_refl _) ?_)
    · have := Hn'.out; rw [HCl.out, Hl.out]; exact (Nat.min_eq_left (by omega)).symm
    · intro hp
      first | refine ⟨rfl, ?_⟩ | skip
      rw [HC.out]
      exact (H.out.below hb1.out).src (by rw [HCl.out, Hl.out] at hp; exact hp)
    · have := Hn.out; rw [HCl.out, List.length_replicate]; omega
    · rw [HC.out]; exact ints_oneCell _ _
    intro w2 HG2 hb2
    have hrow : w2.heap[w.heap.size]? = some (.cells (ints (grk l l2 0)).toArray 3 (0, 0)) := by rw [HG2.out, HC.out, Hn.out, grk_zero]
    have HR2 := Lib.hid hrow; have HB2 := Lib.hid hb2
    clear hrow hb2 HG2 HR hb1
    go_wp2_with fail
    go_loopw [19] (fun i wr => ∃ k : Nat, k ≤ l2.length ∧ i = .int .i64 k ∧ wr.heap[w.heap.size]? = some (.cells (ints (grk l l2 k)).toArray 3 (0, 0)) ∧ Below w.heap.size w wr) (fun i _ => l2.length - (intOf i).toNat)
    case atStart => exact ⟨0, Nat.zero_le _, rfl, HR2.out, HB2.out⟩
    case round =>
      obtain ⟨k, hk, rfl, hr, hb⟩ := hrel
      have HR := Lib.hid hr; have HB := Lib.hid hb; clear hr hb
      by_cases hlt : k < len2
      · obtain ⟨b, off, rfl, hcell⟩ := (H2.out.below HB.out).cell k hlt
        have hnk : k < n := by have := Hn'.out; omega
        have hmine : wr.cell? ⟨w.heap.size, k, none⟩ = some (.int .i64 (en l k)) := by
          rw [cell_of_row wr _ k _ 3 (0, 0) HR.out]
          rw [Hn.out] at hnk
          simp [ints, grk_at l l2 k k hnk]
        have hfr : wr.frozen? ⟨w.heap.size, k, none⟩ = false := frozen_of_row wr _ k _ 3 HR.out
        have hst : (wr.setCell ⟨w.heap.size, k, none⟩ (.int .i64 (grAt l l2 k))).heap[w.heap.size]? = some (.cells (ints (grk l l2 (k + 1))).toArray 3 (0, 0)) := by
          rw [heap_setCell_same wr _ k _ 3 _ HR.out, grk_set _ _ _ (by rw [← Hn.out]; exact hnk)]
        have hbs : Below w.heap.size w (wr.setCell ⟨w.heap.size, k, none⟩ (.int .i64 (grAt l l2 k))) := HB.out.setCell (Nat.le_refl _) _
        have HST := Lib.hid hst; have HBS := Lib.hid hbs; clear hst hbs
        obtain ⟨x, hx⟩ : ∃ x, x = en l2 k := ⟨_, rfl⟩
        obtain ⟨y, hy⟩ : ∃ x, x = en l k := ⟨_, rfl⟩
        rw [← hx] at hcell
        rw [← hy] at hmine
        have Hx := Lib.hid hx; have Hy := Lib.hid hy; clear hx hy
        by_cases hge : len ≤ k
        · first
          | (exfalso; omega)
          | (have e : grAt l l2 k = x := by rw [Hx.out]; exact grAt_of_ge (by rw [Hl2.out]; exact hlt) (by rw [Hl.out]; exact hge)
             rw [e] at HST HBS
             clear e
             go_wp2_with fail
             go_roundw
             case rel => exact ⟨k + 1, by rw [Hl2.out]; omega, by go_num, HST.out, HBS.out⟩
             case measure => simp [intOf]; have := Hl2.out; omega)
        · by_cases hxy : y < x
          · have e : grAt l l2 k = x := by rw [Hx.out]; exact grAt_of_lt (by rw [Hl2.out]; exact hlt) (by rw [← Hx.out, ← Hy.out]; exact hxy)
            rw [e] at HST HBS
            clear e
            go_wp2_with fail
            go_roundw
            case rel => exact ⟨k + 1, by rw [Hl2.out]; omega, by go_num, HST.out, HBS.out⟩
            case measure => simp [intOf]; have := Hl2.out; omega
          · have e : grAt l l2 k = en l k := grAt_of_not (by rw [Hl.out]; omega) (by rw [← Hx.out, ← Hy.out]; exact hxy)
            have e2 := grk_keep l l2 k e
            clear e HST HBS
            have HE := Lib.hid e2; clear e2
            go_wp2_with fail
            go_roundw
            case rel => exact ⟨k + 1, by rw [Hl2.out]; omega, by go_num, by rw [HE.out]; exact HR.out, HB.out⟩
            case measure => simp [intOf]; have := Hl2.out; omega
      · go_wp2_with fail
        go_ret
        have hfull := grk_full l l2 k (by rw [Hl2.out]; omega)
        refine ⟨w.heap.size, n, rfl, Ints.of_row (e := 3) (by rw [← hfull]; exact HR.out) (by rw [gr_len, ← Hn.out]) (by unfold maxLen; omega) (grAt_i64 H.out.bound H2.out.bound), HB.out⟩
end Go.Proofs.Ytjkbmenmpnidhaa
