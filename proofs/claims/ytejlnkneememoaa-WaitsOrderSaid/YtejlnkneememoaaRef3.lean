/- The reference's Who; alive. -/
import Derived.Test.YtejlnkneememoaaRef2
namespace Go.Proofs.Ytejlnkneememoaa
open Go.RowKit

def metW (L : List Wt) (g : Int) : Bool := L.any (fun x => x.g == g)
theorem metW_snoc (L : List Wt) (x : Wt) (g : Int) : metW (L ++ [x]) g = (metW L g || x.g == g) := by simp [metW]
theorem hasI_fold (L : List Wt) (g : Int) : ∀ acc, hasI (L.foldl whoStep acc) g = (hasI acc g || metW L g) := by
  induction L with
  | nil => intro acc; simp [metW]
  | cons x xs ih =>
    intro acc
    rw [List.foldl_cons, ih]
    have h : hasI (whoStep acc x) g = (hasI acc g || x.g == g) := by
      unfold whoStep
      split
      · rename_i hh
        cases hx : (x.g == g) with
        | false => simp
        | true => rw [beq_iff_eq] at hx; rw [← hx, hh]; rfl
      · rw [hasI_snoc]
    rw [h]; simp [metW, Bool.or_assoc]
theorem hasI_who (L : List Wt) (g : Int) : hasI (whoW L) g = metW L g := by
  unfold whoW; rw [hasI_fold]; simp [hasI]
theorem ownI_empty {w : World} {base B : Nat} (h : w.heap[B]? = some (.cells #[] 3 (0, 0))) (hB : base ≤ B) : Own w base (.slice (some ⟨B, 0, none⟩) 0 0) [] :=
  ⟨rfl, .inr ⟨B, 0, #[], rfl, hB, h, Nat.le_refl _, by decide, rfl, rfl⟩⟩

set_option maxRecDepth 100000 in
set_option maxHeartbeats 4000000 in
theorem refWho_any (a : Option Addr) (len cap : Nat) (L : List Wt) (w : World) (hL : Wts w a len cap L) (h64 : len ≤ 1000) :
    Calls Try.prog 18 #[.slice a len cap] w (GotInts w (whoW L)) := by
  have hcm := hL.recs.len_le
  have hlc := hL.recs.le_cap
  have hcc := hL.recs.cap_le
  unfold maxLen at hcc
  have HLL := Lib.hid hL.recs.len_eq
  have HL := Lib.hid hL; clear hL
  have HDL := Lib.hid (fun k => Nat.le_trans (whoW_len (L.take k)) (by rw [List.length_take]; exact Nat.min_le_left k L.length))
  have HI64 := Lib.hid (fun k => whoW_i64 (L := L.take k) (fun x hx => HL.out.ok x (List.mem_of_mem_take hx)))
  go_enter Try.func18, Try.ntmps18
  go_wp2_with fail
  go_loopw [3, 12] (fun v i wr => ∃ k : Nat, k ≤ len ∧ i = .int .i64 k ∧ Own wr w.heap.size v (whoW (L.take k)) ∧ Below w.heap.size w wr) (fun _ i _ => len - (intOf i).toNat)
  case atStart => exact ⟨0, Nat.zero_le _, rfl, ownI_empty (heap_alloc_new w _) (Nat.le_refl _), below_alloc w _⟩
  case round =>
    obtain ⟨k, hk, rfl, hown, hbw⟩ := hrel
    have HO := Lib.hid hown; have HW := Lib.hid hbw
    obtain ⟨va, vcap, rfl, hvi⟩ := hown.ints (HI64.out k)
    have HVI := Lib.hid hvi
    clear hown hbw hvi
    by_cases hlt : k < len
    · have hlt' : (k : Int) < (len : Int) := by omega
      have hk0 : (0 : Int) ≤ (k : Int) := by omega
      have hkc : (k : Int) ≤ (cap : Int) := by omega
      obtain ⟨x, bb, off, hx, hok, rfl, c0, c1, c2⟩ := (HL.out.below HW.out).at k hlt
      have HX := Lib.hid (take_snoc' hx)
      have HDS := Lib.hid (whoW_snoc (L.take k) x)
      have HBX := Lib.hid (Box3.new wr x)
      have HMM := Lib.hid (hasI_who (L.take k) x.g)
      have HT := HL.out.take k
      rw [Nat.min_eq_right (by omega)] at HT
      have HT0 := Lib.hid ((HT.below HW.out).below (below_alloc wr (.cells #[.int .i64 x.g, .int .i64 x.c, .int .i64 x.s] 24)))
      have HTL := Lib.hid (show (L.take k).length = k by rw [List.length_take, HLL.out]; omega)
      clear hx HT
      go_wp2_with fail
      obtain ⟨W0, hW0⟩ : ∃ W0, W0 = wr.alloc (.cells #[.int .i64 x.g, .int .i64 x.c, .int .i64 x.s] 24) := ⟨_, rfl⟩
      obtain ⟨B, hBB⟩ : ∃ B, B = wr.heap.size := ⟨_, rfl⟩
      have HBL := Lib.hid (show Below wr.heap.size wr W0 by rw [hW0]; exact below_alloc wr _)
      rw [← hW0] at HT0 HBX ⊢
      rw [← hBB] at HBX ⊢
      clear hW0 hBB c0 c1 c2
      go_loopw [6, 21] (fun m i2 wq => ∃ j : Nat, j ≤ k ∧ i2 = .int .i64 j ∧ m = .bool (metW ((L.take k).take j) x.g) ∧ Below W0.heap.size W0 wq) (fun _ i2 _ => k - (intOf i2).toNat)
      case atStart => exact ⟨0, Nat.zero_le _, rfl, rfl, Below.refl _ _⟩
      case round =>
        obtain ⟨j, hj, rfl, rfl, hbq⟩ := hrel
        have HQ := Lib.hid hbq; clear hbq
        by_cases hlj : j < k
        · have hlj' : (j : Int) < (k : Int) := by omega
          obtain ⟨y, b2, off2, hy, hok2, hoff, d0, d1, d2⟩ := (HT0.out.below HQ.out).at j hlj
          cases hoff
          have HY := Lib.hid (take_snoc' hy)
          have HMS := Lib.hid (metW_snoc ((L.take k).take j) y x.g)
          obtain ⟨e0, e1, e2⟩ := (HBX.out.below HQ.out).cells
          have hlB := (HBX.out.below HQ.out).lt
          clear hy
          cases hm : metW ((L.take k).take j) x.g with
          | true =>
            have R := Lib.hid (show metW ((L.take k).take (j + 1)) x.g = true by rw [HY.out, HMS.out, hm]; rfl)
            clear hm
            go_wp2_with fail
            go_roundw
            case rel => exact ⟨j + 1, by omega, by go_num, by rw [R.out], belowX_alloc HQ.out _⟩
            case measure => simp [intOf]; omega
          | false =>
            cases hg : (y.g == x.g) with
            | true =>
              have R := Lib.hid (show metW ((L.take k).take (j + 1)) x.g = true by rw [HY.out, HMS.out, hm, hg]; rfl)
              clear hm
              go_wp2_with fail
              go_roundw
              case rel => exact ⟨j + 1, by omega, by go_num, by rw [R.out], belowX_alloc HQ.out _⟩
              case measure => simp [intOf]; omega
            | false =>
              have R := Lib.hid (show metW ((L.take k).take (j + 1)) x.g = false by rw [HY.out, HMS.out, hm, hg]; rfl)
              clear hm
              go_wp2_with fail
              go_roundw
              case rel => exact ⟨j + 1, by omega, by go_num, by rw [R.out], belowX_alloc HQ.out _⟩
              case measure => simp [intOf]; omega
        · have hjk : j = k := by omega
          subst hjk
          have HTT : Hid ((L.take j).take j = L.take j) := Lib.hid (List.take_of_length_le (by rw [HTL.out]; exact Nat.le_refl _))
          rw [HTT.out, ← HMM.out]
          obtain ⟨e0, e1, e2⟩ := (HBX.out.below HQ.out).cells
          have HBW := Lib.hid (HW.out.trans (Below.mono HBL.out HW.out.size))
          have HBQ := Lib.hid (HBW.out.trans (Below.mono HQ.out HBW.out.size))
          have HOQ := Lib.hid (Own.below (Own.below HO.out HBL.out) HQ.out)
          cases hgc : hasI (whoW (L.take j)) x.g with
          | false =>
            have HN : Hid (whoW (L.take (j + 1)) = whoW (L.take j) ++ [x.g]) := Lib.hid (by rw [HX.out, HDS.out, if_neg (by rw [hgc]; simp)])
            clear hgc
            go_wp2_with (at_builtin; refine app1b rfl _ _ rfl w.heap.size _ (whoW (L.take j)) rfl HOQ.out x.g _ rfl rfl (by have := HDL.out j; omega) w HBQ.out HBQ.out.size ?_; intro v' w' ho hb')
            go_roundw
            case rel => exact ⟨j + 1, by omega, by go_num, by rw [HN.out]; exact ho.out, hb'.out⟩
            case measure => simp [intOf]; omega
          | true =>
            have HN : Hid (whoW (L.take (j + 1)) = whoW (L.take j)) := Lib.hid (by rw [HX.out, HDS.out, if_pos hgc])
            clear hgc
            go_wp2_with fail
            go_roundw
            case rel => exact ⟨j + 1, by omega, by go_num, by rw [HN.out]; exact HOQ.out, HBQ.out⟩
            case measure => simp [intOf]; omega
    · have hkn : k = len := by omega
      subst hkn
      have HT : Hid (L.take k = L) := Lib.hid (List.take_of_length_le (by rw [HLL.out]; exact Nat.le_refl _))
      go_wp2_with fail
      go_ret
      refine ⟨va, _, vcap, rfl, ?_, HW.out⟩
      have h1 := HVI.out
      rw [HT.out] at h1 ⊢
      exact h1

def alL : List Wt := [⟨2, 0, 0⟩, ⟨1, 0, 0⟩, ⟨2, 1, 0⟩]
theorem al_right : rightW alL = true := by
  refine rightW_good (by decide) (fun i x hi hx => ?_)
  match i, hi, hx with
  | 0, _, hx => simp [alL] at hx; subst hx; decide
  | 1, _, hx => simp [alL] at hx; subst hx; decide
  | 2, _, hx => simp [alL] at hx; subst hx; decide
theorem al_first : firstW alL 2 = some ⟨1, 0, 0⟩ := by decide
theorem al_wts (W : World) : Wts (W.alloc (.cells #[.int .i64 2, .int .i64 0, .int .i64 0, .int .i64 1, .int .i64 0, .int .i64 0, .int .i64 2, .int .i64 1, .int .i64 0] 24)) (some ⟨W.heap.size, 0, none⟩) 3 3 alL := by
  refine ⟨⟨rfl, Nat.le_refl _, by decide, fun h => by simp at h, fun i x hx => ⟨W.heap.size, 0, rfl, fun j v hv => ?_⟩⟩, fun x hx => ?_⟩
  · rw [cell_of_row _ _ _ _ 24 (0, 0) (heap_alloc_new W _)]
    match i, hx with
    | 0, hx => simp [alL] at hx; subst hx; match j, hv with
      | 0, hv | 1, hv | 2, hv => simpa [wcells] using hv
    | 1, hx => simp [alL] at hx; subst hx; match j, hv with
      | 0, hv | 1, hv | 2, hv => simpa [wcells] using hv
    | 2, hx => simp [alL] at hx; subst hx; match j, hv with
      | 0, hv | 1, hv | 2, hv => simpa [wcells] using hv
  · simp [alL] at hx
    rcases hx with rfl | rfl | rfl <;> exact ⟨⟨by decide, by decide⟩, ⟨by decide, by decide⟩, ⟨by decide, by decide⟩⟩
set_option maxRecDepth 100000 in
set_option maxHeartbeats 2000000 in
theorem alive_any (w : World) : Calls Try.prog 13 #[] w fun e w' => e = .returned (.bool true) ∧ Below w.heap.size w w' := by
  have hF := Lib.hid (fun W a (h : Wts W a 3 3 alL) => First_go a 3 3 alL 2 W h al_right (by omega) ⟨by omega, by omega⟩)
  rw [al_first] at hF
  unfold GotFirst GotWait at hF
  have HL := Lib.hid al_wts
  have HB := Lib.hid (below_alloc w (.cells #[.int .i64 2, .int .i64 0, .int .i64 0, .int .i64 1, .int .i64 0, .int .i64 0, .int .i64 2, .int .i64 1, .int .i64 0] 24))
  go_enter Try.func13, Try.ntmps13
  go_wp2_with fail
  refine (hF.out _ _ (HL.out w)).mono ?_
  rintro e w1 ⟨rfl, hb⟩
  have HB1 := Lib.hid (HB.out.trans (Below.mono hb HB.out.size))
  clear hb
  go_wp2_with fail
  go_ret
  exact ⟨rfl, HB1.out.alloc HB1.out.size _⟩
end Go.Proofs.Ytejlnkneememoaa
