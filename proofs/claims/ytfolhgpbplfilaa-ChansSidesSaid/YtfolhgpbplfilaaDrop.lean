/- Drop. -/
import Derived.Test.YtfolhgpbplfilaaFirst
namespace Go.Proofs.Ytfolhgpbplfilaa
open Go.RowKit

theorem box3_two (w : World) (A : Obj) (x : Wt) : Box3 ((w.alloc A).alloc (.cells #[.int .i64 x.g, .int .i64 x.c, .int .i64 x.s] 48)) (w.heap.size + 1) x := by
  have := Box3.new (w.alloc A) x
  rwa [World.size_alloc] at this
def dropW (L : List Wt) (g : Int) : List Wt := L.filter (fun x => x.g != g)
theorem dropW_snoc (L : List Wt) (x : Wt) (g : Int) : dropW (L ++ [x]) g = if (x.g != g) = true then dropW L g ++ [x] else dropW L g := by
  unfold dropW
  rw [List.filter_append]
  by_cases h : (x.g != g) = true
  · rw [if_pos h]; simp [h]
  · rw [if_neg h]; simp at h; simp [h]
theorem dropW_len (L : List Wt) (g : Int) : (dropW L g).length ≤ L.length := List.length_filter_le _ _

set_option maxRecDepth 100000 in
set_option maxHeartbeats 2000000 in
theorem Drop_arg (a : Option Addr) (len cap : Nat) (L : List Wt) (g : Int) (w : World) (hL : Wts w a len cap L) (hbad : rightW L = false ∨ g < 0) :
    Calls Try.prog 54 #[.slice a len cap, .int .i64 g] w (NoL w 1) := by
  have hcm := hL.recs.len_le
  have HR := Lib.hid (fun W (h : Wts W a len cap L) => Right_any a len cap L W h)
  have HL := Lib.hid hL; clear hL
  cases hr : rightW L with
  | false =>
    rw [hr] at HR
    clear hbad hr
    go_enter Try.func54, Try.ntmps54
    go_wp2_with fail
    refine (HR.out _ HL.out).mono ?_
    rintro e w1 ⟨rfl, hb1⟩
    have HB1 := Lib.hid hb1; clear hb1
    go_wp2_with fail
    go_ret2
    exact ⟨rfl, HB1.out⟩
  | true =>
    have hb0 : g < 0 := by rcases hbad with h | h; · rw [hr] at h; simp at h
                           · exact h
    rw [hr] at HR
    clear hbad hr
    go_enter Try.func54, Try.ntmps54
    go_wp2_with fail
    refine (HR.out _ HL.out).mono ?_
    rintro e w1 ⟨rfl, hb1⟩
    have HB1 := Lib.hid hb1; clear hb1
    go_wp2_with fail
    go_ret2
    exact ⟨rfl, HB1.out⟩

set_option maxRecDepth 100000 in
set_option maxHeartbeats 2000000 in
theorem Drop_go (a : Option Addr) (len cap : Nat) (L : List Wt) (g : Int) (w : World) (hL : Wts w a len cap L) (hr : rightW L = true) (hg : 0 ≤ g) (hgI : I64 g) :
    Calls Try.prog 54 #[.slice a len cap, .int .i64 g] w (GotW w (dropW L g)) := by
  have hcm := hL.recs.len_le
  unfold I64 at hgI
  have h64 : len ≤ 64 := by have := (rightW_iff.1 hr).1; rwa [hL.recs.len_eq] at this
  have HLL := Lib.hid hL.recs.len_eq
  have HR := Lib.hid (fun W (h : Wts W a len cap L) => Right_any a len cap L W h)
  rw [hr] at HR
  have HL := Lib.hid hL; clear hL hr
  have HDL := Lib.hid (fun k => Nat.le_trans (dropW_len (L.take k) g) (by rw [List.length_take]; exact Nat.min_le_left k L.length))
  have HOK := Lib.hid HL.out.ok
  go_enter Try.func54, Try.ntmps54
  go_wp2_with fail
  refine (HR.out _ HL.out).mono ?_
  rintro e w1 ⟨rfl, hb1⟩
  have HB1 := Lib.hid hb1
  have HL1 := Lib.hid (HL.out.below hb1)
  clear hb1
  go_wp2_with fail
  go_loopw [6, 18] (fun v i wr => ∃ k : Nat, k ≤ len ∧ i = .int .i64 k ∧ OwnW wr w1.heap.size v (dropW (L.take k) g) ∧ Below w1.heap.size w1 wr) (fun _ i _ => len - (intOf i).toNat)
  case atStart => exact ⟨0, Nat.zero_le _, rfl, ownR_nil _ _, Below.refl _ _⟩
  case round =>
    obtain ⟨k, hk, rfl, hown, hbw⟩ := hrel
    have HO := Lib.hid hown; have HW := Lib.hid hbw
    clear hown hbw
    by_cases hlt : k < len
    · have hlt' : (k : Int) < (len : Int) := by omega
      obtain ⟨x, bb, off, hx, hok, rfl, c0, c1, c2⟩ := (HL1.out.below HW.out).at k hlt
      have HX := Lib.hid (take_snoc' hx)
      have HDS := Lib.hid (dropW_snoc (L.take k) x g)
      clear hx
      cases hgc : (x.g != g) with
      | true =>
        have HN : Hid (dropW (L.take (k + 1)) g = dropW (L.take k) g ++ [x]) := Lib.hid (by rw [HX.out, HDS.out, if_pos hgc])
        go_wp2_with (at_builtin; refine wpList_appR rfl _ _ rfl w1.heap.size _ (dropW (L.take k) g) rfl (OwnR.below HO.out ((below_alloc wr _).alloc (by simp) _)) _ 1 1 [x] rfl (recs_one (box3_two _ _ x)) (by have := HDL.out k; omega) (by omega) (by have := HW.out.size; simp; omega) ?_; intro v' w2 ho hg2)
        have HB2 := Lib.hid (Below.grown (belowX_alloc (belowX_alloc HW.out _) _) hg2.out (by have := HW.out.size; simp; omega) (fun r hr => OwnR.lt HO.out r hr))
        clear hg2
        go_roundw
        case rel => exact ⟨k + 1, by omega, by go_num, by rw [HN.out]; exact ho.out, HB2.out⟩
        case measure => simp [intOf]; omega
      | false =>
        have HN : Hid (dropW (L.take (k + 1)) g = dropW (L.take k) g) := Lib.hid (by rw [HX.out, HDS.out, if_neg (by rw [hgc]; simp)])
        go_wp2_with fail
        go_roundw
        case rel => exact ⟨k + 1, by omega, by go_num, by rw [HN.out]; exact OwnR.below HO.out (below_alloc wr _), belowX_alloc HW.out _⟩
        case measure => simp [intOf]; omega
    · have hkn : k = len := by omega
      subst hkn
      have HT : Hid (L.take k = L) := Lib.hid (List.take_of_length_le (by rw [HLL.out]; exact Nat.le_refl _))
      go_wp2_with fail
      go_ret2
      exact gotW (World.ownsRow.mono' (by have := HO.out; rw [HT.out] at this; exact this) HB1.out.size) (fun y hy => HOK.out y (List.mem_filter.1 hy).1) (HB1.out.trans (Below.mono HW.out HB1.out.size))
end Go.Proofs.Ytfolhgpbplfilaa
