/- The book of events: place, start. -/
import Derived.Test.YtjkbmenmpnidhaaM1
import Derived.Test.YtjkbmenmpnidhaaE3
namespace Go.Proofs.Ytjkbmenmpnidhaa
open Go.RowKit
set_option linter.unusedSimpArgs false
set_option linter.unusedVariables false
theorem Bx.cells3 {W : World} {B : Nat} {x0 x1 x2 : Value} {t : TypeId} (h : Bx W B #[x0, x1, x2] t) : W.cell? ⟨B, 0, none⟩ = some x0 ∧ W.cell? ⟨B, 1, none⟩ = some x1 ∧ W.cell? ⟨B, 2, none⟩ = some x2 := ⟨Bx.cell h 0 rfl, Bx.cell h 1 rfl, Bx.cell h 2 rfl⟩
/-- where a book's parts lie -/
structure BP where
  ca : Option Addr
  cn : Nat
  cc : Nat
  a : Option Addr
  n : Nat
  c : Nat
  M : Nat
abbrev bkC (p : BP) : Array Value := #[.slice p.ca p.cn p.cc, .slice p.a p.n p.c, .map (some p.M)]
abbrev bkV (p : BP) : Value := .agg (bkC p)
structure Book (w : World) (p : BP) (caps : List Int) (L : List Ev) : Prop where
  caps : Ints w p.ca p.cn p.cc caps
  evs : Evs w p.a p.n p.c L
  mp : ∃ q, Mp w p.M q (plS L L.length)
theorem Book.below {w w' : World} {p : BP} {caps : List Int} {L : List Ev} (h : Book w p caps L) (hb : Below w.heap.size w w') : Book w' p caps L := ⟨h.caps.below hb, h.evs.below hb, by obtain ⟨q, hq⟩ := h.mp; exact ⟨q, hq.below hb⟩⟩
set_option maxRecDepth 100000 in
set_option maxHeartbeats 8000000 in
theorem place_any (p : BP) (caps : List Int) (L : List Ev) (k o ah : Int) (w : World) (h : Book w p caps L) (hk : I64 k) (ho : I64 o) (ha : I64 ah) : Calls Try.prog 79 #[bkV p, mkV k o ah] w (IntTo w (placeZ L k o ah)) := by
  obtain ⟨q, hmp⟩ := h.mp
  have B_0 := Lib.hid ((below_alloc w (.cells (bkC p) 41)).alloc (by simp) (.cells #[.int .i64 k, .int .i64 o, .int .i64 ah] 59))
  have K_0 := Lib.hid ((Bx.new w (bkC p) 41).below (below_alloc _ (.cells #[.int .i64 k, .int .i64 o, .int .i64 ah] 59)))
  have Y_0 := Lib.hid (Bx.new2 w (.cells (bkC p) 41) #[.int .i64 k, .int .i64 o, .int .i64 ah] 59)
  have HL := Lib.hid ((hmp.below B_0.out).look_ok k o ah hk ho ha)
  rw [plS_place] at HL
  have hge := (place_ge L k o ah).1
  obtain ⟨z, hz⟩ : ∃ z, z = placeZ L k o ah := ⟨_, rfl⟩
  rw [← hz] at HL hge ⊢
  clear hz h hmp
  unfold bkC at B_0 K_0 Y_0 HL
  obtain ⟨ca, cn, cc, a, n, c, M⟩ := p
  dsimp only at B_0 K_0 Y_0 HL
  obtain ⟨e0, he0⟩ : ∃ z, z = w.heap.size := ⟨_, rfl⟩
  obtain ⟨e1, he1⟩ : ∃ z, z = w.heap.size + 1 := ⟨_, rfl⟩
  obtain ⟨v0, hv0⟩ : ∃ z, z = (w.alloc (.cells #[.slice ca cn cc, .slice a n c, .map (some M)] 41)).alloc (.cells #[.int .i64 k, .int .i64 o, .int .i64 ah] 59) := ⟨_, rfl⟩
  rw [← hv0] at B_0 K_0 Y_0 HL
  rw [← he0] at K_0
  rw [← he1] at Y_0
  have HE0 := Lib.hid he0; have HE1 := Lib.hid he1; have HV0 := Lib.hid hv0
  clear he0 he1 hv0
  go_enter Try.func79, Try.ntmps79
  go_upto_region 1 with (fail)
  rw [← HV0.out, ← HE1.out, ← HE0.out]
  obtain ⟨z0, z1, z2⟩ := K_0.out.cells3
  obtain ⟨u0, u1, u2⟩ := Y_0.out.cells3
  by_cases hp : 0 ≤ z
  · rw [if_pos hp] at HL
    have hl := HL.out
    simp only [Option.getD_some, Option.isSome_some] at hl
    clear HL
    go_wp2_with fail
    go_ret
    exact ⟨rfl, B_0.out⟩
  · rw [if_neg hp] at HL
    have hl := HL.out
    simp only [Option.getD_none, Option.isSome_none] at hl
    clear HL
    have HZ := Lib.hid (show z = -1 by omega)
    clear hp hge
    go_wp2_with fail
    go_ret
    exact ⟨ret_int HZ.out.symm, B_0.out⟩
set_option maxRecDepth 100000 in
set_option maxHeartbeats 8000000 in
theorem start_any (p : BP) (caps : List Int) (L : List Ev) (k o ah : Int) (w : World) (h : Book w p caps L) (hk : I64 k) (ho : I64 o) (ha : I64 ah) : Calls Try.prog 78 #[bkV p, mkV k o ah] w (IntTo w (startZ L k o ah)) := by
  have B_0 := Lib.hid ((below_alloc w (.cells (bkC p) 41)).alloc (by simp) (.cells #[.int .i64 k, .int .i64 o, .int .i64 ah] 59))
  have K_0 := Lib.hid ((Bx.new w (bkC p) 41).below (below_alloc _ (.cells #[.int .i64 k, .int .i64 o, .int .i64 ah] 59)))
  have Y_0 := Lib.hid (Bx.new2 w (.cells (bkC p) 41) #[.int .i64 k, .int .i64 o, .int .i64 ah] 59)
  have H_0 := Lib.hid (h.below B_0.out)
  have HP := Lib.hid (fun W (h : Book W p caps L) => place_any p caps L k o ah W h hk ho ha)
  unfold IntTo at HP
  have hge := place_ge L k o ah
  have hln := h.evs.recs.len_eq
  rw [hln] at hge
  have HS := Lib.hid (show startZ L k o ah = if 0 ≤ placeZ L k o ah then (evAt L (placeZ L k o ah).toNat).start else -1 from rfl)
  obtain ⟨z, hz⟩ : ∃ z, z = placeZ L k o ah := ⟨_, rfl⟩
  rw [← hz] at HP HS hge
  clear hz h
  unfold bkV bkC at HP
  unfold bkC at B_0 K_0 Y_0 H_0
  obtain ⟨ca, cn, cc, a, n, c, M⟩ := p
  dsimp only at B_0 K_0 Y_0 H_0 HP hge hln
  obtain ⟨e0, he0⟩ : ∃ z, z = w.heap.size := ⟨_, rfl⟩
  obtain ⟨e1, he1⟩ : ∃ z, z = w.heap.size + 1 := ⟨_, rfl⟩
  obtain ⟨v0, hv0⟩ : ∃ z, z = (w.alloc (.cells #[.slice ca cn cc, .slice a n c, .map (some M)] 41)).alloc (.cells #[.int .i64 k, .int .i64 o, .int .i64 ah] 59) := ⟨_, rfl⟩
  rw [← hv0] at B_0 K_0 Y_0 H_0
  rw [← he0] at K_0
  rw [← he1] at Y_0
  have HE0 := Lib.hid he0; have HE1 := Lib.hid he1; have HV0 := Lib.hid hv0
  clear he0 he1 hv0
  go_enter Try.func78, Try.ntmps78
  go_upto_region 1 with (fail)
  rw [← HV0.out, ← HE1.out, ← HE0.out]
  obtain ⟨z0, z1, z2⟩ := K_0.out.cells3
  obtain ⟨u0, u1, u2⟩ := Y_0.out.cells3
  go_wp2_with fail
  clear z0 z1 z2 u0 u1 u2
  refine (HP.out _ H_0.out).mono ?_
  rintro e w1 ⟨rfl, hb⟩
  have B_1 := Lib.hid (B_0.out.trans (Below.mono hb B_0.out.size))
  have K_1 := Lib.hid (K_0.out.below hb)
  have H_1 := Lib.hid (H_0.out.below hb)
  clear hb B_0 K_0 H_0 HP
  obtain ⟨z0, z1, z2⟩ := K_1.out.cells3
  by_cases hp : 0 ≤ z
  · have HS2 := Lib.hid (HS.out.trans (if_pos hp))
    obtain ⟨j, rfl⟩ : ∃ j : Nat, z = (j : Int) := ⟨z.toNat, by omega⟩
    have hjn : j < n := by omega
    have hjn2 : (j : Int) < (n : Int) := by omega
    rw [Int.toNat_natCast] at HS2
    obtain ⟨b, off, _, rfl, c0, c1, c2, c3, c4⟩ := H_1.out.evs.at j hjn
    clear c0 c1 c2 c3 HS
    obtain ⟨s, hs⟩ : ∃ s, s = (evAt L j).start := ⟨_, rfl⟩
    rw [← hs] at c4 HS2
    clear hs
    go_wp2_with fail
    go_ret
    exact ⟨ret_int HS2.out.symm, B_1.out⟩
  · have HS2 := Lib.hid (HS.out.trans (if_neg hp))
    go_wp2_with fail
    go_ret
    exact ⟨ret_int HS2.out.symm, B_1.out⟩
end Go.Proofs.Ytjkbmenmpnidhaa
