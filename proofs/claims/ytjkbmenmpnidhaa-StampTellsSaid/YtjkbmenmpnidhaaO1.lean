/- What an event waits for, handed on one by one: the closure of others. -/
import Derived.Test.YtjkbmenmpnidhaaO0
import Derived.BigRegionIn
import Derived.Stop.RegionWithIn
namespace Go.Proofs.Ytjkbmenmpnidhaa
open Go.RowKit Go.Shelf
attribute [local go_sem] Oper.semAt_some
set_option linter.unusedSimpArgs false
set_option linter.unusedVariables false
set_option maxRecDepth 100000 in
set_option maxHeartbeats 8000000 in
theorem others_0 (n N : Nat) (hn : 2 ≤ n) (l B eb bb : Nat) (fix : Nat → Prop) (p : BP) (caps : List Int) (L : List Ev) (x0 x2 x3 x4 : Int) (J Jx : List Int → World → Prop) (W : World) (hE : Bx W eb #[.int .i64 x0, .int .i64 0, .int .i64 x2, .int .i64 x3, .int .i64 x4] 48) (hK : Bx W bb (bkC p) 41) (hb : Book W p caps L) 
    (hJ : ∀ s A C, J s A → Kept (itP B) A C → J s C) (hY : ∀ pre x W1, J pre W1 → pre.length < N → YieldAt Fence.wide (n - 1) Try.prog l (encI x) W1 fun e W' => (e = .returned (.bool true) ∧ J (pre ++ [x]) W' ∧ Kept (rdP fix B) W1 W') ∨ (e = .returned (.bool false) ∧ Jx (pre ++ [x]) W' ∧ Kept (rdP fix B) W1 W')) (h0 : J [] W) (hN : 0 < N) :
    CallsIn Fence.wide n Try.prog 77 #[.func (.yield l) #[] #[], .pointer (some ⟨eb, 0, none⟩), .pointer (some ⟨bb, 0, none⟩)] W fun e W' => (∃ v, e = .returned v) ∧ (J [x4] W' ∨ ∃ pre, Jx pre W') := by
  have h1n : 1 ≤ n := by omega
  have h2n : 1 ≤ n - 1 := by omega
  obtain ⟨z0, z1, z2, z3, z4⟩ := hE.cells5
  obtain ⟨u0, u1, u2⟩ := hK.cells3
  obtain ⟨fn, tmps, assign, body, hy, hR⟩ := hY [] x4 W (h0) hN
  have HR := Lib.hid (RoundIn.both hR)
  clear hR
  refine callsIn_of_wp Try.func77 rfl trivial ?_ rfl
  simp only [Try.ntmps77, List.size_toArray, List.length_cons, List.length_nil, Nat.reduceAdd, Nat.reduceSub, Array.replicate_succ, Array.replicate_zero, List.push_toArray, List.append_toArray, List.nil_append, List.cons_append]
  gi_wp2
  refine HR.out.mono ?_
  rintro e W3 ⟨b, rfl, hb⟩
  gi_wp2
  go_end0
  exact ⟨⟨_, rfl⟩, hb.out.elim (fun h => .inl h.2.1) (fun h => .inr ⟨_, h.2.1⟩)⟩
set_option maxRecDepth 100000 in
set_option maxHeartbeats 8000000 in
theorem others_5 (n N : Nat) (hn : 2 ≤ n) (l B eb bb : Nat) (fix : Nat → Prop) (p : BP) (caps : List Int) (L : List Ev) (x0 x2 x3 x4 : Int) (J Jx : List Int → World → Prop) (W : World) (hE : Bx W eb #[.int .i64 x0, .int .i64 5, .int .i64 x2, .int .i64 x3, .int .i64 x4] 48) (hK : Bx W bb (bkC p) 41) (hb : Book W p caps L) (hx2 : I64 x2) (hx3 : I64 x3)
    (hJ : ∀ s A C, J s A → Kept (itP B) A C → J s C) (hY : ∀ pre x W1, J pre W1 → pre.length < N → YieldAt Fence.wide (n - 1) Try.prog l (encI x) W1 fun e W' => (e = .returned (.bool true) ∧ J (pre ++ [x]) W' ∧ Kept (rdP fix B) W1 W') ∨ (e = .returned (.bool false) ∧ Jx (pre ++ [x]) W' ∧ Kept (rdP fix B) W1 W')) (h0 : J [] W) (hN : 0 < N) :
    CallsIn Fence.wide n Try.prog 77 #[.func (.yield l) #[] #[], .pointer (some ⟨eb, 0, none⟩), .pointer (some ⟨bb, 0, none⟩)] W fun e W' => (∃ v, e = .returned v) ∧ (J [startZ L 3 x2 x3] W' ∨ ∃ pre, Jx pre W') := by
  have h1n : 1 ≤ n := by omega
  have h2n : 1 ≤ n - 1 := by omega
  obtain ⟨z0, z1, z2, z3, z4⟩ := hE.cells5
  obtain ⟨u0, u1, u2⟩ := hK.cells3
  have HS := Lib.hid (callsIn_wide (n := n - 1) |>.2 (start_any p caps L 3 x2 x3 W hb ⟨by decide, by decide⟩ hx2 hx3))
  unfold IntTo at HS
  obtain ⟨z, hz⟩ : ∃ z, z = startZ L 3 x2 x3 := ⟨_, rfl⟩
  rw [← hz] at HS ⊢
  unfold bkV bkC at HS
  clear hz
  refine callsIn_of_wp Try.func77 rfl trivial ?_ rfl
  simp only [Try.ntmps77, List.size_toArray, List.length_cons, List.length_nil, Nat.reduceAdd, Nat.reduceSub, Array.replicate_succ, Array.replicate_zero, List.push_toArray, List.append_toArray, List.nil_append, List.cons_append]
  gi_wp2_with (refine ⟨trivial, ?_⟩; gi_at_call 78; refine HS.out.mono ?_; rintro e W1 ⟨rfl, hbel⟩; obtain ⟨fn, tmps, assign, body, hy, hR⟩ := hY [] z W1 (hJ _ _ _ h0 (kept_of_below hbel)) hN; have HR := Lib.hid (RoundIn.both hR); clear hR hY hJ h0 HS)
  gi_wp2
  refine HR.out.mono ?_
  rintro e W3 ⟨b, rfl, hb⟩
  gi_wp2
  go_end0
  exact ⟨⟨_, rfl⟩, hb.out.elim (fun h => .inl h.2.1) (fun h => .inr ⟨_, h.2.1⟩)⟩
set_option maxRecDepth 100000 in
set_option maxHeartbeats 8000000 in
theorem others_6 (n N : Nat) (hn : 2 ≤ n) (l B eb bb : Nat) (fix : Nat → Prop) (p : BP) (caps : List Int) (L : List Ev) (x0 x2 x3 x4 : Int) (J Jx : List Int → World → Prop) (W : World) (hE : Bx W eb #[.int .i64 x0, .int .i64 6, .int .i64 x2, .int .i64 x3, .int .i64 x4] 48) (hK : Bx W bb (bkC p) 41) (hb : Book W p caps L) (hx2 : I64 x2) (hx3 : I64 x3)
    (hJ : ∀ s A C, J s A → Kept (itP B) A C → J s C) (hY : ∀ pre x W1, J pre W1 → pre.length < N → YieldAt Fence.wide (n - 1) Try.prog l (encI x) W1 fun e W' => (e = .returned (.bool true) ∧ J (pre ++ [x]) W' ∧ Kept (rdP fix B) W1 W') ∨ (e = .returned (.bool false) ∧ Jx (pre ++ [x]) W' ∧ Kept (rdP fix B) W1 W')) (h0 : J [] W) (hN : 0 < N) :
    CallsIn Fence.wide n Try.prog 77 #[.func (.yield l) #[] #[], .pointer (some ⟨eb, 0, none⟩), .pointer (some ⟨bb, 0, none⟩)] W fun e W' => (∃ v, e = .returned v) ∧ (J [placeZ L 7 x2 0] W' ∨ ∃ pre, Jx pre W') := by
  have h1n : 1 ≤ n := by omega
  have h2n : 1 ≤ n - 1 := by omega
  obtain ⟨z0, z1, z2, z3, z4⟩ := hE.cells5
  obtain ⟨u0, u1, u2⟩ := hK.cells3
  have HS := Lib.hid (callsIn_wide (n := n - 1) |>.2 (place_any p caps L 7 x2 0 W hb ⟨by decide, by decide⟩ hx2 ⟨by decide, by decide⟩))
  unfold IntTo at HS
  obtain ⟨z, hz⟩ : ∃ z, z = placeZ L 7 x2 0 := ⟨_, rfl⟩
  rw [← hz] at HS ⊢
  unfold bkV bkC at HS
  clear hz
  refine callsIn_of_wp Try.func77 rfl trivial ?_ rfl
  simp only [Try.ntmps77, List.size_toArray, List.length_cons, List.length_nil, Nat.reduceAdd, Nat.reduceSub, Array.replicate_succ, Array.replicate_zero, List.push_toArray, List.append_toArray, List.nil_append, List.cons_append]
  gi_wp2_with (refine ⟨trivial, ?_⟩; gi_at_call 79; refine HS.out.mono ?_; rintro e W1 ⟨rfl, hbel⟩; obtain ⟨fn, tmps, assign, body, hy, hR⟩ := hY [] z W1 (hJ _ _ _ h0 (kept_of_below hbel)) hN; have HR := Lib.hid (RoundIn.both hR); clear hR hY hJ h0 HS)
  gi_wp2
  refine HR.out.mono ?_
  rintro e W3 ⟨b, rfl, hb⟩
  gi_wp2
  go_end0
  exact ⟨⟨_, rfl⟩, hb.out.elim (fun h => .inl h.2.1) (fun h => .inr ⟨_, h.2.1⟩)⟩
set_option maxRecDepth 100000 in
set_option maxHeartbeats 8000000 in
theorem others_15 (n N : Nat) (hn : 2 ≤ n) (l B eb bb : Nat) (fix : Nat → Prop) (p : BP) (caps : List Int) (L : List Ev) (x0 x2 x3 x4 : Int) (J Jx : List Int → World → Prop) (W : World) (hE : Bx W eb #[.int .i64 x0, .int .i64 15, .int .i64 x2, .int .i64 x3, .int .i64 x4] 48) (hK : Bx W bb (bkC p) 41) (hb : Book W p caps L) (hx2 : I64 x2) (hx3 : I64 x3)
    (hJ : ∀ s A C, J s A → Kept (itP B) A C → J s C) (hY : ∀ pre x W1, J pre W1 → pre.length < N → YieldAt Fence.wide (n - 1) Try.prog l (encI x) W1 fun e W' => (e = .returned (.bool true) ∧ J (pre ++ [x]) W' ∧ Kept (rdP fix B) W1 W') ∨ (e = .returned (.bool false) ∧ Jx (pre ++ [x]) W' ∧ Kept (rdP fix B) W1 W')) (h0 : J [] W) (hN : 0 < N) :
    CallsIn Fence.wide n Try.prog 77 #[.func (.yield l) #[] #[], .pointer (some ⟨eb, 0, none⟩), .pointer (some ⟨bb, 0, none⟩)] W fun e W' => (∃ v, e = .returned v) ∧ (J [placeZ L 14 x2 0] W' ∨ ∃ pre, Jx pre W') := by
  have h1n : 1 ≤ n := by omega
  have h2n : 1 ≤ n - 1 := by omega
  obtain ⟨z0, z1, z2, z3, z4⟩ := hE.cells5
  obtain ⟨u0, u1, u2⟩ := hK.cells3
  have HS := Lib.hid (callsIn_wide (n := n - 1) |>.2 (place_any p caps L 14 x2 0 W hb ⟨by decide, by decide⟩ hx2 ⟨by decide, by decide⟩))
  unfold IntTo at HS
  obtain ⟨z, hz⟩ : ∃ z, z = placeZ L 14 x2 0 := ⟨_, rfl⟩
  rw [← hz] at HS ⊢
  unfold bkV bkC at HS
  clear hz
  refine callsIn_of_wp Try.func77 rfl trivial ?_ rfl
  simp only [Try.ntmps77, List.size_toArray, List.length_cons, List.length_nil, Nat.reduceAdd, Nat.reduceSub, Array.replicate_succ, Array.replicate_zero, List.push_toArray, List.append_toArray, List.nil_append, List.cons_append]
  gi_wp2_with (refine ⟨trivial, ?_⟩; gi_at_call 79; refine HS.out.mono ?_; rintro e W1 ⟨rfl, hbel⟩; obtain ⟨fn, tmps, assign, body, hy, hR⟩ := hY [] z W1 (hJ _ _ _ h0 (kept_of_below hbel)) hN; have HR := Lib.hid (RoundIn.both hR); clear hR hY hJ h0 HS)
  gi_wp2
  refine HR.out.mono ?_
  rintro e W3 ⟨b, rfl, hb⟩
  gi_wp2
  go_end0
  exact ⟨⟨_, rfl⟩, hb.out.elim (fun h => .inl h.2.1) (fun h => .inr ⟨_, h.2.1⟩)⟩
end Go.Proofs.Ytjkbmenmpnidhaa
