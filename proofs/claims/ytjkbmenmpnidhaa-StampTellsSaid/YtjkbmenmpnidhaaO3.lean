/- What an event waits for, handed on one by one: the closure of others. -/
import Derived.Test.YtjkbmenmpnidhaaO1
import Derived.Test.YtjkbmenmpnidhaaHd
import Derived.BigRegionIn
import Derived.Stop.RegionWithIn
namespace Go.Proofs.Ytjkbmenmpnidhaa
open Go.RowKit Go.Shelf
attribute [local go_sem] Oper.semAt_some
set_option linter.unusedSimpArgs false
set_option linter.unusedVariables false
set_option maxRecDepth 100000 in
set_option maxHeartbeats 8000000 in
theorem others_3 (n N : Nat) (hn : 2 ≤ n) (l B eb bb : Nat) (fix : Nat → Prop) (p : BP) (caps : List Int) (L : List Ev) (x0 x3 x4 : Int) (q : Nat) (J Jx : List Int → World → Prop) (W : World) (hE : Bx W eb #[.int .i64 x0, .int .i64 3, .int .i64 (q : Int), .int .i64 x3, .int .i64 x4] 48) (hK : Bx W bb (bkC p) 41) (hb : Book W p caps L) (w0 : World) (hb0 : Book w0 p caps L) (hw : Below w0.heap.size w0 W) (hf0 : ∀ k, k < w0.heap.size → fix k) (hfe : fix eb) (hfb : fix bb) (hq : q < p.cn) (hx2 : I64 (q : Int)) (hx3 : I64 x3) (hs1 : -9223372036854775808 ≤ x3 - en caps q) (hs2 : x3 - en caps q ≤ 9223372036854775807)
    (hJ : ∀ s A C, J s A → Kept (itP B) A C → J s C) (hY : ∀ pre x W1, J pre W1 → pre.length < N → YieldAt Fence.wide (n - 1) Try.prog l (encI x) W1 fun e W' => (e = .returned (.bool true) ∧ J (pre ++ [x]) W' ∧ Kept (rdP fix B) W1 W') ∨ (e = .returned (.bool false) ∧ Jx (pre ++ [x]) W' ∧ Kept (rdP fix B) W1 W')) (h0 : J [] W) (hN : 0 < N) :
    CallsIn Fence.wide n Try.prog 77 #[.func (.yield l) #[] #[], .pointer (some ⟨eb, 0, none⟩), .pointer (some ⟨bb, 0, none⟩)] W fun e W' => (∃ v, e = .returned v) ∧ (J [startZ L 5 (q : Int) (x3 - en caps q)] W' ∨ ∃ pre, Jx pre W') := by
  have h1n : 1 ≤ n := by omega
  have h2n : 1 ≤ n - 1 := by omega
  obtain ⟨z0, z1, z2, z3, z4⟩ := hE.cells5
  obtain ⟨u0, u1, u2⟩ := hK.cells3
  obtain ⟨cb, co, hca, hcc0⟩ := hb0.caps.cell q hq
  have hcc := (show Cl w0 _ _ from hcc0).below hw
  obtain ⟨cp, hcp⟩ : ∃ z, z = en caps q := ⟨_, rfl⟩
  rw [← hcp] at hcc hcc0 hs1 hs2 ⊢
  clear hcp
  have hsub : IntKind.i64.wrap (x3 - cp) = x3 - cp := by rw [IntKind.wrap_i64]; omega
  have hqn : (q : Int) < (p.cn : Int) := by omega
  have HS := Lib.hid (callsIn_wide (n := n - 1) |>.2 (start_any p caps L 5 (q : Int) (x3 - cp) W.drew (hb.below (Below.refl _ W).drew) ⟨by decide, by decide⟩ hx2 ⟨hs1, hs2⟩))
  have HJ := Lib.hid (hJ _ _ _ h0 (Kept.drew _ _))
  have HCC := Lib.hid hcc
  have HC0 := Lib.hid (show Cl w0 ⟨cb, co + q, none⟩ (.int .i64 cp) from hcc0)
  have HW := Lib.hid hw; have HF0 := Lib.hid hf0
  have HEE := Lib.hid (hE.below (Below.refl _ W).drew); have HKK := Lib.hid (hK.below (Below.refl _ W).drew)
  have HC2 := Lib.hid (HCC.out.below (Below.refl _ W).drew)
  unfold IntTo at HS
  obtain ⟨z, hz⟩ : ∃ z, z = startZ L 5 (q : Int) (x3 - cp) := ⟨_, rfl⟩
  rw [← hz] at HS ⊢
  clear hz hb hE hK hcc hcc0 hb0 hw hf0
  unfold bkV bkC at HS
  unfold bkC at HKK
  obtain ⟨ca, cn, cc, a, n2, c, M⟩ := p
  dsimp only at hca hqn u0 u1 u2 HS hq HKK
  subst hca
  refine callsIn_of_wp Try.func77 rfl trivial ?_ rfl
  simp only [Try.ntmps77, List.size_toArray, List.length_cons, List.length_nil, Nat.reduceAdd, Nat.reduceSub, Array.replicate_succ, Array.replicate_zero, List.push_toArray, List.append_toArray, List.nil_append, List.cons_append]
  gi_wp2
  refine held_region (S := (fun V => V.cell? ⟨eb, 2, none⟩ = some (.int .i64 (q : Int)) ∧ V.cell? ⟨eb, 3, none⟩ = some (.int .i64 x3) ∧ V.cell? ⟨bb, 0, none⟩ = some (.slice (some ⟨cb, co, none⟩) cn cc) ∧ V.cell? ⟨bb, 1, none⟩ = some (.slice a n2 c) ∧ V.cell? ⟨bb, 2, none⟩ = some (.map (some M)) ∧ V.cell? ⟨cb, co + q, none⟩ = some (.int .i64 cp))) (by kernel_rfl) ⟨Bx.cell HEE.out 2 rfl, Bx.cell HEE.out 3 rfl, Bx.cell HKK.out 0 rfl, Bx.cell HKK.out 1 rfl, Bx.cell HKK.out 2 rfl, HC2.out⟩ (fun hHeld => ?_)
  (try simp only [Act.put, List.getElem_toArray, List.getElem_cons_zero, List.getElem_cons_succ, List.setIfInBounds_toArray, List.set_cons_zero, List.set_cons_succ])
  refine reads [0, 1, 2, 3, 4, 5, 6, 7, 8, 9, 10, 11, 12, 13] (by kernel_rfl) (fun _ _ _ _ _ h => h) (by assumption) ?_
  iterate 14 (refine allr_cons (v := ?_) rfl (Or.inl ⟨?_, fun w hSw => ?_⟩) ?_; rotate_left; rfl; ((try dsimp only at hSw); go_simp; try with_reducible rfl); (try simp only [Act.put, List.getElem_toArray, List.getElem_cons_zero, List.getElem_cons_succ, List.setIfInBounds_toArray, List.set_cons_zero, List.set_cons_succ]))
  refine allr_nil ?_
  refine held_one (i := 14) (by kernel_rfl) rfl (fun K hK => ?_)
  go_simp
  refine ⟨trivial, ?_⟩
  refine HS.out.mono ?_
  rintro e W1 ⟨rfl, hbel⟩
  have E1 := Lib.hid (HEE.out.below hbel); have K1 := Lib.hid (HKK.out.below hbel); have C1 := Lib.hid (HC2.out.below hbel)
  have B1 := Lib.hid ((HW.out.trans (Below.refl w0.heap.size W).drew).trans (Below.mono hbel HW.out.size))
  obtain ⟨fn, tmps, assign, body, hy, hR⟩ := hY [] z W1 (hJ _ _ _ HJ.out (kept_of_below hbel)) hN
  have HR := Lib.hid (RoundIn.both hR)
  clear hR hY hJ h0 HS hHeld HEE HKK HC2 HCC hbel u0 u1 u2 z0 z1 z2 z3 z4
  refine hK.out _ _ ⟨Bx.cell E1.out 2 rfl, Bx.cell E1.out 3 rfl, Bx.cell K1.out 0 rfl, Bx.cell K1.out 1 rfl, Bx.cell K1.out 2 rfl, C1.out⟩ ?_
  clear hK K
  (try simp only [Act.put, List.getElem_toArray, List.getElem_cons_zero, List.getElem_cons_succ, List.setIfInBounds_toArray, List.set_cons_zero, List.set_cons_succ])
  refine held_one (i := 15) (by kernel_rfl) rfl (fun K hK => ?_)
  go_simp
  refine HR.out.mono ?_
  rintro e W3 ⟨b, rfl, hb⟩
  have hk3 : Kept (rdP fix B) W1 W3 := hb.out.elim (fun h => h.2.2) (fun h => h.2.2)
  have E3 := Lib.hid (E1.out.keptR hk3 (.inl hfe)); have K3 := Lib.hid (K1.out.keptR hk3 (.inl hfb))
  have C3 := Lib.hid (HC0.out.below (B1.out.trans (hk3.below (fun k o hk _ => .inl (HF0.out k hk)) B1.out.size)))
  refine hK.out _ _ ⟨Bx.cell E3.out 2 rfl, Bx.cell E3.out 3 rfl, Bx.cell K3.out 0 rfl, Bx.cell K3.out 1 rfl, Bx.cell K3.out 2 rfl, C3.out⟩ ?_
  clear hK K
  (try simp only [Act.put, List.getElem_toArray, List.getElem_cons_zero, List.getElem_cons_succ, List.setIfInBounds_toArray, List.set_cons_zero, List.set_cons_succ])
  refine held_done (by kernel_rfl) ?_ _
  gi_wp2
  go_end0
  exact ⟨⟨_, rfl⟩, hb.out.elim (fun h => .inl h.2.1) (fun h => .inr ⟨_, h.2.1⟩)⟩
end Go.Proofs.Ytjkbmenmpnidhaa
