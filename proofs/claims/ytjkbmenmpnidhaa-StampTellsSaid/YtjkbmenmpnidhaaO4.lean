/- A book is opened. -/
import Derived.Test.YtjkbmenmpnidhaaP3
import Derived.Test.YtjkbmenmpnidhaaC5
import Derived.Maps.OwnOps
namespace Go.Proofs.Ytjkbmenmpnidhaa
open Go.RowKit Go.Maps
set_option linter.unusedSimpArgs false
set_option linter.unusedVariables false
theorem rising_any (p : BP) (cn : Nat) (caps : List Int) (L : List Ev) (i : Nat) (w : World) (hcn : p.cn = cn) (hb : Book w p caps L) (hi : i < p.n) (hg : Good cn caps L) : Calls Try.prog 20 #[bkV p, .int .i64 (i : Int)] w (GotInts w (edgesZ caps L i)) := by
  have hl := hb.evs.recs.len_eq
  have hil : i < L.length := by omega
  refine (callsIn_wide.1 (rising_in 8 (by omega) p caps L i w hb hi hg.few (by rw [hcn]; exact hg.cap i hil))).mono ?_
  rintro e w' ⟨v, rfl, ho, hb'⟩
  rw [rising_edges hg.right hil] at ho
  obtain ⟨a, c, rfl, hI⟩ := ho.ints (edges_i64 caps L i (by have := hg.few; omega))
  exact ⟨_, _, _, rfl, hI, hb'⟩
abbrev st3 (W : World) (B : Nat) (v0 v1 v2 : Value) : World := (((W.setCell ⟨B, 0, none⟩ v0).setCell ⟨B, 1, none⟩ v1).setCell ⟨B, 2, none⟩ v2)
theorem grow_set {a w : World} {b : Nat} (h : a.grownBy w (some b)) (i : Nat) (v : Value) : a.grownBy (w.setCell ⟨b, i, none⟩ v) (some b) := h.trans (grow_setCell w b i v)
theorem grown_st3 {w W : World} {B : Nat} (h : w.grownBy W (some B)) (v0 v1 v2 : Value) : w.grownBy (st3 W B v0 v1 v2) (some B) := (grow_set (grow_set (grow_set h 0 _) 1 _) 2 _)
theorem Bx.st3 {W : World} {B : Nat} {x0 x1 x2 : Value} {t : TypeId} (h : Bx W B #[x0, x1, x2] t) (v0 v1 v2 : Value) : Bx (st3 W B v0 v1 v2) B #[v0, v1, v2] t := by
  show Bx (((W.setCell ⟨B, 0, none⟩ v0).setCell ⟨B, 1, none⟩ v1).setCell ⟨B, 2, none⟩ v2) B _ t
  have h0 : Bx (W.setCell ⟨B, 0, none⟩ v0) B #[v0, x1, x2] t := h.set 0 v0
  generalize W.setCell ⟨B, 0, none⟩ v0 = W0 at h0 ⊢
  have h1 : Bx (W0.setCell ⟨B, 1, none⟩ v1) B #[v0, v1, x2] t := h0.set 1 v1
  generalize W0.setCell ⟨B, 1, none⟩ v1 = W1 at h1 ⊢
  exact h1.set 2 v2
theorem inf41 : (Try.prog.info? 41).map (·.size) = some 3 := by kernel_rfl
theorem bk_res {fn : Func} {p u : Tmp} (h : fn.results = #[.cell p 41, .tmp u]) (tmps : Array Value) {W : World} {B : Nat} {v0 v1 v2 : Value} (hp : tmps.getD p undef = .pointer (some ⟨B, 0, none⟩)) (hg : Bx W B #[v0, v1, v2] 41) :
    (results fn tmps).run Try.prog W = .ok (.tuple #[.agg #[v0, v1, v2], tmps.getD u undef]) W := by
  rw [results_cell_tmp h, hp]
  have hl : (loadVar 41 ⟨B, 0, none⟩).run Try.prog W = .ok (.agg #[v0, v1, v2]) W := run_loadVar_row W B 41 41 #[v0, v1, v2] (0, 0) _ hg Try.underlying41 (by kernel_rfl) inf41
  simp [asAddr, Result.andThen, hl]
theorem wpList_mp_store {ops : Array Oper} {rest : List Oper} {o : Oper} {a : Act} {w : World} {Q : Exit → Act → World → Prop} (hgd : o.guard = none) (m x v : Operand) (ho : o.op = Op.mapUpdate 39 m x v)
    (B n : Nat) (S : Int → Int → Int → Option Int) (hm : a.eval m = .map (some B)) (h : Mp w B n S) (hn : n ≤ 1000000) (k ob ah z : Int) (hx : a.eval x = mkV k ob ah) (hv : a.eval v = .int .i64 z) (hk : I64 k) (hob : I64 ob) (ha : I64 ah) (hz : I64 z)
    (hK : ∀ w', Hid (Mp w' B (n + 1) (fun k' o' a' => if k' = k ∧ o' = ob ∧ a' = ah then some z else S k' o' a')) → Hid (w.grownBy w' (some B)) → wpList Try.prog ops Q rest (a.put o.dst undef) w') :
    wpList Try.prog ops Q (o :: rest) a w := by
  refine wpList_plain hgd fun K' hK' => ?_
  obtain ⟨w', hrun, r1, r2⟩ := h.store (by unfold maxLen; omega) k ob ah z hk hob ha hz
  unfold Oper.wp
  simp [execOp, ho, hm, hx, hv, hrun, Result.andThen]
  exact hK' _ _ (hK w' r1 r2)
set_option maxRecDepth 100000 in
set_option maxHeartbeats 8000000 in
theorem opened_bad (ca : Option Addr) (cn cc : Nat) (caps : List Int) (a : Option Addr) (n c : Nat) (L : List Ev) (w : World) (hcp : Ints w ca cn cc caps) (h : Evs w a n c L) (hok : capsB caps = false) :
    Calls Try.prog 19 #[.slice ca cn cc, .slice a n c] w fun e w' => e = .returned (.tuple #[.agg #[.slice none 0 0, .slice none 0 0, .map none], .int .i64 1]) ∧ Below w.heap.size w w' := by
  have B_0 := Lib.hid (below_alloc w (.cells #[.slice none 0 0, .slice none 0 0, .map none] 41))
  have K_0 := Lib.hid (Bx.new w #[.slice none 0 0, .slice none 0 0, .map none] 41)
  go_enter Try.func19, Try.ntmps19
  go_wp2_with fail
  refine (Wrong_bad ca cn cc caps a n c _ (hcp.below B_0.out) hok).mono ?_
  rintro e w1 ⟨rfl, hb⟩
  have B_1 := Lib.hid (B_0.out.trans (Below.mono hb B_0.out.size))
  have K_1 := Lib.hid (K_0.out.below hb)
  clear hb K_0
  obtain ⟨b0, hb0⟩ : ∃ b, b = w.heap.size := ⟨_, rfl⟩
  have HB0 := Lib.hid hb0
  rw [← hb0] at K_1 ⊢
  clear hb0
  obtain ⟨t0, t1, t2⟩ := K_1.out.cells3
  have f0 := K_1.out.froz 0; have f1 := K_1.out.froz 1; have f2 := K_1.out.froz 2; have hlt := K_1.out.lt
  go_wp2_with fail
  refine bodyPost_ret (bk_res rfl _ rfl (K_1.out.st3 (.slice none 0 0) (.slice none 0 0) (.map none))) rfl ?_
  exact ⟨rfl, B_1.out.grown (grown_st3 (World.grownBy.refl w1 (some b0)) _ _ _) B_1.out.size (fun k hk => by cases hk; rw [HB0.out]; exact Nat.le_refl _)⟩
set_option maxRecDepth 100000 in
set_option maxHeartbeats 8000000 in
theorem opened_wrong (ca : Option Addr) (cn cc : Nat) (caps : List Int) (a : Option Addr) (n c : Nat) (L : List Ev) (w : World) (hcp : Ints w ca cn cc caps) (h : Evs w a n c L) (hok : capsB caps = true) (z : Nat) (hz : wrongZ caps L = (z : Int)) (hn : n ≤ 1000) :
    Calls Try.prog 19 #[.slice ca cn cc, .slice a n c] w fun e w' => e = .returned (.tuple #[.agg #[.slice none 0 0, .slice none 0 0, .map none], .int .i64 1]) ∧ Below w.heap.size w w' := by
  have B_0 := Lib.hid (below_alloc w (.cells #[.slice none 0 0, .slice none 0 0, .map none] 41))
  have K_0 := Lib.hid (Bx.new w #[.slice none 0 0, .slice none 0 0, .map none] 41)
  have HW := Lib.hid (Wrong_ok ca cn cc caps a n c L _ (hcp.below B_0.out) hok (h.below B_0.out) hn)
  rw [hz] at HW
  have hz0 : (0 : Int) ≤ (z : Int) := by omega
  go_enter Try.func19, Try.ntmps19
  go_wp2_with fail
  refine (HW.out).mono ?_
  rintro e w1 ⟨rfl, hb⟩
  have B_1 := Lib.hid (B_0.out.trans (Below.mono hb B_0.out.size))
  have K_1 := Lib.hid (K_0.out.below hb)
  clear hb K_0
  obtain ⟨b0, hb0⟩ : ∃ b, b = w.heap.size := ⟨_, rfl⟩
  have HB0 := Lib.hid hb0
  rw [← hb0] at K_1 ⊢
  clear hb0
  obtain ⟨t0, t1, t2⟩ := K_1.out.cells3
  have f0 := K_1.out.froz 0; have f1 := K_1.out.froz 1; have f2 := K_1.out.froz 2; have hlt := K_1.out.lt
  go_wp2_with fail
  refine bodyPost_ret (bk_res rfl _ rfl (K_1.out.st3 (.slice none 0 0) (.slice none 0 0) (.map none))) rfl ?_
  exact ⟨rfl, B_1.out.grown (grown_st3 (World.grownBy.refl w1 (some b0)) _ _ _) B_1.out.size (fun k hk => by cases hk; rw [HB0.out]; exact Nat.le_refl _)⟩
end Go.Proofs.Ytjkbmenmpnidhaa
