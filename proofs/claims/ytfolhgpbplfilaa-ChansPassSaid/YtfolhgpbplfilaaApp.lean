/- Appending waits to a slice of the call's own. -/
import Derived.Test.YtfolhgpbplfilaaRight2
import Derived.StillTailTactics
import Derived.Deep.RegionHeld3
import Derived.Deep.RegionLaw
namespace Go.Proofs.Ytfolhgpbplfilaa
open Go.RowKit

def sameW (x : Wt) (g c : Int) : Bool := x.g == g && x.c == c
set_option maxRecDepth 100000 in
set_option maxHeartbeats 2000000 in
theorem cmp_any (x y : Wt) (B : Nat) (w : World) (hB : Box3 w B y) :
    Calls Try.prog 64 #[wV x, .pointer (some ⟨B, 0, none⟩)] w fun e w' => e = .returned (.bool (sameW x y.g y.c)) ∧ Below w.heap.size w w' := by
  have HB := Lib.hid hB; clear hB
  obtain ⟨q0, q1, q2⟩ := HB.out.cells
  have hl := HB.out.lt
  go_enter Try.func64, Try.ntmps64
  go_wp2_with fail
  have HX := Lib.hid (Box3.new w x)
  have HB0 := Lib.hid (HB.out.below (below_alloc w (.cells #[.int .i64 x.g, .int .i64 x.c, .int .i64 x.s] 48)))
  obtain ⟨W0, hW0⟩ : ∃ W0, W0 = w.alloc (.cells #[.int .i64 x.g, .int .i64 x.c, .int .i64 x.s] 48) := ⟨_, rfl⟩
  have HBL := Lib.hid (show Below w.heap.size w W0 by rw [hW0]; exact below_alloc w _)
  rw [← hW0] at HX HB0 ⊢
  obtain ⟨A, hA⟩ : ∃ A, A = w.heap.size := ⟨_, rfl⟩
  rw [← hA] at HX ⊢
  have HAW := Lib.hid hA
  clear q0 q1 q2 hl hW0 hA
  have HSS : Hid (∀ W', Below W0.heap.size W0 W' → W'.cell? ⟨A, 0, none⟩ = some (.int .i64 x.g) ∧ W'.cell? ⟨A, 1, none⟩ = some (.int .i64 x.c) ∧ W'.cell? ⟨A, 2, none⟩ = some (.int .i64 x.s) ∧ W'.cell? ⟨B, 0, none⟩ = some (.int .i64 y.g) ∧ W'.cell? ⟨B, 1, none⟩ = some (.int .i64 y.c) ∧ W'.cell? ⟨B, 2, none⟩ = some (.int .i64 y.s)) := Lib.hid (fun W' hb => by
    obtain ⟨a0, a1, a2⟩ := (HX.out.below hb).cells
    obtain ⟨b0, b1, b2⟩ := (HB0.out.below hb).cells
    exact ⟨a0, a1, a2, b0, b1, b2⟩)
  have HS := Lib.hid (show sameW x y.g y.c = (x.g == y.g && x.c == y.c) from rfl)
  cases hg : (x.g == y.g) <;> cases hc : (x.c == y.c) <;> rw [hg, hc] at HS
  all_goals
   go_region_held3 (fun W => W.cell? ⟨A, 0, none⟩ = some (.int .i64 x.g) ∧ W.cell? ⟨A, 1, none⟩ = some (.int .i64 x.c) ∧ W.cell? ⟨A, 2, none⟩ = some (.int .i64 x.s) ∧ W.cell? ⟨B, 0, none⟩ = some (.int .i64 y.g) ∧ W.cell? ⟨B, 1, none⟩ = some (.int .i64 y.c) ∧ W.cell? ⟨B, 2, none⟩ = some (.int .i64 y.s))
     ((refine HSS.out _ ?_; first | exact H2.out | exact H1.out | exact (Below.refl _ _).drew))
     ((go_at_call 60; first | (refine (of_any x _).mono ?_; rintro e w1 ⟨rfl, hb⟩; first | (have H2 : Hid (Below W0.heap.size W0 w1) := Lib.hid (H1.out.trans (Below.mono hb H1.out.size)); clear hb) | (have H1 : Hid (Below W0.heap.size W0 w1) := Lib.hid (((Below.refl W0.heap.size W0).drew).trans (Below.mono hb (Nat.le_refl _))); clear hb)) | (refine (of_any y _).mono ?_; rintro e w1 ⟨rfl, hb⟩; first | (have H2 : Hid (Below W0.heap.size W0 w1) := Lib.hid (H1.out.trans (Below.mono hb H1.out.size)); clear hb) | (have H1 : Hid (Below W0.heap.size W0 w1) := Lib.hid (((Below.refl W0.heap.size W0).drew).trans (Below.mono hb (Nat.le_refl _))); clear hb))))
   all_goals
    go_wp2_with fail
    go_ret
    exact ⟨ret_bool (by rw [HS.out]; rfl), HBL.out.trans (Below.mono H2.out HBL.out.size)⟩

set_option maxRecDepth 100000 in
set_option maxHeartbeats 2000000 in
theorem IndexFunc_any (a : Option Addr) (len cap : Nat) (L : List Wt) (y : Wt) (B : Nat) (w : World) (hL : Wts w a len cap L) (hB : Box3 w B y) :
    Calls Try.prog 70 #[.slice a len cap, .func (.func 64) #[] #[.pointer (some ⟨B, 0, none⟩)]] w fun e w' => (∃ i : Int, e = .returned (.int .i64 i) ∧ decide (0 ≤ i) = hasW L y.g y.c) ∧ Below w.heap.size w w' := by
  have hcm := hL.recs.len_le
  have HLL := Lib.hid hL.recs.len_eq
  have HL := Lib.hid hL; clear hL
  have HB := Lib.hid hB; clear hB
  go_enter Try.func70, Try.ntmps70
  go_wp2_with fail
  go_loopw [8] (fun i wr => ∃ k : Nat, k ≤ len ∧ i = .int .i64 k ∧ hasW (L.take k) y.g y.c = false ∧ Below w.heap.size w wr) (fun i _ => len - (intOf i).toNat)
  case atStart => exact ⟨0, Nat.zero_le _, rfl, rfl, Below.refl _ _⟩
  case round =>
    obtain ⟨k, hk, rfl, hno, hb⟩ := hrel
    have HN := Lib.hid hno; have HBW := Lib.hid hb
    clear hno hb
    by_cases hlt : k < len
    · have hlt' : (k : Int) < (len : Int) := by omega
      obtain ⟨x, b, off, hx, hok, rfl, c0, c1, c2⟩ := (HL.out.below HBW.out).at k hlt
      have HX := Lib.hid hx; clear hx
      have HC := Lib.hid (cmp_any x y B wr (HB.out.below HBW.out))
      have HN1 := Lib.hid (hasW_snoc (L.take k) x y.g y.c)
      go_wp2_with fail
      refine HC.out.mono ?_
      rintro e w1 ⟨rfl, hb1⟩
      have HBW1 := Lib.hid (HBW.out.trans (hb1.mono HBW.out.size))
      clear hb1 c0 c1 c2
      cases hs : sameW x y.g y.c with
      | true =>
        have R := Lib.hid (show hasW L y.g y.c = true from List.any_eq_true.2 ⟨x, List.mem_of_getElem? HX.out, hs⟩)
        clear hs
        go_wp2_with fail
        go_ret
        exact ⟨⟨_, rfl, by rw [R.out]; simp⟩, HBW1.out⟩
      | false =>
        have HS := Lib.hid hs; clear hs
        go_wp2_with fail
        go_roundw
        case rel => exact ⟨k + 1, by omega, by go_num, by rw [take_snoc' HX.out, HN1.out, HN.out]; exact HS.out, HBW1.out⟩
        case measure => simp [intOf]; omega
    · have hkn : k = len := by omega
      subst hkn
      have R := Lib.hid (show hasW L y.g y.c = false by have := HN.out; rwa [List.take_of_length_le (by rw [HLL.out]; exact Nat.le_refl _)] at this)
      go_wp2_with fail
      go_ret
      exact ⟨⟨-1, rfl, by rw [R.out]; rfl⟩, HBW.out⟩

set_option maxRecDepth 100000 in
theorem ContainsFunc_any (a : Option Addr) (len cap : Nat) (L : List Wt) (y : Wt) (B : Nat) (w : World) (hL : Wts w a len cap L) (hB : Box3 w B y) :
    Calls Try.prog 63 #[.slice a len cap, .func (.func 64) #[] #[.pointer (some ⟨B, 0, none⟩)]] w fun e w' => e = .returned (.bool (hasW L y.g y.c)) ∧ Below w.heap.size w w' := by
  have HC := Lib.hid (IndexFunc_any a len cap L y B w hL hB)
  clear hL hB
  go_enter Try.func63, Try.ntmps63
  go_wp2_with fail
  refine HC.out.mono ?_
  rintro e w1 ⟨⟨i, rfl, hi⟩, hb1⟩
  have HI := Lib.hid hi; have HB := Lib.hid hb1
  clear hi hb1
  by_cases h0 : 0 ≤ i
  all_goals
    go_wp2_with fail
    go_ret
    exact ⟨ret_bool (by rw [← HI.out]; try simp [h0]), HB.out⟩
end Go.Proofs.Ytfolhgpbplfilaa
namespace Go.Proofs.Ytfolhgpbplfilaa
open Go.RowKit
theorem Try.info24 : (Try.prog.info? 48).map (fun i => (i.zero, i.size, i.bytes)) = some (some (.agg #[.int .i64 0, .int .i64 0, .int .i64 0]), 3, 24) := by kernel_rfl

abbrev OwnW := OwnR 48 3 wcells
theorem flat_one (M : List Wt) : ∀ u ∈ M.flatMap wcells, u.oneCell' = true := by
  intro u hu
  obtain ⟨x, _, hx⟩ := List.mem_flatMap.1 hu
  simp [wcells] at hx
  rcases hx with rfl | rfl | rfl <;> rfl
theorem Recs.flat {w : World} {a : Addr} {len cap : Nat} {L : List Wt} (h : Recs 3 wcells w (some a) len cap L) : ∀ j u, (L.flatMap wcells)[j]? = some u → w.cell? (a.add j) = some u := by
  intro j u hj
  have hjl : j < (L.flatMap wcells).length := (List.getElem?_eq_some_iff.1 hj).1
  rw [flat_len wcells_len] at hjl
  have hi : j / 3 < L.length := by omega
  have hx : L[j / 3]? = some L[j / 3] := List.getElem?_eq_getElem hi
  obtain ⟨b, off, e, hc⟩ := h.cell (j / 3) _ hx
  cases e
  have h2 := flat_at wcells_len L (j / 3) (j % 3) _ hx (Nat.mod_lt _ (by omega))
  rw [show j / 3 * 3 + j % 3 = j by omega, hj] at h2
  have h3 := hc (j % 3) u h2.symm
  rw [Addr.add_lit, show off + j = off + j / 3 * 3 + j % 3 by omega]; exact h3
theorem run_appR (w : World) (ty : TypeId) (base : Nat) (v : Value) (L : List Wt) (hown : OwnW w base v L) (ax : Option Addr) (m cx : Nat) (M : List Wt) (hsrc : Recs 3 wcells w ax m cx M) (hlen : L.length ≤ 1000000) (hlen2 : m ≤ 1000000) (hbase : base ≤ w.heap.size) :
    ∃ v' w', (Builtin.append_ #[25, 25] ty #[v, .slice ax m cx]).run Try.prog w = .ok v' w' ∧ OwnW w' base v' (L ++ M) ∧ w.grownBy w' v.ownBlock := by
  obtain ⟨i0, hi, hz0, hz1, hz2⟩ := info_parts Try.info24
  have hM := hsrc.len_eq
  cases ax with
  | none =>
    have hc := hsrc.none_ rfl
    have hl := hsrc.le_cap
    obtain rfl : cx = 0 := hc
    obtain rfl : m = 0 := by omega
    obtain rfl : M = [] := List.eq_nil_of_length_eq_zero hM
    have hrun := run_append_owned_none (P := Try.prog) (w := w) base 25 ty 48 i0 3 Try.underlying25 hi v L.length (L.flatMap wcells) hown
    exact ⟨v, w, hrun, by rw [List.append_nil]; exact hown, ⟨rfl, rfl, rfl, Nat.le_refl _, fun _ _ _ => rfl⟩⟩
  | some ad =>
    obtain ⟨v', w', hrun, r1, r2, _⟩ := run_append_own (P := Try.prog) w base 25 ty 48 i0 _ 3 24 Try.underlying25 hi hz0 hz1 hz2 rfl (by decide) v L.length (L.flatMap wcells) hown ad m cx (M.flatMap wcells) (by rw [flat_len wcells_len, hM]) hsrc.flat (flat_one M) (by unfold maxLen; omega) (by omega) hbase
    refine ⟨v', w', hrun, ?_, r2⟩
    show w'.ownsRow base 48 3 v' (L ++ M).length ((L ++ M).flatMap wcells)
    rw [List.flatMap_append, List.length_append, hM]; exact r1
theorem wpList_appR {ops : Array Oper} {rest : List Oper} {o : Oper} {a : Act} {w : World} {Q : Exit → Act → World → Prop} (hgd : o.guard = none) (s x : Operand)
    (ho : o.op = .call { callee := .builtin .append, args := #[s, x], argTypes := #[25, 25] }) (base : Nat) (v : Value) (L : List Wt) (hs : a.eval s = v) (hown : OwnW w base v L)
    (ax : Option Addr) (m cx : Nat) (M : List Wt) (hx : a.eval x = .slice ax m cx) (hsrc : Recs 3 wcells w ax m cx M) (hlen : L.length ≤ 1000000) (hlen2 : m ≤ 1000000) (hbase : base ≤ w.heap.size)
    (h : ∀ v' w', Hid (OwnW w' base v' (L ++ M)) → Hid (w.grownBy w' v.ownBlock) → wpList Try.prog ops Q rest (a.put o.dst v') w') :
    wpList Try.prog ops Q (o :: rest) a w := by
  refine wpList_plain hgd fun K hK' => ?_
  obtain ⟨v', w', hrun, r1, r2⟩ := run_appR w o.type base v L hown ax m cx M hsrc hlen hlen2 hbase
  unfold Oper.wp
  simp [execOp, ho, resolve, invoke, builtin, hs, hx, hrun, Result.andThen]
  exact hK' _ _ (h v' w' r1 r2)
theorem step_appR {ops : Array Oper} {o : Oper} {a : Act} {w : World} {K : Act → World → Prop} {Q : Exit → Act → World → Prop} {E : Prop} (hgd : Region.wanted o (yielded ops a.tmps) = true) (s x : Operand)
    (ho : o.op = .call { callee := .builtin .append, args := #[s, x], argTypes := #[25, 25] }) (base : Nat) (v : Value) (L : List Wt) (hs : a.eval s = v) (hown : OwnW w base v L)
    (ax : Option Addr) (m cx : Nat) (M : List Wt) (hx : a.eval x = .slice ax m cx) (hsrc : Recs 3 wcells w ax m cx M) (hlen : L.length ≤ 1000000) (hlen2 : m ≤ 1000000) (hbase : base ≤ w.heap.size)
    (h : ∀ v' w', Hid (OwnW w' base v' (L ++ M)) → Hid (w.grownBy w' v.ownBlock) → K (a.put o.dst v') w') :
    if Region.wanted o (yielded ops a.tmps) = true then Oper.wp Try.prog o a w K Q else E := by
  rw [if_pos hgd]
  obtain ⟨v', w', hrun, r1, r2⟩ := run_appR w o.type base v L hown ax m cx M hsrc hlen hlen2 hbase
  unfold Oper.wp
  simp [execOp, ho, resolve, invoke, builtin, hs, hx, hrun, Result.andThen]
  exact h v' w' r1 r2
theorem ownR_empty {w : World} {base B : Nat} (h : w.heap[B]? = some (.cells #[] 48 (0, 0))) (hB : base ≤ B) : OwnW w base (.slice (some ⟨B, 0, none⟩) 0 0) [] :=
  ⟨rfl, .inr ⟨B, 0, #[], rfl, hB, h, Nat.le_refl _, by decide, rfl, rfl⟩⟩
theorem ownR_nil (w : World) (base : Nat) : OwnW w base (.slice none 0 0) [] := ⟨rfl, .inl ⟨rfl, rfl⟩⟩
theorem recs_one {w : World} {B : Nat} {x : Wt} (h : Box3 w B x) : Recs 3 wcells w (some ⟨B, 0, none⟩) 1 1 [x] := by
  refine ⟨rfl, Nat.le_refl _, by decide, fun e => by simp at e, fun i y hy => ⟨B, 0, rfl, fun j u hj => ?_⟩⟩
  match i, hy with
  | 0, hy =>
    simp at hy; subst hy
    obtain ⟨c0, c1, c2⟩ := h.cells
    match j, hj with
    | 0, hj => simp [wcells] at hj; subst hj; exact c0
    | 1, hj => simp [wcells] at hj; subst hj; exact c1
    | 2, hj => simp [wcells] at hj; subst hj; exact c2

set_option maxRecDepth 100000 in
set_option maxHeartbeats 2000000 in
theorem Clone_any (a : Option Addr) (len cap : Nat) (L : List Wt) (w : World) (hL : Wts w a len cap L) (hl : len ≤ 1000000) :
    Calls Try.prog 53 #[.slice a len cap] w fun e w' => ∃ v, e = .returned v ∧ OwnW w' w.heap.size v L ∧ Below w.heap.size w w' := by
  have HL := Lib.hid hL; clear hL
  cases a with
  | none =>
    have hn : len = 0 ∧ cap = 0 ∧ L = [] := by
      have h1 := HL.out.recs.none_ rfl; have h2 := HL.out.recs.le_cap; have h3 := HL.out.recs.len_eq
      exact ⟨by omega, h1, List.eq_nil_of_length_eq_zero (by omega)⟩
    obtain ⟨rfl, rfl, rfl⟩ := hn
    have hk := @Lib.run_eql_slice_nil Try.prog
    go_enter Try.func53, Try.ntmps53
    go_wp2_with fail
    go_ret
    exact ⟨_, rfl, ownR_nil w _, Below.refl _ _⟩
  | some ad =>
    have hk := @Lib.run_eql_slice_nil Try.prog
    go_enter Try.func53, Try.ntmps53
    go_wp2_with (at_builtin; refine wpList_appR rfl _ _ rfl w.heap.size _ [] rfl (ownR_empty (heap_alloc_new w _) (Nat.le_refl _)) _ _ _ L rfl (HL.out.recs.below (below_alloc w _)) (by simp) hl (by simp) ?_; intro v' w' ho hg)
    have HB := Lib.hid ((below_alloc w (.cells #[] 48)).grown hg.out (by simp) (fun r hr => by cases hr; exact Nat.le_refl _))
    rw [List.nil_append] at ho
    clear hg
    go_wp2_with fail
    go_ret
    exact ⟨_, rfl, ho.out, HB.out⟩
end Go.Proofs.Ytfolhgpbplfilaa
