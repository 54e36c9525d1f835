/- A send, and a receive: the parts that both have. -/
import Derived.Test.YtfolhgpbplfilaaC6
import Derived.Test.YtfolhgpbplfilaaC7
import Derived.Test.YtfolhgpbplfilaaD1
namespace Go.Proofs.Ytfolhgpbplfilaa
open Go.RowKit
/-- what a call hands back that answers with a channel, an outcome and an error -/
def GotP (w : World) (c : Chn) (o : Out) (why : Int) (e : Ending) (w' : World) : Prop := ∃ q, e = .returned (.tuple #[chV c q, outV o, .int .i64 why]) ∧ Cha w' c q ∧ (∀ B, B < w.heap.size → Ap q B) ∧ Below w.heap.size w w'
theorem zeroP {w w' : World} {why : Int} (hb : Below w.heap.size w w') : GotP w zeroC zeroO why (.returned (.tuple #[.agg zero10, .agg zero6, .int .i64 why])) w' := ⟨zeroA, rfl, Cha.zero w', fun _ _ => ⟨(fun y h => by cases h), (fun y h => by cases h), (fun y h => by cases h)⟩, hb⟩
/-- a channel that is copied, and is at work -/
def Wkd (w X : World) (b0 b1 b2 b3 : Nat) (c : Chn) (q : CAt) (x : Wt) (p : Value) (W : World) : Prop :=
  ∃ B q', p = .pointer (some ⟨B, 0, none⟩) ∧ Wk W B c q' x ∧ Ap q' b2 ∧ Ap q' b3 ∧ Below w.heap.size w W ∧ Bx W b0 (chC c q) 27 ∧ Box3 W b1 x ∧ Bx W b2 zero10 27 ∧ Bx W b3 zero6 50 ∧ X.heap.size ≤ B ∧ ∀ B', B' < X.heap.size → Ap q' B'
theorem wkd_mk {w X W : World} {b0 b1 b2 b3 : Nat} {c : Chn} {q q' : CAt} {x : Wt} (AX : Below w.heap.size w X) (K0 : Bx X b0 (chC c q) 27) (K1 : Box3 X b1 x) (K2 : Bx X b2 zero10 27) (K3 : Bx X b3 zero6 50) (hb : Below X.heap.size X W) (hc : Cha W c q') (fr : ∀ B, B < X.heap.size → Ap q' B) :
    Wkd w X b0 b1 b2 b3 c q x (.pointer (some ⟨W.heap.size, 0, none⟩)) (W.alloc (.cells (wkC c q' x) 61)) :=
  ⟨W.heap.size, q', rfl, ⟨Bx.new W _ 61, hc.below (below_alloc W _), hc.ap (Nat.le_refl _)⟩, fr _ K2.lt, fr _ K3.lt, (AX.trans (Below.mono hb AX.size)).alloc (Nat.le_trans AX.size hb.size) _, (K0.below hb).below (below_alloc W _), (K1.below hb).below (below_alloc W _), (K2.below hb).below (below_alloc W _), (K3.below hb).below (below_alloc W _), hb.size, fr⟩
abbrev st13 (W : World) (B : Nat) (v0 v1 v2 v3 v4 v5 v6 v7 v8 v9 v10 v11 v12 : Value) : World := ((((((((((((W.setCell ⟨B, 0, none⟩ v0).setCell ⟨B, 1, none⟩ v1).setCell ⟨B, 2, none⟩ v2).setCell ⟨B, 3, none⟩ v3).setCell ⟨B, 4, none⟩ v4).setCell ⟨B, 5, none⟩ v5).setCell ⟨B, 6, none⟩ v6).setCell ⟨B, 7, none⟩ v7).setCell ⟨B, 8, none⟩ v8).setCell ⟨B, 9, none⟩ v9).setCell ⟨B, 10, none⟩ v10).setCell ⟨B, 11, none⟩ v11).setCell ⟨B, 12, none⟩ v12
theorem Bx.st13 {W : World} {B : Nat} {x0 x1 x2 x3 x4 x5 x6 x7 x8 x9 x10 x11 x12 : Value} {t : TypeId} (h : Bx W B #[x0, x1, x2, x3, x4, x5, x6, x7, x8, x9, x10, x11, x12] t) (v0 v1 v2 v3 v4 v5 v6 v7 v8 v9 v10 v11 v12 : Value) : Bx (st13 W B v0 v1 v2 v3 v4 v5 v6 v7 v8 v9 v10 v11 v12) B #[v0, v1, v2, v3, v4, v5, v6, v7, v8, v9, v10, v11, v12] t := by
  show Bx (((((((((((((W.setCell ⟨B, 0, none⟩ v0).setCell ⟨B, 1, none⟩ v1).setCell ⟨B, 2, none⟩ v2).setCell ⟨B, 3, none⟩ v3).setCell ⟨B, 4, none⟩ v4).setCell ⟨B, 5, none⟩ v5).setCell ⟨B, 6, none⟩ v6).setCell ⟨B, 7, none⟩ v7).setCell ⟨B, 8, none⟩ v8).setCell ⟨B, 9, none⟩ v9).setCell ⟨B, 10, none⟩ v10).setCell ⟨B, 11, none⟩ v11).setCell ⟨B, 12, none⟩ v12) B _ t
  have h0 : Bx (W.setCell ⟨B, 0, none⟩ v0) B #[v0, x1, x2, x3, x4, x5, x6, x7, x8, x9, x10, x11, x12] t := h.set 0 v0
  generalize W.setCell ⟨B, 0, none⟩ v0 = W0 at h0 ⊢
  have h1 : Bx (W0.setCell ⟨B, 1, none⟩ v1) B #[v0, v1, x2, x3, x4, x5, x6, x7, x8, x9, x10, x11, x12] t := h0.set 1 v1
  generalize W0.setCell ⟨B, 1, none⟩ v1 = W1 at h1 ⊢
  have h2 : Bx (W1.setCell ⟨B, 2, none⟩ v2) B #[v0, v1, v2, x3, x4, x5, x6, x7, x8, x9, x10, x11, x12] t := h1.set 2 v2
  generalize W1.setCell ⟨B, 2, none⟩ v2 = W2 at h2 ⊢
  have h3 : Bx (W2.setCell ⟨B, 3, none⟩ v3) B #[v0, v1, v2, v3, x4, x5, x6, x7, x8, x9, x10, x11, x12] t := h2.set 3 v3
  generalize W2.setCell ⟨B, 3, none⟩ v3 = W3 at h3 ⊢
  have h4 : Bx (W3.setCell ⟨B, 4, none⟩ v4) B #[v0, v1, v2, v3, v4, x5, x6, x7, x8, x9, x10, x11, x12] t := h3.set 4 v4
  generalize W3.setCell ⟨B, 4, none⟩ v4 = W4 at h4 ⊢
  have h5 : Bx (W4.setCell ⟨B, 5, none⟩ v5) B #[v0, v1, v2, v3, v4, v5, x6, x7, x8, x9, x10, x11, x12] t := h4.set 5 v5
  generalize W4.setCell ⟨B, 5, none⟩ v5 = W5 at h5 ⊢
  have h6 : Bx (W5.setCell ⟨B, 6, none⟩ v6) B #[v0, v1, v2, v3, v4, v5, v6, x7, x8, x9, x10, x11, x12] t := h5.set 6 v6
  generalize W5.setCell ⟨B, 6, none⟩ v6 = W6 at h6 ⊢
  have h7 : Bx (W6.setCell ⟨B, 7, none⟩ v7) B #[v0, v1, v2, v3, v4, v5, v6, v7, x8, x9, x10, x11, x12] t := h6.set 7 v7
  generalize W6.setCell ⟨B, 7, none⟩ v7 = W7 at h7 ⊢
  have h8 : Bx (W7.setCell ⟨B, 8, none⟩ v8) B #[v0, v1, v2, v3, v4, v5, v6, v7, v8, x9, x10, x11, x12] t := h7.set 8 v8
  generalize W7.setCell ⟨B, 8, none⟩ v8 = W8 at h8 ⊢
  have h9 : Bx (W8.setCell ⟨B, 9, none⟩ v9) B #[v0, v1, v2, v3, v4, v5, v6, v7, v8, v9, x10, x11, x12] t := h8.set 9 v9
  generalize W8.setCell ⟨B, 9, none⟩ v9 = W9 at h9 ⊢
  have h10 : Bx (W9.setCell ⟨B, 10, none⟩ v10) B #[v0, v1, v2, v3, v4, v5, v6, v7, v8, v9, v10, x11, x12] t := h9.set 10 v10
  generalize W9.setCell ⟨B, 10, none⟩ v10 = W10 at h10 ⊢
  have h11 : Bx (W10.setCell ⟨B, 11, none⟩ v11) B #[v0, v1, v2, v3, v4, v5, v6, v7, v8, v9, v10, v11, x12] t := h10.set 11 v11
  generalize W10.setCell ⟨B, 11, none⟩ v11 = W11 at h11 ⊢
  have h12 : Bx (W11.setCell ⟨B, 12, none⟩ v12) B #[v0, v1, v2, v3, v4, v5, v6, v7, v8, v9, v10, v11, v12] t := h11.set 12 v12
  exact h12
theorem below_st13 {w W : World} {n₀ B : Nat} (h : Below n₀ w W) (hB : n₀ ≤ B) (v0 v1 v2 v3 v4 v5 v6 v7 v8 v9 v10 v11 v12 : Value) : Below n₀ w (st13 W B v0 v1 v2 v3 v4 v5 v6 v7 v8 v9 v10 v11 v12) :=
  (((((((((((((h.setCell (p := ⟨B, 0, none⟩) hB _).setCell (p := ⟨B, 1, none⟩) hB _).setCell (p := ⟨B, 2, none⟩) hB _).setCell (p := ⟨B, 3, none⟩) hB _).setCell (p := ⟨B, 4, none⟩) hB _).setCell (p := ⟨B, 5, none⟩) hB _).setCell (p := ⟨B, 6, none⟩) hB _).setCell (p := ⟨B, 7, none⟩) hB _).setCell (p := ⟨B, 8, none⟩) hB _).setCell (p := ⟨B, 9, none⟩) hB _).setCell (p := ⟨B, 10, none⟩) hB _).setCell (p := ⟨B, 11, none⟩) hB _).setCell (p := ⟨B, 12, none⟩) hB _)
theorem st13_other (W : World) (B : Nat) (v0 v1 v2 v3 v4 v5 v6 v7 v8 v9 v10 v11 v12 : Value) (g : Nat) (hg : g ≠ B) : (st13 W B v0 v1 v2 v3 v4 v5 v6 v7 v8 v9 v10 v11 v12).heap[g]? = W.heap[g]? := by
  show (((((((((((((W.setCell ⟨B, 0, none⟩ v0).setCell ⟨B, 1, none⟩ v1).setCell ⟨B, 2, none⟩ v2).setCell ⟨B, 3, none⟩ v3).setCell ⟨B, 4, none⟩ v4).setCell ⟨B, 5, none⟩ v5).setCell ⟨B, 6, none⟩ v6).setCell ⟨B, 7, none⟩ v7).setCell ⟨B, 8, none⟩ v8).setCell ⟨B, 9, none⟩ v9).setCell ⟨B, 10, none⟩ v10).setCell ⟨B, 11, none⟩ v11).setCell ⟨B, 12, none⟩ v12).heap[g]? = _
  iterate 13 rw [Below.heap_setCell _ _ _ _ (by exact hg)]
theorem grown_st13 {w W : World} {B : Nat} (h : w.grownBy W (some B)) (v0 v1 v2 v3 v4 v5 v6 v7 v8 v9 v10 v11 v12 : Value) : w.grownBy (st13 W B v0 v1 v2 v3 v4 v5 v6 v7 v8 v9 v10 v11 v12) (some B) :=
  (grow_set (grow_set (grow_set (grow_set (grow_set (grow_set (grow_set (grow_set (grow_set (grow_set (grow_set (grow_set (grow_set h 0 _) 1 _) 2 _) 3 _) 4 _) 5 _) 6 _) 7 _) 8 _) 9 _) 10 _) 11 _) 12 _)
abbrev zero13 : Array Value := #[.int .i64 0, .bool false, .int .i64 0, .int .i64 0, .slice none 0 0, .int .i64 0, .int .i64 0, .int .i64 0, .slice none 0 0, .slice none 0 0, .int .i64 0, .int .i64 0, .int .i64 0]
theorem wkd_mk2 {w X W : World} {b0 b1 b2 b3 : Nat} {c : Chn} {q q' : CAt} {x : Wt} (AX : Below w.heap.size w X) (K0 : Bx X b0 (chC c q) 27) (K1 : Box3 X b1 x) (K2 : Bx X b2 zero10 27) (K3 : Bx X b3 zero6 50) (hb : Below X.heap.size X W) (hz : Bx W X.heap.size zero13 61) (hc : Cha W c q') (fr : ∀ B, B < X.heap.size + 1 → Ap q' B) :
    Wkd w X b0 b1 b2 b3 c q x (.pointer (some ⟨X.heap.size, 0, none⟩)) (st13 W X.heap.size (.int .i64 c.cap) (.bool c.cl) (.int .i64 c.rc) (.int .i64 c.rf) (.slice q'.za q'.zn q'.zc) (.int .i64 c.rk) (.int .i64 c.sent) (.int .i64 c.got) (.slice q'.sa q'.sn q'.sc) (.slice q'.ra q'.rn q'.rq) (.int .i64 x.g) (.int .i64 x.c) (.int .i64 x.s)) := by
  have G := grown_st13 (World.grownBy.refl W (some X.heap.size)) (.int .i64 c.cap) (.bool c.cl) (.int .i64 c.rc) (.int .i64 c.rf) (.slice q'.za q'.zn q'.zc) (.int .i64 c.rk) (.int .i64 c.sent) (.int .i64 c.got) (.slice q'.sa q'.sn q'.sc) (.slice q'.ra q'.rn q'.rq) (.int .i64 x.g) (.int .i64 x.c) (.int .i64 x.s)
  have l0 := K0.lt; have l2 := K2.lt; have l3 := K3.lt
  have l1 : b1 < X.heap.size := K1.lt
  have AW := AX.trans (Below.mono hb AX.size)
  refine ⟨X.heap.size, q', rfl, ⟨hz.st13 _ _ _ _ _ _ _ _ _ _ _ _ _, hc.other (fr _ (by omega)) G, fr _ (by omega)⟩, fr _ (by omega), fr _ (by omega), below_st13 AW AX.size _ _ _ _ _ _ _ _ _ _ _ _ _, (K0.below hb).other G (fun e => by cases e; omega), ?_, (K2.below hb).other G (fun e => by cases e; omega), (K3.below hb).other G (fun e => by cases e; omega), Nat.le_refl _, fun B' hB' => fr B' (by omega)⟩
  exact (G.block b1 (Nat.lt_of_lt_of_le l1 hb.size) (fun e => by cases e; omega)).trans (K1.below hb)
theorem right_small {w : World} {c : Chn} {q : CAt} (h : Cha w c q) (hr : rightC c = true) : q.zn ≤ 1000000 ∧ q.sn ≤ 1000000 ∧ q.rn ≤ 1000000 := by
  obtain ⟨n, f, k, g⟩ := good_of hr
  have h1 := h.zs.len_eq; have h2 := h.sends.recs.len_eq; have h3 := h.recvs.recs.len_eq
  have h4 := (right_pair.1 g.sends).1; have h5 := (right_pair.1 g.recvs).1; have h6 := g.zl; have h7 := g.n3
  omega
end Go.Proofs.Ytfolhgpbplfilaa
