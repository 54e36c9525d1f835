/- Reading an instruction: the program. -/
import Derived.Test.YtddkckppmjcclaaD1
namespace Go.Proofs.Ytddkckppmjcclaa
open Go.RowKit
set_option linter.unusedSimpArgs false
set_option linter.unusedVariables false
abbrev st2 (W : World) (B : Nat) (v0 v1 : Value) : World := ((W.setCell ⟨B, 0, none⟩ v0).setCell ⟨B, 1, none⟩ v1)
theorem Bx.st2 {W : World} {B : Nat} {x0 x1 : Value} {t : TypeId} (h : Bx W B #[x0, x1] t) (v0 v1 : Value) : Bx (st2 W B v0 v1) B #[v0, v1] t := by
  show Bx ((W.setCell ⟨B, 0, none⟩ v0).setCell ⟨B, 1, none⟩ v1) B _ t
  have h0 : Bx (W.setCell ⟨B, 0, none⟩ v0) B #[v0, x1] t := h.set 0 v0
  generalize W.setCell ⟨B, 0, none⟩ v0 = W0 at h0 ⊢
  have h1 : Bx (W0.setCell ⟨B, 1, none⟩ v1) B #[v0, v1] t := h0.set 1 v1
  exact h1
theorem grown_st2 {w W : World} {B : Nat} (h : w.grownBy W (some B)) (v0 v1 : Value) : w.grownBy (st2 W B v0 v1) (some B) := (grow_set (grow_set h 0 _) 1 _)
theorem Bx.cells2 {W : World} {B : Nat} {x0 x1 : Value} {t : TypeId} (h : Bx W B #[x0, x1] t) : W.cell? ⟨B, 0, none⟩ = some x0 ∧ W.cell? ⟨B, 1, none⟩ = some x1 := ⟨Bx.cell h 0 rfl, Bx.cell h 1 rfl⟩
abbrev st3 (W : World) (B : Nat) (v0 v1 v2 : Value) : World := (((W.setCell ⟨B, 0, none⟩ v0).setCell ⟨B, 1, none⟩ v1).setCell ⟨B, 2, none⟩ v2)
theorem Bx.st3 {W : World} {B : Nat} {x0 x1 x2 : Value} {t : TypeId} (h : Bx W B #[x0, x1, x2] t) (v0 v1 v2 : Value) : Bx (st3 W B v0 v1 v2) B #[v0, v1, v2] t := by
  show Bx (((W.setCell ⟨B, 0, none⟩ v0).setCell ⟨B, 1, none⟩ v1).setCell ⟨B, 2, none⟩ v2) B _ t
  have h0 : Bx (W.setCell ⟨B, 0, none⟩ v0) B #[v0, x1, x2] t := h.set 0 v0
  generalize W.setCell ⟨B, 0, none⟩ v0 = W0 at h0 ⊢
  have h1 : Bx (W0.setCell ⟨B, 1, none⟩ v1) B #[v0, v1, x2] t := h0.set 1 v1
  generalize W0.setCell ⟨B, 1, none⟩ v1 = W1 at h1 ⊢
  have h2 : Bx (W1.setCell ⟨B, 2, none⟩ v2) B #[v0, v1, v2] t := h1.set 2 v2
  exact h2
theorem grown_st3 {w W : World} {B : Nat} (h : w.grownBy W (some B)) (v0 v1 v2 : Value) : w.grownBy (st3 W B v0 v1 v2) (some B) := (grow_set (grow_set (grow_set h 0 _) 1 _) 2 _)
abbrev st6 (W : World) (B : Nat) (v0 v1 v2 v3 v4 v5 : Value) : World := ((((((W.setCell ⟨B, 0, none⟩ v0).setCell ⟨B, 1, none⟩ v1).setCell ⟨B, 2, none⟩ v2).setCell ⟨B, 3, none⟩ v3).setCell ⟨B, 4, none⟩ v4).setCell ⟨B, 5, none⟩ v5)
theorem Bx.st6 {W : World} {B : Nat} {x0 x1 x2 x3 x4 x5 : Value} {t : TypeId} (h : Bx W B #[x0, x1, x2, x3, x4, x5] t) (v0 v1 v2 v3 v4 v5 : Value) : Bx (st6 W B v0 v1 v2 v3 v4 v5) B #[v0, v1, v2, v3, v4, v5] t := by
  show Bx ((((((W.setCell ⟨B, 0, none⟩ v0).setCell ⟨B, 1, none⟩ v1).setCell ⟨B, 2, none⟩ v2).setCell ⟨B, 3, none⟩ v3).setCell ⟨B, 4, none⟩ v4).setCell ⟨B, 5, none⟩ v5) B _ t
  have h0 : Bx (W.setCell ⟨B, 0, none⟩ v0) B #[v0, x1, x2, x3, x4, x5] t := h.set 0 v0
  generalize W.setCell ⟨B, 0, none⟩ v0 = W0 at h0 ⊢
  have h1 : Bx (W0.setCell ⟨B, 1, none⟩ v1) B #[v0, v1, x2, x3, x4, x5] t := h0.set 1 v1
  generalize W0.setCell ⟨B, 1, none⟩ v1 = W1 at h1 ⊢
  have h2 : Bx (W1.setCell ⟨B, 2, none⟩ v2) B #[v0, v1, v2, x3, x4, x5] t := h1.set 2 v2
  generalize W1.setCell ⟨B, 2, none⟩ v2 = W2 at h2 ⊢
  have h3 : Bx (W2.setCell ⟨B, 3, none⟩ v3) B #[v0, v1, v2, v3, x4, x5] t := h2.set 3 v3
  generalize W2.setCell ⟨B, 3, none⟩ v3 = W3 at h3 ⊢
  have h4 : Bx (W3.setCell ⟨B, 4, none⟩ v4) B #[v0, v1, v2, v3, v4, x5] t := h3.set 4 v4
  generalize W3.setCell ⟨B, 4, none⟩ v4 = W4 at h4 ⊢
  have h5 : Bx (W4.setCell ⟨B, 5, none⟩ v5) B #[v0, v1, v2, v3, v4, v5] t := h4.set 5 v5
  exact h5
theorem grown_st6 {w W : World} {B : Nat} (h : w.grownBy W (some B)) (v0 v1 v2 v3 v4 v5 : Value) : w.grownBy (st6 W B v0 v1 v2 v3 v4 v5) (some B) := (grow_set (grow_set (grow_set (grow_set (grow_set (grow_set h 0 _) 1 _) 2 _) 3 _) 4 _) 5 _)
theorem Rd.other {w w' : World} {B : Nat} {s : ByteArray} {i : Nat} (h : Rd w B s i) {row : Option Nat} (hg : w.grownBy w' row) (hne : some B ≠ row) : Rd w' B s i := Bx.other h hg hne
theorem Rd.below {w w' : World} {B : Nat} {s : ByteArray} {i : Nat} (h : Rd w B s i) (hb : Below w.heap.size w w') : Rd w' B s i := Bx.below h hb
theorem Rd.lt {w : World} {B : Nat} {s : ByteArray} {i : Nat} (h : Rd w B s i) : B < w.heap.size := Bx.lt h
theorem inf44 : (Try.prog.info? 44).map (·.size) = some 3 := by kernel_rfl
theorem inf47 : (Try.prog.info? 47).map (·.size) = some 2 := by kernel_rfl
theorem some_ne {a b : Nat} (h : a ≠ b) : some a ≠ some b := fun e => h (by cases e; rfl)
set_option maxRecDepth 100000 in
set_option maxHeartbeats 8000000 in
theorem ins_n1 (s : ByteArray) (B i : Nat) (w : World) (h : Rd w B s i) (hi : i ≤ (tx s).length) (hs : s.size ≤ 100000) {c : Int} (h1 : nP (tx s) i = .no c) :
    Calls Try.prog 60 #[.pointer (some ⟨B, 0, none⟩)] w (GaveUp w B c) := by
  have N1 := Lib.hid (fun W H => number_no s B i W H hi hs h1)
  unfold GaveUp gaveUp at N1
  clear h1 hi
  have K0 := Lib.hid (Bx.new w #[.int .i64 0, .int .i64 0, .int .i64 0] 44)
  have R0 := Lib.hid (Rd.below h (below_alloc w (.cells #[.int .i64 0, .int .i64 0, .int .i64 0] 44)))
  have G0 := Lib.hid (World.grownBy_alloc w (.cells #[.int .i64 0, .int .i64 0, .int .i64 0] 44) (some B))
  have hBl := Rd.lt h
  have hB0 : w.heap.size ≠ B := by omega
  clear h
  go_enter Try.func60, Try.ntmps60
  go_upto_region 1 with (fail)
  obtain ⟨b0, hb0⟩ : ∃ b0, b0 = w.heap.size := ⟨_, rfl⟩
  obtain ⟨w0, hw0⟩ : ∃ w0, w0 = w.alloc (.cells #[.int .i64 0, .int .i64 0, .int .i64 0] 44) := ⟨_, rfl⟩
  have HB0 := Lib.hid hb0
  rw [← hw0] at K0 R0 G0 ⊢
  rw [← hb0] at K0 hB0 ⊢
  clear hw0 hb0 hBl
  go_wp2_with fail
  refine (N1.out _ R0.out).mono ?_
  rintro e wz ⟨rfl, hg⟩
  exact ⟨rfl, rfl, G0.out.trans hg⟩
set_option maxRecDepth 100000 in
set_option maxHeartbeats 8000000 in
theorem ins_z (s : ByteArray) (B i : Nat) (w : World) (h : Rd w B s i) (hi : i ≤ (tx s).length) (hs : s.size ≤ 100000) {j : Nat} (h1 : nP (tx s) i = .ok 0 j) :
    Calls Try.prog 60 #[.pointer (some ⟨B, 0, none⟩)] w (GotV w B s j (.agg #[.int .i64 0, .int .i64 0, .int .i64 0])) := by
  have N1 := Lib.hid (fun W H => number_ok s B i W H hi hs h1)
  obtain ⟨_, hj, _, _⟩ := nP_ok (tx_byt s) hi h1
  unfold GotV at N1
  clear h1 hj hi
  have K0 := Lib.hid (Bx.new w #[.int .i64 0, .int .i64 0, .int .i64 0] 44)
  have R0 := Lib.hid (Rd.below h (below_alloc w (.cells #[.int .i64 0, .int .i64 0, .int .i64 0] 44)))
  have G0 := Lib.hid (World.grownBy_alloc w (.cells #[.int .i64 0, .int .i64 0, .int .i64 0] 44) (some B))
  have hBl := Rd.lt h
  have hB0 : w.heap.size ≠ B := by omega
  clear h
  go_enter Try.func60, Try.ntmps60
  go_upto_region 1 with (fail)
  obtain ⟨b0, hb0⟩ : ∃ b0, b0 = w.heap.size := ⟨_, rfl⟩
  obtain ⟨w0, hw0⟩ : ∃ w0, w0 = w.alloc (.cells #[.int .i64 0, .int .i64 0, .int .i64 0] 44) := ⟨_, rfl⟩
  have HB0 := Lib.hid hb0
  rw [← hw0] at K0 R0 G0 ⊢
  rw [← hb0] at K0 hB0 ⊢
  clear hw0 hb0 hBl
  go_wp2_with fail
  refine (N1.out _ R0.out).mono ?_
  rintro e w1 ⟨rfl, hr, hg⟩
  have R1 := Lib.hid hr; have G1 := Lib.hid (G0.out.trans hg); have K0_1 := Lib.hid (K0.out.other hg (some_ne hB0))
  have hBl : B < w1.heap.size := Rd.lt hr
  have hb01 : b0 < w1.heap.size := Bx.lt K0_1.out
  clear hr hg R0 G0 K0
  have CS := fun W => #[.int .i64 0, .int .i64 0, .int .i64 0] = (W : Array Value)
  clear CS
  have K1 := Lib.hid (Bx.new w1 #[.int .i64 0, .int .i64 0, .int .i64 0] 44)
  have K0_2 := Lib.hid (K0_1.out.below (below_alloc w1 (.cells #[.int .i64 0, .int .i64 0, .int .i64 0] 44)))
  have R2 := Lib.hid (R1.out.below (below_alloc w1 (.cells #[.int .i64 0, .int .i64 0, .int .i64 0] 44)))
  have G2 := Lib.hid (grow_alloc G1.out (.cells #[.int .i64 0, .int .i64 0, .int .i64 0] 44))
  go_upto_region 2 with (fail)
  obtain ⟨b1, hb1⟩ : ∃ b1, b1 = w1.heap.size := ⟨_, rfl⟩
  obtain ⟨w2, hw2⟩ : ∃ w2, w2 = w1.alloc (.cells #[.int .i64 0, .int .i64 0, .int .i64 0] 44) := ⟨_, rfl⟩
  have hB1 : b1 ≠ B := by omega
  have h10 : b1 ≠ b0 := by omega
  have h01 : b0 ≠ b1 := by omega
  have HB1 := Lib.hid (show w.heap.size ≤ b1 by have := HB0.out; omega)
  rw [← hw2] at K1 K0_2 R2 G2 ⊢
  rw [← hb1] at K1 ⊢
  clear hw2 hb1 hBl hb01 R1 G1 K0_1
  obtain ⟨x0, x1, x2⟩ := K1.out.cells3
  have y0 := Bx.lt K0_2.out
  have f0 := Bx.froz K0_2.out 0; have f1 := Bx.froz K0_2.out 1; have f2 := Bx.froz K0_2.out 2
  obtain ⟨z0, z1, z2⟩ := K0_2.out.cells3
  have HE := Lib.hid (((K0_2.out.st3 (.int .i64 0) (.int .i64 0) (.int .i64 0))))
  have GE := Lib.hid (grow_local G2.out (grown_st3 (World.grownBy.refl w2 (some b0)) (.int .i64 0) (.int .i64 0) (.int .i64 0)) (by rw [HB0.out]; exact Nat.le_refl _))
  have RE := Lib.hid (R2.out.other (grown_st3 (World.grownBy.refl w2 (some b0)) (.int .i64 0) (.int .i64 0) (.int .i64 0)) (some_ne hB0.symm))
  go_wp2_with fail
  refine bodyPost_ret (v := .agg #[.int .i64 0, .int .i64 0, .int .i64 0]) (by first | rw [res_c0 Try.results60 _ (by rfl) (Bx.load HE.out Try.underlying44 inf44)] | skip) rfl ?_
  exact ⟨rfl, RE.out, GE.out⟩
set_option maxRecDepth 100000 in
set_option maxHeartbeats 8000000 in
theorem ins_n2 (s : ByteArray) (B i : Nat) (w : World) (h : Rd w B s i) (hi : i ≤ (tx s).length) (hs : s.size ≤ 100000) {o : Int} {j : Nat} (h1 : nP (tx s) i = .ok o j) (h0 : o ≠ 0) {c : Int} (h2 : nP (tx s) j = .no c) :
    Calls Try.prog 60 #[.pointer (some ⟨B, 0, none⟩)] w (GaveUp w B c) := by
  have N1 := Lib.hid (fun W H => number_ok s B i W H hi hs h1)
  obtain ⟨_, hj, _, _⟩ := nP_ok (tx_byt s) hi h1
  have N2 := Lib.hid (fun W H => number_no s B j W H hj hs h2)
  have h0b : (o == 0) = false := by rw [beq_eq_false_iff_ne]; exact h0
  unfold GotV at N1
  unfold GaveUp gaveUp at N2
  clear h1 hj h2 hi
  have K0 := Lib.hid (Bx.new w #[.int .i64 0, .int .i64 0, .int .i64 0] 44)
  have R0 := Lib.hid (Rd.below h (below_alloc w (.cells #[.int .i64 0, .int .i64 0, .int .i64 0] 44)))
  have G0 := Lib.hid (World.grownBy_alloc w (.cells #[.int .i64 0, .int .i64 0, .int .i64 0] 44) (some B))
  have hBl := Rd.lt h
  have hB0 : w.heap.size ≠ B := by omega
  clear h
  go_enter Try.func60, Try.ntmps60
  go_upto_region 1 with (fail)
  obtain ⟨b0, hb0⟩ : ∃ b0, b0 = w.heap.size := ⟨_, rfl⟩
  obtain ⟨w0, hw0⟩ : ∃ w0, w0 = w.alloc (.cells #[.int .i64 0, .int .i64 0, .int .i64 0] 44) := ⟨_, rfl⟩
  have HB0 := Lib.hid hb0
  rw [← hw0] at K0 R0 G0 ⊢
  rw [← hb0] at K0 hB0 ⊢
  clear hw0 hb0 hBl
  go_wp2_with fail
  refine (N1.out _ R0.out).mono ?_
  rintro e w1 ⟨rfl, hr, hg⟩
  have R1 := Lib.hid hr; have G1 := Lib.hid (G0.out.trans hg); have K0_1 := Lib.hid (K0.out.other hg (some_ne hB0))
  have hBl : B < w1.heap.size := Rd.lt hr
  have hb01 : b0 < w1.heap.size := Bx.lt K0_1.out
  clear hr hg R0 G0 K0
  have CS := fun W => #[.int .i64 o, .int .i64 0, .int .i64 0] = (W : Array Value)
  clear CS
  have K1 := Lib.hid (Bx.new w1 #[.int .i64 o, .int .i64 0, .int .i64 0] 44)
  have K0_2 := Lib.hid (K0_1.out.below (below_alloc w1 (.cells #[.int .i64 o, .int .i64 0, .int .i64 0] 44)))
  have R2 := Lib.hid (R1.out.below (below_alloc w1 (.cells #[.int .i64 o, .int .i64 0, .int .i64 0] 44)))
  have G2 := Lib.hid (grow_alloc G1.out (.cells #[.int .i64 o, .int .i64 0, .int .i64 0] 44))
  go_upto_region 2 with (fail)
  obtain ⟨b1, hb1⟩ : ∃ b1, b1 = w1.heap.size := ⟨_, rfl⟩
  obtain ⟨w2, hw2⟩ : ∃ w2, w2 = w1.alloc (.cells #[.int .i64 o, .int .i64 0, .int .i64 0] 44) := ⟨_, rfl⟩
  have hB1 : b1 ≠ B := by omega
  have h10 : b1 ≠ b0 := by omega
  have h01 : b0 ≠ b1 := by omega
  have HB1 := Lib.hid (show w.heap.size ≤ b1 by have := HB0.out; omega)
  rw [← hw2] at K1 K0_2 R2 G2 ⊢
  rw [← hb1] at K1 ⊢
  clear hw2 hb1 hBl hb01 R1 G1 K0_1
  obtain ⟨x0, x1, x2⟩ := K1.out.cells3
  go_upto_region 3 with (fail)
  go_wp2_with fail
  refine (N2.out _ R2.out).mono ?_
  rintro e wz ⟨rfl, hg⟩
  exact ⟨rfl, rfl, G2.out.trans hg⟩
set_option maxRecDepth 100000 in
set_option maxHeartbeats 8000000 in
theorem ins_d (s : ByteArray) (B i : Nat) (w : World) (h : Rd w B s i) (hi : i ≤ (tx s).length) (hs : s.size ≤ 100000) {o a : Int} {j j2 : Nat} (h1 : nP (tx s) i = .ok o j) (h0 : o ≠ 0) (h2 : nP (tx s) j = .ok a j2) (h7 : o ≠ 7) :
    Calls Try.prog 60 #[.pointer (some ⟨B, 0, none⟩)] w (GotV w B s j2 (.agg #[.int .i64 o, .int .i64 a, .int .i64 0])) := by
  have N1 := Lib.hid (fun W H => number_ok s B i W H hi hs h1)
  obtain ⟨_, hj, _, _⟩ := nP_ok (tx_byt s) hi h1
  have N2 := Lib.hid (fun W H => number_ok s B j W H hj hs h2)
  obtain ⟨_, hj2, _, _⟩ := nP_ok (tx_byt s) hj h2
  have h0b : (o == 0) = false := by rw [beq_eq_false_iff_ne]; exact h0
  have h7b : (o == 7) = false := by rw [beq_eq_false_iff_ne]; exact h7
  unfold GotV at N1
  unfold GotV at N2
  clear h1 hj h2 hj2 hi
  have K0 := Lib.hid (Bx.new w #[.int .i64 0, .int .i64 0, .int .i64 0] 44)
  have R0 := Lib.hid (Rd.below h (below_alloc w (.cells #[.int .i64 0, .int .i64 0, .int .i64 0] 44)))
  have G0 := Lib.hid (World.grownBy_alloc w (.cells #[.int .i64 0, .int .i64 0, .int .i64 0] 44) (some B))
  have hBl := Rd.lt h
  have hB0 : w.heap.size ≠ B := by omega
  clear h
  go_enter Try.func60, Try.ntmps60
  go_upto_region 1 with (fail)
  obtain ⟨b0, hb0⟩ : ∃ b0, b0 = w.heap.size := ⟨_, rfl⟩
  obtain ⟨w0, hw0⟩ : ∃ w0, w0 = w.alloc (.cells #[.int .i64 0, .int .i64 0, .int .i64 0] 44) := ⟨_, rfl⟩
  have HB0 := Lib.hid hb0
  rw [← hw0] at K0 R0 G0 ⊢
  rw [← hb0] at K0 hB0 ⊢
  clear hw0 hb0 hBl
  go_wp2_with fail
  refine (N1.out _ R0.out).mono ?_
  rintro e w1 ⟨rfl, hr, hg⟩
  have R1 := Lib.hid hr; have G1 := Lib.hid (G0.out.trans hg); have K0_1 := Lib.hid (K0.out.other hg (some_ne hB0))
  have hBl : B < w1.heap.size := Rd.lt hr
  have hb01 : b0 < w1.heap.size := Bx.lt K0_1.out
  clear hr hg R0 G0 K0
  have CS := fun W => #[.int .i64 o, .int .i64 0, .int .i64 0] = (W : Array Value)
  clear CS
  have K1 := Lib.hid (Bx.new w1 #[.int .i64 o, .int .i64 0, .int .i64 0] 44)
  have K0_2 := Lib.hid (K0_1.out.below (below_alloc w1 (.cells #[.int .i64 o, .int .i64 0, .int .i64 0] 44)))
  have R2 := Lib.hid (R1.out.below (below_alloc w1 (.cells #[.int .i64 o, .int .i64 0, .int .i64 0] 44)))
  have G2 := Lib.hid (grow_alloc G1.out (.cells #[.int .i64 o, .int .i64 0, .int .i64 0] 44))
  go_upto_region 2 with (fail)
  obtain ⟨b1, hb1⟩ : ∃ b1, b1 = w1.heap.size := ⟨_, rfl⟩
  obtain ⟨w2, hw2⟩ : ∃ w2, w2 = w1.alloc (.cells #[.int .i64 o, .int .i64 0, .int .i64 0] 44) := ⟨_, rfl⟩
  have hB1 : b1 ≠ B := by omega
  have h10 : b1 ≠ b0 := by omega
  have h01 : b0 ≠ b1 := by omega
  have HB1 := Lib.hid (show w.heap.size ≤ b1 by have := HB0.out; omega)
  rw [← hw2] at K1 K0_2 R2 G2 ⊢
  rw [← hb1] at K1 ⊢
  clear hw2 hb1 hBl hb01 R1 G1 K0_1
  obtain ⟨x0, x1, x2⟩ := K1.out.cells3
  go_upto_region 3 with (fail)
  go_wp2_with fail
  refine (N2.out _ R2.out).mono ?_
  rintro e w3 ⟨rfl, hr, hg⟩
  have R3 := Lib.hid hr; have G3 := Lib.hid (G2.out.trans hg); have K0_3 := Lib.hid (K0_2.out.other hg (some_ne hB0)); have K1_3 := Lib.hid (K1.out.other hg (some_ne hB1))
  clear hr hg R2 G2 K0_2 K1 x0 x1 x2
  have l1 := Bx.lt K1_3.out
  have f1 := Bx.froz K1_3.out 1
  obtain ⟨x0, x1, x2⟩ := K1_3.out.cells3
  go_upto_region 4 with (fail)
  clear x0 x1 x2 f1 l1
  have K1_4 := Lib.hid (K1_3.out.set 1 (.int .i64 a))
  have G4 := Lib.hid (grow_local G3.out (grow_setCell w3 b1 1 (.int .i64 a)) HB1.out)
  have K0_4 := Lib.hid (K0_3.out.other (grow_setCell w3 b1 1 (.int .i64 a)) (some_ne h01))
  have R4 := Lib.hid (R3.out.other (grow_setCell w3 b1 1 (.int .i64 a)) (some_ne hB1.symm))
  obtain ⟨w4, hw4⟩ : ∃ w4, w4 = w3.setCell ⟨b1, 1, none⟩ (.int .i64 a) := ⟨_, rfl⟩
  rw [← hw4] at K1_4 G4 K0_4 R4 ⊢
  clear hw4 R3 G3 K0_3 K1_3
  have K1_5 := Lib.hid (show Bx w4 b1 #[.int .i64 o, .int .i64 a, .int .i64 0] 44 from K1_4.out)
  clear K1_4
  obtain ⟨x0, x1, x2⟩ := K1_5.out.cells3
  have y0 := Bx.lt K0_4.out
  have f0 := Bx.froz K0_4.out 0; have f1 := Bx.froz K0_4.out 1; have f2 := Bx.froz K0_4.out 2
  obtain ⟨z0, z1, z2⟩ := K0_4.out.cells3
  have HE := Lib.hid (((K0_4.out.st3 (.int .i64 o) (.int .i64 a) (.int .i64 0))))
  have GE := Lib.hid (grow_local G4.out (grown_st3 (World.grownBy.refl w4 (some b0)) (.int .i64 o) (.int .i64 a) (.int .i64 0)) (by rw [HB0.out]; exact Nat.le_refl _))
  have RE := Lib.hid (R4.out.other (grown_st3 (World.grownBy.refl w4 (some b0)) (.int .i64 o) (.int .i64 a) (.int .i64 0)) (some_ne hB0.symm))
  go_wp2_with fail
  refine bodyPost_ret (v := .agg #[.int .i64 o, .int .i64 a, .int .i64 0]) (by first | rw [res_c0 Try.results60 _ (by rfl) (Bx.load HE.out Try.underlying44 inf44)] | skip) rfl ?_
  exact ⟨rfl, RE.out, GE.out⟩
set_option maxRecDepth 100000 in
set_option maxHeartbeats 8000000 in
theorem ins_n3 (s : ByteArray) (B i : Nat) (w : World) (h : Rd w B s i) (hi : i ≤ (tx s).length) (hs : s.size ≤ 100000) {a : Int} {j j2 : Nat} (h1 : nP (tx s) i = .ok 7 j) (h2 : nP (tx s) j = .ok a j2) {c : Int} (h3 : nP (tx s) j2 = .no c) :
    Calls Try.prog 60 #[.pointer (some ⟨B, 0, none⟩)] w (GaveUp w B c) := by
  have N1 := Lib.hid (fun W H => number_ok s B i W H hi hs h1)
  obtain ⟨_, hj, _, _⟩ := nP_ok (tx_byt s) hi h1
  have N2 := Lib.hid (fun W H => number_ok s B j W H hj hs h2)
  obtain ⟨_, hj2, _, _⟩ := nP_ok (tx_byt s) hj h2
  have N3 := Lib.hid (fun W H => number_no s B j2 W H hj2 hs h3)
  unfold GotV at N1
  unfold GotV at N2
  unfold GaveUp gaveUp at N3
  clear h1 hj h2 hj2 h3 hi
  have K0 := Lib.hid (Bx.new w #[.int .i64 0, .int .i64 0, .int .i64 0] 44)
  have R0 := Lib.hid (Rd.below h (below_alloc w (.cells #[.int .i64 0, .int .i64 0, .int .i64 0] 44)))
  have G0 := Lib.hid (World.grownBy_alloc w (.cells #[.int .i64 0, .int .i64 0, .int .i64 0] 44) (some B))
  have hBl := Rd.lt h
  have hB0 : w.heap.size ≠ B := by omega
  clear h
  go_enter Try.func60, Try.ntmps60
  go_upto_region 1 with (fail)
  obtain ⟨b0, hb0⟩ : ∃ b0, b0 = w.heap.size := ⟨_, rfl⟩
  obtain ⟨w0, hw0⟩ : ∃ w0, w0 = w.alloc (.cells #[.int .i64 0, .int .i64 0, .int .i64 0] 44) := ⟨_, rfl⟩
  have HB0 := Lib.hid hb0
  rw [← hw0] at K0 R0 G0 ⊢
  rw [← hb0] at K0 hB0 ⊢
  clear hw0 hb0 hBl
  go_wp2_with fail
  refine (N1.out _ R0.out).mono ?_
  rintro e w1 ⟨rfl, hr, hg⟩
  have R1 := Lib.hid hr; have G1 := Lib.hid (G0.out.trans hg); have K0_1 := Lib.hid (K0.out.other hg (some_ne hB0))
  have hBl : B < w1.heap.size := Rd.lt hr
  have hb01 : b0 < w1.heap.size := Bx.lt K0_1.out
  clear hr hg R0 G0 K0
  have CS := fun W => #[.int .i64 7, .int .i64 0, .int .i64 0] = (W : Array Value)
  clear CS
  have K1 := Lib.hid (Bx.new w1 #[.int .i64 7, .int .i64 0, .int .i64 0] 44)
  have K0_2 := Lib.hid (K0_1.out.below (below_alloc w1 (.cells #[.int .i64 7, .int .i64 0, .int .i64 0] 44)))
  have R2 := Lib.hid (R1.out.below (below_alloc w1 (.cells #[.int .i64 7, .int .i64 0, .int .i64 0] 44)))
  have G2 := Lib.hid (grow_alloc G1.out (.cells #[.int .i64 7, .int .i64 0, .int .i64 0] 44))
  go_upto_region 2 with (fail)
  obtain ⟨b1, hb1⟩ : ∃ b1, b1 = w1.heap.size := ⟨_, rfl⟩
  obtain ⟨w2, hw2⟩ : ∃ w2, w2 = w1.alloc (.cells #[.int .i64 7, .int .i64 0, .int .i64 0] 44) := ⟨_, rfl⟩
  have hB1 : b1 ≠ B := by omega
  have h10 : b1 ≠ b0 := by omega
  have h01 : b0 ≠ b1 := by omega
  have HB1 := Lib.hid (show w.heap.size ≤ b1 by have := HB0.out; omega)
  rw [← hw2] at K1 K0_2 R2 G2 ⊢
  rw [← hb1] at K1 ⊢
  clear hw2 hb1 hBl hb01 R1 G1 K0_1
  obtain ⟨x0, x1, x2⟩ := K1.out.cells3
  go_upto_region 3 with (fail)
  go_wp2_with fail
  refine (N2.out _ R2.out).mono ?_
  rintro e w3 ⟨rfl, hr, hg⟩
  have R3 := Lib.hid hr; have G3 := Lib.hid (G2.out.trans hg); have K0_3 := Lib.hid (K0_2.out.other hg (some_ne hB0)); have K1_3 := Lib.hid (K1.out.other hg (some_ne hB1))
  clear hr hg R2 G2 K0_2 K1 x0 x1 x2
  have l1 := Bx.lt K1_3.out
  have f1 := Bx.froz K1_3.out 1
  obtain ⟨x0, x1, x2⟩ := K1_3.out.cells3
  go_upto_region 4 with (fail)
  clear x0 x1 x2 f1 l1
  have K1_4 := Lib.hid (K1_3.out.set 1 (.int .i64 a))
  have G4 := Lib.hid (grow_local G3.out (grow_setCell w3 b1 1 (.int .i64 a)) HB1.out)
  have K0_4 := Lib.hid (K0_3.out.other (grow_setCell w3 b1 1 (.int .i64 a)) (some_ne h01))
  have R4 := Lib.hid (R3.out.other (grow_setCell w3 b1 1 (.int .i64 a)) (some_ne hB1.symm))
  obtain ⟨w4, hw4⟩ : ∃ w4, w4 = w3.setCell ⟨b1, 1, none⟩ (.int .i64 a) := ⟨_, rfl⟩
  rw [← hw4] at K1_4 G4 K0_4 R4 ⊢
  clear hw4 R3 G3 K0_3 K1_3
  have K1_5 := Lib.hid (show Bx w4 b1 #[.int .i64 7, .int .i64 a, .int .i64 0] 44 from K1_4.out)
  clear K1_4
  obtain ⟨x0, x1, x2⟩ := K1_5.out.cells3
  go_upto_region 5 with (fail)
  go_wp2_with fail
  refine (N3.out _ R4.out).mono ?_
  rintro e wz ⟨rfl, hg⟩
  exact ⟨rfl, rfl, G4.out.trans hg⟩
set_option maxRecDepth 100000 in
set_option maxHeartbeats 8000000 in
theorem ins_s (s : ByteArray) (B i : Nat) (w : World) (h : Rd w B s i) (hi : i ≤ (tx s).length) (hs : s.size ≤ 100000) {a b : Int} {j j2 j3 : Nat} (h1 : nP (tx s) i = .ok 7 j) (h2 : nP (tx s) j = .ok a j2) (h3 : nP (tx s) j2 = .ok b j3) :
    Calls Try.prog 60 #[.pointer (some ⟨B, 0, none⟩)] w (GotV w B s j3 (.agg #[.int .i64 7, .int .i64 a, .int .i64 b])) := by
  have N1 := Lib.hid (fun W H => number_ok s B i W H hi hs h1)
  obtain ⟨_, hj, _, _⟩ := nP_ok (tx_byt s) hi h1
  have N2 := Lib.hid (fun W H => number_ok s B j W H hj hs h2)
  obtain ⟨_, hj2, _, _⟩ := nP_ok (tx_byt s) hj h2
  have N3 := Lib.hid (fun W H => number_ok s B j2 W H hj2 hs h3)
  unfold GotV at N1
  unfold GotV at N2
  unfold GotV at N3
  clear h1 hj h2 hj2 h3 hi
  have K0 := Lib.hid (Bx.new w #[.int .i64 0, .int .i64 0, .int .i64 0] 44)
  have R0 := Lib.hid (Rd.below h (below_alloc w (.cells #[.int .i64 0, .int .i64 0, .int .i64 0] 44)))
  have G0 := Lib.hid (World.grownBy_alloc w (.cells #[.int .i64 0, .int .i64 0, .int .i64 0] 44) (some B))
  have hBl := Rd.lt h
  have hB0 : w.heap.size ≠ B := by omega
  clear h
  go_enter Try.func60, Try.ntmps60
  go_upto_region 1 with (fail)
  obtain ⟨b0, hb0⟩ : ∃ b0, b0 = w.heap.size := ⟨_, rfl⟩
  obtain ⟨w0, hw0⟩ : ∃ w0, w0 = w.alloc (.cells #[.int .i64 0, .int .i64 0, .int .i64 0] 44) := ⟨_, rfl⟩
  have HB0 := Lib.hid hb0
  rw [← hw0] at K0 R0 G0 ⊢
  rw [← hb0] at K0 hB0 ⊢
  clear hw0 hb0 hBl
  go_wp2_with fail
  refine (N1.out _ R0.out).mono ?_
  rintro e w1 ⟨rfl, hr, hg⟩
  have R1 := Lib.hid hr; have G1 := Lib.hid (G0.out.trans hg); have K0_1 := Lib.hid (K0.out.other hg (some_ne hB0))
  have hBl : B < w1.heap.size := Rd.lt hr
  have hb01 : b0 < w1.heap.size := Bx.lt K0_1.out
  clear hr hg R0 G0 K0
  have CS := fun W => #[.int .i64 7, .int .i64 0, .int .i64 0] = (W : Array Value)
  clear CS
  have K1 := Lib.hid (Bx.new w1 #[.int .i64 7, .int .i64 0, .int .i64 0] 44)
  have K0_2 := Lib.hid (K0_1.out.below (below_alloc w1 (.cells #[.int .i64 7, .int .i64 0, .int .i64 0] 44)))
  have R2 := Lib.hid (R1.out.below (below_alloc w1 (.cells #[.int .i64 7, .int .i64 0, .int .i64 0] 44)))
  have G2 := Lib.hid (grow_alloc G1.out (.cells #[.int .i64 7, .int .i64 0, .int .i64 0] 44))
  go_upto_region 2 with (fail)
  obtain ⟨b1, hb1⟩ : ∃ b1, b1 = w1.heap.size := ⟨_, rfl⟩
  obtain ⟨w2, hw2⟩ : ∃ w2, w2 = w1.alloc (.cells #[.int .i64 7, .int .i64 0, .int .i64 0] 44) := ⟨_, rfl⟩
  have hB1 : b1 ≠ B := by omega
  have h10 : b1 ≠ b0 := by omega
  have h01 : b0 ≠ b1 := by omega
  have HB1 := Lib.hid (show w.heap.size ≤ b1 by have := HB0.out; omega)
  rw [← hw2] at K1 K0_2 R2 G2 ⊢
  rw [← hb1] at K1 ⊢
  clear hw2 hb1 hBl hb01 R1 G1 K0_1
  obtain ⟨x0, x1, x2⟩ := K1.out.cells3
  go_upto_region 3 with (fail)
  go_wp2_with fail
  refine (N2.out _ R2.out).mono ?_
  rintro e w3 ⟨rfl, hr, hg⟩
  have R3 := Lib.hid hr; have G3 := Lib.hid (G2.out.trans hg); have K0_3 := Lib.hid (K0_2.out.other hg (some_ne hB0)); have K1_3 := Lib.hid (K1.out.other hg (some_ne hB1))
  clear hr hg R2 G2 K0_2 K1 x0 x1 x2
  have l1 := Bx.lt K1_3.out
  have f1 := Bx.froz K1_3.out 1
  obtain ⟨x0, x1, x2⟩ := K1_3.out.cells3
  go_upto_region 4 with (fail)
  clear x0 x1 x2 f1 l1
  have K1_4 := Lib.hid (K1_3.out.set 1 (.int .i64 a))
  have G4 := Lib.hid (grow_local G3.out (grow_setCell w3 b1 1 (.int .i64 a)) HB1.out)
  have K0_4 := Lib.hid (K0_3.out.other (grow_setCell w3 b1 1 (.int .i64 a)) (some_ne h01))
  have R4 := Lib.hid (R3.out.other (grow_setCell w3 b1 1 (.int .i64 a)) (some_ne hB1.symm))
  obtain ⟨w4, hw4⟩ : ∃ w4, w4 = w3.setCell ⟨b1, 1, none⟩ (.int .i64 a) := ⟨_, rfl⟩
  rw [← hw4] at K1_4 G4 K0_4 R4 ⊢
  clear hw4 R3 G3 K0_3 K1_3
  have K1_5 := Lib.hid (show Bx w4 b1 #[.int .i64 7, .int .i64 a, .int .i64 0] 44 from K1_4.out)
  clear K1_4
  obtain ⟨x0, x1, x2⟩ := K1_5.out.cells3
  go_upto_region 5 with (fail)
  go_wp2_with fail
  refine (N3.out _ R4.out).mono ?_
  rintro e w5 ⟨rfl, hr, hg⟩
  have R5 := Lib.hid hr; have G5 := Lib.hid (G4.out.trans hg); have K0_5 := Lib.hid (K0_4.out.other hg (some_ne hB0)); have K1_6 := Lib.hid (K1_5.out.other hg (some_ne hB1))
  clear hr hg R4 G4 K0_4 K1_5 x0 x1 x2
  have l1 := Bx.lt K1_6.out
  have f2 := Bx.froz K1_6.out 2
  obtain ⟨x0, x1, x2⟩ := K1_6.out.cells3
  go_upto_region 6 with (fail)
  clear x0 x1 x2 f2 l1
  have K1_7 := Lib.hid (K1_6.out.set 2 (.int .i64 b))
  have G6 := Lib.hid (grow_local G5.out (grow_setCell w5 b1 2 (.int .i64 b)) HB1.out)
  have K0_6 := Lib.hid (K0_5.out.other (grow_setCell w5 b1 2 (.int .i64 b)) (some_ne h01))
  have R6 := Lib.hid (R5.out.other (grow_setCell w5 b1 2 (.int .i64 b)) (some_ne hB1.symm))
  obtain ⟨w6, hw6⟩ : ∃ w6, w6 = w5.setCell ⟨b1, 2, none⟩ (.int .i64 b) := ⟨_, rfl⟩
  rw [← hw6] at K1_7 G6 K0_6 R6 ⊢
  clear hw6 R5 G5 K0_5 K1_6
  have K1_8 := Lib.hid (show Bx w6 b1 #[.int .i64 7, .int .i64 a, .int .i64 b] 44 from K1_7.out)
  clear K1_7
  obtain ⟨x0, x1, x2⟩ := K1_8.out.cells3
  have y0 := Bx.lt K0_6.out
  have f0 := Bx.froz K0_6.out 0; have f1 := Bx.froz K0_6.out 1; have f2 := Bx.froz K0_6.out 2
  obtain ⟨z0, z1, z2⟩ := K0_6.out.cells3
  have HE := Lib.hid (((K0_6.out.st3 (.int .i64 7) (.int .i64 a) (.int .i64 b))))
  have GE := Lib.hid (grow_local G6.out (grown_st3 (World.grownBy.refl w6 (some b0)) (.int .i64 7) (.int .i64 a) (.int .i64 b)) (by rw [HB0.out]; exact Nat.le_refl _))
  have RE := Lib.hid (R6.out.other (grown_st3 (World.grownBy.refl w6 (some b0)) (.int .i64 7) (.int .i64 a) (.int .i64 b)) (some_ne hB0.symm))
  go_wp2_with fail
  refine bodyPost_ret (v := .agg #[.int .i64 7, .int .i64 a, .int .i64 b]) (by first | rw [res_c0 Try.results60 _ (by rfl) (Bx.load HE.out Try.underlying44 inf44)] | skip) rfl ?_
  exact ⟨rfl, RE.out, GE.out⟩
end Go.Proofs.Ytddkckppmjcclaa
