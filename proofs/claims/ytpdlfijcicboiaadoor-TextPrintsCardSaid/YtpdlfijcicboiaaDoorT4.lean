/- An instruction's text: the reference. -/
import Derived.Test.YtpdlfijcicboiaaDoorT3
import Derived.Deep.DeepCutAuto
namespace Go.Proofs.YtpdlfijcicboiaaDoor
open Go.RowKit
set_option linter.unusedSimpArgs false
set_option linter.unusedVariables false
def Bx (W : World) (B : Nat) (cs : Array Value) (t : TypeId) : Prop := W.heap[B]? = some (.cells cs t (0, 0))
theorem Bx.below {W W' : World} {B : Nat} {cs : Array Value} {t : TypeId} (h : Bx W B cs t) (hb : Below W.heap.size W W') : Bx W' B cs t := (hb.block _ (Array.getElem?_eq_some_iff.1 h).1).trans h
theorem Bx.lt {W : World} {B : Nat} {cs : Array Value} {t : TypeId} (h : Bx W B cs t) : B < W.heap.size := (Array.getElem?_eq_some_iff.1 h).1
theorem Bx.new (W : World) (cs : Array Value) (t : TypeId) : Bx (W.alloc (.cells cs t)) W.heap.size cs t := heap_alloc_new W _
theorem Bx.new2 (w : World) (A : Obj) (cs : Array Value) (t : TypeId) : Bx ((w.alloc A).alloc (.cells cs t)) (w.heap.size + 1) cs t := by
  have := heap_alloc_new (w.alloc A) (.cells cs t)
  rwa [World.size_alloc] at this
theorem Bx.cell {W : World} {B : Nat} {cs : Array Value} {t : TypeId} (h : Bx W B cs t) (j : Nat) {v : Value} (hv : cs[j]? = some v) : W.cell? ⟨B, j, none⟩ = some v := (cell_of_row W B j cs t (0, 0) h).trans hv
theorem Bx.froz {W : World} {B : Nat} {cs : Array Value} {t : TypeId} (h : Bx W B cs t) (j : Nat) : W.frozen? ⟨B, j, none⟩ = false := by unfold Bx at h; simp [World.frozen?, h]
theorem Bx.cells3 {W : World} {B : Nat} {a b c : Value} {t : TypeId} (h : Bx W B #[a, b, c] t) : W.cell? ⟨B, 0, none⟩ = some a ∧ W.cell? ⟨B, 1, none⟩ = some b ∧ W.cell? ⟨B, 2, none⟩ = some c := ⟨h.cell 0 rfl, h.cell 1 rfl, h.cell 2 rfl⟩
def digB (n : Int) : ByteArray := strOf (digF 2 n)
abbrev spB : ByteArray := ⟨#[32]⟩
def oneB (x : Ins) : ByteArray := if numZ x.op = 0 then wordB x.op else if numZ x.op = 1 then wordB x.op ++ spB ++ digB x.a else wordB x.op ++ spB ++ digB x.a ++ spB ++ digB x.b
theorem wordB_size (op : Int) : (wordB op).size ≤ 6 := by
  unfold wordB
  by_cases h : op.toNat < 14
  · rcases (show op.toNat = 0 ∨ op.toNat = 1 ∨ op.toNat = 2 ∨ op.toNat = 3 ∨ op.toNat = 4 ∨ op.toNat = 5 ∨ op.toNat = 6 ∨ op.toNat = 7 ∨ op.toNat = 8 ∨ op.toNat = 9 ∨ op.toNat = 10 ∨ op.toNat = 11 ∨ op.toNat = 12 ∨ op.toNat = 13 by omega) with e | e | e | e | e | e | e | e | e | e | e | e | e | e <;> rw [e] <;> decide
  · have e : wordsB.getD op.toNat ⟨#[]⟩ = ⟨#[]⟩ := by
      rw [List.getD_eq_getElem?_getD, List.getElem?_eq_none (by show 14 ≤ _; omega)]; rfl
    rw [e]; decide
theorem digB_size (n : Int) : (digB n).size ≤ 3 := by unfold digB; rw [strOf_size]; exact (digF_len 2 n).2
theorem dig_any (n : Int) (w : World) (h0 : 0 ≤ n) (h1 : n < 1000) : Calls Tryd.prog 34 #[.int .i64 n] w (StrTo w (digB n)) := refDigits_any 2 n w h0 (by simpa using h1) (by decide)
set_option maxRecDepth 100000 in
set_option maxHeartbeats 8000000 in
theorem one_0 (op a b : Int) (w : World) (hn : numZ op = 0) (h0 : 0 ≤ op) (h1 : op < 14) (ha : 0 ≤ a ∧ a < 1000) (hb : 0 ≤ b ∧ b < 1000) : Calls Tryd.prog 23 #[insV ⟨op, a, b⟩] w (StrTo w (oneB ⟨op, a, b⟩)) := by
  have B0 := Lib.hid (below_alloc w (.cells #[.int .i64 op, .int .i64 a, .int .i64 b] 31))
  have K0 := Lib.hid (Bx.new w #[.int .i64 op, .int .i64 a, .int .i64 b] 31)
  obtain ⟨k, rfl⟩ : ∃ k : Nat, op = (k : Int) := ⟨op.toNat, by omega⟩
  have HW := Lib.hid (fun W => refName_any k W (by omega))
  have HN := Lib.hid (fun W => refNumbers_any (k : Int) W)
  have HA := Lib.hid (fun W => dig_any a W ha.1 ha.2)
  have HB := Lib.hid (fun W => dig_any b W hb.1 hb.2)
  unfold StrTo at HW HA HB
  rw [hn] at HN
  have HO := Lib.hid (show oneB ⟨k, a, b⟩ = wordB k by unfold oneB; dsimp only; rw [hn]; rfl)
  have z0 := wordB_size (k : Int)
  have z1 := digB_size a
  have z2 := digB_size b
  obtain ⟨S, hS⟩ : ∃ S, S = wordB (k : Int) := ⟨_, rfl⟩
  obtain ⟨D, hD⟩ : ∃ S, S = digB a := ⟨_, rfl⟩
  obtain ⟨E, hE⟩ : ∃ S, S = digB b := ⟨_, rfl⟩
  rw [← hS] at HW z0 HO
  rw [← hD] at HA z1
  rw [← hE] at HB z2
  have y1 : (S ++ spB).size ≤ 7 := by rw [ByteArray.size_append]; show S.size + 1 ≤ 7; omega
  have y2 : (S ++ spB ++ D).size ≤ 10 := by rw [ByteArray.size_append]; omega
  have y3 : (S ++ spB ++ D ++ spB).size ≤ 11 := by rw [ByteArray.size_append]; show (S ++ spB ++ D).size + 1 ≤ 11; omega
  rw [HO.out]
  clear hn hS hD hE ha hb
  obtain ⟨b0, hb0⟩ : ∃ z, z = w.heap.size := ⟨_, rfl⟩
  obtain ⟨v0, hv0⟩ : ∃ z, z = w.alloc (.cells #[.int .i64 (k : Int), .int .i64 a, .int .i64 b] 31) := ⟨_, rfl⟩
  have HB0 := Lib.hid hb0; have HV0 := Lib.hid hv0
  rw [← hv0] at B0 K0
  rw [← hb0] at K0
  clear hb0 hv0
  go_enter Tryd.func23, Tryd.ntmps23
  go_upto_region 1 with (fail)
  rw [← HV0.out, ← HB0.out]
  obtain ⟨x0, x1, x2⟩ := Bx.cells3 K0.out
  go_wp2_with fail
  clear x0 x1 x2
  refine (HW.out _).mono ?_
  rintro e w0 ⟨rfl, hb⟩
  have K1 := Lib.hid (Bx.below K0.out hb); have B1 := Lib.hid (B0.out.trans (Below.mono hb B0.out.size))
  clear hb K0 B0
  obtain ⟨x0, x1, x2⟩ := Bx.cells3 K1.out
  go_wp2_with fail
  clear x0 x1 x2
  refine (HN.out _).mono ?_
  rintro e w1 ⟨rfl, rfl⟩
  have K2 := K1; have B2 := B1
  clear K1 B1
  obtain ⟨x0, x1, x2⟩ := Bx.cells3 K2.out
  go_wp2_with fail
  clear x0 x1 x2
  refine (HN.out _).mono ?_
  rintro e w2 ⟨rfl, rfl⟩
  have K3 := K2; have B3 := B2
  clear K2 B2
  go_wp2_with fail
  go_ret
  exact ⟨rfl, B3.out⟩
set_option maxRecDepth 100000 in
set_option maxHeartbeats 8000000 in
theorem one_1 (op a b : Int) (w : World) (hn : numZ op = 1) (h0 : 0 ≤ op) (h1 : op < 14) (ha : 0 ≤ a ∧ a < 1000) (hb : 0 ≤ b ∧ b < 1000) : Calls Tryd.prog 23 #[insV ⟨op, a, b⟩] w (StrTo w (oneB ⟨op, a, b⟩)) := by
  have B0 := Lib.hid (below_alloc w (.cells #[.int .i64 op, .int .i64 a, .int .i64 b] 31))
  have K0 := Lib.hid (Bx.new w #[.int .i64 op, .int .i64 a, .int .i64 b] 31)
  obtain ⟨k, rfl⟩ : ∃ k : Nat, op = (k : Int) := ⟨op.toNat, by omega⟩
  have HW := Lib.hid (fun W => refName_any k W (by omega))
  have HN := Lib.hid (fun W => refNumbers_any (k : Int) W)
  have HA := Lib.hid (fun W => dig_any a W ha.1 ha.2)
  have HB := Lib.hid (fun W => dig_any b W hb.1 hb.2)
  unfold StrTo at HW HA HB
  rw [hn] at HN
  have HO := Lib.hid (show oneB ⟨k, a, b⟩ = wordB k ++ spB ++ digB a by unfold oneB; dsimp only; rw [hn]; rfl)
  have z0 := wordB_size (k : Int)
  have z1 := digB_size a
  have z2 := digB_size b
  obtain ⟨S, hS⟩ : ∃ S, S = wordB (k : Int) := ⟨_, rfl⟩
  obtain ⟨D, hD⟩ : ∃ S, S = digB a := ⟨_, rfl⟩
  obtain ⟨E, hE⟩ : ∃ S, S = digB b := ⟨_, rfl⟩
  rw [← hS] at HW z0 HO
  rw [← hD] at HA z1 HO
  rw [← hE] at HB z2
  have y1 : (S ++ spB).size ≤ 7 := by rw [ByteArray.size_append]; show S.size + 1 ≤ 7; omega
  have y2 : (S ++ spB ++ D).size ≤ 10 := by rw [ByteArray.size_append]; omega
  have y3 : (S ++ spB ++ D ++ spB).size ≤ 11 := by rw [ByteArray.size_append]; show (S ++ spB ++ D).size + 1 ≤ 11; omega
  rw [HO.out]
  clear hn hS hD hE ha hb
  obtain ⟨b0, hb0⟩ : ∃ z, z = w.heap.size := ⟨_, rfl⟩
  obtain ⟨v0, hv0⟩ : ∃ z, z = w.alloc (.cells #[.int .i64 (k : Int), .int .i64 a, .int .i64 b] 31) := ⟨_, rfl⟩
  have HB0 := Lib.hid hb0; have HV0 := Lib.hid hv0
  rw [← hv0] at B0 K0
  rw [← hb0] at K0
  clear hb0 hv0
  go_enter Tryd.func23, Tryd.ntmps23
  go_upto_region 1 with (fail)
  rw [← HV0.out, ← HB0.out]
  obtain ⟨x0, x1, x2⟩ := Bx.cells3 K0.out
  go_wp2_with fail
  clear x0 x1 x2
  refine (HW.out _).mono ?_
  rintro e w0 ⟨rfl, hb⟩
  have K1 := Lib.hid (Bx.below K0.out hb); have B1 := Lib.hid (B0.out.trans (Below.mono hb B0.out.size))
  clear hb K0 B0
  obtain ⟨x0, x1, x2⟩ := Bx.cells3 K1.out
  go_wp2_with fail
  clear x0 x1 x2
  refine (HN.out _).mono ?_
  rintro e w1 ⟨rfl, rfl⟩
  have K2 := K1; have B2 := B1
  clear K1 B1
  obtain ⟨x0, x1, x2⟩ := Bx.cells3 K2.out
  go_wp2_with fail
  clear x0 x1 x2
  refine (HA.out _).mono ?_
  rintro e w2 ⟨rfl, hb⟩
  have K3 := Lib.hid (Bx.below K2.out hb); have B3 := Lib.hid (B2.out.trans (Below.mono hb B2.out.size))
  clear hb K2 B2
  obtain ⟨x0, x1, x2⟩ := Bx.cells3 K3.out
  go_wp2_with fail
  clear x0 x1 x2
  refine (HN.out _).mono ?_
  rintro e w3 ⟨rfl, rfl⟩
  have K4 := K3; have B4 := B3
  clear K3 B3
  go_wp2_with fail
  go_ret
  exact ⟨rfl, B4.out⟩
set_option maxRecDepth 100000 in
set_option maxHeartbeats 8000000 in
theorem one_2 (op a b : Int) (w : World) (hn : numZ op = 2) (h0 : 0 ≤ op) (h1 : op < 14) (ha : 0 ≤ a ∧ a < 1000) (hb : 0 ≤ b ∧ b < 1000) : Calls Tryd.prog 23 #[insV ⟨op, a, b⟩] w (StrTo w (oneB ⟨op, a, b⟩)) := by
  have B0 := Lib.hid (below_alloc w (.cells #[.int .i64 op, .int .i64 a, .int .i64 b] 31))
  have K0 := Lib.hid (Bx.new w #[.int .i64 op, .int .i64 a, .int .i64 b] 31)
  obtain ⟨k, rfl⟩ : ∃ k : Nat, op = (k : Int) := ⟨op.toNat, by omega⟩
  have HW := Lib.hid (fun W => refName_any k W (by omega))
  have HN := Lib.hid (fun W => refNumbers_any (k : Int) W)
  have HA := Lib.hid (fun W => dig_any a W ha.1 ha.2)
  have HB := Lib.hid (fun W => dig_any b W hb.1 hb.2)
  unfold StrTo at HW HA HB
  rw [hn] at HN
  have HO := Lib.hid (show oneB ⟨k, a, b⟩ = wordB k ++ spB ++ digB a ++ spB ++ digB b by unfold oneB; dsimp only; rw [hn]; rfl)
  have z0 := wordB_size (k : Int)
  have z1 := digB_size a
  have z2 := digB_size b
  obtain ⟨S, hS⟩ : ∃ S, S = wordB (k : Int) := ⟨_, rfl⟩
  obtain ⟨D, hD⟩ : ∃ S, S = digB a := ⟨_, rfl⟩
  obtain ⟨E, hE⟩ : ∃ S, S = digB b := ⟨_, rfl⟩
  rw [← hS] at HW z0 HO
  rw [← hD] at HA z1 HO
  rw [← hE] at HB z2 HO
  have y1 : (S ++ spB).size ≤ 7 := by rw [ByteArray.size_append]; show S.size + 1 ≤ 7; omega
  have y2 : (S ++ spB ++ D).size ≤ 10 := by rw [ByteArray.size_append]; omega
  have y3 : (S ++ spB ++ D ++ spB).size ≤ 11 := by rw [ByteArray.size_append]; show (S ++ spB ++ D).size + 1 ≤ 11; omega
  rw [HO.out]
  clear hn hS hD hE ha hb
  obtain ⟨b0, hb0⟩ : ∃ z, z = w.heap.size := ⟨_, rfl⟩
  obtain ⟨v0, hv0⟩ : ∃ z, z = w.alloc (.cells #[.int .i64 (k : Int), .int .i64 a, .int .i64 b] 31) := ⟨_, rfl⟩
  have HB0 := Lib.hid hb0; have HV0 := Lib.hid hv0
  rw [← hv0] at B0 K0
  rw [← hb0] at K0
  clear hb0 hv0
  go_enter Tryd.func23, Tryd.ntmps23
  go_upto_region 1 with (fail)
  rw [← HV0.out, ← HB0.out]
  obtain ⟨x0, x1, x2⟩ := Bx.cells3 K0.out
  go_wp2_with fail
  clear x0 x1 x2
  refine (HW.out _).mono ?_
  rintro e w0 ⟨rfl, hb⟩
  have K1 := Lib.hid (Bx.below K0.out hb); have B1 := Lib.hid (B0.out.trans (Below.mono hb B0.out.size))
  clear hb K0 B0
  obtain ⟨x0, x1, x2⟩ := Bx.cells3 K1.out
  go_wp2_with fail
  clear x0 x1 x2
  refine (HN.out _).mono ?_
  rintro e w1 ⟨rfl, rfl⟩
  have K2 := K1; have B2 := B1
  clear K1 B1
  obtain ⟨x0, x1, x2⟩ := Bx.cells3 K2.out
  go_wp2_with fail
  clear x0 x1 x2
  refine (HA.out _).mono ?_
  rintro e w2 ⟨rfl, hb⟩
  have K3 := Lib.hid (Bx.below K2.out hb); have B3 := Lib.hid (B2.out.trans (Below.mono hb B2.out.size))
  clear hb K2 B2
  obtain ⟨x0, x1, x2⟩ := Bx.cells3 K3.out
  go_wp2_with fail
  clear x0 x1 x2
  refine (HN.out _).mono ?_
  rintro e w3 ⟨rfl, rfl⟩
  have K4 := K3; have B4 := B3
  clear K3 B3
  obtain ⟨x0, x1, x2⟩ := Bx.cells3 K4.out
  go_wp2_with fail
  clear x0 x1 x2
  refine (HB.out _).mono ?_
  rintro e w4 ⟨rfl, hb⟩
  have K5 := Lib.hid (Bx.below K4.out hb); have B5 := Lib.hid (B4.out.trans (Below.mono hb B4.out.size))
  clear hb K4 B4
  go_wp2_with fail
  go_ret
  exact ⟨rfl, B5.out⟩
theorem refOne_any (x : Ins) (w : World) (h : mayZ x = true) : Calls Tryd.prog 23 #[insV x] w (StrTo w (oneB x)) := by
  unfold mayZ at h
  have h := of_decide_eq_true h
  obtain ⟨op, a, b⟩ := x
  dsimp only at h
  have hc : numZ op = 0 ∨ numZ op = 1 ∨ numZ op = 2 := by unfold numZ; split <;> (try split) <;> simp
  rcases hc with e | e | e
  · exact one_0 op a b w e h.1 h.2.1 ⟨h.2.2.1, h.2.2.2.1⟩ ⟨h.2.2.2.2.1, h.2.2.2.2.2.1⟩
  · exact one_1 op a b w e h.1 h.2.1 ⟨h.2.2.1, h.2.2.2.1⟩ ⟨h.2.2.2.2.1, h.2.2.2.2.2.1⟩
  · exact one_2 op a b w e h.1 h.2.1 ⟨h.2.2.1, h.2.2.2.1⟩ ⟨h.2.2.2.2.1, h.2.2.2.2.2.1⟩
end Go.Proofs.YtpdlfijcicboiaaDoor
