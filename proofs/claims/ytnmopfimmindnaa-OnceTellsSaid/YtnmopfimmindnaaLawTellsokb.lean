/- OnceTells: the walk, okb. -/
import Derived.Test.YtnmopfimmindnaaAlive
namespace Go.Proofs.Ytnmopfimmindnaa
open Go.RowKit
set_option maxRecDepth 100000 in
set_option maxHeartbeats 8000000 in
theorem tells_okb (g : Int) (a : Option Addr) (len l2 cap : Nat) (L : List Wt) (x : Wt) (w : World) (hl2 : l2 = min len 70) (hL : Wts w a l2 cap L) (hlc : len ≤ cap) (hcc : cap ≤ maxLen) (hx : WtOk x) (hgI : I64 g) (hr : rightO 1 g L = true) (hm : mayW x = false) (hg : 0 ≤ g) :
    Calls Try.prog 3 #[onV 1 g a len cap, wV x, .int .i64 g] w (Says w) := by
  have hsI : I64 1 := ⟨by omega, by omega⟩
  have hbI := hgI
  have hFew := Lib.hid (fun W => few_on 1 g a len cap W hlc hcc)
  rw [← hl2] at hFew
  have hDo := Lib.hid (fun (W : World) (H : Wts W a l2 cap L) => Do_arg 1 g a l2 cap L x W H hx hsI hbI (.inr hm))
  have hEn := Lib.hid (fun (W : World) (H : Wts W a l2 cap L) => End_ok g a l2 cap L W H hgI hr hg)
  have hRE := Lib.hid (fun (W : World) (H : Wts W a l2 cap L) => refEnd_ok g a l2 cap L W H)
  unfold GotRE at hRE
  have hMa := Lib.hid (fun W => refMay_any x W hx)
  rw [hm] at hMa
  unfold GotD at hDo
  unfold GotE at hEn
  have hRi := Lib.hid (fun (W : World) (H : Wts W a l2 cap L) => ORight_any 1 g a l2 cap L W H hsI hbI)
  have hRr := Lib.hid (fun (W : World) (H : Wts W a l2 cap L) => refORight_any 1 g a l2 cap L W H hsI hbI)
  rw [hr] at hRi hRr
  have HBB : Hid (∀ z, a = some z → 0 < l2 → z.block < w.heap.size) := Lib.hid (fun z hz h0 => by
    obtain ⟨_, b, o, _, _, e, c, _, _⟩ := hL.at 0 h0
    rw [hz] at e; cases e
    exact World.block_lt_of_cell? _ _ c)
  have L_0 := Lib.hid ((hL.below (below_alloc w (.cells #[.int .i64 1, .int .i64 g, .slice a len cap] 24))).below (below_alloc _ (.cells #[.int .i64 x.g, .int .i64 x.c, .int .i64 x.s] 26)))
  have BEL_0 := Lib.hid ((below_alloc w (.cells #[.int .i64 1, .int .i64 g, .slice a len cap] 24)).alloc (by simp) (.cells #[.int .i64 x.g, .int .i64 x.c, .int .i64 x.s] 26))
  have K_0 := Lib.hid ((Bx.new w #[.int .i64 1, .int .i64 g, .slice a len cap] 24).below (below_alloc _ (.cells #[.int .i64 x.g, .int .i64 x.c, .int .i64 x.s] 26)))
  have Y_0 := Lib.hid (Bx.new2 w (.cells #[.int .i64 1, .int .i64 g, .slice a len cap] 24) #[.int .i64 x.g, .int .i64 x.c, .int .i64 x.s] 26)
  unfold I64 at hgI
  clear hr hL hlc hcc hx hl2 hsI hbI hm
  go_enter Try.func3, Try.ntmps3
  go_wp2_with fail
  refine (hFew.out _).mono ?_
  rintro e w1 ⟨rfl, hb⟩
  have L_1 := Lib.hid (L_0.out.below hb)
  have K_1 := Lib.hid (K_0.out.below hb)
  have Y_1 := Lib.hid (Y_0.out.below hb)
  have BEL_1 := Lib.hid (BEL_0.out.trans (Below.mono hb BEL_0.out.size))
  clear L_0 K_0 Y_0 BEL_0
  clear hb
  obtain ⟨BK, hBK⟩ : ∃ x, x = w.heap.size := ⟨_, rfl⟩
  obtain ⟨BY, hBY⟩ : ∃ x, x = w.heap.size + 1 := ⟨_, rfl⟩
  have hKY : BK ≠ BY := by omega
  have hYK : BY ≠ BK := by omega
  have HBW := Lib.hid (show w.heap.size ≤ BK by omega)
  rw [← hBY] at Y_1 ⊢
  rw [← hBK] at K_1 HBB ⊢
  clear hBK hBY
  obtain ⟨pK0, pK1, pK2⟩ := K_1.out.cells3
  have lK := K_1.out.lt
  have fK0 := K_1.out.froz 0
  have fK1 := K_1.out.froz 1
  have fK2 := K_1.out.froz 2
  obtain ⟨pY0, pY1, pY2⟩ := Y_1.out.cells3
  have lY := Y_1.out.lt
  go_wp2_with fail
  clear pK0 pK1 pK2 lK fK0 fK1 fK2 pY0 pY1 pY2 lY
  have L_2 := Lib.hid (L_1.out.other' BK (fun z hz h0 e => by have := HBB.out z hz h0; omega) (fun q hq => set3_other w1 BK (.int .i64 1) (.int .i64 g) (.slice a l2 cap) q hq))
  have K_2 := Lib.hid (K_1.out.set3 (.int .i64 1) (.int .i64 g) (.slice a l2 cap))
  have Y_2 : Hid (Bx (set3c w1 BK (.int .i64 1) (.int .i64 g) (.slice a l2 cap)) BY #[.int .i64 x.g, .int .i64 x.c, .int .i64 x.s] 26) := Lib.hid ((set3_other w1 BK _ _ _ BY hYK).trans Y_1.out)
  have BEL_2 := Lib.hid (below_set3 BEL_1.out HBW.out (.int .i64 1) (.int .i64 g) (.slice a l2 cap))
  clear L_1 K_1 Y_1 BEL_1
  obtain ⟨X2, hX2⟩ : ∃ x, x = set3c w1 BK (.int .i64 1) (.int .i64 g) (.slice a l2 cap) := ⟨_, rfl⟩
  rw [← hX2] at L_2 K_2 Y_2 BEL_2
  unfold set3c set2c at hX2
  rw [← hX2]
  clear hX2
  refine (hDo.out _ L_2.out).mono ?_
  rintro e w3 ⟨ta, tl, tc, rfl, hi, hb, _⟩
  have L_3 := Lib.hid (L_2.out.below hb)
  have K_3 := Lib.hid (K_2.out.below hb)
  have Y_3 := Lib.hid (Y_2.out.below hb)
  have BEL_3 := Lib.hid (BEL_2.out.trans (Below.mono hb BEL_2.out.size))
  clear L_2 K_2 Y_2 BEL_2
  have TA_3 := Lib.hid (hi)
  clear hb hi
  obtain ⟨pK0, pK1, pK2⟩ := K_3.out.cells3
  have lK := K_3.out.lt
  obtain ⟨pY0, pY1, pY2⟩ := Y_3.out.cells3
  have lY := Y_3.out.lt
  go_wp2_with fail
  have hsz := BEL_3.out.size
  have hb := below_alloc w3 (.cells #[.int .i64 0, .int .i64 0, .slice ta tl tc] 24)
  have L_4 := Lib.hid (L_3.out.below hb)
  have K_4 := Lib.hid (K_3.out.below hb)
  have Y_4 := Lib.hid (Y_3.out.below hb)
  have TA_4 := Lib.hid (TA_3.out.below hb)
  have BEL_4 := Lib.hid (BEL_3.out.trans (Below.mono hb BEL_3.out.size))
  clear L_3 K_3 Y_3 TA_3 BEL_3
  clear hb
  have A_4 := Lib.hid (Bx.new w3 #[.int .i64 0, .int .i64 0, .slice ta tl tc] 24)
  clear pK0 pK1 pK2 lK pY0 pY1 pY2 lY
  obtain ⟨X4, hX4⟩ : ∃ x, x = (w3.alloc (.cells #[.int .i64 0, .int .i64 0, .slice ta tl tc] 24)) := ⟨_, rfl⟩
  rw [← hX4] at L_4 K_4 Y_4 TA_4 A_4 BEL_4 ⊢
  clear hX4
  obtain ⟨BA, hBA⟩ : ∃ x, x = w3.heap.size := ⟨_, rfl⟩
  rw [← hBA] at A_4
  try rw [← hBA]
  have HBA := Lib.hid (show w.heap.size ≤ BA by omega)
  clear hsz hBA
  refine (hEn.out _ L_4.out).mono ?_
  rintro e w5 ⟨ga, gl, gc, rfl, hi, hb, _⟩
  have L_5 := Lib.hid (L_4.out.below hb)
  have K_5 := Lib.hid (K_4.out.below hb)
  have Y_5 := Lib.hid (Y_4.out.below hb)
  have TA_5 := Lib.hid (TA_4.out.below hb)
  have A_5 := Lib.hid (A_4.out.below hb)
  have BEL_5 := Lib.hid (BEL_4.out.trans (Below.mono hb BEL_4.out.size))
  clear L_4 K_4 Y_4 TA_4 A_4 BEL_4
  have GA_5 := Lib.hid (hi)
  clear hb hi
  obtain ⟨pK0, pK1, pK2⟩ := K_5.out.cells3
  have lK := K_5.out.lt
  obtain ⟨pY0, pY1, pY2⟩ := Y_5.out.cells3
  have lY := Y_5.out.lt
  go_wp2_with fail
  have hsz := BEL_5.out.size
  have hb := below_alloc w5 (.cells #[.int .i64 2, .int .i64 0, .slice none 0 0] 24)
  have L_6 := Lib.hid (L_5.out.below hb)
  have K_6 := Lib.hid (K_5.out.below hb)
  have Y_6 := Lib.hid (Y_5.out.below hb)
  have TA_6 := Lib.hid (TA_5.out.below hb)
  have A_6 := Lib.hid (A_5.out.below hb)
  have GA_6 := Lib.hid (GA_5.out.below hb)
  have BEL_6 := Lib.hid (BEL_5.out.trans (Below.mono hb BEL_5.out.size))
  clear L_5 K_5 Y_5 TA_5 A_5 GA_5 BEL_5
  clear hb
  have C_6 := Lib.hid (Bx.new w5 #[.int .i64 2, .int .i64 0, .slice none 0 0] 24)
  clear pK0 pK1 pK2 lK pY0 pY1 pY2 lY
  obtain ⟨X6, hX6⟩ : ∃ x, x = (w5.alloc (.cells #[.int .i64 2, .int .i64 0, .slice none 0 0] 24)) := ⟨_, rfl⟩
  rw [← hX6] at L_6 K_6 Y_6 TA_6 A_6 GA_6 C_6 BEL_6 ⊢
  clear hX6
  obtain ⟨BC, hBC⟩ : ∃ x, x = w5.heap.size := ⟨_, rfl⟩
  rw [← hBC] at C_6
  try rw [← hBC]
  have HBC := Lib.hid (show w.heap.size ≤ BC by omega)
  clear hsz hBC
  refine (hRr.out _ L_6.out).mono ?_
  rintro e w7 ⟨rfl, hb⟩
  have L_7 := Lib.hid (L_6.out.below hb)
  have K_7 := Lib.hid (K_6.out.below hb)
  have Y_7 := Lib.hid (Y_6.out.below hb)
  have TA_7 := Lib.hid (TA_6.out.below hb)
  have A_7 := Lib.hid (A_6.out.below hb)
  have GA_7 := Lib.hid (GA_6.out.below hb)
  have C_7 := Lib.hid (C_6.out.below hb)
  have BEL_7 := Lib.hid (BEL_6.out.trans (Below.mono hb BEL_6.out.size))
  clear L_6 K_6 Y_6 TA_6 A_6 GA_6 C_6 BEL_6
  clear hb
  obtain ⟨pK0, pK1, pK2⟩ := K_7.out.cells3
  have lK := K_7.out.lt
  go_wp2_with fail
  have hsz := BEL_7.out.size
  have hb := below_alloc w7 (.cells #[.int .i64 0, .int .i64 0, .slice none 0 0] 24)
  have L_8 := Lib.hid (L_7.out.below hb)
  have K_8 := Lib.hid (K_7.out.below hb)
  have Y_8 := Lib.hid (Y_7.out.below hb)
  have TA_8 := Lib.hid (TA_7.out.below hb)
  have A_8 := Lib.hid (A_7.out.below hb)
  have GA_8 := Lib.hid (GA_7.out.below hb)
  have C_8 := Lib.hid (C_7.out.below hb)
  have BEL_8 := Lib.hid (BEL_7.out.trans (Below.mono hb BEL_7.out.size))
  clear L_7 K_7 Y_7 TA_7 A_7 GA_7 C_7 BEL_7
  clear hb
  have Z_8 := Lib.hid (Bx.new w7 #[.int .i64 0, .int .i64 0, .slice none 0 0] 24)
  clear pK0 pK1 pK2 lK
  obtain ⟨X8, hX8⟩ : ∃ x, x = (w7.alloc (.cells #[.int .i64 0, .int .i64 0, .slice none 0 0] 24)) := ⟨_, rfl⟩
  rw [← hX8] at L_8 K_8 Y_8 TA_8 A_8 GA_8 C_8 Z_8 BEL_8 ⊢
  clear hX8
  obtain ⟨BZ, hBZ⟩ : ∃ x, x = w7.heap.size := ⟨_, rfl⟩
  rw [← hBZ] at Z_8
  try rw [← hBZ]
  have HBZ := Lib.hid (show w.heap.size ≤ BZ by omega)
  clear hsz hBZ
  refine (hRi.out _ L_8.out).mono ?_
  rintro e w9 ⟨rfl, hb⟩
  have L_9 := Lib.hid (L_8.out.below hb)
  have K_9 := Lib.hid (K_8.out.below hb)
  have Y_9 := Lib.hid (Y_8.out.below hb)
  have TA_9 := Lib.hid (TA_8.out.below hb)
  have A_9 := Lib.hid (A_8.out.below hb)
  have GA_9 := Lib.hid (GA_8.out.below hb)
  have C_9 := Lib.hid (C_8.out.below hb)
  have Z_9 := Lib.hid (Z_8.out.below hb)
  have BEL_9 := Lib.hid (BEL_8.out.trans (Below.mono hb BEL_8.out.size))
  clear L_8 K_8 Y_8 TA_8 A_8 GA_8 C_8 Z_8 BEL_8
  clear hb
  go_wp2_with fail
  refine (alive_any _).mono ?_
  rintro e w10 ⟨rfl, hb⟩
  have L_10 := Lib.hid (L_9.out.below hb)
  have K_10 := Lib.hid (K_9.out.below hb)
  have Y_10 := Lib.hid (Y_9.out.below hb)
  have TA_10 := Lib.hid (TA_9.out.below hb)
  have A_10 := Lib.hid (A_9.out.below hb)
  have GA_10 := Lib.hid (GA_9.out.below hb)
  have C_10 := Lib.hid (C_9.out.below hb)
  have Z_10 := Lib.hid (Z_9.out.below hb)
  have BEL_10 := Lib.hid (BEL_9.out.trans (Below.mono hb BEL_9.out.size))
  clear L_9 K_9 Y_9 TA_9 A_9 GA_9 C_9 Z_9 BEL_9
  clear hb
  obtain ⟨pK0, pK1, pK2⟩ := K_10.out.cells3
  have lK := K_10.out.lt
  obtain ⟨pC0, pC1, pC2⟩ := C_10.out.cells3
  have lC := C_10.out.lt
  obtain ⟨pZ0, pZ1, pZ2⟩ := Z_10.out.cells3
  have lZ := Z_10.out.lt
  go_wp2_with fail
  refine (hRE.out _ L_10.out).mono ?_
  rintro e w11 ⟨ra, rl, rc, rfl, hi, hb⟩
  clear pK0 pK1 pK2 lK pC0 pC1 pC2 lC pZ0 pZ1 pZ2 lZ
  have L_11 := Lib.hid (L_10.out.below hb)
  have K_11 := Lib.hid (K_10.out.below hb)
  have Y_11 := Lib.hid (Y_10.out.below hb)
  have TA_11 := Lib.hid (TA_10.out.below hb)
  have A_11 := Lib.hid (A_10.out.below hb)
  have GA_11 := Lib.hid (GA_10.out.below hb)
  have C_11 := Lib.hid (C_10.out.below hb)
  have Z_11 := Lib.hid (Z_10.out.below hb)
  have BEL_11 := Lib.hid (BEL_10.out.trans (Below.mono hb BEL_10.out.size))
  clear L_10 K_10 Y_10 TA_10 A_10 GA_10 C_10 Z_10 BEL_10
  have RA_11 := Lib.hid (hi)
  clear hb hi
  obtain ⟨pC0, pC1, pC2⟩ := C_11.out.cells3
  have lC := C_11.out.lt
  obtain ⟨pZ0, pZ1, pZ2⟩ := Z_11.out.cells3
  have lZ := Z_11.out.lt
  go_wp2_with fail
  have hsz := BEL_11.out.size
  have hb := below_alloc w11 (.cells #[.int .i64 2, .int .i64 0, .slice none 0 0] 24)
  have L_12 := Lib.hid (L_11.out.below hb)
  have K_12 := Lib.hid (K_11.out.below hb)
  have Y_12 := Lib.hid (Y_11.out.below hb)
  have TA_12 := Lib.hid (TA_11.out.below hb)
  have A_12 := Lib.hid (A_11.out.below hb)
  have GA_12 := Lib.hid (GA_11.out.below hb)
  have C_12 := Lib.hid (C_11.out.below hb)
  have Z_12 := Lib.hid (Z_11.out.below hb)
  have RA_12 := Lib.hid (RA_11.out.below hb)
  have BEL_12 := Lib.hid (BEL_11.out.trans (Below.mono hb BEL_11.out.size))
  clear L_11 K_11 Y_11 TA_11 A_11 GA_11 C_11 Z_11 RA_11 BEL_11
  clear hb
  have E_12 := Lib.hid (Bx.new w11 #[.int .i64 2, .int .i64 0, .slice none 0 0] 24)
  clear pC0 pC1 pC2 lC pZ0 pZ1 pZ2 lZ
  obtain ⟨X12, hX12⟩ : ∃ x, x = (w11.alloc (.cells #[.int .i64 2, .int .i64 0, .slice none 0 0] 24)) := ⟨_, rfl⟩
  rw [← hX12] at L_12 K_12 Y_12 TA_12 A_12 GA_12 C_12 Z_12 RA_12 E_12 BEL_12 ⊢
  clear hX12
  obtain ⟨BE, hBE⟩ : ∃ x, x = w11.heap.size := ⟨_, rfl⟩
  rw [← hBE] at E_12
  try rw [← hBE]
  have HBE := Lib.hid (show w.heap.size ≤ BE by omega)
  clear hsz hBE
  refine (Same_any ga gl gc L ra rl rc L _ GA_12.out RA_12.out).mono ?_
  rintro e w13 ⟨rfl, hb⟩
  have L_13 := Lib.hid (L_12.out.below hb)
  have K_13 := Lib.hid (K_12.out.below hb)
  have Y_13 := Lib.hid (Y_12.out.below hb)
  have TA_13 := Lib.hid (TA_12.out.below hb)
  have A_13 := Lib.hid (A_12.out.below hb)
  have GA_13 := Lib.hid (GA_12.out.below hb)
  have C_13 := Lib.hid (C_12.out.below hb)
  have Z_13 := Lib.hid (Z_12.out.below hb)
  have RA_13 := Lib.hid (RA_12.out.below hb)
  have E_13 := Lib.hid (E_12.out.below hb)
  have BEL_13 := Lib.hid (BEL_12.out.trans (Below.mono hb BEL_12.out.size))
  clear L_12 K_12 Y_12 TA_12 A_12 GA_12 C_12 Z_12 RA_12 E_12 BEL_12
  clear hb
  rw [decide_eq_true (show L = L from rfl)]
  obtain ⟨pC0, pC1, pC2⟩ := C_13.out.cells3
  have lC := C_13.out.lt
  obtain ⟨pE0, pE1, pE2⟩ := E_13.out.cells3
  have lE := E_13.out.lt
  go_wp2_with fail
  refine (refSame_on 2 0 none 0 0 [] 2 0 none 0 0 [] _ (Wts.nil _) (Wts.nil _)).mono ?_
  rintro e w14 ⟨rfl, hb⟩
  clear pC0 pC1 pC2 lC pE0 pE1 pE2 lE
  have L_14 := Lib.hid (L_13.out.below hb)
  have K_14 := Lib.hid (K_13.out.below hb)
  have Y_14 := Lib.hid (Y_13.out.below hb)
  have TA_14 := Lib.hid (TA_13.out.below hb)
  have A_14 := Lib.hid (A_13.out.below hb)
  have GA_14 := Lib.hid (GA_13.out.below hb)
  have C_14 := Lib.hid (C_13.out.below hb)
  have Z_14 := Lib.hid (Z_13.out.below hb)
  have RA_14 := Lib.hid (RA_13.out.below hb)
  have E_14 := Lib.hid (E_13.out.below hb)
  have BEL_14 := Lib.hid (BEL_13.out.trans (Below.mono hb BEL_13.out.size))
  clear L_13 K_13 Y_13 TA_13 A_13 GA_13 C_13 Z_13 RA_13 E_13 BEL_13
  clear hb
  try simp only [decide_true, Bool.and_true, Bool.true_and, BEq.rfl]
  obtain ⟨pY0, pY1, pY2⟩ := Y_14.out.cells3
  have lY := Y_14.out.lt
  go_wp2_with fail
  refine (hMa.out _).mono ?_
  rintro e w15 ⟨rfl, hb⟩
  clear pY0 pY1 pY2 lY
  have L_15 := Lib.hid (L_14.out.below hb)
  have K_15 := Lib.hid (K_14.out.below hb)
  have Y_15 := Lib.hid (Y_14.out.below hb)
  have TA_15 := Lib.hid (TA_14.out.below hb)
  have A_15 := Lib.hid (A_14.out.below hb)
  have GA_15 := Lib.hid (GA_14.out.below hb)
  have C_15 := Lib.hid (C_14.out.below hb)
  have Z_15 := Lib.hid (Z_14.out.below hb)
  have RA_15 := Lib.hid (RA_14.out.below hb)
  have E_15 := Lib.hid (E_14.out.below hb)
  have BEL_15 := Lib.hid (BEL_14.out.trans (Below.mono hb BEL_14.out.size))
  clear L_14 K_14 Y_14 TA_14 A_14 GA_14 C_14 Z_14 RA_14 E_14 BEL_14
  clear hb
  obtain ⟨pA0, pA1, pA2⟩ := A_15.out.cells3
  have lA := A_15.out.lt
  obtain ⟨pZ0, pZ1, pZ2⟩ := Z_15.out.cells3
  have lZ := Z_15.out.lt
  go_wp2_with fail
  refine (refSame_on 0 0 ta tl tc [] 0 0 none 0 0 [] _ TA_15.out (Wts.nil _)).mono ?_
  rintro e w16 ⟨rfl, hb⟩
  clear pA0 pA1 pA2 lA pZ0 pZ1 pZ2 lZ
  have L_16 := Lib.hid (L_15.out.below hb)
  have K_16 := Lib.hid (K_15.out.below hb)
  have Y_16 := Lib.hid (Y_15.out.below hb)
  have TA_16 := Lib.hid (TA_15.out.below hb)
  have A_16 := Lib.hid (A_15.out.below hb)
  have GA_16 := Lib.hid (GA_15.out.below hb)
  have C_16 := Lib.hid (C_15.out.below hb)
  have Z_16 := Lib.hid (Z_15.out.below hb)
  have RA_16 := Lib.hid (RA_15.out.below hb)
  have E_16 := Lib.hid (E_15.out.below hb)
  have BEL_16 := Lib.hid (BEL_15.out.trans (Below.mono hb BEL_15.out.size))
  clear L_15 K_15 Y_15 TA_15 A_15 GA_15 C_15 Z_15 RA_15 E_15 BEL_15
  clear hb
  try simp only [decide_true, Bool.and_true, Bool.true_and, BEq.rfl]
  go_wp2_with fail
  go_ret
  exact ⟨ret_bool (by simp), BEL_16.out⟩
end Go.Proofs.Ytnmopfimmindnaa
