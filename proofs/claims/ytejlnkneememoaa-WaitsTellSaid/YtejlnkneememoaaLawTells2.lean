/- WaitsTell: the walk, full. -/
import Derived.Test.YtejlnkneememoaaLaw0
namespace Go.Proofs.Ytejlnkneememoaa
open Go.RowKit
set_option maxRecDepth 100000 in
set_option maxHeartbeats 8000000 in
theorem tells_right_full_neg (a : Option Addr) (len l2 cap : Nat) (L : List Wt) (x : Wt) (g : Int) (w : World) (hl2 : l2 = min len 70) (hL : Wts w a l2 cap L) (hlc : len ≤ cap) (hx : WtOk x) (hgI : I64 g) (hr : rightW L = true) (hm : mayW x = true) (hh : hasW L x.g x.c = false) (hf : l2 = 64) (hg : g < 0) :
    Calls Try.prog 3 #[.slice a len cap, wV x, .int .i64 g] w (Says w) := by
  have hcm := hL.recs.cap_le
  unfold maxLen at hcm
  have hl70 : l2 ≤ 70 := by omega
  have HLL := Lib.hid hL.recs.len_eq
  have hFew := Lib.hid (fun W => few_any a len cap W hlc (by omega))
  rw [← hl2] at hFew
  have hRi := Lib.hid (fun W (h : Wts W a l2 cap L) => Right_any a l2 cap L W h)
  have hRr := Lib.hid (fun W (h : Wts W a l2 cap L) => refRight_any a l2 cap L W h)
  rw [hr] at hRi hRr
  have hPu := Lib.hid (fun W (h : Wts W a l2 cap L) => Push_full a l2 cap L x W h hx hr hm hh hf)
  unfold NoL at hPu
  have h64 : l2 ≤ 64 := by have := (rightW_iff.1 hr).1; rw [hL.recs.len_eq] at this; exact this
  have hFi := Lib.hid (fun W (h : Wts W a l2 cap L) => First_arg a l2 cap L g W h (.inr hg))
  have hDr := Lib.hid (fun W (h : Wts W a l2 cap L) => Drop_arg a l2 cap L g W h (.inr hg))
  unfold NoL at hDr
  unfold GotWait at hFi
  simp only [zeroW] at hFi
  have hWh := Lib.hid (fun W (h : Wts W a l2 cap L) => Who_go a l2 cap L W h hr)
  have hRw := Lib.hid (fun W (h : Wts W a l2 cap L) => refWho_any a l2 cap L W h (by omega))
  unfold GotI at hWh
  unfold GotInts at hRw
  have hMa := Lib.hid (fun W => refMay_any x W hx)
  rw [hm] at hMa
  have hHa := Lib.hid (fun W (h : Wts W a l2 cap L) => refHas_any a l2 cap L x.g x.c W h)
  rw [hh] at hHa
  have hfb : ((l2 : Int) == 64) = true := by rw [beq_iff_eq]; omega
  have L_0 := Lib.hid (hL.below (below_alloc w (.cells #[.int .i64 x.g, .int .i64 x.c, .int .i64 x.s] 24)))
  have X_0 := Lib.hid (Box3.new w x)
  have BEL_0 := Lib.hid (below_alloc w (.cells #[.int .i64 x.g, .int .i64 x.c, .int .i64 x.s] 24))
  have HXO := Lib.hid hx
  clear hr hl2 hL hh hm hf
  unfold I64 at hgI
  go_enter Try.func3, Try.ntmps3
  go_wp2_with fail
  refine (hFew.out _).mono ?_
  rintro e w1 ⟨rfl, hb⟩
  have L_1 := Lib.hid (L_0.out.below hb)
  have X_1 := Lib.hid (X_0.out.below hb)
  have BEL_1 := Lib.hid (BEL_0.out.trans (Below.mono hb BEL_0.out.size))
  clear L_0 X_0 BEL_0
  clear hb
  obtain ⟨pX0, pX1, pX2⟩ := X_1.out.cells
  have lX := X_1.out.lt
  go_wp2_with fail
  refine (hPu.out _ L_1.out).mono ?_
  rintro e w2 ⟨rfl, hb⟩
  clear pX0 pX1 pX2 lX
  have L_2 := Lib.hid (L_1.out.below hb)
  have X_2 := Lib.hid (X_1.out.below hb)
  have BEL_2 := Lib.hid (BEL_1.out.trans (Below.mono hb BEL_1.out.size))
  clear L_1 X_1 BEL_1
  clear hb
  go_wp2_with fail
  refine (hFi.out _ L_2.out).mono ?_
  rintro e w3 ⟨rfl, hb⟩
  have L_3 := Lib.hid (L_2.out.below hb)
  have X_3 := Lib.hid (X_2.out.below hb)
  have BEL_3 := Lib.hid (BEL_2.out.trans (Below.mono hb BEL_2.out.size))
  clear L_2 X_2 BEL_2
  clear hb
  go_wp2_with fail
  have hb := below_alloc w3 (.cells #[.int .i64 0, .int .i64 0, .int .i64 0] 24)
  have L_4 := Lib.hid (L_3.out.below hb)
  have X_4 := Lib.hid (X_3.out.below hb)
  have BEL_4 := Lib.hid (BEL_3.out.trans (Below.mono hb BEL_3.out.size))
  clear L_3 X_3 BEL_3
  have Z_4 : Hid (Box3 (w3.alloc (.cells #[.int .i64 0, .int .i64 0, .int .i64 0] 24)) w3.heap.size zeroW) := Lib.hid (Box3.new w3 zeroW)
  clear hb
  obtain ⟨X4, hX4⟩ : ∃ x, x = w3.alloc (.cells #[.int .i64 0, .int .i64 0, .int .i64 0] 24) := ⟨_, rfl⟩
  obtain ⟨BZ, hBZ⟩ : ∃ x, x = w3.heap.size := ⟨_, rfl⟩
  rw [← hX4] at L_4 X_4 Z_4 BEL_4 ⊢
  rw [← hBZ] at Z_4 ⊢
  clear hX4 hBZ
  refine (hDr.out _ L_4.out).mono ?_
  rintro e w5 ⟨rfl, hb⟩
  have L_5 := Lib.hid (L_4.out.below hb)
  have X_5 := Lib.hid (X_4.out.below hb)
  have Z_5 := Lib.hid (Z_4.out.below hb)
  have BEL_5 := Lib.hid (BEL_4.out.trans (Below.mono hb BEL_4.out.size))
  clear L_4 X_4 Z_4 BEL_4
  clear hb
  go_wp2_with fail
  refine (hWh.out _ L_5.out).mono ?_
  rintro e w6 ⟨wa, wn, wcap, rfl, hi, hb⟩
  have L_6 := Lib.hid (L_5.out.below hb)
  have X_6 := Lib.hid (X_5.out.below hb)
  have Z_6 := Lib.hid (Z_5.out.below hb)
  have BEL_6 := Lib.hid (BEL_5.out.trans (Below.mono hb BEL_5.out.size))
  clear L_5 X_5 Z_5 BEL_5
  have WA_6 := Lib.hid (hi)
  clear hb hi
  go_wp2_with fail
  refine (hRr.out _ L_6.out).mono ?_
  rintro e w7 ⟨rfl, hb⟩
  have L_7 := Lib.hid (L_6.out.below hb)
  have X_7 := Lib.hid (X_6.out.below hb)
  have Z_7 := Lib.hid (Z_6.out.below hb)
  have WA_7 := Lib.hid (WA_6.out.below hb)
  have BEL_7 := Lib.hid (BEL_6.out.trans (Below.mono hb BEL_6.out.size))
  clear L_6 X_6 Z_6 WA_6 BEL_6
  clear hb
  go_wp2_with fail
  refine (hRi.out _ L_7.out).mono ?_
  rintro e w8 ⟨rfl, hb⟩
  have L_8 := Lib.hid (L_7.out.below hb)
  have X_8 := Lib.hid (X_7.out.below hb)
  have Z_8 := Lib.hid (Z_7.out.below hb)
  have WA_8 := Lib.hid (WA_7.out.below hb)
  have BEL_8 := Lib.hid (BEL_7.out.trans (Below.mono hb BEL_7.out.size))
  clear L_7 X_7 Z_7 WA_7 BEL_7
  clear hb
  go_wp2_with fail
  refine (alive_any _).mono ?_
  rintro e w9 ⟨rfl, hb⟩
  have L_9 := Lib.hid (L_8.out.below hb)
  have X_9 := Lib.hid (X_8.out.below hb)
  have Z_9 := Lib.hid (Z_8.out.below hb)
  have WA_9 := Lib.hid (WA_8.out.below hb)
  have BEL_9 := Lib.hid (BEL_8.out.trans (Below.mono hb BEL_8.out.size))
  clear L_8 X_8 Z_8 WA_8 BEL_8
  clear hb
  obtain ⟨pX0, pX1, pX2⟩ := X_9.out.cells
  have lX := X_9.out.lt
  go_wp2_with fail
  clear pX0 pX1 pX2 lX
  refine (hMa.out _).mono ?_
  rintro e w10 ⟨rfl, hb⟩
  have L_10 := Lib.hid (L_9.out.below hb)
  have X_10 := Lib.hid (X_9.out.below hb)
  have Z_10 := Lib.hid (Z_9.out.below hb)
  have WA_10 := Lib.hid (WA_9.out.below hb)
  have BEL_10 := Lib.hid (BEL_9.out.trans (Below.mono hb BEL_9.out.size))
  clear L_9 X_9 Z_9 WA_9 BEL_9
  clear hb
  obtain ⟨pX0, pX1, pX2⟩ := X_10.out.cells
  have lX := X_10.out.lt
  go_wp2_with fail
  clear pX0 pX1 pX2 lX
  refine (hHa.out _ L_10.out).mono ?_
  rintro e w11 ⟨rfl, hb⟩
  have L_11 := Lib.hid (L_10.out.below hb)
  have X_11 := Lib.hid (X_10.out.below hb)
  have Z_11 := Lib.hid (Z_10.out.below hb)
  have WA_11 := Lib.hid (WA_10.out.below hb)
  have BEL_11 := Lib.hid (BEL_10.out.trans (Below.mono hb BEL_10.out.size))
  clear L_10 X_10 Z_10 WA_10 BEL_10
  clear hb
  go_wp2_with fail
  refine (hRw.out _ L_11.out).mono ?_
  rintro e w12 ⟨ra, rn, rcap, rfl, hi, hb⟩
  have L_12 := Lib.hid (L_11.out.below hb)
  have X_12 := Lib.hid (X_11.out.below hb)
  have Z_12 := Lib.hid (Z_11.out.below hb)
  have WA_12 := Lib.hid (WA_11.out.below hb)
  have BEL_12 := Lib.hid (BEL_11.out.trans (Below.mono hb BEL_11.out.size))
  clear L_11 X_11 Z_11 WA_11 BEL_11
  have RA_12 := Lib.hid (hi)
  clear hb hi
  go_wp2_with fail
  refine (rows_any _ _ _ _ _ _ _ _ _ WA_12.out RA_12.out).mono ?_
  rintro e w13 ⟨rfl, hb⟩
  have L_13 := Lib.hid (L_12.out.below hb)
  have X_13 := Lib.hid (X_12.out.below hb)
  have Z_13 := Lib.hid (Z_12.out.below hb)
  have WA_13 := Lib.hid (WA_12.out.below hb)
  have RA_13 := Lib.hid (RA_12.out.below hb)
  have BEL_13 := Lib.hid (BEL_12.out.trans (Below.mono hb BEL_12.out.size))
  clear L_12 X_12 Z_12 WA_12 RA_12 BEL_12
  clear hb
  rw [decide_eq_true (show whoW L = whoW L from rfl)]
  obtain ⟨pZ0, pZ1, pZ2⟩ := Z_13.out.cells
  simp only [zeroW] at pZ0 pZ1 pZ2
  have lZ := Z_13.out.lt
  go_wp2_with fail
  clear pZ0 pZ1 pZ2 lZ
  go_ret
  exact ⟨ret_bool rfl, BEL_13.out⟩
set_option maxRecDepth 100000 in
set_option maxHeartbeats 8000000 in
theorem tells_right_full_none (a : Option Addr) (len l2 cap : Nat) (L : List Wt) (x : Wt) (g : Int) (w : World) (hl2 : l2 = min len 70) (hL : Wts w a l2 cap L) (hlc : len ≤ cap) (hx : WtOk x) (hgI : I64 g) (hr : rightW L = true) (hm : mayW x = true) (hh : hasW L x.g x.c = false) (hf : l2 = 64) (hg : 0 ≤ g) (hfi : firstW L g = none) :
    Calls Try.prog 3 #[.slice a len cap, wV x, .int .i64 g] w (Says w) := by
  have hcm := hL.recs.cap_le
  unfold maxLen at hcm
  have hl70 : l2 ≤ 70 := by omega
  have HLL := Lib.hid hL.recs.len_eq
  have hFew := Lib.hid (fun W => few_any a len cap W hlc (by omega))
  rw [← hl2] at hFew
  have hRi := Lib.hid (fun W (h : Wts W a l2 cap L) => Right_any a l2 cap L W h)
  have hRr := Lib.hid (fun W (h : Wts W a l2 cap L) => refRight_any a l2 cap L W h)
  rw [hr] at hRi hRr
  have hPu := Lib.hid (fun W (h : Wts W a l2 cap L) => Push_full a l2 cap L x W h hx hr hm hh hf)
  unfold NoL at hPu
  have h64 : l2 ≤ 64 := by have := (rightW_iff.1 hr).1; rw [hL.recs.len_eq] at this; exact this
  have hFi := Lib.hid (fun W (h : Wts W a l2 cap L) => First_go a l2 cap L g W h hr hg hgI)
  have hDr := Lib.hid (fun W (h : Wts W a l2 cap L) => Drop_go a l2 cap L g W h hr hg hgI)
  have hRd := Lib.hid (fun W (h : Wts W a l2 cap L) => refDrop_any a l2 cap L g W h (by omega) hgI)
  rw [hfi] at hFi
  unfold GotW at hDr
  unfold GotFirst at hFi
  unfold GotR at hRd
  have hRf := Lib.hid (fun W (h : Wts W a l2 cap L) => refFirst_none a l2 cap L g W h hfi)
  unfold GotWait at hFi
  simp only [zeroW] at hFi
  have hWh := Lib.hid (fun W (h : Wts W a l2 cap L) => Who_go a l2 cap L W h hr)
  have hRw := Lib.hid (fun W (h : Wts W a l2 cap L) => refWho_any a l2 cap L W h (by omega))
  unfold GotI at hWh
  unfold GotInts at hRw
  have hMa := Lib.hid (fun W => refMay_any x W hx)
  rw [hm] at hMa
  have hHa := Lib.hid (fun W (h : Wts W a l2 cap L) => refHas_any a l2 cap L x.g x.c W h)
  rw [hh] at hHa
  have hfb : ((l2 : Int) == 64) = true := by rw [beq_iff_eq]; omega
  have L_0 := Lib.hid (hL.below (below_alloc w (.cells #[.int .i64 x.g, .int .i64 x.c, .int .i64 x.s] 24)))
  have X_0 := Lib.hid (Box3.new w x)
  have BEL_0 := Lib.hid (below_alloc w (.cells #[.int .i64 x.g, .int .i64 x.c, .int .i64 x.s] 24))
  have HXO := Lib.hid hx
  clear hr hl2 hL hh hm hf hfi
  unfold I64 at hgI
  go_enter Try.func3, Try.ntmps3
  go_wp2_with fail
  refine (hFew.out _).mono ?_
  rintro e w1 ⟨rfl, hb⟩
  have L_1 := Lib.hid (L_0.out.below hb)
  have X_1 := Lib.hid (X_0.out.below hb)
  have BEL_1 := Lib.hid (BEL_0.out.trans (Below.mono hb BEL_0.out.size))
  clear L_0 X_0 BEL_0
  clear hb
  obtain ⟨pX0, pX1, pX2⟩ := X_1.out.cells
  have lX := X_1.out.lt
  go_wp2_with fail
  refine (hPu.out _ L_1.out).mono ?_
  rintro e w2 ⟨rfl, hb⟩
  clear pX0 pX1 pX2 lX
  have L_2 := Lib.hid (L_1.out.below hb)
  have X_2 := Lib.hid (X_1.out.below hb)
  have BEL_2 := Lib.hid (BEL_1.out.trans (Below.mono hb BEL_1.out.size))
  clear L_1 X_1 BEL_1
  clear hb
  go_wp2_with fail
  refine (hFi.out _ L_2.out).mono ?_
  rintro e w3 ⟨rfl, hb⟩
  have L_3 := Lib.hid (L_2.out.below hb)
  have X_3 := Lib.hid (X_2.out.below hb)
  have BEL_3 := Lib.hid (BEL_2.out.trans (Below.mono hb BEL_2.out.size))
  clear L_2 X_2 BEL_2
  clear hb
  go_wp2_with fail
  have hb := below_alloc w3 (.cells #[.int .i64 0, .int .i64 0, .int .i64 0] 24)
  have L_4 := Lib.hid (L_3.out.below hb)
  have X_4 := Lib.hid (X_3.out.below hb)
  have BEL_4 := Lib.hid (BEL_3.out.trans (Below.mono hb BEL_3.out.size))
  clear L_3 X_3 BEL_3
  have Z_4 : Hid (Box3 (w3.alloc (.cells #[.int .i64 0, .int .i64 0, .int .i64 0] 24)) w3.heap.size zeroW) := Lib.hid (Box3.new w3 zeroW)
  clear hb
  obtain ⟨X4, hX4⟩ : ∃ x, x = w3.alloc (.cells #[.int .i64 0, .int .i64 0, .int .i64 0] 24) := ⟨_, rfl⟩
  obtain ⟨BZ, hBZ⟩ : ∃ x, x = w3.heap.size := ⟨_, rfl⟩
  rw [← hX4] at L_4 X_4 Z_4 BEL_4 ⊢
  rw [← hBZ] at Z_4 ⊢
  clear hX4 hBZ
  refine (hDr.out _ L_4.out).mono ?_
  rintro e w5 ⟨da, dn, dcap, rfl, hi, hb⟩
  have L_5 := Lib.hid (L_4.out.below hb)
  have X_5 := Lib.hid (X_4.out.below hb)
  have Z_5 := Lib.hid (Z_4.out.below hb)
  have BEL_5 := Lib.hid (BEL_4.out.trans (Below.mono hb BEL_4.out.size))
  clear L_4 X_4 Z_4 BEL_4
  have DA_5 := Lib.hid (hi)
  clear hb hi
  go_wp2_with fail
  refine (hWh.out _ L_5.out).mono ?_
  rintro e w6 ⟨wa, wn, wcap, rfl, hi, hb⟩
  have L_6 := Lib.hid (L_5.out.below hb)
  have X_6 := Lib.hid (X_5.out.below hb)
  have Z_6 := Lib.hid (Z_5.out.below hb)
  have DA_6 := Lib.hid (DA_5.out.below hb)
  have BEL_6 := Lib.hid (BEL_5.out.trans (Below.mono hb BEL_5.out.size))
  clear L_5 X_5 Z_5 DA_5 BEL_5
  have WA_6 := Lib.hid (hi)
  clear hb hi
  go_wp2_with fail
  refine (hRr.out _ L_6.out).mono ?_
  rintro e w7 ⟨rfl, hb⟩
  have L_7 := Lib.hid (L_6.out.below hb)
  have X_7 := Lib.hid (X_6.out.below hb)
  have Z_7 := Lib.hid (Z_6.out.below hb)
  have DA_7 := Lib.hid (DA_6.out.below hb)
  have WA_7 := Lib.hid (WA_6.out.below hb)
  have BEL_7 := Lib.hid (BEL_6.out.trans (Below.mono hb BEL_6.out.size))
  clear L_6 X_6 Z_6 DA_6 WA_6 BEL_6
  clear hb
  go_wp2_with fail
  refine (hRi.out _ L_7.out).mono ?_
  rintro e w8 ⟨rfl, hb⟩
  have L_8 := Lib.hid (L_7.out.below hb)
  have X_8 := Lib.hid (X_7.out.below hb)
  have Z_8 := Lib.hid (Z_7.out.below hb)
  have DA_8 := Lib.hid (DA_7.out.below hb)
  have WA_8 := Lib.hid (WA_7.out.below hb)
  have BEL_8 := Lib.hid (BEL_7.out.trans (Below.mono hb BEL_7.out.size))
  clear L_7 X_7 Z_7 DA_7 WA_7 BEL_7
  clear hb
  go_wp2_with fail
  refine (alive_any _).mono ?_
  rintro e w9 ⟨rfl, hb⟩
  have L_9 := Lib.hid (L_8.out.below hb)
  have X_9 := Lib.hid (X_8.out.below hb)
  have Z_9 := Lib.hid (Z_8.out.below hb)
  have DA_9 := Lib.hid (DA_8.out.below hb)
  have WA_9 := Lib.hid (WA_8.out.below hb)
  have BEL_9 := Lib.hid (BEL_8.out.trans (Below.mono hb BEL_8.out.size))
  clear L_8 X_8 Z_8 DA_8 WA_8 BEL_8
  clear hb
  obtain ⟨pX0, pX1, pX2⟩ := X_9.out.cells
  have lX := X_9.out.lt
  go_wp2_with fail
  clear pX0 pX1 pX2 lX
  refine (hMa.out _).mono ?_
  rintro e w10 ⟨rfl, hb⟩
  have L_10 := Lib.hid (L_9.out.below hb)
  have X_10 := Lib.hid (X_9.out.below hb)
  have Z_10 := Lib.hid (Z_9.out.below hb)
  have DA_10 := Lib.hid (DA_9.out.below hb)
  have WA_10 := Lib.hid (WA_9.out.below hb)
  have BEL_10 := Lib.hid (BEL_9.out.trans (Below.mono hb BEL_9.out.size))
  clear L_9 X_9 Z_9 DA_9 WA_9 BEL_9
  clear hb
  obtain ⟨pX0, pX1, pX2⟩ := X_10.out.cells
  have lX := X_10.out.lt
  go_wp2_with fail
  clear pX0 pX1 pX2 lX
  refine (hHa.out _ L_10.out).mono ?_
  rintro e w11 ⟨rfl, hb⟩
  have L_11 := Lib.hid (L_10.out.below hb)
  have X_11 := Lib.hid (X_10.out.below hb)
  have Z_11 := Lib.hid (Z_10.out.below hb)
  have DA_11 := Lib.hid (DA_10.out.below hb)
  have WA_11 := Lib.hid (WA_10.out.below hb)
  have BEL_11 := Lib.hid (BEL_10.out.trans (Below.mono hb BEL_10.out.size))
  clear L_10 X_10 Z_10 DA_10 WA_10 BEL_10
  clear hb
  go_wp2_with fail
  refine (hRw.out _ L_11.out).mono ?_
  rintro e w12 ⟨ra, rn, rcap, rfl, hi, hb⟩
  have L_12 := Lib.hid (L_11.out.below hb)
  have X_12 := Lib.hid (X_11.out.below hb)
  have Z_12 := Lib.hid (Z_11.out.below hb)
  have DA_12 := Lib.hid (DA_11.out.below hb)
  have WA_12 := Lib.hid (WA_11.out.below hb)
  have BEL_12 := Lib.hid (BEL_11.out.trans (Below.mono hb BEL_11.out.size))
  clear L_11 X_11 Z_11 DA_11 WA_11 BEL_11
  have RA_12 := Lib.hid (hi)
  clear hb hi
  go_wp2_with fail
  refine (rows_any _ _ _ _ _ _ _ _ _ WA_12.out RA_12.out).mono ?_
  rintro e w13 ⟨rfl, hb⟩
  have L_13 := Lib.hid (L_12.out.below hb)
  have X_13 := Lib.hid (X_12.out.below hb)
  have Z_13 := Lib.hid (Z_12.out.below hb)
  have DA_13 := Lib.hid (DA_12.out.below hb)
  have WA_13 := Lib.hid (WA_12.out.below hb)
  have RA_13 := Lib.hid (RA_12.out.below hb)
  have BEL_13 := Lib.hid (BEL_12.out.trans (Below.mono hb BEL_12.out.size))
  clear L_12 X_12 Z_12 DA_12 WA_12 RA_12 BEL_12
  clear hb
  rw [decide_eq_true (show whoW L = whoW L from rfl)]
  go_wp2_with fail
  refine (hRd.out _ L_13.out).mono ?_
  rintro e w14 ⟨ea, en1, ecap, rfl, hi, hb⟩
  have L_14 := Lib.hid (L_13.out.below hb)
  have X_14 := Lib.hid (X_13.out.below hb)
  have Z_14 := Lib.hid (Z_13.out.below hb)
  have DA_14 := Lib.hid (DA_13.out.below hb)
  have WA_14 := Lib.hid (WA_13.out.below hb)
  have RA_14 := Lib.hid (RA_13.out.below hb)
  have BEL_14 := Lib.hid (BEL_13.out.trans (Below.mono hb BEL_13.out.size))
  clear L_13 X_13 Z_13 DA_13 WA_13 RA_13 BEL_13
  have EA_14 := Lib.hid (hi)
  clear hb hi
  go_wp2_with fail
  refine (Same_any _ _ _ _ _ _ _ _ _ DA_14.out EA_14.out).mono ?_
  rintro e w15 ⟨rfl, hb⟩
  have L_15 := Lib.hid (L_14.out.below hb)
  have X_15 := Lib.hid (X_14.out.below hb)
  have Z_15 := Lib.hid (Z_14.out.below hb)
  have DA_15 := Lib.hid (DA_14.out.below hb)
  have WA_15 := Lib.hid (WA_14.out.below hb)
  have RA_15 := Lib.hid (RA_14.out.below hb)
  have EA_15 := Lib.hid (EA_14.out.below hb)
  have BEL_15 := Lib.hid (BEL_14.out.trans (Below.mono hb BEL_14.out.size))
  clear L_14 X_14 Z_14 DA_14 WA_14 RA_14 EA_14 BEL_14
  clear hb
  rw [decide_eq_true (show dropW L g = dropW L g from rfl)]
  go_wp2_with fail
  refine (hRf.out _ L_15.out).mono ?_
  rintro e w16 ⟨rfl, hb⟩
  have L_16 := Lib.hid (L_15.out.below hb)
  have X_16 := Lib.hid (X_15.out.below hb)
  have Z_16 := Lib.hid (Z_15.out.below hb)
  have DA_16 := Lib.hid (DA_15.out.below hb)
  have WA_16 := Lib.hid (WA_15.out.below hb)
  have RA_16 := Lib.hid (RA_15.out.below hb)
  have EA_16 := Lib.hid (EA_15.out.below hb)
  have BEL_16 := Lib.hid (BEL_15.out.trans (Below.mono hb BEL_15.out.size))
  clear L_15 X_15 Z_15 DA_15 WA_15 RA_15 EA_15 BEL_15
  clear hb
  obtain ⟨pZ0, pZ1, pZ2⟩ := Z_16.out.cells
  simp only [zeroW] at pZ0 pZ1 pZ2
  have lZ := Z_16.out.lt
  go_wp2_with fail
  clear pZ0 pZ1 pZ2 lZ
  go_ret
  exact ⟨ret_bool rfl, BEL_16.out⟩
set_option maxRecDepth 100000 in
set_option maxHeartbeats 8000000 in
theorem tells_right_full_some (a : Option Addr) (len l2 cap : Nat) (L : List Wt) (x : Wt) (g : Int) (w : World) (hl2 : l2 = min len 70) (hL : Wts w a l2 cap L) (hlc : len ≤ cap) (hx : WtOk x) (hgI : I64 g) (hr : rightW L = true) (hm : mayW x = true) (hh : hasW L x.g x.c = false) (hf : l2 = 64) (y : Wt) (hg : 0 ≤ g) (hfi : firstW L g = some y) :
    Calls Try.prog 3 #[.slice a len cap, wV x, .int .i64 g] w (Says w) := by
  have hcm := hL.recs.cap_le
  unfold maxLen at hcm
  have hl70 : l2 ≤ 70 := by omega
  have HLL := Lib.hid hL.recs.len_eq
  have hFew := Lib.hid (fun W => few_any a len cap W hlc (by omega))
  rw [← hl2] at hFew
  have hRi := Lib.hid (fun W (h : Wts W a l2 cap L) => Right_any a l2 cap L W h)
  have hRr := Lib.hid (fun W (h : Wts W a l2 cap L) => refRight_any a l2 cap L W h)
  rw [hr] at hRi hRr
  have hPu := Lib.hid (fun W (h : Wts W a l2 cap L) => Push_full a l2 cap L x W h hx hr hm hh hf)
  unfold NoL at hPu
  have h64 : l2 ≤ 64 := by have := (rightW_iff.1 hr).1; rw [hL.recs.len_eq] at this; exact this
  have hFi := Lib.hid (fun W (h : Wts W a l2 cap L) => First_go a l2 cap L g W h hr hg hgI)
  have hDr := Lib.hid (fun W (h : Wts W a l2 cap L) => Drop_go a l2 cap L g W h hr hg hgI)
  have hRd := Lib.hid (fun W (h : Wts W a l2 cap L) => refDrop_any a l2 cap L g W h (by omega) hgI)
  rw [hfi] at hFi
  unfold GotW at hDr
  unfold GotFirst at hFi
  unfold GotR at hRd
  have hRf := Lib.hid (fun W (h : Wts W a l2 cap L) => refFirst_some a l2 cap L g y W h hfi)
  unfold GotWait at hFi
  have hWh := Lib.hid (fun W (h : Wts W a l2 cap L) => Who_go a l2 cap L W h hr)
  have hRw := Lib.hid (fun W (h : Wts W a l2 cap L) => refWho_any a l2 cap L W h (by omega))
  unfold GotI at hWh
  unfold GotInts at hRw
  have hMa := Lib.hid (fun W => refMay_any x W hx)
  rw [hm] at hMa
  have hHa := Lib.hid (fun W (h : Wts W a l2 cap L) => refHas_any a l2 cap L x.g x.c W h)
  rw [hh] at hHa
  have hfb : ((l2 : Int) == 64) = true := by rw [beq_iff_eq]; omega
  have L_0 := Lib.hid (hL.below (below_alloc w (.cells #[.int .i64 x.g, .int .i64 x.c, .int .i64 x.s] 24)))
  have X_0 := Lib.hid (Box3.new w x)
  have BEL_0 := Lib.hid (below_alloc w (.cells #[.int .i64 x.g, .int .i64 x.c, .int .i64 x.s] 24))
  have HXO := Lib.hid hx
  clear hr hl2 hL hh hm hf hfi
  unfold I64 at hgI
  go_enter Try.func3, Try.ntmps3
  go_wp2_with fail
  refine (hFew.out _).mono ?_
  rintro e w1 ⟨rfl, hb⟩
  have L_1 := Lib.hid (L_0.out.below hb)
  have X_1 := Lib.hid (X_0.out.below hb)
  have BEL_1 := Lib.hid (BEL_0.out.trans (Below.mono hb BEL_0.out.size))
  clear L_0 X_0 BEL_0
  clear hb
  obtain ⟨pX0, pX1, pX2⟩ := X_1.out.cells
  have lX := X_1.out.lt
  go_wp2_with fail
  refine (hPu.out _ L_1.out).mono ?_
  rintro e w2 ⟨rfl, hb⟩
  clear pX0 pX1 pX2 lX
  have L_2 := Lib.hid (L_1.out.below hb)
  have X_2 := Lib.hid (X_1.out.below hb)
  have BEL_2 := Lib.hid (BEL_1.out.trans (Below.mono hb BEL_1.out.size))
  clear L_1 X_1 BEL_1
  clear hb
  go_wp2_with fail
  refine (hFi.out _ L_2.out).mono ?_
  rintro e w3 ⟨rfl, hb⟩
  have L_3 := Lib.hid (L_2.out.below hb)
  have X_3 := Lib.hid (X_2.out.below hb)
  have BEL_3 := Lib.hid (BEL_2.out.trans (Below.mono hb BEL_2.out.size))
  clear L_2 X_2 BEL_2
  clear hb
  go_wp2_with fail
  have hb := below_alloc w3 (.cells #[.int .i64 y.g, .int .i64 y.c, .int .i64 y.s] 24)
  have L_4 := Lib.hid (L_3.out.below hb)
  have X_4 := Lib.hid (X_3.out.below hb)
  have BEL_4 := Lib.hid (BEL_3.out.trans (Below.mono hb BEL_3.out.size))
  clear L_3 X_3 BEL_3
  have Z_4 : Hid (Box3 (w3.alloc (.cells #[.int .i64 y.g, .int .i64 y.c, .int .i64 y.s] 24)) w3.heap.size y) := Lib.hid (Box3.new w3 y)
  clear hb
  obtain ⟨X4, hX4⟩ : ∃ x, x = w3.alloc (.cells #[.int .i64 y.g, .int .i64 y.c, .int .i64 y.s] 24) := ⟨_, rfl⟩
  obtain ⟨BZ, hBZ⟩ : ∃ x, x = w3.heap.size := ⟨_, rfl⟩
  rw [← hX4] at L_4 X_4 Z_4 BEL_4 ⊢
  rw [← hBZ] at Z_4 ⊢
  clear hX4 hBZ
  refine (hDr.out _ L_4.out).mono ?_
  rintro e w5 ⟨da, dn, dcap, rfl, hi, hb⟩
  have L_5 := Lib.hid (L_4.out.below hb)
  have X_5 := Lib.hid (X_4.out.below hb)
  have Z_5 := Lib.hid (Z_4.out.below hb)
  have BEL_5 := Lib.hid (BEL_4.out.trans (Below.mono hb BEL_4.out.size))
  clear L_4 X_4 Z_4 BEL_4
  have DA_5 := Lib.hid (hi)
  clear hb hi
  go_wp2_with fail
  refine (hWh.out _ L_5.out).mono ?_
  rintro e w6 ⟨wa, wn, wcap, rfl, hi, hb⟩
  have L_6 := Lib.hid (L_5.out.below hb)
  have X_6 := Lib.hid (X_5.out.below hb)
  have Z_6 := Lib.hid (Z_5.out.below hb)
  have DA_6 := Lib.hid (DA_5.out.below hb)
  have BEL_6 := Lib.hid (BEL_5.out.trans (Below.mono hb BEL_5.out.size))
  clear L_5 X_5 Z_5 DA_5 BEL_5
  have WA_6 := Lib.hid (hi)
  clear hb hi
  go_wp2_with fail
  refine (hRr.out _ L_6.out).mono ?_
  rintro e w7 ⟨rfl, hb⟩
  have L_7 := Lib.hid (L_6.out.below hb)
  have X_7 := Lib.hid (X_6.out.below hb)
  have Z_7 := Lib.hid (Z_6.out.below hb)
  have DA_7 := Lib.hid (DA_6.out.below hb)
  have WA_7 := Lib.hid (WA_6.out.below hb)
  have BEL_7 := Lib.hid (BEL_6.out.trans (Below.mono hb BEL_6.out.size))
  clear L_6 X_6 Z_6 DA_6 WA_6 BEL_6
  clear hb
  go_wp2_with fail
  refine (hRi.out _ L_7.out).mono ?_
  rintro e w8 ⟨rfl, hb⟩
  have L_8 := Lib.hid (L_7.out.below hb)
  have X_8 := Lib.hid (X_7.out.below hb)
  have Z_8 := Lib.hid (Z_7.out.below hb)
  have DA_8 := Lib.hid (DA_7.out.below hb)
  have WA_8 := Lib.hid (WA_7.out.below hb)
  have BEL_8 := Lib.hid (BEL_7.out.trans (Below.mono hb BEL_7.out.size))
  clear L_7 X_7 Z_7 DA_7 WA_7 BEL_7
  clear hb
  go_wp2_with fail
  refine (alive_any _).mono ?_
  rintro e w9 ⟨rfl, hb⟩
  have L_9 := Lib.hid (L_8.out.below hb)
  have X_9 := Lib.hid (X_8.out.below hb)
  have Z_9 := Lib.hid (Z_8.out.below hb)
  have DA_9 := Lib.hid (DA_8.out.below hb)
  have WA_9 := Lib.hid (WA_8.out.below hb)
  have BEL_9 := Lib.hid (BEL_8.out.trans (Below.mono hb BEL_8.out.size))
  clear L_8 X_8 Z_8 DA_8 WA_8 BEL_8
  clear hb
  obtain ⟨pX0, pX1, pX2⟩ := X_9.out.cells
  have lX := X_9.out.lt
  go_wp2_with fail
  clear pX0 pX1 pX2 lX
  refine (hMa.out _).mono ?_
  rintro e w10 ⟨rfl, hb⟩
  have L_10 := Lib.hid (L_9.out.below hb)
  have X_10 := Lib.hid (X_9.out.below hb)
  have Z_10 := Lib.hid (Z_9.out.below hb)
  have DA_10 := Lib.hid (DA_9.out.below hb)
  have WA_10 := Lib.hid (WA_9.out.below hb)
  have BEL_10 := Lib.hid (BEL_9.out.trans (Below.mono hb BEL_9.out.size))
  clear L_9 X_9 Z_9 DA_9 WA_9 BEL_9
  clear hb
  obtain ⟨pX0, pX1, pX2⟩ := X_10.out.cells
  have lX := X_10.out.lt
  go_wp2_with fail
  clear pX0 pX1 pX2 lX
  refine (hHa.out _ L_10.out).mono ?_
  rintro e w11 ⟨rfl, hb⟩
  have L_11 := Lib.hid (L_10.out.below hb)
  have X_11 := Lib.hid (X_10.out.below hb)
  have Z_11 := Lib.hid (Z_10.out.below hb)
  have DA_11 := Lib.hid (DA_10.out.below hb)
  have WA_11 := Lib.hid (WA_10.out.below hb)
  have BEL_11 := Lib.hid (BEL_10.out.trans (Below.mono hb BEL_10.out.size))
  clear L_10 X_10 Z_10 DA_10 WA_10 BEL_10
  clear hb
  go_wp2_with fail
  refine (hRw.out _ L_11.out).mono ?_
  rintro e w12 ⟨ra, rn, rcap, rfl, hi, hb⟩
  have L_12 := Lib.hid (L_11.out.below hb)
  have X_12 := Lib.hid (X_11.out.below hb)
  have Z_12 := Lib.hid (Z_11.out.below hb)
  have DA_12 := Lib.hid (DA_11.out.below hb)
  have WA_12 := Lib.hid (WA_11.out.below hb)
  have BEL_12 := Lib.hid (BEL_11.out.trans (Below.mono hb BEL_11.out.size))
  clear L_11 X_11 Z_11 DA_11 WA_11 BEL_11
  have RA_12 := Lib.hid (hi)
  clear hb hi
  go_wp2_with fail
  refine (rows_any _ _ _ _ _ _ _ _ _ WA_12.out RA_12.out).mono ?_
  rintro e w13 ⟨rfl, hb⟩
  have L_13 := Lib.hid (L_12.out.below hb)
  have X_13 := Lib.hid (X_12.out.below hb)
  have Z_13 := Lib.hid (Z_12.out.below hb)
  have DA_13 := Lib.hid (DA_12.out.below hb)
  have WA_13 := Lib.hid (WA_12.out.below hb)
  have RA_13 := Lib.hid (RA_12.out.below hb)
  have BEL_13 := Lib.hid (BEL_12.out.trans (Below.mono hb BEL_12.out.size))
  clear L_12 X_12 Z_12 DA_12 WA_12 RA_12 BEL_12
  clear hb
  rw [decide_eq_true (show whoW L = whoW L from rfl)]
  go_wp2_with fail
  refine (hRd.out _ L_13.out).mono ?_
  rintro e w14 ⟨ea, en1, ecap, rfl, hi, hb⟩
  have L_14 := Lib.hid (L_13.out.below hb)
  have X_14 := Lib.hid (X_13.out.below hb)
  have Z_14 := Lib.hid (Z_13.out.below hb)
  have DA_14 := Lib.hid (DA_13.out.below hb)
  have WA_14 := Lib.hid (WA_13.out.below hb)
  have RA_14 := Lib.hid (RA_13.out.below hb)
  have BEL_14 := Lib.hid (BEL_13.out.trans (Below.mono hb BEL_13.out.size))
  clear L_13 X_13 Z_13 DA_13 WA_13 RA_13 BEL_13
  have EA_14 := Lib.hid (hi)
  clear hb hi
  go_wp2_with fail
  refine (Same_any _ _ _ _ _ _ _ _ _ DA_14.out EA_14.out).mono ?_
  rintro e w15 ⟨rfl, hb⟩
  have L_15 := Lib.hid (L_14.out.below hb)
  have X_15 := Lib.hid (X_14.out.below hb)
  have Z_15 := Lib.hid (Z_14.out.below hb)
  have DA_15 := Lib.hid (DA_14.out.below hb)
  have WA_15 := Lib.hid (WA_14.out.below hb)
  have RA_15 := Lib.hid (RA_14.out.below hb)
  have EA_15 := Lib.hid (EA_14.out.below hb)
  have BEL_15 := Lib.hid (BEL_14.out.trans (Below.mono hb BEL_14.out.size))
  clear L_14 X_14 Z_14 DA_14 WA_14 RA_14 EA_14 BEL_14
  clear hb
  rw [decide_eq_true (show dropW L g = dropW L g from rfl)]
  go_wp2_with fail
  refine (hRf.out _ L_15.out).mono ?_
  rintro e w16 ⟨kf, rfl, hkl, hkx, hb⟩
  have L_16 := Lib.hid (L_15.out.below hb)
  have X_16 := Lib.hid (X_15.out.below hb)
  have Z_16 := Lib.hid (Z_15.out.below hb)
  have DA_16 := Lib.hid (DA_15.out.below hb)
  have WA_16 := Lib.hid (WA_15.out.below hb)
  have RA_16 := Lib.hid (RA_15.out.below hb)
  have EA_16 := Lib.hid (EA_15.out.below hb)
  have BEL_16 := Lib.hid (BEL_15.out.trans (Below.mono hb BEL_15.out.size))
  clear L_15 X_15 Z_15 DA_15 WA_15 RA_15 EA_15 BEL_15
  clear hb
  have hkf0 : (0 : Int) ≤ (kf : Int) := by omega
  have hkfl : (kf : Int) < (l2 : Int) := by omega
  obtain ⟨y', bb, off, hy', hyo, rfl, d0, d1, d2⟩ := L_16.out.at kf hkl
  obtain rfl : y = y' := by rw [hkx] at hy'; exact Option.some.inj hy'
  clear hkx hy'
  have e1 : (y.g == y.g) = true := by simp
  have e2 : (y.c == y.c) = true := by simp
  have e3 : (y.s == y.s) = true := by simp
  have HSZ : Hid (∀ W', Below w16.heap.size w16 W' → W'.cell? ⟨BZ, 0, none⟩ = some (.int .i64 y.g) ∧ W'.cell? ⟨BZ, 1, none⟩ = some (.int .i64 y.c) ∧ W'.cell? ⟨BZ, 2, none⟩ = some (.int .i64 y.s) ∧ W'.cell? ⟨bb, off + kf * 3, none⟩ = some (.int .i64 y.g) ∧ W'.cell? ⟨bb, off + kf * 3 + 1, none⟩ = some (.int .i64 y.c) ∧ W'.cell? ⟨bb, off + kf * 3 + 2, none⟩ = some (.int .i64 y.s)) := Lib.hid (fun W' hb => by
    obtain ⟨z0, z1, z2⟩ := (Z_16.out.below hb).cells
    have l1 := World.block_lt_of_cell? _ _ d0
    exact ⟨z0, z1, z2, (hb.cell (p := ⟨bb, off + kf * 3, none⟩) l1).trans d0, (hb.cell (p := ⟨bb, off + kf * 3 + 1, none⟩) l1).trans d1, (hb.cell (p := ⟨bb, off + kf * 3 + 2, none⟩) l1).trans d2⟩)
  clear d0 d1 d2
  go_wp2_with fail
  go_region_held3 (fun W => W.cell? ⟨BZ, 0, none⟩ = some (.int .i64 y.g) ∧ W.cell? ⟨BZ, 1, none⟩ = some (.int .i64 y.c) ∧ W.cell? ⟨BZ, 2, none⟩ = some (.int .i64 y.s) ∧ W.cell? ⟨bb, off + kf * 3, none⟩ = some (.int .i64 y.g) ∧ W.cell? ⟨bb, off + kf * 3 + 1, none⟩ = some (.int .i64 y.c) ∧ W.cell? ⟨bb, off + kf * 3 + 2, none⟩ = some (.int .i64 y.s))
    (exact HSZ.out _ ((Below.refl _ _).drew))
    (fail)
  go_wp2_with fail
  go_ret
  exact ⟨ret_bool rfl, BEL_16.out.drew⟩
end Go.Proofs.Ytejlnkneememoaa
