/- End; the reference's Do and End. -/
import Derived.Test.YtnmopfimmindnaaDo
namespace Go.Proofs.Ytnmopfimmindnaa
open Go.RowKit
def GotE (w : World) (st : Int) (M : List Wt) (why : Int) (e : Ending) (w' : World) : Prop := ∃ a len cap, e = .returned (.tuple #[onV st 0 none 0 0, .slice a len cap, .int .i64 why]) ∧ Wts w' a len cap M ∧ Below w.heap.size w w' ∧ ∀ x, a = some x → w.heap.size ≤ x.block
def GotRE (w : World) (st : Int) (M : List Wt) (is : Bool) (e : Ending) (w' : World) : Prop := ∃ a len cap, e = .returned (.tuple #[onV st 0 none 0 0, .slice a len cap, .bool is]) ∧ Wts w' a len cap M ∧ Below w.heap.size w w'
def GotDl (w : World) (st by_ : Int) (L : List Wt) (k why : Int) (e : Ending) (w' : World) : Prop := ∃ a len cap, e = .returned (.tuple #[onV st by_ a len cap, .int .i64 k, .int .i64 why]) ∧ Wts w' a len cap L ∧ Below w.heap.size w w'
set_option maxRecDepth 100000 in
set_option maxHeartbeats 8000000 in
theorem End_arg (st by_ g : Int) (a : Option Addr) (len cap : Nat) (L : List Wt) (w : World) (hL : Wts w a len cap L) (hs : I64 st) (hbI : I64 by_) (hgI : I64 g) (hbad : rightO st by_ L = false ∨ g < 0) :
    Calls Try.prog 7 #[onV st by_ a len cap, .int .i64 g] w (GotE w 0 [] 1) := by
  have HR := Lib.hid (fun W (H : Wts W a len cap L) => ORight_any st by_ a len cap L W H hs hbI)
  unfold I64 at hbI hs hgI
  have B_0 := Lib.hid ((below_alloc w (.cells (onC st by_ a len cap) 24)).alloc (by simp) (.cells #[.int .i64 0, .int .i64 0, .slice none 0 0] 24))
  have L_0 := Lib.hid (hL.below B_0.out); clear hL
  have X_0 := Lib.hid (Bx.new2 w (.cells (onC st by_ a len cap) 24) #[.int .i64 0, .int .i64 0, .slice none 0 0] 24)
  have K_0 := Lib.hid ((Bx.new w (onC st by_ a len cap) 24).below (below_alloc _ (.cells #[.int .i64 0, .int .i64 0, .slice none 0 0] 24)))
  cases hr : rightO st by_ L with
  | false =>
    rw [hr] at HR
    clear hr hbad
    go_enter Try.func7, Try.ntmps7
    go_wp2_with fail
    refine (HR.out _ L_0.out).mono ?_
    rintro e w1 ⟨rfl, hb⟩
    have X_1 := Lib.hid (X_0.out.below hb); have K_1 := Lib.hid (K_0.out.below hb); have L_1 := Lib.hid (L_0.out.below hb); have B_1 := Lib.hid (B_0.out.trans (Below.mono hb B_0.out.size))
    clear hb
    obtain ⟨BX, hBX⟩ : ∃ x, x = w.heap.size + 1 := ⟨_, rfl⟩
    obtain ⟨BK, hBK⟩ : ∃ x, x = w.heap.size := ⟨_, rfl⟩
    have HBW := Lib.hid (show w.heap.size ≤ BX by omega)
    have hKX : BK ≠ BX := by omega
    have hXK : BX ≠ BK := by omega
    rw [← hBX] at X_1 ⊢
    rw [← hBK] at K_1 ⊢
    clear hBX hBK
    have hlt := X_1.out.lt
    have hlt3 := K_1.out.lt
    obtain ⟨c0, c1, c2⟩ := X_1.out.cells3
    obtain ⟨k0, k1, k2⟩ := K_1.out.cells3
    have f0 := X_1.out.froz 0; have f1 := X_1.out.froz 1; have f2 := X_1.out.froz 2
    go_wp2_with fail
    have ST := Lib.hid (X_1.out.set3 (.int .i64 0) (.int .i64 0) (.slice none 0 0))
    refine bodyPost_ret (v := .tuple #[onV 0 0 none 0 0, .slice none 0 0, .int .i64 1]) (by first | (rw [res_c2 Try.results7 _ (by rfl) (ST.out.load Try.underlying24 inf24)]; rfl)) rfl ⟨none, 0, 0, rfl, Wts.nil _, ?_, fun x hx => by cases hx⟩
    exact below_set3 B_1.out HBW.out _ _ _
  | true =>
    rw [hr] at HR
    have hc : g < 0 := by rcases hbad with h | h; · rw [h] at hr; cases hr
                          · exact h
    clear hr hbad
    go_enter Try.func7, Try.ntmps7
    go_wp2_with fail
    refine (HR.out _ L_0.out).mono ?_
    rintro e w1 ⟨rfl, hb⟩
    have X_1 := Lib.hid (X_0.out.below hb); have K_1 := Lib.hid (K_0.out.below hb); have L_1 := Lib.hid (L_0.out.below hb); have B_1 := Lib.hid (B_0.out.trans (Below.mono hb B_0.out.size))
    clear hb
    obtain ⟨BX, hBX⟩ : ∃ x, x = w.heap.size + 1 := ⟨_, rfl⟩
    obtain ⟨BK, hBK⟩ : ∃ x, x = w.heap.size := ⟨_, rfl⟩
    have HBW := Lib.hid (show w.heap.size ≤ BX by omega)
    have hKX : BK ≠ BX := by omega
    have hXK : BX ≠ BK := by omega
    rw [← hBX] at X_1 ⊢
    rw [← hBK] at K_1 ⊢
    clear hBX hBK
    have hlt := X_1.out.lt
    have hlt3 := K_1.out.lt
    obtain ⟨c0, c1, c2⟩ := X_1.out.cells3
    obtain ⟨k0, k1, k2⟩ := K_1.out.cells3
    have f0 := X_1.out.froz 0; have f1 := X_1.out.froz 1; have f2 := X_1.out.froz 2
    go_wp2_with fail
    have ST := Lib.hid (X_1.out.set3 (.int .i64 0) (.int .i64 0) (.slice none 0 0))
    refine bodyPost_ret (v := .tuple #[onV 0 0 none 0 0, .slice none 0 0, .int .i64 1]) (by first | (rw [res_c2 Try.results7 _ (by rfl) (ST.out.load Try.underlying24 inf24)]; rfl)) rfl ⟨none, 0, 0, rfl, Wts.nil _, ?_, fun x hx => by cases hx⟩
    exact below_set3 B_1.out HBW.out _ _ _
set_option maxRecDepth 100000 in
set_option maxHeartbeats 8000000 in
theorem End_state (st by_ g : Int) (a : Option Addr) (len cap : Nat) (L : List Wt) (w : World) (hL : Wts w a len cap L) (hs : I64 st) (hbI : I64 by_) (hgI : I64 g) (hr : rightO st by_ L = true) (hg : 0 ≤ g) (hno : ¬ (st = 1 ∧ by_ = g)) :
    Calls Try.prog 7 #[onV st by_ a len cap, .int .i64 g] w (GotE w 0 [] 6) := by
  have HR := Lib.hid (fun W (H : Wts W a len cap L) => ORight_any st by_ a len cap L W H hs hbI)
  rw [hr] at HR
  clear hr
  unfold I64 at hbI hs hgI
  have B_0 := Lib.hid ((below_alloc w (.cells (onC st by_ a len cap) 24)).alloc (by simp) (.cells #[.int .i64 0, .int .i64 0, .slice none 0 0] 24))
  have L_0 := Lib.hid (hL.below B_0.out); clear hL
  have X_0 := Lib.hid (Bx.new2 w (.cells (onC st by_ a len cap) 24) #[.int .i64 0, .int .i64 0, .slice none 0 0] 24)
  have K_0 := Lib.hid ((Bx.new w (onC st by_ a len cap) 24).below (below_alloc _ (.cells #[.int .i64 0, .int .i64 0, .slice none 0 0] 24)))
  by_cases h1 : st = 1
  · subst h1
    have hb1 : (by_ != g) = true := by rw [bne_iff_ne]; exact fun e => hno ⟨rfl, e⟩
    have hb2 : (by_ == g) = false := by rw [beq_eq_false_iff_ne]; exact fun e => hno ⟨rfl, e⟩
    clear hno
    go_enter Try.func7, Try.ntmps7
    go_wp2_with fail
    refine (HR.out _ L_0.out).mono ?_
    rintro e w1 ⟨rfl, hb⟩
    have X_1 := Lib.hid (X_0.out.below hb); have K_1 := Lib.hid (K_0.out.below hb); have L_1 := Lib.hid (L_0.out.below hb); have B_1 := Lib.hid (B_0.out.trans (Below.mono hb B_0.out.size))
    clear hb
    obtain ⟨BX, hBX⟩ : ∃ x, x = w.heap.size + 1 := ⟨_, rfl⟩
    obtain ⟨BK, hBK⟩ : ∃ x, x = w.heap.size := ⟨_, rfl⟩
    have HBW := Lib.hid (show w.heap.size ≤ BX by omega)
    have hKX : BK ≠ BX := by omega
    have hXK : BX ≠ BK := by omega
    rw [← hBX] at X_1 ⊢
    rw [← hBK] at K_1 ⊢
    clear hBX hBK
    have hlt := X_1.out.lt
    have hlt3 := K_1.out.lt
    obtain ⟨c0, c1, c2⟩ := X_1.out.cells3
    obtain ⟨k0, k1, k2⟩ := K_1.out.cells3
    have f0 := X_1.out.froz 0; have f1 := X_1.out.froz 1; have f2 := X_1.out.froz 2
    go_wp2_with fail
    have ST := Lib.hid (X_1.out.set3 (.int .i64 0) (.int .i64 0) (.slice none 0 0))
    refine bodyPost_ret (v := .tuple #[onV 0 0 none 0 0, .slice none 0 0, .int .i64 6]) (by first | (rw [res_c2 Try.results7 _ (by rfl) (ST.out.load Try.underlying24 inf24)]; rfl)) rfl ⟨none, 0, 0, rfl, Wts.nil _, ?_, fun x hx => by cases hx⟩
    exact below_set3 B_1.out HBW.out _ _ _
  · have hb1 : (st != 1) = true := by rw [bne_iff_ne]; exact h1
    have hb2 : (st == 1) = false := by rw [beq_eq_false_iff_ne]; exact h1
    clear hno h1
    go_enter Try.func7, Try.ntmps7
    go_wp2_with fail
    refine (HR.out _ L_0.out).mono ?_
    rintro e w1 ⟨rfl, hb⟩
    have X_1 := Lib.hid (X_0.out.below hb); have K_1 := Lib.hid (K_0.out.below hb); have L_1 := Lib.hid (L_0.out.below hb); have B_1 := Lib.hid (B_0.out.trans (Below.mono hb B_0.out.size))
    clear hb
    obtain ⟨BX, hBX⟩ : ∃ x, x = w.heap.size + 1 := ⟨_, rfl⟩
    obtain ⟨BK, hBK⟩ : ∃ x, x = w.heap.size := ⟨_, rfl⟩
    have HBW := Lib.hid (show w.heap.size ≤ BX by omega)
    have hKX : BK ≠ BX := by omega
    have hXK : BX ≠ BK := by omega
    rw [← hBX] at X_1 ⊢
    rw [← hBK] at K_1 ⊢
    clear hBX hBK
    have hlt := X_1.out.lt
    have hlt3 := K_1.out.lt
    obtain ⟨c0, c1, c2⟩ := X_1.out.cells3
    obtain ⟨k0, k1, k2⟩ := K_1.out.cells3
    have f0 := X_1.out.froz 0; have f1 := X_1.out.froz 1; have f2 := X_1.out.froz 2
    go_wp2_with fail
    have ST := Lib.hid (X_1.out.set3 (.int .i64 0) (.int .i64 0) (.slice none 0 0))
    refine bodyPost_ret (v := .tuple #[onV 0 0 none 0 0, .slice none 0 0, .int .i64 6]) (by first | (rw [res_c2 Try.results7 _ (by rfl) (ST.out.load Try.underlying24 inf24)]; rfl)) rfl ⟨none, 0, 0, rfl, Wts.nil _, ?_, fun x hx => by cases hx⟩
    exact below_set3 B_1.out HBW.out _ _ _
set_option maxRecDepth 100000 in
set_option maxHeartbeats 8000000 in
theorem End_ok (g : Int) (a : Option Addr) (len cap : Nat) (L : List Wt) (w : World) (hL : Wts w a len cap L) (hgI : I64 g) (hr : rightO 1 g L = true) (hg : 0 ≤ g) :
    Calls Try.prog 7 #[onV 1 g a len cap, .int .i64 g] w (GotE w 2 L 0) := by
  have HR := Lib.hid (fun W (H : Wts W a len cap L) => ORight_any 1 g a len cap L W H ⟨by omega, by omega⟩ hgI)
  have h64 : len ≤ 64 := by have := (rightW_iff.1 (rightO_parts hr).2.2.2.1).1; rwa [hL.recs.len_eq] at this
  rw [hr] at HR
  clear hr
  have HOK := Lib.hid hL.ok
  have HCl := Lib.hid (fun W (h : Wts W a len cap L) => Clone_any a len cap L W h (by omega))
  unfold I64 at hgI
  have B_0 := Lib.hid ((below_alloc w (.cells (onC 1 g a len cap) 24)).alloc (by simp) (.cells #[.int .i64 0, .int .i64 0, .slice none 0 0] 24))
  have L_0 := Lib.hid (hL.below B_0.out); clear hL
  have X_0 := Lib.hid (Bx.new2 w (.cells (onC 1 g a len cap) 24) #[.int .i64 0, .int .i64 0, .slice none 0 0] 24)
  have K_0 := Lib.hid ((Bx.new w (onC 1 g a len cap) 24).below (below_alloc _ (.cells #[.int .i64 0, .int .i64 0, .slice none 0 0] 24)))
  go_enter Try.func7, Try.ntmps7
  go_wp2_with fail
  refine (HR.out _ L_0.out).mono ?_
  rintro e w1 ⟨rfl, hb⟩
  have X_1 := Lib.hid (X_0.out.below hb); have K_1 := Lib.hid (K_0.out.below hb); have L_1 := Lib.hid (L_0.out.below hb); have B_1 := Lib.hid (B_0.out.trans (Below.mono hb B_0.out.size))
  clear hb
  obtain ⟨BX, hBX⟩ : ∃ x, x = w.heap.size + 1 := ⟨_, rfl⟩
  obtain ⟨BK, hBK⟩ : ∃ x, x = w.heap.size := ⟨_, rfl⟩
  have HBW := Lib.hid (show w.heap.size ≤ BX by omega)
  have hKX : BK ≠ BX := by omega
  have hXK : BX ≠ BK := by omega
  rw [← hBX] at X_1 ⊢
  rw [← hBK] at K_1 ⊢
  clear hBX hBK
  have hlt := X_1.out.lt
  have hlt3 := K_1.out.lt
  obtain ⟨c0, c1, c2⟩ := X_1.out.cells3
  obtain ⟨k0, k1, k2⟩ := K_1.out.cells3
  have f0 := X_1.out.froz 0; have f1 := X_1.out.froz 1; have f2 := X_1.out.froz 2
  go_wp2_with fail
  refine (HCl.out _ L_1.out).mono ?_
  rintro e w2 ⟨v, rfl, ho, hb⟩
  obtain ⟨qa, ql, qc, rfl, hq⟩ := own_wts ho HOK.out
  have HFR := Lib.hid (fun y (hy : qa = some y) => Nat.lt_of_lt_of_le X_1.out.lt (OwnR.lt ho y.block (by rw [hy]; rfl)))
  have HF0 := Lib.hid (fun y (hy : qa = some y) => Nat.le_trans B_1.out.size (OwnR.lt ho y.block (by rw [hy]; rfl)))
  have X_2 := Lib.hid (X_1.out.below hb); have B_2 := Lib.hid (B_1.out.trans (Below.mono hb B_1.out.size)); have HQ := Lib.hid hq
  clear hb ho hq c0 c1 c2 k0 k1 k2 f0 f1 f2
  have hltx := X_2.out.lt
  obtain ⟨c0, c1, c2⟩ := X_2.out.cells3
  have f0 := X_2.out.froz 0; have f1 := X_2.out.froz 1; have f2 := X_2.out.froz 2
  go_wp2_with fail
  have ST := Lib.hid (X_2.out.set3 (.int .i64 2) (.int .i64 0) (.slice none 0 0))
  refine bodyPost_ret (v := .tuple #[onV 2 0 none 0 0, .slice qa ql qc, .int .i64 0]) (by first | (rw [res_c2 Try.results7 _ (by rfl) (ST.out.load Try.underlying24 inf24)]; rfl)) rfl ⟨qa, ql, qc, rfl, (HQ.out).other _ (fun x hx e => by have := HFR.out x hx; omega) (fun g hg => set3_other _ _ _ _ _ g hg), ?_, HF0.out⟩
  exact below_set3 B_2.out HBW.out _ _ _
set_option maxRecDepth 100000 in
set_option maxHeartbeats 8000000 in
theorem refEnd_no (st by_ g : Int) (a : Option Addr) (len cap : Nat) (w : World) (hno : ¬ (st = 1 ∧ by_ = g)) :
    Calls Try.prog 12 #[onV st by_ a len cap, .int .i64 g] w (GotRE w 0 [] false) := by
  by_cases h1 : st = 1
  · subst h1
    have hb1 : (by_ != g) = true := by rw [bne_iff_ne]; exact fun e => hno ⟨rfl, e⟩
    clear hno
    go_enter Try.func12, Try.ntmps12
    go_wp2_with fail
    refine bodyPost_ret (v := .tuple #[onV 0 0 none 0 0, .slice none 0 0, .bool false]) (by first | (rw [res_c2 Try.results12 _ (by rfl) ((Bx.new2 w _ #[.int .i64 0, .int .i64 0, .slice none 0 0] 24).load Try.underlying24 inf24)]; rfl)) rfl ⟨none, 0, 0, rfl, Wts.nil _, ?_⟩
    exact (below_alloc w _).alloc (by simp) _
  · have hb1 : (st != 1) = true := by rw [bne_iff_ne]; exact h1
    clear hno h1
    go_enter Try.func12, Try.ntmps12
    go_wp2_with fail
    refine bodyPost_ret (v := .tuple #[onV 0 0 none 0 0, .slice none 0 0, .bool false]) (by first | (rw [res_c2 Try.results12 _ (by rfl) ((Bx.new2 w _ #[.int .i64 0, .int .i64 0, .slice none 0 0] 24).load Try.underlying24 inf24)]; rfl)) rfl ⟨none, 0, 0, rfl, Wts.nil _, ?_⟩
    exact (below_alloc w _).alloc (by simp) _
set_option maxRecDepth 100000 in
set_option maxHeartbeats 8000000 in
theorem refEnd_ok (g : Int) (a : Option Addr) (len cap : Nat) (L : List Wt) (w : World) (hL : Wts w a len cap L) :
    Calls Try.prog 12 #[onV 1 g a len cap, .int .i64 g] w (GotRE w 2 L true) := by
  have hbb : (g != g) = false := by simp
  have HLB : Hid (∀ z, a = some z → 0 < len → z.block < w.heap.size) := Lib.hid (fun z hz h0 => by
    obtain ⟨_, b, o, _, _, e, c, _, _⟩ := hL.at 0 h0
    rw [hz] at e; cases e
    exact World.block_lt_of_cell? _ _ c)
  have B_0 := Lib.hid ((below_alloc w (.cells (onC 1 g a len cap) 24)).alloc (by simp) (.cells #[.int .i64 0, .int .i64 0, .slice none 0 0] 24))
  have L_0 := Lib.hid (hL.below B_0.out); clear hL
  have X_0 := Lib.hid (Bx.new2 w (.cells (onC 1 g a len cap) 24) #[.int .i64 0, .int .i64 0, .slice none 0 0] 24)
  have K_0 := Lib.hid ((Bx.new w (onC 1 g a len cap) 24).below (below_alloc _ (.cells #[.int .i64 0, .int .i64 0, .slice none 0 0] 24)))
  go_enter Try.func12, Try.ntmps12
  go_upto_region 3 with (fail)
  obtain ⟨W1, hW1⟩ : ∃ x, x = ((w.alloc (.cells (onC 1 g a len cap) 24)).alloc (.cells #[.int .i64 0, .int .i64 0, .slice none 0 0] 24)) := ⟨_, rfl⟩
  rw [← hW1] at B_0 L_0 X_0 K_0
  unfold onC at hW1
  rw [← hW1]
  clear hW1
  have X_1 := X_0; have K_1 := K_0
  obtain ⟨BX, hBX⟩ : ∃ x, x = w.heap.size + 1 := ⟨_, rfl⟩
  obtain ⟨BK, hBK⟩ : ∃ x, x = w.heap.size := ⟨_, rfl⟩
  have HBW := Lib.hid (show w.heap.size ≤ BX by omega)
  have hKX : BK ≠ BX := by omega
  have hXK : BX ≠ BK := by omega
  rw [← hBX] at X_1 ⊢
  rw [← hBK] at K_1 ⊢
  have HNE := Lib.hid (fun z (hz : a = some z) h0 => show z.block ≠ BX by have := HLB.out z hz h0; omega)
  clear hBX hBK
  have hlt := X_1.out.lt
  have hlt3 := K_1.out.lt
  obtain ⟨c0, c1, c2⟩ := X_1.out.cells3
  obtain ⟨k0, k1, k2⟩ := K_1.out.cells3
  have f0 := X_1.out.froz 0; have f1 := X_1.out.froz 1; have f2 := X_1.out.froz 2
  go_region
  all_goals
    go_wp2_with fail
    have ST := Lib.hid ((X_1.out.set3 (.int .i64 2) (.int .i64 0) (.slice none 0 0)).below ((Below.refl _ _).drew))
    refine bodyPost_ret (v := .tuple #[onV 2 0 none 0 0, .slice a len cap, .bool true]) (by first | (rw [res_c2 Try.results12 _ (by rfl) (ST.out.load Try.underlying24 inf24)]; rfl)) rfl ⟨a, len, cap, rfl, (Wts.other' L_0.out BX HNE.out (fun g hg => set3_other _ _ _ _ _ g hg)).drew, ?_⟩
    exact (below_set3 B_0.out HBW.out _ _ _).drew
end Go.Proofs.Ytnmopfimmindnaa
