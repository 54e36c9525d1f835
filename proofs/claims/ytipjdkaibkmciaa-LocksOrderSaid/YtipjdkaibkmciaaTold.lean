/- told: whatever is asked. -/
import Derived.Test.YtipjdkaibkmciaaK
namespace Go.Proofs.Ytipjdkaibkmciaa
open Go.RowKit
theorem Bx.new2 (w : World) (A : Obj) (cs : Array Value) (t : TypeId) : Bx ((w.alloc A).alloc (.cells cs t)) (w.heap.size + 1) cs t := heap_two w A _
abbrev zans : Array Value := #[.bool false, .slice none 0 0, .int .i64 0, .int .i64 0, .int .i64 0, .bool false, .int .i64 0]
abbrev ansV (h : Bool) (q : Value) (x : Wt) (is : Bool) (n : Int) : Array Value := #[.bool h, q, .int .i64 x.g, .int .i64 x.c, .int .i64 x.s, .bool is, .int .i64 n]
theorem Wts.other {w w' : World} {a : Option Addr} {len cap : Nat} {L : List Wt} (h : Wts w a len cap L) (B : Nat) (hne : ∀ x, a = some x → x.block ≠ B) (hk : ∀ g, g ≠ B → w'.heap[g]? = w.heap[g]?) : Wts w' a len cap L := by
  refine ⟨⟨h.recs.len_eq, h.recs.le_cap, h.recs.cap_le, h.recs.none_, fun i x hx => ?_⟩, h.ok⟩
  obtain ⟨b, off, e, hc⟩ := h.recs.cell i x hx
  refine ⟨b, off, e, fun j v hv => ?_⟩
  have h1 := hc j v hv
  rw [← h1]
  simp [World.cell?, hk b (hne _ e)]
theorem set7_other (W : World) (B : Nat) (a b c d e f g : Value) (x : Nat) (hx : x ≠ B) : (set7c W B a b c d e f g).heap[x]? = W.heap[x]? := by
  unfold set7c set3c set2c
  iterate 7 rw [Below.heap_setCell _ _ _ _ (by exact hx)]
theorem set3_other (W : World) (B : Nat) (a b c : Value) (x : Nat) (hx : x ≠ B) : (set3c W B a b c).heap[x]? = W.heap[x]? := by
  unfold set3c set2c
  iterate 3 rw [Below.heap_setCell _ _ _ _ (by exact hx)]
theorem set2_other (W : World) (B : Nat) (a b : Value) (x : Nat) (hx : x ≠ B) : (set2c W B a b).heap[x]? = W.heap[x]? := by
  unfold set2c
  iterate 2 rw [Below.heap_setCell _ _ _ _ (by exact hx)]
def GotA (w : World) (h : Bool) (L : List Wt) (x : Wt) (is : Bool) (n why : Int) (e : Ending) (w' : World) : Prop := ∃ a len cap, e = .returned (.tuple #[.agg #[.bool h, .slice a len cap, .int .i64 x.g, .int .i64 x.c, .int .i64 x.s, .bool is, .int .i64 n], .int .i64 why]) ∧ Wts w' a len cap L ∧ Below w.heap.size w w' ∧ ∀ x, a = some x → w.heap.size ≤ x.block
set_option maxRecDepth 100000 in
set_option maxHeartbeats 2000000 in
theorem told_bad (h : Bool) (a : Option Addr) (len cap : Nat) (L : List Wt) (f : Value) (w : World) (hL : Wts w a len cap L) (hr : rightK h L = false) :
    Calls Try.prog 16 #[lkV h a len cap, f] w (GotA w false [] zeroW false 0 1) := by
  have HR := Lib.hid (fun W (H : Wts W a len cap L) => LRight_any h a len cap L W H)
  rw [hr] at HR
  clear hr
  have L_0 := Lib.hid ((hL.below (below_alloc w (.cells #[.bool h, .slice a len cap] 24))).below (below_alloc _ (.cells #[.bool false, .slice none 0 0, .int .i64 0, .int .i64 0, .int .i64 0, .bool false, .int .i64 0] 45))); clear hL
  have X_0 := Lib.hid (Bx.new2 w (.cells #[.bool h, .slice a len cap] 24) #[.bool false, .slice none 0 0, .int .i64 0, .int .i64 0, .int .i64 0, .bool false, .int .i64 0] 45)
  have B_0 := Lib.hid ((below_alloc w (.cells #[.bool h, .slice a len cap] 24)).alloc (by simp) (.cells #[.bool false, .slice none 0 0, .int .i64 0, .int .i64 0, .int .i64 0, .bool false, .int .i64 0] 45))
  go_enter Try.func16, Try.ntmps16
  go_wp2_with fail
  refine (HR.out _ L_0.out).mono ?_
  rintro e w1 ⟨rfl, hb⟩
  have X_1 := Lib.hid (X_0.out.below hb); have B_1 := Lib.hid (B_0.out.trans (Below.mono hb B_0.out.size))
  clear hb
  obtain ⟨c0, c1, c2, c3, c4, c5, c6⟩ := X_1.out.cells7
  have hlt := X_1.out.lt
  have f0 := X_1.out.froz 0; have f1 := X_1.out.froz 1; have f2 := X_1.out.froz 2; have f3 := X_1.out.froz 3; have f4 := X_1.out.froz 4; have f5 := X_1.out.froz 5; have f6 := X_1.out.froz 6
  go_wp2_with fail
  have ST := Lib.hid (X_1.out.set7 (.bool false) (.slice none 0 0) (.int .i64 0) (.int .i64 0) (.int .i64 0) (.bool false) (.int .i64 0))
  refine bodyPost_ret (v := .tuple #[.agg zans, .int .i64 1]) (by first | (rw [res_c1 Try.results16 _ (by rfl) (ST.out.load Try.underlying45 inf45)]; rfl)) rfl ⟨none, 0, 0, rfl, Wts.nil _, ?_, fun x hx => by cases hx⟩
  exact below_set7 B_1.out (by simp) _ _ _ _ _ _ _
set_option maxRecDepth 100000 in
set_option maxHeartbeats 2000000 in
theorem told_err_17 (h : Bool) (a : Option Addr) (len cap : Nat) (L : List Wt) (bv : Value) (h2 : Bool) (L2 : List Wt) (x2 : Wt) (is : Bool) (n : Int) (why : Int) (hw : why ≠ 0) (w : World) (hL : Wts w a len cap L) (hr : rightK h L = true)
    (hask : ∀ W, Wts W a len cap L → Calls Try.prog 17 #[bv] W (GotA W h2 L2 x2 is n why)) :
    Calls Try.prog 16 #[lkV h a len cap, .func (.func 17) #[bv] #[]] w (GotA w false [] zeroW false 0 why) := by
  have HR := Lib.hid (fun W (H : Wts W a len cap L) => LRight_any h a len cap L W H)
  rw [hr] at HR
  clear hr
  have HA := Lib.hid hask; clear hask
  unfold GotA at HA
  have L_0 := Lib.hid ((hL.below (below_alloc w (.cells #[.bool h, .slice a len cap] 24))).below (below_alloc _ (.cells #[.bool false, .slice none 0 0, .int .i64 0, .int .i64 0, .int .i64 0, .bool false, .int .i64 0] 45))); clear hL
  have X_0 := Lib.hid (Bx.new2 w (.cells #[.bool h, .slice a len cap] 24) #[.bool false, .slice none 0 0, .int .i64 0, .int .i64 0, .int .i64 0, .bool false, .int .i64 0] 45)
  have B_0 := Lib.hid ((below_alloc w (.cells #[.bool h, .slice a len cap] 24)).alloc (by simp) (.cells #[.bool false, .slice none 0 0, .int .i64 0, .int .i64 0, .int .i64 0, .bool false, .int .i64 0] 45))
  have hw1 : (why == 0) = false := by rw [beq_eq_false_iff_ne]; exact hw
  have hw2 : (why != 0) = true := by rw [bne_iff_ne]; exact hw
  clear hw
  go_enter Try.func16, Try.ntmps16
  go_wp2_with fail
  refine (HR.out _ L_0.out).mono ?_
  rintro e w1 ⟨rfl, hb⟩
  have X_1 := Lib.hid (X_0.out.below hb); have L_1 := Lib.hid (L_0.out.below hb); have B_1 := Lib.hid (B_0.out.trans (Below.mono hb B_0.out.size))
  clear hb
  go_wp2_with fail
  refine (HA.out _ L_1.out).mono ?_
  rintro e w2 ⟨qa, ql, qc, rfl, hq, hb, hfr⟩
  have hB1 := X_1.out.lt
  have HFR := Lib.hid (fun x hx => Nat.lt_of_lt_of_le hB1 (hfr x hx)); have HF0 := Lib.hid (fun x hx => Nat.le_trans B_1.out.size (hfr x hx))
  have X_2 := Lib.hid ((X_1.out.below hb).below (below_alloc w2 (.cells (ansV h2 (.slice qa ql qc) x2 is n) 45))); have B_2 := Lib.hid (belowX_alloc (B_1.out.trans (Below.mono hb B_1.out.size)) (.cells (ansV h2 (.slice qa ql qc) x2 is n) 45)); have Q_2 := Lib.hid (hq.below (below_alloc w2 (.cells (ansV h2 (.slice qa ql qc) x2 is n) 45)))
  have A_2 := Lib.hid (Bx.new w2 (ansV h2 (.slice qa ql qc) x2 is n) 45)
  clear hb hq hfr hB1
  go_upto_if 18 with (fail)
  obtain ⟨X, hX⟩ : ∃ x, x = w2.alloc (.cells (ansV h2 (.slice qa ql qc) x2 is n) 45) := ⟨_, rfl⟩
  obtain ⟨BA, hBA⟩ : ∃ x, x = w2.heap.size := ⟨_, rfl⟩
  obtain ⟨BX, hBX⟩ : ∃ x, x = w.heap.size + 1 := ⟨_, rfl⟩
  have HBW := Lib.hid (show w.heap.size ≤ BX by omega)
  rw [← hX] at X_2 B_2 Q_2 A_2
  unfold ansV at hX
  rw [← hX]
  rw [← hBA] at A_2 ⊢
  rw [← hBX] at X_2 HFR ⊢
  clear hX hBA hBX
  have hlt := X_2.out.lt
  obtain ⟨c0, c1, c2, c3, c4, c5, c6⟩ := X_2.out.cells7
  obtain ⟨d0, d1, d2, d3, d4, d5, d6⟩ := A_2.out.cells7
  have f0 := X_2.out.froz 0; have f1 := X_2.out.froz 1; have f2 := X_2.out.froz 2; have f3 := X_2.out.froz 3; have f4 := X_2.out.froz 4; have f5 := X_2.out.froz 5; have f6 := X_2.out.froz 6
  go_wp2_with fail
  have ST := Lib.hid (X_2.out.set7 (.bool false) (.slice none 0 0) (.int .i64 0) (.int .i64 0) (.int .i64 0) (.bool false) (.int .i64 0))
  refine bodyPost_ret (v := .tuple #[.agg zans, .int .i64 why]) (by first | (rw [res_c1 Try.results16 _ (by rfl) (ST.out.load Try.underlying45 inf45)]; rfl)) rfl ⟨none, 0, 0, rfl, Wts.nil _, ?_, fun x hx => by cases hx⟩
  exact below_set7 B_2.out HBW.out _ _ _ _ _ _ _
set_option maxRecDepth 100000 in
set_option maxHeartbeats 2000000 in
theorem told_ok_17 (h : Bool) (a : Option Addr) (len cap : Nat) (L : List Wt) (bv : Value) (h2 : Bool) (L2 : List Wt) (x2 : Wt) (is : Bool) (n : Int) (w : World) (hL : Wts w a len cap L) (hr : rightK h L = true)
    (hask : ∀ W, Wts W a len cap L → Calls Try.prog 17 #[bv] W (GotA W h2 L2 x2 is n 0)) :
    Calls Try.prog 16 #[lkV h a len cap, .func (.func 17) #[bv] #[]] w (GotA w h2 L2 x2 is n 0) := by
  have HR := Lib.hid (fun W (H : Wts W a len cap L) => LRight_any h a len cap L W H)
  rw [hr] at HR
  clear hr
  have HA := Lib.hid hask; clear hask
  unfold GotA at HA
  have L_0 := Lib.hid ((hL.below (below_alloc w (.cells #[.bool h, .slice a len cap] 24))).below (below_alloc _ (.cells #[.bool false, .slice none 0 0, .int .i64 0, .int .i64 0, .int .i64 0, .bool false, .int .i64 0] 45))); clear hL
  have X_0 := Lib.hid (Bx.new2 w (.cells #[.bool h, .slice a len cap] 24) #[.bool false, .slice none 0 0, .int .i64 0, .int .i64 0, .int .i64 0, .bool false, .int .i64 0] 45)
  have B_0 := Lib.hid ((below_alloc w (.cells #[.bool h, .slice a len cap] 24)).alloc (by simp) (.cells #[.bool false, .slice none 0 0, .int .i64 0, .int .i64 0, .int .i64 0, .bool false, .int .i64 0] 45))
  go_enter Try.func16, Try.ntmps16
  go_wp2_with fail
  refine (HR.out _ L_0.out).mono ?_
  rintro e w1 ⟨rfl, hb⟩
  have X_1 := Lib.hid (X_0.out.below hb); have L_1 := Lib.hid (L_0.out.below hb); have B_1 := Lib.hid (B_0.out.trans (Below.mono hb B_0.out.size))
  clear hb
  go_wp2_with fail
  refine (HA.out _ L_1.out).mono ?_
  rintro e w2 ⟨qa, ql, qc, rfl, hq, hb, hfr⟩
  have hB1 := X_1.out.lt
  have HFR := Lib.hid (fun x hx => Nat.lt_of_lt_of_le hB1 (hfr x hx)); have HF0 := Lib.hid (fun x hx => Nat.le_trans B_1.out.size (hfr x hx))
  have X_2 := Lib.hid ((X_1.out.below hb).below (below_alloc w2 (.cells (ansV h2 (.slice qa ql qc) x2 is n) 45))); have B_2 := Lib.hid (belowX_alloc (B_1.out.trans (Below.mono hb B_1.out.size)) (.cells (ansV h2 (.slice qa ql qc) x2 is n) 45)); have Q_2 := Lib.hid (hq.below (below_alloc w2 (.cells (ansV h2 (.slice qa ql qc) x2 is n) 45)))
  have A_2 := Lib.hid (Bx.new w2 (ansV h2 (.slice qa ql qc) x2 is n) 45)
  clear hb hq hfr hB1
  go_upto_if 18 with (fail)
  obtain ⟨X, hX⟩ : ∃ x, x = w2.alloc (.cells (ansV h2 (.slice qa ql qc) x2 is n) 45) := ⟨_, rfl⟩
  obtain ⟨BA, hBA⟩ : ∃ x, x = w2.heap.size := ⟨_, rfl⟩
  obtain ⟨BX, hBX⟩ : ∃ x, x = w.heap.size + 1 := ⟨_, rfl⟩
  have HBW := Lib.hid (show w.heap.size ≤ BX by omega)
  rw [← hX] at X_2 B_2 Q_2 A_2
  unfold ansV at hX
  rw [← hX]
  rw [← hBA] at A_2 ⊢
  rw [← hBX] at X_2 HFR ⊢
  clear hX hBA hBX
  have hlt := X_2.out.lt
  obtain ⟨c0, c1, c2, c3, c4, c5, c6⟩ := X_2.out.cells7
  obtain ⟨d0, d1, d2, d3, d4, d5, d6⟩ := A_2.out.cells7
  have f0 := X_2.out.froz 0; have f1 := X_2.out.froz 1; have f2 := X_2.out.froz 2; have f3 := X_2.out.froz 3; have f4 := X_2.out.froz 4; have f5 := X_2.out.froz 5; have f6 := X_2.out.froz 6
  go_wp2_with fail
  have ST := Lib.hid (X_2.out.set7 (.bool h2) (.slice qa ql qc) (.int .i64 x2.g) (.int .i64 x2.c) (.int .i64 x2.s) (.bool is) (.int .i64 n))
  refine bodyPost_ret (v := .tuple #[.agg (ansV h2 (.slice qa ql qc) x2 is n), .int .i64 0]) (by first | (rw [res_c1 Try.results16 _ (by rfl) (ST.out.load Try.underlying45 inf45)]; rfl)) rfl ⟨qa, ql, qc, rfl, ?_, ?_, HF0.out⟩
  · exact (Q_2.out).other _ (fun x hx e => by have := HFR.out x hx; omega) (fun g hg => set7_other _ _ _ _ _ _ _ _ _ g hg)
  · exact below_set7 B_2.out HBW.out _ _ _ _ _ _ _

set_option maxRecDepth 100000 in
set_option maxHeartbeats 2000000 in
theorem told_err_18 (h : Bool) (a : Option Addr) (len cap : Nat) (L : List Wt) (bv : Value) (h2 : Bool) (L2 : List Wt) (x2 : Wt) (is : Bool) (n : Int) (why : Int) (hw : why ≠ 0) (w : World) (hL : Wts w a len cap L) (hr : rightK h L = true)
    (hask : ∀ W, Wts W a len cap L → Calls Try.prog 18 #[bv] W (GotA W h2 L2 x2 is n why)) :
    Calls Try.prog 16 #[lkV h a len cap, .func (.func 18) #[bv] #[]] w (GotA w false [] zeroW false 0 why) := by
  have HR := Lib.hid (fun W (H : Wts W a len cap L) => LRight_any h a len cap L W H)
  rw [hr] at HR
  clear hr
  have HA := Lib.hid hask; clear hask
  unfold GotA at HA
  have L_0 := Lib.hid ((hL.below (below_alloc w (.cells #[.bool h, .slice a len cap] 24))).below (below_alloc _ (.cells #[.bool false, .slice none 0 0, .int .i64 0, .int .i64 0, .int .i64 0, .bool false, .int .i64 0] 45))); clear hL
  have X_0 := Lib.hid (Bx.new2 w (.cells #[.bool h, .slice a len cap] 24) #[.bool false, .slice none 0 0, .int .i64 0, .int .i64 0, .int .i64 0, .bool false, .int .i64 0] 45)
  have B_0 := Lib.hid ((below_alloc w (.cells #[.bool h, .slice a len cap] 24)).alloc (by simp) (.cells #[.bool false, .slice none 0 0, .int .i64 0, .int .i64 0, .int .i64 0, .bool false, .int .i64 0] 45))
  have hw1 : (why == 0) = false := by rw [beq_eq_false_iff_ne]; exact hw
  have hw2 : (why != 0) = true := by rw [bne_iff_ne]; exact hw
  clear hw
  go_enter Try.func16, Try.ntmps16
  go_wp2_with fail
  refine (HR.out _ L_0.out).mono ?_
  rintro e w1 ⟨rfl, hb⟩
  have X_1 := Lib.hid (X_0.out.below hb); have L_1 := Lib.hid (L_0.out.below hb); have B_1 := Lib.hid (B_0.out.trans (Below.mono hb B_0.out.size))
  clear hb
  go_wp2_with fail
  refine (HA.out _ L_1.out).mono ?_
  rintro e w2 ⟨qa, ql, qc, rfl, hq, hb, hfr⟩
  have hB1 := X_1.out.lt
  have HFR := Lib.hid (fun x hx => Nat.lt_of_lt_of_le hB1 (hfr x hx)); have HF0 := Lib.hid (fun x hx => Nat.le_trans B_1.out.size (hfr x hx))
  have X_2 := Lib.hid ((X_1.out.below hb).below (below_alloc w2 (.cells (ansV h2 (.slice qa ql qc) x2 is n) 45))); have B_2 := Lib.hid (belowX_alloc (B_1.out.trans (Below.mono hb B_1.out.size)) (.cells (ansV h2 (.slice qa ql qc) x2 is n) 45)); have Q_2 := Lib.hid (hq.below (below_alloc w2 (.cells (ansV h2 (.slice qa ql qc) x2 is n) 45)))
  have A_2 := Lib.hid (Bx.new w2 (ansV h2 (.slice qa ql qc) x2 is n) 45)
  clear hb hq hfr hB1
  go_upto_if 18 with (fail)
  obtain ⟨X, hX⟩ : ∃ x, x = w2.alloc (.cells (ansV h2 (.slice qa ql qc) x2 is n) 45) := ⟨_, rfl⟩
  obtain ⟨BA, hBA⟩ : ∃ x, x = w2.heap.size := ⟨_, rfl⟩
  obtain ⟨BX, hBX⟩ : ∃ x, x = w.heap.size + 1 := ⟨_, rfl⟩
  have HBW := Lib.hid (show w.heap.size ≤ BX by omega)
  rw [← hX] at X_2 B_2 Q_2 A_2
  unfold ansV at hX
  rw [← hX]
  rw [← hBA] at A_2 ⊢
  rw [← hBX] at X_2 HFR ⊢
  clear hX hBA hBX
  have hlt := X_2.out.lt
  obtain ⟨c0, c1, c2, c3, c4, c5, c6⟩ := X_2.out.cells7
  obtain ⟨d0, d1, d2, d3, d4, d5, d6⟩ := A_2.out.cells7
  have f0 := X_2.out.froz 0; have f1 := X_2.out.froz 1; have f2 := X_2.out.froz 2; have f3 := X_2.out.froz 3; have f4 := X_2.out.froz 4; have f5 := X_2.out.froz 5; have f6 := X_2.out.froz 6
  go_wp2_with fail
  have ST := Lib.hid (X_2.out.set7 (.bool false) (.slice none 0 0) (.int .i64 0) (.int .i64 0) (.int .i64 0) (.bool false) (.int .i64 0))
  refine bodyPost_ret (v := .tuple #[.agg zans, .int .i64 why]) (by first | (rw [res_c1 Try.results16 _ (by rfl) (ST.out.load Try.underlying45 inf45)]; rfl)) rfl ⟨none, 0, 0, rfl, Wts.nil _, ?_, fun x hx => by cases hx⟩
  exact below_set7 B_2.out HBW.out _ _ _ _ _ _ _
set_option maxRecDepth 100000 in
set_option maxHeartbeats 2000000 in
theorem told_ok_18 (h : Bool) (a : Option Addr) (len cap : Nat) (L : List Wt) (bv : Value) (h2 : Bool) (L2 : List Wt) (x2 : Wt) (is : Bool) (n : Int) (w : World) (hL : Wts w a len cap L) (hr : rightK h L = true)
    (hask : ∀ W, Wts W a len cap L → Calls Try.prog 18 #[bv] W (GotA W h2 L2 x2 is n 0)) :
    Calls Try.prog 16 #[lkV h a len cap, .func (.func 18) #[bv] #[]] w (GotA w h2 L2 x2 is n 0) := by
  have HR := Lib.hid (fun W (H : Wts W a len cap L) => LRight_any h a len cap L W H)
  rw [hr] at HR
  clear hr
  have HA := Lib.hid hask; clear hask
  unfold GotA at HA
  have L_0 := Lib.hid ((hL.below (below_alloc w (.cells #[.bool h, .slice a len cap] 24))).below (below_alloc _ (.cells #[.bool false, .slice none 0 0, .int .i64 0, .int .i64 0, .int .i64 0, .bool false, .int .i64 0] 45))); clear hL
  have X_0 := Lib.hid (Bx.new2 w (.cells #[.bool h, .slice a len cap] 24) #[.bool false, .slice none 0 0, .int .i64 0, .int .i64 0, .int .i64 0, .bool false, .int .i64 0] 45)
  have B_0 := Lib.hid ((below_alloc w (.cells #[.bool h, .slice a len cap] 24)).alloc (by simp) (.cells #[.bool false, .slice none 0 0, .int .i64 0, .int .i64 0, .int .i64 0, .bool false, .int .i64 0] 45))
  go_enter Try.func16, Try.ntmps16
  go_wp2_with fail
  refine (HR.out _ L_0.out).mono ?_
  rintro e w1 ⟨rfl, hb⟩
  have X_1 := Lib.hid (X_0.out.below hb); have L_1 := Lib.hid (L_0.out.below hb); have B_1 := Lib.hid (B_0.out.trans (Below.mono hb B_0.out.size))
  clear hb
  go_wp2_with fail
  refine (HA.out _ L_1.out).mono ?_
  rintro e w2 ⟨qa, ql, qc, rfl, hq, hb, hfr⟩
  have hB1 := X_1.out.lt
  have HFR := Lib.hid (fun x hx => Nat.lt_of_lt_of_le hB1 (hfr x hx)); have HF0 := Lib.hid (fun x hx => Nat.le_trans B_1.out.size (hfr x hx))
  have X_2 := Lib.hid ((X_1.out.below hb).below (below_alloc w2 (.cells (ansV h2 (.slice qa ql qc) x2 is n) 45))); have B_2 := Lib.hid (belowX_alloc (B_1.out.trans (Below.mono hb B_1.out.size)) (.cells (ansV h2 (.slice qa ql qc) x2 is n) 45)); have Q_2 := Lib.hid (hq.below (below_alloc w2 (.cells (ansV h2 (.slice qa ql qc) x2 is n) 45)))
  have A_2 := Lib.hid (Bx.new w2 (ansV h2 (.slice qa ql qc) x2 is n) 45)
  clear hb hq hfr hB1
  go_upto_if 18 with (fail)
  obtain ⟨X, hX⟩ : ∃ x, x = w2.alloc (.cells (ansV h2 (.slice qa ql qc) x2 is n) 45) := ⟨_, rfl⟩
  obtain ⟨BA, hBA⟩ : ∃ x, x = w2.heap.size := ⟨_, rfl⟩
  obtain ⟨BX, hBX⟩ : ∃ x, x = w.heap.size + 1 := ⟨_, rfl⟩
  have HBW := Lib.hid (show w.heap.size ≤ BX by omega)
  rw [← hX] at X_2 B_2 Q_2 A_2
  unfold ansV at hX
  rw [← hX]
  rw [← hBA] at A_2 ⊢
  rw [← hBX] at X_2 HFR ⊢
  clear hX hBA hBX
  have hlt := X_2.out.lt
  obtain ⟨c0, c1, c2, c3, c4, c5, c6⟩ := X_2.out.cells7
  obtain ⟨d0, d1, d2, d3, d4, d5, d6⟩ := A_2.out.cells7
  have f0 := X_2.out.froz 0; have f1 := X_2.out.froz 1; have f2 := X_2.out.froz 2; have f3 := X_2.out.froz 3; have f4 := X_2.out.froz 4; have f5 := X_2.out.froz 5; have f6 := X_2.out.froz 6
  go_wp2_with fail
  have ST := Lib.hid (X_2.out.set7 (.bool h2) (.slice qa ql qc) (.int .i64 x2.g) (.int .i64 x2.c) (.int .i64 x2.s) (.bool is) (.int .i64 n))
  refine bodyPost_ret (v := .tuple #[.agg (ansV h2 (.slice qa ql qc) x2 is n), .int .i64 0]) (by first | (rw [res_c1 Try.results16 _ (by rfl) (ST.out.load Try.underlying45 inf45)]; rfl)) rfl ⟨qa, ql, qc, rfl, ?_, ?_, HF0.out⟩
  · exact (Q_2.out).other _ (fun x hx e => by have := HFR.out x hx; omega) (fun g hg => set7_other _ _ _ _ _ _ _ _ _ g hg)
  · exact below_set7 B_2.out HBW.out _ _ _ _ _ _ _

set_option maxRecDepth 100000 in
set_option maxHeartbeats 2000000 in
theorem told_err_19 (h : Bool) (a : Option Addr) (len cap : Nat) (L : List Wt) (bv : Value) (h2 : Bool) (L2 : List Wt) (x2 : Wt) (is : Bool) (n : Int) (why : Int) (hw : why ≠ 0) (w : World) (hL : Wts w a len cap L) (hr : rightK h L = true)
    (hask : ∀ W, Wts W a len cap L → Calls Try.prog 19 #[bv] W (GotA W h2 L2 x2 is n why)) :
    Calls Try.prog 16 #[lkV h a len cap, .func (.func 19) #[bv] #[]] w (GotA w false [] zeroW false 0 why) := by
  have HR := Lib.hid (fun W (H : Wts W a len cap L) => LRight_any h a len cap L W H)
  rw [hr] at HR
  clear hr
  have HA := Lib.hid hask; clear hask
  unfold GotA at HA
  have L_0 := Lib.hid ((hL.below (below_alloc w (.cells #[.bool h, .slice a len cap] 24))).below (below_alloc _ (.cells #[.bool false, .slice none 0 0, .int .i64 0, .int .i64 0, .int .i64 0, .bool false, .int .i64 0] 45))); clear hL
  have X_0 := Lib.hid (Bx.new2 w (.cells #[.bool h, .slice a len cap] 24) #[.bool false, .slice none 0 0, .int .i64 0, .int .i64 0, .int .i64 0, .bool false, .int .i64 0] 45)
  have B_0 := Lib.hid ((below_alloc w (.cells #[.bool h, .slice a len cap] 24)).alloc (by simp) (.cells #[.bool false, .slice none 0 0, .int .i64 0, .int .i64 0, .int .i64 0, .bool false, .int .i64 0] 45))
  have hw1 : (why == 0) = false := by rw [beq_eq_false_iff_ne]; exact hw
  have hw2 : (why != 0) = true := by rw [bne_iff_ne]; exact hw
  clear hw
  go_enter Try.func16, Try.ntmps16
  go_wp2_with fail
  refine (HR.out _ L_0.out).mono ?_
  rintro e w1 ⟨rfl, hb⟩
  have X_1 := Lib.hid (X_0.out.below hb); have L_1 := Lib.hid (L_0.out.below hb); have B_1 := Lib.hid (B_0.out.trans (Below.mono hb B_0.out.size))
  clear hb
  go_wp2_with fail
  refine (HA.out _ L_1.out).mono ?_
  rintro e w2 ⟨qa, ql, qc, rfl, hq, hb, hfr⟩
  have hB1 := X_1.out.lt
  have HFR := Lib.hid (fun x hx => Nat.lt_of_lt_of_le hB1 (hfr x hx)); have HF0 := Lib.hid (fun x hx => Nat.le_trans B_1.out.size (hfr x hx))
  have X_2 := Lib.hid ((X_1.out.below hb).below (below_alloc w2 (.cells (ansV h2 (.slice qa ql qc) x2 is n) 45))); have B_2 := Lib.hid (belowX_alloc (B_1.out.trans (Below.mono hb B_1.out.size)) (.cells (ansV h2 (.slice qa ql qc) x2 is n) 45)); have Q_2 := Lib.hid (hq.below (below_alloc w2 (.cells (ansV h2 (.slice qa ql qc) x2 is n) 45)))
  have A_2 := Lib.hid (Bx.new w2 (ansV h2 (.slice qa ql qc) x2 is n) 45)
  clear hb hq hfr hB1
  go_upto_if 18 with (fail)
  obtain ⟨X, hX⟩ : ∃ x, x = w2.alloc (.cells (ansV h2 (.slice qa ql qc) x2 is n) 45) := ⟨_, rfl⟩
  obtain ⟨BA, hBA⟩ : ∃ x, x = w2.heap.size := ⟨_, rfl⟩
  obtain ⟨BX, hBX⟩ : ∃ x, x = w.heap.size + 1 := ⟨_, rfl⟩
  have HBW := Lib.hid (show w.heap.size ≤ BX by omega)
  rw [← hX] at X_2 B_2 Q_2 A_2
  unfold ansV at hX
  rw [← hX]
  rw [← hBA] at A_2 ⊢
  rw [← hBX] at X_2 HFR ⊢
  clear hX hBA hBX
  have hlt := X_2.out.lt
  obtain ⟨c0, c1, c2, c3, c4, c5, c6⟩ := X_2.out.cells7
  obtain ⟨d0, d1, d2, d3, d4, d5, d6⟩ := A_2.out.cells7
  have f0 := X_2.out.froz 0; have f1 := X_2.out.froz 1; have f2 := X_2.out.froz 2; have f3 := X_2.out.froz 3; have f4 := X_2.out.froz 4; have f5 := X_2.out.froz 5; have f6 := X_2.out.froz 6
  go_wp2_with fail
  have ST := Lib.hid (X_2.out.set7 (.bool false) (.slice none 0 0) (.int .i64 0) (.int .i64 0) (.int .i64 0) (.bool false) (.int .i64 0))
  refine bodyPost_ret (v := .tuple #[.agg zans, .int .i64 why]) (by first | (rw [res_c1 Try.results16 _ (by rfl) (ST.out.load Try.underlying45 inf45)]; rfl)) rfl ⟨none, 0, 0, rfl, Wts.nil _, ?_, fun x hx => by cases hx⟩
  exact below_set7 B_2.out HBW.out _ _ _ _ _ _ _
set_option maxRecDepth 100000 in
set_option maxHeartbeats 2000000 in
theorem told_ok_19 (h : Bool) (a : Option Addr) (len cap : Nat) (L : List Wt) (bv : Value) (h2 : Bool) (L2 : List Wt) (x2 : Wt) (is : Bool) (n : Int) (w : World) (hL : Wts w a len cap L) (hr : rightK h L = true)
    (hask : ∀ W, Wts W a len cap L → Calls Try.prog 19 #[bv] W (GotA W h2 L2 x2 is n 0)) :
    Calls Try.prog 16 #[lkV h a len cap, .func (.func 19) #[bv] #[]] w (GotA w h2 L2 x2 is n 0) := by
  have HR := Lib.hid (fun W (H : Wts W a len cap L) => LRight_any h a len cap L W H)
  rw [hr] at HR
  clear hr
  have HA := Lib.hid hask; clear hask
  unfold GotA at HA
  have L_0 := Lib.hid ((hL.below (below_alloc w (.cells #[.bool h, .slice a len cap] 24))).below (below_alloc _ (.cells #[.bool false, .slice none 0 0, .int .i64 0, .int .i64 0, .int .i64 0, .bool false, .int .i64 0] 45))); clear hL
  have X_0 := Lib.hid (Bx.new2 w (.cells #[.bool h, .slice a len cap] 24) #[.bool false, .slice none 0 0, .int .i64 0, .int .i64 0, .int .i64 0, .bool false, .int .i64 0] 45)
  have B_0 := Lib.hid ((below_alloc w (.cells #[.bool h, .slice a len cap] 24)).alloc (by simp) (.cells #[.bool false, .slice none 0 0, .int .i64 0, .int .i64 0, .int .i64 0, .bool false, .int .i64 0] 45))
  go_enter Try.func16, Try.ntmps16
  go_wp2_with fail
  refine (HR.out _ L_0.out).mono ?_
  rintro e w1 ⟨rfl, hb⟩
  have X_1 := Lib.hid (X_0.out.below hb); have L_1 := Lib.hid (L_0.out.below hb); have B_1 := Lib.hid (B_0.out.trans (Below.mono hb B_0.out.size))
  clear hb
  go_wp2_with fail
  refine (HA.out _ L_1.out).mono ?_
  rintro e w2 ⟨qa, ql, qc, rfl, hq, hb, hfr⟩
  have hB1 := X_1.out.lt
  have HFR := Lib.hid (fun x hx => Nat.lt_of_lt_of_le hB1 (hfr x hx)); have HF0 := Lib.hid (fun x hx => Nat.le_trans B_1.out.size (hfr x hx))
  have X_2 := Lib.hid ((X_1.out.below hb).below (below_alloc w2 (.cells (ansV h2 (.slice qa ql qc) x2 is n) 45))); have B_2 := Lib.hid (belowX_alloc (B_1.out.trans (Below.mono hb B_1.out.size)) (.cells (ansV h2 (.slice qa ql qc) x2 is n) 45)); have Q_2 := Lib.hid (hq.below (below_alloc w2 (.cells (ansV h2 (.slice qa ql qc) x2 is n) 45)))
  have A_2 := Lib.hid (Bx.new w2 (ansV h2 (.slice qa ql qc) x2 is n) 45)
  clear hb hq hfr hB1
  go_upto_if 18 with (fail)
  obtain ⟨X, hX⟩ : ∃ x, x = w2.alloc (.cells (ansV h2 (.slice qa ql qc) x2 is n) 45) := ⟨_, rfl⟩
  obtain ⟨BA, hBA⟩ : ∃ x, x = w2.heap.size := ⟨_, rfl⟩
  obtain ⟨BX, hBX⟩ : ∃ x, x = w.heap.size + 1 := ⟨_, rfl⟩
  have HBW := Lib.hid (show w.heap.size ≤ BX by omega)
  rw [← hX] at X_2 B_2 Q_2 A_2
  unfold ansV at hX
  rw [← hX]
  rw [← hBA] at A_2 ⊢
  rw [← hBX] at X_2 HFR ⊢
  clear hX hBA hBX
  have hlt := X_2.out.lt
  obtain ⟨c0, c1, c2, c3, c4, c5, c6⟩ := X_2.out.cells7
  obtain ⟨d0, d1, d2, d3, d4, d5, d6⟩ := A_2.out.cells7
  have f0 := X_2.out.froz 0; have f1 := X_2.out.froz 1; have f2 := X_2.out.froz 2; have f3 := X_2.out.froz 3; have f4 := X_2.out.froz 4; have f5 := X_2.out.froz 5; have f6 := X_2.out.froz 6
  go_wp2_with fail
  have ST := Lib.hid (X_2.out.set7 (.bool h2) (.slice qa ql qc) (.int .i64 x2.g) (.int .i64 x2.c) (.int .i64 x2.s) (.bool is) (.int .i64 n))
  refine bodyPost_ret (v := .tuple #[.agg (ansV h2 (.slice qa ql qc) x2 is n), .int .i64 0]) (by first | (rw [res_c1 Try.results16 _ (by rfl) (ST.out.load Try.underlying45 inf45)]; rfl)) rfl ⟨qa, ql, qc, rfl, ?_, ?_, HF0.out⟩
  · exact (Q_2.out).other _ (fun x hx e => by have := HFR.out x hx; omega) (fun g hg => set7_other _ _ _ _ _ _ _ _ _ g hg)
  · exact below_set7 B_2.out HBW.out _ _ _ _ _ _ _
end Go.Proofs.Ytipjdkaibkmciaa
