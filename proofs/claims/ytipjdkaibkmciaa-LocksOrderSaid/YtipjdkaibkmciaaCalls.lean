/- Take, Give, Waiting. -/
import Derived.Test.YtipjdkaibkmciaaAsk
import Derived.RegionTactic
import Derived.BigRegion
namespace Go.Proofs.Ytipjdkaibkmciaa
open Go.RowKit
def GotT (w : World) (h : Bool) (L : List Wt) (is : Bool) (why : Int) (e : Ending) (w' : World) : Prop := ∃ a len cap, e = .returned (.tuple #[lkV h a len cap, .bool is, .int .i64 why]) ∧ Wts w' a len cap L ∧ Below w.heap.size w w' ∧ ∀ x, a = some x → w.heap.size ≤ x.block
def GotG (w : World) (h : Bool) (L : List Wt) (x : Wt) (is : Bool) (why : Int) (e : Ending) (w' : World) : Prop := ∃ a len cap, e = .returned (.tuple #[lkV h a len cap, wV x, .bool is, .int .i64 why]) ∧ Wts w' a len cap L ∧ Below w.heap.size w w' ∧ ∀ x, a = some x → w.heap.size ≤ x.block
theorem inf26 : (Try.prog.info? 26).map (·.size) = some 3 := by kernel_rfl
theorem Wts.drew {w : World} {a : Option Addr} {len cap : Nat} {L : List Wt} (h : Wts w a len cap L) : Wts w.drew a len cap L := h.below (Below.refl _ _).drew
theorem Bx.new3 (w : World) (A B : Obj) (cs : Array Value) (t : TypeId) : Bx (((w.alloc A).alloc B).alloc (.cells cs t)) (w.heap.size + 2) cs t := by
  have h := heap_alloc_new ((w.alloc A).alloc B) (.cells cs t)
  rw [World.size_alloc, World.size_alloc] at h
  exact h
set_option maxRecDepth 100000 in
set_option maxHeartbeats 4000000 in
theorem Take_of (h : Bool) (a : Option Addr) (len cap : Nat) (L : List Wt) (x : Wt) (h2 : Bool) (L2 : List Wt) (x2 : Wt) (is : Bool) (n why : Int) (w : World) (hL : Wts w a len cap L)
    (hask : ∀ W, Wts W a len cap L → Calls Try.prog 16 #[lkV h a len cap, .func (.func 17) #[turnV h a len cap x] #[]] W (GotA W h2 L2 x2 is n why)) :
    Calls Try.prog 6 #[lkV h a len cap, wV x] w (GotT w h2 L2 is why) := by
  have HA := Lib.hid hask; clear hask
  unfold GotA at HA
  have B_0 := Lib.hid (((below_alloc w (.cells #[.bool h, .slice a len cap] 24)).alloc (by simp) (.cells #[.int .i64 x.g, .int .i64 x.c, .int .i64 x.s] 26)).alloc (by simp; omega) (.cells #[.bool false, .slice none 0 0] 24))
  have L_0 := Lib.hid (hL.below B_0.out); clear hL
  have X_0 := Lib.hid (Bx.new3 w (.cells #[.bool h, .slice a len cap] 24) (.cells #[.int .i64 x.g, .int .i64 x.c, .int .i64 x.s] 26) #[.bool false, .slice none 0 0] 24)
  go_enter Try.func6, Try.ntmps6
  go_wp2_with fail
  refine (HA.out _ L_0.out).mono ?_
  rintro e w1 ⟨qa, ql, qc, rfl, hq, hb, hfr⟩
  have hB1 := X_0.out.lt
  have HFR := Lib.hid (fun x hx => Nat.lt_of_lt_of_le hB1 (hfr x hx)); have HF0 := Lib.hid (fun x hx => Nat.le_trans B_0.out.size (hfr x hx))
  have X_2 := Lib.hid ((X_0.out.below hb).below (below_alloc w1 (.cells (ansV h2 (.slice qa ql qc) x2 is n) 45))); have B_2 := Lib.hid (belowX_alloc (B_0.out.trans (Below.mono hb B_0.out.size)) (.cells (ansV h2 (.slice qa ql qc) x2 is n) 45)); have Q_2 := Lib.hid (hq.below (below_alloc w1 (.cells (ansV h2 (.slice qa ql qc) x2 is n) 45)))
  have A_2 := Lib.hid (Bx.new w1 (ansV h2 (.slice qa ql qc) x2 is n) 45)
  clear hb hq hfr hB1
  go_wp2_with fail
  obtain ⟨X, hX⟩ : ∃ x, x = w1.alloc (.cells (ansV h2 (.slice qa ql qc) x2 is n) 45) := ⟨_, rfl⟩
  obtain ⟨BA, hBA⟩ : ∃ x, x = w1.heap.size := ⟨_, rfl⟩
  obtain ⟨BX, hBX⟩ : ∃ x, x = w.heap.size + 2 := ⟨_, rfl⟩
  have HBW := Lib.hid (show w.heap.size ≤ BX by omega)
  rw [← hX] at X_2 B_2 Q_2 A_2
  unfold ansV at hX
  rw [← hX]
  rw [← hBA] at A_2 ⊢
  rw [← hBX] at X_2 HFR ⊢
  clear hX hBA hBX
  have hlt := X_2.out.lt
  obtain ⟨c0, c1⟩ := X_2.out.cells2
  obtain ⟨d0, d1, d2, d3, d4, d5, d6⟩ := A_2.out.cells7
  have f0 := X_2.out.froz 0; have f1 := X_2.out.froz 1
  go_region
  all_goals
    go_wp2_with fail
    have ST := Lib.hid ((X_2.out.set2 (.bool h2) (.slice qa ql qc)).below ((Below.refl _ _).drew))
    refine bodyPost_ret (v := .tuple #[lkV h2 qa ql qc, .bool is, .int .i64 why]) (by first | (rw [res_c2 Try.results6 _ (by rfl) (ST.out.load Try.underlying24 inf24)]; rfl)) rfl ⟨qa, ql, qc, rfl, ?_, ?_, HF0.out⟩
    · exact (Wts.other Q_2.out _ (fun x hx e => by have := HFR.out x hx; omega) (fun g hg => set2_other _ _ _ _ g hg)).drew
    · exact (below_set2 B_2.out HBW.out _ _).drew
set_option maxRecDepth 100000 in
set_option maxHeartbeats 4000000 in
theorem Give_of (h : Bool) (a : Option Addr) (len cap : Nat) (L : List Wt) (h2 : Bool) (L2 : List Wt) (x2 : Wt) (is : Bool) (n why : Int) (w : World) (hL : Wts w a len cap L)
    (hask : ∀ W, Wts W a len cap L → Calls Try.prog 16 #[lkV h a len cap, .func (.func 18) #[turnV h a len cap zeroW] #[]] W (GotA W h2 L2 x2 is n why)) :
    Calls Try.prog 7 #[lkV h a len cap] w (GotG w h2 L2 x2 is why) := by
  have HA := Lib.hid hask; clear hask
  unfold GotA at HA
  have B_0 := Lib.hid (((below_alloc w (.cells #[.bool h, .slice a len cap] 24)).alloc (by simp) (.cells #[.bool false, .slice none 0 0] 24)).alloc (by simp; omega) (.cells #[.int .i64 0, .int .i64 0, .int .i64 0] 26))
  have L_0 := Lib.hid (hL.below B_0.out); clear hL
  have Y_0 := Lib.hid (Bx.new3 w (.cells #[.bool h, .slice a len cap] 24) (.cells #[.bool false, .slice none 0 0] 24) #[.int .i64 0, .int .i64 0, .int .i64 0] 26)
  have X_0 := Lib.hid ((Bx.new2 w (.cells #[.bool h, .slice a len cap] 24) #[.bool false, .slice none 0 0] 24).below (below_alloc _ (.cells #[.int .i64 0, .int .i64 0, .int .i64 0] 26)))
  go_enter Try.func7, Try.ntmps7
  go_wp2_with fail
  refine (HA.out _ L_0.out).mono ?_
  rintro e w1 ⟨qa, ql, qc, rfl, hq, hb, hfr⟩
  have hB1 := Y_0.out.lt
  have HFR := Lib.hid (fun x hx => Nat.lt_of_lt_of_le hB1 (hfr x hx)); have HF0 := Lib.hid (fun x hx => Nat.le_trans B_0.out.size (hfr x hx))
  have X_2 := Lib.hid ((X_0.out.below hb).below (below_alloc w1 (.cells (ansV h2 (.slice qa ql qc) x2 is n) 45))); have B_2 := Lib.hid (belowX_alloc (B_0.out.trans (Below.mono hb B_0.out.size)) (.cells (ansV h2 (.slice qa ql qc) x2 is n) 45)); have Q_2 := Lib.hid (hq.below (below_alloc w1 (.cells (ansV h2 (.slice qa ql qc) x2 is n) 45)))
  have Y_2 := Lib.hid ((Y_0.out.below hb).below (below_alloc w1 (.cells (ansV h2 (.slice qa ql qc) x2 is n) 45)))
  have A_2 := Lib.hid (Bx.new w1 (ansV h2 (.slice qa ql qc) x2 is n) 45)
  clear hb hq hfr hB1
  go_wp2_with fail
  obtain ⟨X, hX⟩ : ∃ x, x = w1.alloc (.cells (ansV h2 (.slice qa ql qc) x2 is n) 45) := ⟨_, rfl⟩
  obtain ⟨BA, hBA⟩ : ∃ x, x = w1.heap.size := ⟨_, rfl⟩
  obtain ⟨BX, hBX⟩ : ∃ x, x = w.heap.size + 1 := ⟨_, rfl⟩
  obtain ⟨BY, hBY⟩ : ∃ x, x = w.heap.size + 2 := ⟨_, rfl⟩
  have HBW := Lib.hid (show w.heap.size ≤ BX by omega)
  have HBV := Lib.hid (show w.heap.size ≤ BY by omega)
  have hXY : BX < BY := by omega
  have hXY' : BX ≠ BY := by omega
  have hYX' : BY ≠ BX := by omega
  rw [← hX] at X_2 Y_2 B_2 Q_2 A_2
  unfold ansV at hX
  rw [← hX]
  rw [← hBA] at A_2 ⊢
  rw [← hBY] at Y_2 HFR
  try rw [show w.heap.size + 1 + 1 = w.heap.size + 2 from rfl]
  rw [← hBY]
  rw [← hBX] at X_2 ⊢
  clear hX hBA hBX hBY
  have hlt := X_2.out.lt
  have hlt2 := Y_2.out.lt
  obtain ⟨e0, e1, e2⟩ := Y_2.out.cells3
  have g0 := Y_2.out.froz 0; have g1 := Y_2.out.froz 1; have g2 := Y_2.out.froz 2
  obtain ⟨c0, c1⟩ := X_2.out.cells2
  obtain ⟨d0, d1, d2, d3, d4, d5, d6⟩ := A_2.out.cells7
  have f0 := X_2.out.froz 0; have f1 := X_2.out.froz 1
  go_region
  all_goals
    go_wp2_with fail
    have SX := Lib.hid (((show Bx (set3c (set2c X BX (.bool h2) (.slice qa ql qc)) BY (.int .i64 x2.g) (.int .i64 x2.c) (.int .i64 x2.s)) BX #[.bool h2, .slice qa ql qc] 24 from (set3_other _ _ _ _ _ BX hXY').trans (X_2.out.set2 (.bool h2) (.slice qa ql qc)))).below ((Below.refl _ _).drew))
    have SY := Lib.hid (((show Bx (set2c X BX (.bool h2) (.slice qa ql qc)) BY _ 26 from (set2_other _ _ _ _ BY hYX').trans Y_2.out).set3 (.int .i64 x2.g) (.int .i64 x2.c) (.int .i64 x2.s)).below ((Below.refl _ _).drew))
    refine bodyPost_ret (v := .tuple #[lkV h2 qa ql qc, wV x2, .bool is, .int .i64 why]) (by first | (rw [res_cc2 Try.results7 _ (by rfl) (SX.out.load Try.underlying24 inf24) (by rfl) (SY.out.load Try.underlying26 inf26)]; rfl)) rfl ⟨qa, ql, qc, rfl, ?_, ?_, HF0.out⟩
    · exact ((Wts.other Q_2.out BX (fun x hx e => by have := HFR.out x hx; omega) (fun g hg => set2_other _ _ _ _ g hg)).other BY (fun x hx e => by have := HFR.out x hx; omega) (fun g hg => set3_other _ _ _ _ _ g hg)).drew
    · exact (below_set3 (below_set2 B_2.out HBW.out _ _) HBV.out _ _ _).drew
set_option maxRecDepth 100000 in
set_option maxHeartbeats 4000000 in
theorem Waiting_of (h : Bool) (a : Option Addr) (len cap : Nat) (L : List Wt) (h2 : Bool) (L2 : List Wt) (x2 : Wt) (is : Bool) (n why : Int) (w : World) (hL : Wts w a len cap L)
    (hask : ∀ W, Wts W a len cap L → Calls Try.prog 16 #[lkV h a len cap, .func (.func 19) #[turnV h a len cap zeroW] #[]] W (GotA W h2 L2 x2 is n why)) :
    Calls Try.prog 8 #[lkV h a len cap] w fun e w' => e = .returned (.tuple #[.int .i64 n, .int .i64 why]) ∧ Below w.heap.size w w' := by
  have HA := Lib.hid hask; clear hask
  unfold GotA at HA
  have B_0 := Lib.hid (below_alloc w (.cells #[.bool h, .slice a len cap] 24))
  have L_0 := Lib.hid (hL.below B_0.out); clear hL
  go_enter Try.func8, Try.ntmps8
  go_wp2_with fail
  refine (HA.out _ L_0.out).mono ?_
  rintro e w1 ⟨qa, ql, qc, rfl, _, hb, _⟩
  have B_2 := Lib.hid (belowX_alloc (B_0.out.trans (Below.mono hb B_0.out.size)) (.cells (ansV h2 (.slice qa ql qc) x2 is n) 45))
  clear hb
  go_wp2_with fail
  go_ret2
  exact ⟨rfl, B_2.out⟩
end Go.Proofs.Ytipjdkaibkmciaa
