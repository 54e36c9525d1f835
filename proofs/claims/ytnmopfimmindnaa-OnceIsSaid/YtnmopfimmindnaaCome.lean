/- What happens to one who comes; Do. -/
import Derived.Test.YtnmopfimmindnaaRefs
import Derived.Laws.EntriesVeiled
namespace Go.Proofs.Ytnmopfimmindnaa
open Go.RowKit
def GotD (w : World) (st by_ : Int) (L : List Wt) (k why : Int) (e : Ending) (w' : World) : Prop := ∃ a len cap, e = .returned (.tuple #[onV st by_ a len cap, .int .i64 k, .int .i64 why]) ∧ Wts w' a len cap L ∧ Below w.heap.size w w' ∧ ∀ x, a = some x → w.heap.size ≤ x.block
theorem inf43 : (Try.prog.info? 43).map (·.size) = some 3 := by kernel_rfl
abbrev tab : Value := .agg #[.func (.func 24) #[] #[], .func (.func 25) #[] #[], .func (.func 26) #[] #[]]
set_option maxRecDepth 100000 in
set_option maxHeartbeats 4000000 in
theorem comers_any (w : World) : Calls Try.prog 16 #[] w fun e w' => e = .returned tab ∧ Below w.heap.size w w' := by
  go_enter Try.func16, Try.ntmps16
  go_wp2_with fail
  refine bodyPost_ret (v := tab) (by first | (rw [res_c0 Try.results16 _ (by rfl) (run_loadVar_row _ _ 43 43 #[.func (.func 24) #[] #[], .func (.func 25) #[] #[], .func (.func 26) #[] #[]] (0, 0) _ (Bx.new w _ 43) Try.underlying43 rfl inf43)])) rfl ⟨rfl, ?_⟩
  exact below_alloc w _
set_option maxRecDepth 100000 in
set_option maxHeartbeats 4000000 in
theorem first_any (st by_ : Int) (a : Option Addr) (len cap : Nat) (x : Wt) (w : World) :
    Calls Try.prog 24 #[onV st by_ a len cap, wV x] w (GotD w 1 x.g [] 0 0) := by
  go_enter Try.func24, Try.ntmps24
  go_wp2_with fail
  refine bodyPost_ret (v := .tuple #[onV 1 x.g none 0 0, .int .i64 0, .int .i64 0]) (by first | (rw [res_c2 Try.results24 _ (by rfl) ((Bx.new3 w _ _ #[.int .i64 1, .int .i64 x.g, .slice none 0 0] 24).load Try.underlying24 inf24)]; rfl)) rfl ⟨none, 0, 0, rfl, Wts.nil _, ?_, fun x hx => by cases hx⟩
  exact ((below_alloc w _).alloc (by simp) _).alloc (by simp; omega) _
set_option maxRecDepth 100000 in
set_option maxHeartbeats 4000000 in
theorem later_any (st by_ : Int) (a : Option Addr) (len cap : Nat) (x : Wt) (w : World) :
    Calls Try.prog 26 #[onV st by_ a len cap, wV x] w (GotD w 2 0 [] 2 0) := by
  go_enter Try.func26, Try.ntmps26
  go_wp2_with fail
  refine bodyPost_ret (v := .tuple #[onV 2 0 none 0 0, .int .i64 2, .int .i64 0]) (by first | (rw [res_c2 Try.results26 _ (by rfl) ((Bx.new3 w _ _ #[.int .i64 2, .int .i64 0, .slice none 0 0] 24).load Try.underlying24 inf24)]; rfl)) rfl ⟨none, 0, 0, rfl, Wts.nil _, ?_, fun x hx => by cases hx⟩
  exact ((below_alloc w _).alloc (by simp) _).alloc (by simp; omega) _
set_option maxRecDepth 100000 in
set_option maxHeartbeats 4000000 in
theorem mean_state (by_ : Int) (a : Option Addr) (len cap : Nat) (x : Wt) (w : World) (hg : by_ = x.g) :
    Calls Try.prog 25 #[onV 1 by_ a len cap, wV x] w (GotD w 0 0 [] 0 6) := by
  have hb : (by_ == x.g) = true := by rw [beq_iff_eq]; exact hg
  clear hg
  go_enter Try.func25, Try.ntmps25
  go_wp2_with fail
  refine bodyPost_ret (v := .tuple #[onV 0 0 none 0 0, .int .i64 0, .int .i64 6]) (by first | (rw [res_c2 Try.results25 _ (by rfl) ((Bx.new3 w _ _ #[.int .i64 0, .int .i64 0, .slice none 0 0] 24).load Try.underlying24 inf24)]; rfl)) rfl ⟨none, 0, 0, rfl, Wts.nil _, ?_, fun x hx => by cases hx⟩
  exact ((below_alloc w _).alloc (by simp) _).alloc (by simp; omega) _
set_option maxRecDepth 100000 in
set_option maxHeartbeats 4000000 in
theorem mean_twice (by_ : Int) (a : Option Addr) (len cap : Nat) (L : List Wt) (x : Wt) (w : World) (hL : Wts w a len cap L) (hx : WtOk x) (hr : rightW L = true) (hm : mayW x = true) (hne : by_ ≠ x.g) (hh : hasW L x.g x.c = true) :
    Calls Try.prog 25 #[onV 1 by_ a len cap, wV x] w (GotD w 0 0 [] 0 7) := by
  have HP := Lib.hid (fun W (H : Wts W a len cap L) => Push_twice a len cap L x W H hx hr hm hh)
  unfold NoL at HP
  have hb : (by_ == x.g) = false := by rw [beq_eq_false_iff_ne]; exact hne
  clear hm hr hne hx hh
  have B_0 := Lib.hid (((below_alloc w (.cells (onC 1 by_ a len cap) 24)).alloc (by simp) (.cells #[.int .i64 x.g, .int .i64 x.c, .int .i64 x.s] 26)).alloc (by simp; omega) (.cells #[.int .i64 0, .int .i64 0, .slice none 0 0] 24))
  have L_0 := Lib.hid (hL.below B_0.out); clear hL
  have X_0 := Lib.hid (Bx.new3 w (.cells (onC 1 by_ a len cap) 24) (.cells #[.int .i64 x.g, .int .i64 x.c, .int .i64 x.s] 26) #[.int .i64 0, .int .i64 0, .slice none 0 0] 24)
  have K_0 := Lib.hid (((Bx.new w (onC 1 by_ a len cap) 24).below (below_alloc _ (.cells #[.int .i64 x.g, .int .i64 x.c, .int .i64 x.s] 26))).below (below_alloc _ (.cells #[.int .i64 0, .int .i64 0, .slice none 0 0] 24)))
  have Y_0 := Lib.hid ((Bx.new2 w (.cells (onC 1 by_ a len cap) 24) #[.int .i64 x.g, .int .i64 x.c, .int .i64 x.s] 26).below (below_alloc _ (.cells #[.int .i64 0, .int .i64 0, .slice none 0 0] 24)))
  go_enter Try.func25, Try.ntmps25
  go_wp2_with fail
  refine (HP.out _ L_0.out).mono ?_
  rintro e w1 ⟨rfl, hb'⟩
  have X_1 := Lib.hid (X_0.out.below hb'); have K_1 := Lib.hid (K_0.out.below hb'); have Y_1 := Lib.hid (Y_0.out.below hb'); have B_1 := Lib.hid (B_0.out.trans (Below.mono hb' B_0.out.size))
  clear hb'
  obtain ⟨BX, hBX⟩ : ∃ x, x = w.heap.size + 2 := ⟨_, rfl⟩
  obtain ⟨BY, hBY⟩ : ∃ x, x = w.heap.size + 1 := ⟨_, rfl⟩
  obtain ⟨BK, hBK⟩ : ∃ x, x = w.heap.size := ⟨_, rfl⟩
  have HBW := Lib.hid (show w.heap.size ≤ BX by omega)
  have hKX : BK ≠ BX := by omega
  have hXK : BX ≠ BK := by omega
  have hYX : BY ≠ BX := by omega
  have hXY : BX ≠ BY := by omega
  rw [← hBX] at X_1
  try rw [show w.heap.size + 1 + 1 = w.heap.size + 2 from rfl]
  rw [← hBX]
  rw [← hBY] at Y_1 ⊢
  rw [← hBK] at K_1 ⊢
  clear hBX hBY hBK
  have hlt := X_1.out.lt
  have hlt2 := Y_1.out.lt
  have hlt3 := K_1.out.lt
  obtain ⟨c0, c1, c2⟩ := X_1.out.cells3
  obtain ⟨k0, k1, k2⟩ := K_1.out.cells3
  obtain ⟨y0, y1, y2⟩ := Y_1.out.cells3
  have f0 := X_1.out.froz 0; have f1 := X_1.out.froz 1; have f2 := X_1.out.froz 2
  go_wp2_with fail
  have ST := Lib.hid (X_1.out.set3 (.int .i64 0) (.int .i64 0) (.slice none 0 0))
  refine bodyPost_ret (v := .tuple #[.agg #[.int .i64 0, .int .i64 0, .slice none 0 0], .int .i64 0, .int .i64 7]) (by first | (rw [res_c2 Try.results25 _ (by rfl) (ST.out.load Try.underlying24 inf24)]; rfl)) rfl ⟨none, 0, 0, rfl, Wts.nil _, ?_, fun x hx => by cases hx⟩
  exact below_set3 B_1.out HBW.out _ _ _
set_option maxRecDepth 100000 in
set_option maxHeartbeats 4000000 in
theorem mean_full (by_ : Int) (a : Option Addr) (len cap : Nat) (L : List Wt) (x : Wt) (w : World) (hL : Wts w a len cap L) (hx : WtOk x) (hr : rightW L = true) (hm : mayW x = true) (hne : by_ ≠ x.g) (hh : hasW L x.g x.c = false) (hf : len = 64) :
    Calls Try.prog 25 #[onV 1 by_ a len cap, wV x] w (GotD w 0 0 [] 0 5) := by
  have HP := Lib.hid (fun W (H : Wts W a len cap L) => Push_full a len cap L x W H hx hr hm hh hf)
  unfold NoL at HP
  have hb : (by_ == x.g) = false := by rw [beq_eq_false_iff_ne]; exact hne
  clear hm hr hne hx hh hf
  have B_0 := Lib.hid (((below_alloc w (.cells (onC 1 by_ a len cap) 24)).alloc (by simp) (.cells #[.int .i64 x.g, .int .i64 x.c, .int .i64 x.s] 26)).alloc (by simp; omega) (.cells #[.int .i64 0, .int .i64 0, .slice none 0 0] 24))
  have L_0 := Lib.hid (hL.below B_0.out); clear hL
  have X_0 := Lib.hid (Bx.new3 w (.cells (onC 1 by_ a len cap) 24) (.cells #[.int .i64 x.g, .int .i64 x.c, .int .i64 x.s] 26) #[.int .i64 0, .int .i64 0, .slice none 0 0] 24)
  have K_0 := Lib.hid (((Bx.new w (onC 1 by_ a len cap) 24).below (below_alloc _ (.cells #[.int .i64 x.g, .int .i64 x.c, .int .i64 x.s] 26))).below (below_alloc _ (.cells #[.int .i64 0, .int .i64 0, .slice none 0 0] 24)))
  have Y_0 := Lib.hid ((Bx.new2 w (.cells (onC 1 by_ a len cap) 24) #[.int .i64 x.g, .int .i64 x.c, .int .i64 x.s] 26).below (below_alloc _ (.cells #[.int .i64 0, .int .i64 0, .slice none 0 0] 24)))
  go_enter Try.func25, Try.ntmps25
  go_wp2_with fail
  refine (HP.out _ L_0.out).mono ?_
  rintro e w1 ⟨rfl, hb'⟩
  have X_1 := Lib.hid (X_0.out.below hb'); have K_1 := Lib.hid (K_0.out.below hb'); have Y_1 := Lib.hid (Y_0.out.below hb'); have B_1 := Lib.hid (B_0.out.trans (Below.mono hb' B_0.out.size))
  clear hb'
  obtain ⟨BX, hBX⟩ : ∃ x, x = w.heap.size + 2 := ⟨_, rfl⟩
  obtain ⟨BY, hBY⟩ : ∃ x, x = w.heap.size + 1 := ⟨_, rfl⟩
  obtain ⟨BK, hBK⟩ : ∃ x, x = w.heap.size := ⟨_, rfl⟩
  have HBW := Lib.hid (show w.heap.size ≤ BX by omega)
  have hKX : BK ≠ BX := by omega
  have hXK : BX ≠ BK := by omega
  have hYX : BY ≠ BX := by omega
  have hXY : BX ≠ BY := by omega
  rw [← hBX] at X_1
  try rw [show w.heap.size + 1 + 1 = w.heap.size + 2 from rfl]
  rw [← hBX]
  rw [← hBY] at Y_1 ⊢
  rw [← hBK] at K_1 ⊢
  clear hBX hBY hBK
  have hlt := X_1.out.lt
  have hlt2 := Y_1.out.lt
  have hlt3 := K_1.out.lt
  obtain ⟨c0, c1, c2⟩ := X_1.out.cells3
  obtain ⟨k0, k1, k2⟩ := K_1.out.cells3
  obtain ⟨y0, y1, y2⟩ := Y_1.out.cells3
  have f0 := X_1.out.froz 0; have f1 := X_1.out.froz 1; have f2 := X_1.out.froz 2
  go_wp2_with fail
  have ST := Lib.hid (X_1.out.set3 (.int .i64 0) (.int .i64 0) (.slice none 0 0))
  refine bodyPost_ret (v := .tuple #[.agg #[.int .i64 0, .int .i64 0, .slice none 0 0], .int .i64 0, .int .i64 5]) (by first | (rw [res_c2 Try.results25 _ (by rfl) (ST.out.load Try.underlying24 inf24)]; rfl)) rfl ⟨none, 0, 0, rfl, Wts.nil _, ?_, fun x hx => by cases hx⟩
  exact below_set3 B_1.out HBW.out _ _ _
set_option maxRecDepth 100000 in
set_option maxHeartbeats 4000000 in
theorem mean_ok (by_ : Int) (a : Option Addr) (len cap : Nat) (L : List Wt) (x : Wt) (w : World) (hL : Wts w a len cap L) (hx : WtOk x) (hr : rightW L = true) (hm : mayW x = true) (hne : by_ ≠ x.g) (hh : hasW L x.g x.c = false) (hf : len ≠ 64) :
    Calls Try.prog 25 #[onV 1 by_ a len cap, wV x] w (GotD w 1 by_ (L ++ [x]) 1 0) := by
  have HP := Lib.hid (fun W (H : Wts W a len cap L) => Push_okF a len cap L x W H hx hr hm hh hf)
  unfold GotF at HP
  have hb : (by_ == x.g) = false := by rw [beq_eq_false_iff_ne]; exact hne
  clear hm hr hne hx hh hf
  have B_0 := Lib.hid (((below_alloc w (.cells (onC 1 by_ a len cap) 24)).alloc (by simp) (.cells #[.int .i64 x.g, .int .i64 x.c, .int .i64 x.s] 26)).alloc (by simp; omega) (.cells #[.int .i64 0, .int .i64 0, .slice none 0 0] 24))
  have L_0 := Lib.hid (hL.below B_0.out); clear hL
  have X_0 := Lib.hid (Bx.new3 w (.cells (onC 1 by_ a len cap) 24) (.cells #[.int .i64 x.g, .int .i64 x.c, .int .i64 x.s] 26) #[.int .i64 0, .int .i64 0, .slice none 0 0] 24)
  have K_0 := Lib.hid (((Bx.new w (onC 1 by_ a len cap) 24).below (below_alloc _ (.cells #[.int .i64 x.g, .int .i64 x.c, .int .i64 x.s] 26))).below (below_alloc _ (.cells #[.int .i64 0, .int .i64 0, .slice none 0 0] 24)))
  have Y_0 := Lib.hid ((Bx.new2 w (.cells (onC 1 by_ a len cap) 24) #[.int .i64 x.g, .int .i64 x.c, .int .i64 x.s] 26).below (below_alloc _ (.cells #[.int .i64 0, .int .i64 0, .slice none 0 0] 24)))
  go_enter Try.func25, Try.ntmps25
  go_wp2_with fail
  refine (HP.out _ L_0.out).mono ?_
  rintro e w1 ⟨qa, ql, qc, rfl, hq, hb', hfr⟩
  have X_1 := Lib.hid (X_0.out.below hb'); have K_1 := Lib.hid (K_0.out.below hb'); have Y_1 := Lib.hid (Y_0.out.below hb'); have B_1 := Lib.hid (B_0.out.trans (Below.mono hb' B_0.out.size))
  have hY := X_0.out.lt
  have HFR := Lib.hid (fun y hy => Nat.lt_of_lt_of_le hY (hfr y hy)); have HF0 := Lib.hid (fun y hy => Nat.le_trans B_0.out.size (hfr y hy)); have HQ := Lib.hid hq
  clear hq hfr hY
  clear hb'
  obtain ⟨BX, hBX⟩ : ∃ x, x = w.heap.size + 2 := ⟨_, rfl⟩
  obtain ⟨BY, hBY⟩ : ∃ x, x = w.heap.size + 1 := ⟨_, rfl⟩
  obtain ⟨BK, hBK⟩ : ∃ x, x = w.heap.size := ⟨_, rfl⟩
  have HBW := Lib.hid (show w.heap.size ≤ BX by omega)
  have hKX : BK ≠ BX := by omega
  have hXK : BX ≠ BK := by omega
  have hYX : BY ≠ BX := by omega
  have hXY : BX ≠ BY := by omega
  rw [← hBX] at X_1 HFR
  try rw [show w.heap.size + 1 + 1 = w.heap.size + 2 from rfl]
  rw [← hBX]
  rw [← hBY] at Y_1 ⊢
  rw [← hBK] at K_1 ⊢
  clear hBX hBY hBK
  have hlt := X_1.out.lt
  have hlt2 := Y_1.out.lt
  have hlt3 := K_1.out.lt
  obtain ⟨c0, c1, c2⟩ := X_1.out.cells3
  obtain ⟨k0, k1, k2⟩ := K_1.out.cells3
  obtain ⟨y0, y1, y2⟩ := Y_1.out.cells3
  have f0 := X_1.out.froz 0; have f1 := X_1.out.froz 1; have f2 := X_1.out.froz 2
  go_wp2_with fail
  have ST := Lib.hid (X_1.out.set3 (.int .i64 1) (.int .i64 by_) (.slice qa ql qc))
  refine bodyPost_ret (v := .tuple #[.agg #[.int .i64 1, .int .i64 by_, .slice qa ql qc], .int .i64 1, .int .i64 0]) (by first | (rw [res_c2 Try.results25 _ (by rfl) (ST.out.load Try.underlying24 inf24)]; rfl)) rfl ⟨qa, ql, qc, rfl, (HQ.out).other _ (fun x hx e => by have := HFR.out x hx; omega) (fun g hg => set3_other _ _ _ _ _ g hg), ?_, HF0.out⟩
  exact below_set3 B_1.out HBW.out _ _ _
end Go.Proofs.Ytnmopfimmindnaa
