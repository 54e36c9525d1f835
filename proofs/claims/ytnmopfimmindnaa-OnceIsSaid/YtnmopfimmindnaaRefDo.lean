/- The reference's Do. -/
import Derived.Test.YtnmopfimmindnaaEnd
namespace Go.Proofs.Ytnmopfimmindnaa
open Go.RowKit
set_option maxRecDepth 100000 in
set_option maxHeartbeats 8000000 in
theorem refDo_first (by_ : Int) (a : Option Addr) (len cap : Nat) (x : Wt) (w : World) :
    Calls Try.prog 15 #[onV 0 by_ a len cap, wV x] w (GotDl w 1 x.g [] 0 0) := by
  go_enter Try.func15, Try.ntmps15
  go_wp2_with fail
  refine bodyPost_ret (v := .tuple #[onV 1 x.g none 0 0, .int .i64 0, .int .i64 0]) (by first | (rw [res_c2 Try.results15 _ (by rfl) ((Bx.new3 w _ _ #[.int .i64 1, .int .i64 x.g, .slice none 0 0] 24).load Try.underlying24 inf24)]; rfl)) rfl ⟨none, 0, 0, rfl, Wts.nil _, ?_⟩
  exact ((below_alloc w _).alloc (by simp) _).alloc (by simp; omega) _
set_option maxRecDepth 100000 in
set_option maxHeartbeats 8000000 in
theorem refDo_later (by_ : Int) (a : Option Addr) (len cap : Nat) (L : List Wt) (x : Wt) (w : World) (hL : Wts w a len cap L) :
    Calls Try.prog 15 #[onV 2 by_ a len cap, wV x] w (GotDl w 2 by_ L 2 0) := by
  have B_0 := Lib.hid (((below_alloc w (.cells (onC 2 by_ a len cap) 24)).alloc (by simp) (.cells #[.int .i64 x.g, .int .i64 x.c, .int .i64 x.s] 26)).alloc (by simp; omega) (.cells (onC 2 by_ a len cap) 24))
  have L_0 := Lib.hid (hL.below B_0.out); clear hL
  go_enter Try.func15, Try.ntmps15
  go_wp2_with fail
  refine bodyPost_ret (v := .tuple #[onV 2 by_ a len cap, .int .i64 2, .int .i64 0]) (by first | (rw [res_c2 Try.results15 _ (by rfl) ((Bx.new3 w _ _ #[.int .i64 2, .int .i64 by_, .slice a len cap] 24).load Try.underlying24 inf24)]; rfl)) rfl ⟨a, len, cap, rfl, L_0.out, B_0.out⟩
set_option maxRecDepth 100000 in
set_option maxHeartbeats 8000000 in
theorem refDo_state (by_ : Int) (a : Option Addr) (len cap : Nat) (x : Wt) (w : World) (hg : by_ = x.g) :
    Calls Try.prog 15 #[onV 1 by_ a len cap, wV x] w (GotDl w 0 0 [] 0 6) := by
  have hb : (by_ == x.g) = true := by rw [beq_iff_eq]; exact hg
  clear hg
  go_enter Try.func15, Try.ntmps15
  go_wp2_with fail
  refine bodyPost_ret (v := .tuple #[onV 0 0 none 0 0, .int .i64 0, .int .i64 6]) (by first | (rw [res_c2 Try.results15 _ (by rfl) ((Bx.new3 w _ _ #[.int .i64 0, .int .i64 0, .slice none 0 0] 24).load Try.underlying24 inf24)]; rfl)) rfl ⟨none, 0, 0, rfl, Wts.nil _, ?_⟩
  exact ((below_alloc w _).alloc (by simp) _).alloc (by simp; omega) _
set_option maxRecDepth 100000 in
set_option maxHeartbeats 8000000 in
theorem refDo_twice (by_ : Int) (a : Option Addr) (len cap : Nat) (L : List Wt) (x : Wt) (w : World) (hL : Wts w a len cap L) (hne : by_ ≠ x.g) (hh : hasW L x.g x.c = true) :
    Calls Try.prog 15 #[onV 1 by_ a len cap, wV x] w (GotDl w 0 0 [] 0 7) := by
  have HH := Lib.hid (fun W (h : Wts W a len cap L) => refHas_any a len cap L x.g x.c W h)
  rw [hh] at HH
  have hb : (by_ == x.g) = false := by rw [beq_eq_false_iff_ne]; exact hne
  have HOKL := Lib.hid hL.ok
  clear hne hh
  have B_0 := Lib.hid (((below_alloc w (.cells (onC 1 by_ a len cap) 24)).alloc (by simp) (.cells #[.int .i64 x.g, .int .i64 x.c, .int .i64 x.s] 26)).alloc (by simp; omega) (.cells #[.int .i64 0, .int .i64 0, .slice none 0 0] 24))
  have L_0 := Lib.hid (hL.below B_0.out); clear hL
  have X_0 := Lib.hid (Bx.new3 w (.cells (onC 1 by_ a len cap) 24) (.cells #[.int .i64 x.g, .int .i64 x.c, .int .i64 x.s] 26) #[.int .i64 0, .int .i64 0, .slice none 0 0] 24)
  have K_0 := Lib.hid (((Bx.new w (onC 1 by_ a len cap) 24).below (below_alloc _ (.cells #[.int .i64 x.g, .int .i64 x.c, .int .i64 x.s] 26))).below (below_alloc _ (.cells #[.int .i64 0, .int .i64 0, .slice none 0 0] 24)))
  have Y_0 := Lib.hid ((Bx.new2 w (.cells (onC 1 by_ a len cap) 24) #[.int .i64 x.g, .int .i64 x.c, .int .i64 x.s] 26).below (below_alloc _ (.cells #[.int .i64 0, .int .i64 0, .slice none 0 0] 24)))
  go_enter Try.func15, Try.ntmps15
  go_wp2_with fail
  refine (HH.out _ L_0.out).mono ?_
  rintro e w1 ⟨rfl, hb'⟩
  have X_1 := Lib.hid (X_0.out.below hb'); have K_1 := Lib.hid (K_0.out.below hb'); have Y_1 := Lib.hid (Y_0.out.below hb'); have B_1 := Lib.hid (B_0.out.trans (Below.mono hb' B_0.out.size)); have L_1 := Lib.hid (L_0.out.below hb')
  clear hb'
  obtain ⟨BX, hBX⟩ : ∃ x, x = w.heap.size + 2 := ⟨_, rfl⟩
  obtain ⟨BY, hBY⟩ : ∃ x, x = w.heap.size + 1 := ⟨_, rfl⟩
  obtain ⟨BK, hBK⟩ : ∃ x, x = w.heap.size := ⟨_, rfl⟩
  have HBW := Lib.hid (show w.heap.size ≤ BX by omega)
  have hKX : BK ≠ BX := by omega
  have hXK : BX ≠ BK := by omega
  have hYX : BY ≠ BX := by omega
  have hXY : BX ≠ BY := by omega
  rw [← hBX] at X_1
  try rw [show w.heap.size + 1 + 1 = w.heap.size + 2 from rfl]
  rw [← hBX]
  rw [← hBY] at Y_1 ⊢
  rw [← hBK] at K_1 ⊢
  have HBV := Lib.hid (show w.heap.size ≤ BK by omega)
  have hKY : BK ≠ BY := by omega
  have hYK : BY ≠ BK := by omega
  clear hBX hBY hBK
  have hlt := X_1.out.lt
  have hlt2 := Y_1.out.lt
  have hlt3 := K_1.out.lt
  obtain ⟨c0, c1, c2⟩ := X_1.out.cells3
  obtain ⟨k0, k1, k2⟩ := K_1.out.cells3
  obtain ⟨y0, y1, y2⟩ := Y_1.out.cells3
  have f0 := X_1.out.froz 0; have f1 := X_1.out.froz 1; have f2 := X_1.out.froz 2
  go_wp2_with fail
  have ST := Lib.hid (X_1.out.set3 (.int .i64 0) (.int .i64 0) (.slice none 0 0))
  refine bodyPost_ret (v := .tuple #[onV 0 0 none 0 0, .int .i64 0, .int .i64 7]) (by first | (rw [res_c2 Try.results15 _ (by rfl) (ST.out.load Try.underlying24 inf24)]; rfl)) rfl ⟨none, 0, 0, rfl, Wts.nil _, ?_⟩
  exact below_set3 B_1.out HBW.out _ _ _
set_option maxRecDepth 100000 in
set_option maxHeartbeats 8000000 in
theorem refDo_full (by_ : Int) (a : Option Addr) (len cap : Nat) (L : List Wt) (x : Wt) (w : World) (hL : Wts w a len cap L) (hne : by_ ≠ x.g) (hh : hasW L x.g x.c = false) (hf : len = 64) :
    Calls Try.prog 15 #[onV 1 by_ a len cap, wV x] w (GotDl w 0 0 [] 0 5) := by
  have HH := Lib.hid (fun W (h : Wts W a len cap L) => refHas_any a len cap L x.g x.c W h)
  rw [hh] at HH
  have hb : (by_ == x.g) = false := by rw [beq_eq_false_iff_ne]; exact hne
  have HOKL := Lib.hid hL.ok
  clear hne hh
  have hfb : ((len : Int) == 64) = true := by rw [beq_iff_eq]; omega
  clear hf
  have B_0 := Lib.hid (((below_alloc w (.cells (onC 1 by_ a len cap) 24)).alloc (by simp) (.cells #[.int .i64 x.g, .int .i64 x.c, .int .i64 x.s] 26)).alloc (by simp; omega) (.cells #[.int .i64 0, .int .i64 0, .slice none 0 0] 24))
  have L_0 := Lib.hid (hL.below B_0.out); clear hL
  have X_0 := Lib.hid (Bx.new3 w (.cells (onC 1 by_ a len cap) 24) (.cells #[.int .i64 x.g, .int .i64 x.c, .int .i64 x.s] 26) #[.int .i64 0, .int .i64 0, .slice none 0 0] 24)
  have K_0 := Lib.hid (((Bx.new w (onC 1 by_ a len cap) 24).below (below_alloc _ (.cells #[.int .i64 x.g, .int .i64 x.c, .int .i64 x.s] 26))).below (below_alloc _ (.cells #[.int .i64 0, .int .i64 0, .slice none 0 0] 24)))
  have Y_0 := Lib.hid ((Bx.new2 w (.cells (onC 1 by_ a len cap) 24) #[.int .i64 x.g, .int .i64 x.c, .int .i64 x.s] 26).below (below_alloc _ (.cells #[.int .i64 0, .int .i64 0, .slice none 0 0] 24)))
  go_enter Try.func15, Try.ntmps15
  go_wp2_with fail
  refine (HH.out _ L_0.out).mono ?_
  rintro e w1 ⟨rfl, hb'⟩
  have X_1 := Lib.hid (X_0.out.below hb'); have K_1 := Lib.hid (K_0.out.below hb'); have Y_1 := Lib.hid (Y_0.out.below hb'); have B_1 := Lib.hid (B_0.out.trans (Below.mono hb' B_0.out.size)); have L_1 := Lib.hid (L_0.out.below hb')
  clear hb'
  obtain ⟨BX, hBX⟩ : ∃ x, x = w.heap.size + 2 := ⟨_, rfl⟩
  obtain ⟨BY, hBY⟩ : ∃ x, x = w.heap.size + 1 := ⟨_, rfl⟩
  obtain ⟨BK, hBK⟩ : ∃ x, x = w.heap.size := ⟨_, rfl⟩
  have HBW := Lib.hid (show w.heap.size ≤ BX by omega)
  have hKX : BK ≠ BX := by omega
  have hXK : BX ≠ BK := by omega
  have hYX : BY ≠ BX := by omega
  have hXY : BX ≠ BY := by omega
  rw [← hBX] at X_1
  try rw [show w.heap.size + 1 + 1 = w.heap.size + 2 from rfl]
  rw [← hBX]
  rw [← hBY] at Y_1 ⊢
  rw [← hBK] at K_1 ⊢
  have HBV := Lib.hid (show w.heap.size ≤ BK by omega)
  have hKY : BK ≠ BY := by omega
  have hYK : BY ≠ BK := by omega
  clear hBX hBY hBK
  have hlt := X_1.out.lt
  have hlt2 := Y_1.out.lt
  have hlt3 := K_1.out.lt
  obtain ⟨c0, c1, c2⟩ := X_1.out.cells3
  obtain ⟨k0, k1, k2⟩ := K_1.out.cells3
  obtain ⟨y0, y1, y2⟩ := Y_1.out.cells3
  have f0 := X_1.out.froz 0; have f1 := X_1.out.froz 1; have f2 := X_1.out.froz 2
  go_wp2_with fail
  have ST := Lib.hid (X_1.out.set3 (.int .i64 0) (.int .i64 0) (.slice none 0 0))
  refine bodyPost_ret (v := .tuple #[onV 0 0 none 0 0, .int .i64 0, .int .i64 5]) (by first | (rw [res_c2 Try.results15 _ (by rfl) (ST.out.load Try.underlying24 inf24)]; rfl)) rfl ⟨none, 0, 0, rfl, Wts.nil _, ?_⟩
  exact below_set3 B_1.out HBW.out _ _ _
set_option maxRecDepth 100000 in
set_option maxHeartbeats 8000000 in
theorem refDo_ok (by_ : Int) (a : Option Addr) (len cap : Nat) (L : List Wt) (x : Wt) (w : World) (hL : Wts w a len cap L) (hne : by_ ≠ x.g) (hx : WtOk x) (hh : hasW L x.g x.c = false) (hf : len ≠ 64) (hl : len ≤ 1000) :
    Calls Try.prog 15 #[onV 1 by_ a len cap, wV x] w (GotDl w 1 by_ (L ++ [x]) 1 0) := by
  have HH := Lib.hid (fun W (h : Wts W a len cap L) => refHas_any a len cap L x.g x.c W h)
  rw [hh] at HH
  have hb : (by_ == x.g) = false := by rw [beq_eq_false_iff_ne]; exact hne
  have HOKL := Lib.hid hL.ok
  clear hne hh
  have hfb : ((len : Int) == 64) = false := by rw [beq_eq_false_iff_ne]; omega
  have HLL := Lib.hid hL.recs.len_eq
  have HX := Lib.hid hx
  clear hx hf
  have B_0 := Lib.hid (((below_alloc w (.cells (onC 1 by_ a len cap) 24)).alloc (by simp) (.cells #[.int .i64 x.g, .int .i64 x.c, .int .i64 x.s] 26)).alloc (by simp; omega) (.cells #[.int .i64 0, .int .i64 0, .slice none 0 0] 24))
  have L_0 := Lib.hid (hL.below B_0.out); clear hL
  have X_0 := Lib.hid (Bx.new3 w (.cells (onC 1 by_ a len cap) 24) (.cells #[.int .i64 x.g, .int .i64 x.c, .int .i64 x.s] 26) #[.int .i64 0, .int .i64 0, .slice none 0 0] 24)
  have K_0 := Lib.hid (((Bx.new w (onC 1 by_ a len cap) 24).below (below_alloc _ (.cells #[.int .i64 x.g, .int .i64 x.c, .int .i64 x.s] 26))).below (below_alloc _ (.cells #[.int .i64 0, .int .i64 0, .slice none 0 0] 24)))
  have Y_0 := Lib.hid ((Bx.new2 w (.cells (onC 1 by_ a len cap) 24) #[.int .i64 x.g, .int .i64 x.c, .int .i64 x.s] 26).below (below_alloc _ (.cells #[.int .i64 0, .int .i64 0, .slice none 0 0] 24)))
  go_enter Try.func15, Try.ntmps15
  go_wp2_with fail
  refine (HH.out _ L_0.out).mono ?_
  rintro e w1 ⟨rfl, hb'⟩
  have X_1 := Lib.hid (X_0.out.below hb'); have K_1 := Lib.hid (K_0.out.below hb'); have Y_1 := Lib.hid (Y_0.out.below hb'); have B_1 := Lib.hid (B_0.out.trans (Below.mono hb' B_0.out.size)); have L_1 := Lib.hid (L_0.out.below hb')
  clear hb'
  obtain ⟨BX, hBX⟩ : ∃ x, x = w.heap.size + 2 := ⟨_, rfl⟩
  obtain ⟨BY, hBY⟩ : ∃ x, x = w.heap.size + 1 := ⟨_, rfl⟩
  obtain ⟨BK, hBK⟩ : ∃ x, x = w.heap.size := ⟨_, rfl⟩
  have HBW := Lib.hid (show w.heap.size ≤ BX by omega)
  have hKX : BK ≠ BX := by omega
  have hXK : BX ≠ BK := by omega
  have hYX : BY ≠ BX := by omega
  have hXY : BX ≠ BY := by omega
  rw [← hBX] at X_1
  try rw [show w.heap.size + 1 + 1 = w.heap.size + 2 from rfl]
  rw [← hBX]
  rw [← hBY] at Y_1 ⊢
  rw [← hBK] at K_1 ⊢
  have HBV := Lib.hid (show w.heap.size ≤ BK by omega)
  have hKY : BK ≠ BY := by omega
  have hYK : BY ≠ BK := by omega
  clear hBX hBY hBK
  have hlt := X_1.out.lt
  have hlt2 := Y_1.out.lt
  have hlt3 := K_1.out.lt
  obtain ⟨c0, c1, c2⟩ := X_1.out.cells3
  obtain ⟨k0, k1, k2⟩ := K_1.out.cells3
  obtain ⟨y0, y1, y2⟩ := Y_1.out.cells3
  have f0 := X_1.out.froz 0; have f1 := X_1.out.froz 1; have f2 := X_1.out.froz 2
  go_wp2_with (first
    | (at_builtin; refine wpList_appR rfl (.tmp 38) (.tmp 40) rfl w1.heap.size _ [] rfl (ownR_empty (heap_alloc_new w1 _) (Nat.le_refl _)) _ _ _ L rfl (L_1.out.below (below_alloc w1 _)).recs (by simp) (by omega) (by simp) ?_; intro v' w' ho hg; have HB : Hid (Below w1.heap.size w1 w') := Lib.hid ((below_alloc w1 (.cells #[] 26)).grown hg.out (by simp) (fun r hr => by cases hr; exact Nat.le_refl _)); have HO : Hid (OwnW w' w1.heap.size v' L) := Lib.hid (by have h := ho.out; rw [List.nil_append] at h; exact h); clear ho hg c0 c1 c2 k0 k1 k2 y0 y1 y2 f0 f1 f2; have X_2 := Lib.hid (X_1.out.below HB.out); have Y_2 := Lib.hid (Y_1.out.below HB.out); have B_2 := Lib.hid (B_1.out.trans (Below.mono HB.out B_1.out.size)); obtain ⟨y0, y1, y2⟩ := Y_2.out.cells3)
    | (at_builtin; refine wpList_appR rfl (.tmp 42) (.tmp 44) rfl w1.heap.size _ L rfl (OwnR.below HO.out (below_alloc _ _)) _ 1 1 [x] rfl (recs_one (Box3.new _ x)) (by rw [HLL.out]; omega) (by omega) (by have := HB.out.size; simp; omega) ?_; intro v2 w2 ho2 hg2; have HB2 : Hid (Below w1.heap.size w1 w2) := Lib.hid (Below.grown (belowX_alloc HB.out _) hg2.out (by have := HB.out.size; simp; omega) (fun r hr => OwnR.lt HO.out r hr)); have hfr : Hid (∀ r, v2.ownBlock = some r → w1.heap.size ≤ r) := Lib.hid (fun r hr => OwnR.lt ho2.out r hr); obtain ⟨qa, ql, qc, hv2, hq0⟩ := own_wts ho2.out (ok_snoc (fun y hy => HOKL.out y hy) HX.out); subst hv2; have hq := Lib.hid hq0; clear y0 y1 y2 hg2 ho2 hq0; have X_3 := Lib.hid (X_1.out.below HB2.out); have K_3 := Lib.hid (K_1.out.below HB2.out); have B_3 := Lib.hid (B_1.out.trans (Below.mono HB2.out B_1.out.size)); have hlt4 := X_3.out.lt; have hlt5 := K_3.out.lt; obtain ⟨c0, c1, c2⟩ := X_3.out.cells3; obtain ⟨k0, k1, k2⟩ := K_3.out.cells3; have f0 := X_3.out.froz 0; have f1 := X_3.out.froz 1; have f2 := X_3.out.froz 2; have kf := K_3.out.froz 2))
  have SK := K_3.out.set 2 (.slice qa ql qc)
  have SX0 : Bx (w2.setCell ⟨BK, 2, none⟩ (.slice qa ql qc)) BX #[.int .i64 0, .int .i64 0, .slice none 0 0] 24 := (Below.heap_setCell _ _ _ _ (by exact hXK)).trans X_3.out
  have ST := Lib.hid (SX0.set3 (.int .i64 1) (.int .i64 by_) (.slice qa ql qc))
  refine bodyPost_ret (v := .tuple #[onV 1 by_ qa ql qc, .int .i64 1, .int .i64 0]) (by first | (rw [res_c2 Try.results15 _ (by rfl) (ST.out.load Try.underlying24 inf24)]; rfl)) rfl ⟨qa, ql, qc, rfl, ?_, ?_⟩
  · refine ((hq.out.other BK (fun y hy e => ?_) (fun g hg => Below.heap_setCell _ _ _ _ (by exact hg))).other BX (fun y hy e => ?_) (fun g hg => set3_other _ _ _ _ _ g hg))
    · have := hfr.out y.block (by rw [hy]; rfl); have := K_1.out.lt; omega
    · have := hfr.out y.block (by rw [hy]; rfl); have := X_1.out.lt; omega
  · exact below_set3 (B_3.out.setCell (p := ⟨BK, 2, none⟩) HBV.out _) HBW.out _ _ _
theorem refDo_any (st by_ : Int) (a : Option Addr) (len cap : Nat) (L : List Wt) (x : Wt) (w : World) (hL : Wts w a len cap L) (hx : WtOk x) (hr : rightO st by_ L = true) (hl : len ≤ 1000) :
    Calls Try.prog 15 #[onV st by_ a len cap, wV x] w (GotDl w (doZ st by_ L x).1 (doZ st by_ L x).2.1 (doZ st by_ L x).2.2.1 (doZ st by_ L x).2.2.2.1 (doZ st by_ L x).2.2.2.2) := by
  obtain ⟨h1, h2, h3, hrw, hmet, hno⟩ := rightO_parts hr
  have hlen := hL.recs.len_eq
  have hst : st = 0 ∨ st = 1 ∨ st = 2 := by omega
  rcases hst with rfl | rfl | rfl
  · exact refDo_first by_ a len cap x w
  · by_cases hg : by_ = x.g
    · have e : doZ 1 by_ L x = (0, 0, [], 0, 6) := by simp [doZ, hg]
      rw [e]
      exact refDo_state by_ a len cap x w hg
    · cases hh : hasW L x.g x.c with
      | true =>
        have e : doZ 1 by_ L x = (0, 0, [], 0, 7) := by simp [doZ, hg, hh]
        rw [e]
        exact refDo_twice by_ a len cap L x w hL hg hh
      | false =>
        by_cases hf : len = 64
        · have e : doZ 1 by_ L x = (0, 0, [], 0, 5) := by simp [doZ, hg, hh, hlen, hf]
          rw [e]
          exact refDo_full by_ a len cap L x w hL hg hh hf
        · have e : doZ 1 by_ L x = (1, by_, L ++ [x], 1, 0) := by simp [doZ, hg, hh, hlen, hf]
          rw [e]
          exact refDo_ok by_ a len cap L x w hL hg hx hh hf hl
  · obtain ⟨rfl, rfl⟩ := hno (by decide)
    exact refDo_later 0 a len cap [] x w hL
end Go.Proofs.Ytnmopfimmindnaa
