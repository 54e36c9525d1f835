/- The reference's Take and Give; few. -/
import Derived.Test.YtipjdkaibkmciaaRefs
namespace Go.Proofs.Ytipjdkaibkmciaa
open Go.RowKit
def GotL (w : World) (h : Bool) (L : List Wt) (is : Bool) (why : Int) (e : Ending) (w' : World) : Prop := ∃ a len cap, e = .returned (.tuple #[lkV h a len cap, .bool is, .int .i64 why]) ∧ Wts w' a len cap L ∧ Below w.heap.size w w'
def GotRG (w : World) (h : Bool) (L : List Wt) (x : Wt) (is : Bool) (e : Ending) (w' : World) : Prop := ∃ a len cap, e = .returned (.tuple #[lkV h a len cap, wV x, .bool is]) ∧ Wts w' a len cap L ∧ Below w.heap.size w w'
theorem rg_done {w X : World} {BX BY bb o n c : Nat} {ys : List Wt} {v0 v1 u0 u1 u2 : Value} (hT : Wts X (some ⟨bb, o, none⟩) n c ys) (hX : Bx X BX #[v0, v1] 24) (hY : Bx X BY #[u0, u1, u2] 26) (h1 : bb ≠ BX) (h2 : bb ≠ BY) (h3 : BX ≠ BY) (hb : Below w.heap.size w X) (h4 : w.heap.size ≤ BX) (h5 : w.heap.size ≤ BY) (y : Wt) :
    Bx (set3c (set2c X BX (.bool true) (.slice (some ⟨bb, o, none⟩) n c)) BY (.int .i64 y.g) (.int .i64 y.c) (.int .i64 y.s)).drew BX #[.bool true, .slice (some ⟨bb, o, none⟩) n c] 24
    ∧ Bx (set3c (set2c X BX (.bool true) (.slice (some ⟨bb, o, none⟩) n c)) BY (.int .i64 y.g) (.int .i64 y.c) (.int .i64 y.s)).drew BY #[.int .i64 y.g, .int .i64 y.c, .int .i64 y.s] 26
    ∧ Wts (set3c (set2c X BX (.bool true) (.slice (some ⟨bb, o, none⟩) n c)) BY (.int .i64 y.g) (.int .i64 y.c) (.int .i64 y.s)).drew (some ⟨bb, o, none⟩) n c ys
    ∧ Below w.heap.size w (set3c (set2c X BX (.bool true) (.slice (some ⟨bb, o, none⟩) n c)) BY (.int .i64 y.g) (.int .i64 y.c) (.int .i64 y.s)).drew := by
  have a1 : Bx (set3c (set2c X BX (.bool true) (.slice (some ⟨bb, o, none⟩) n c)) BY (.int .i64 y.g) (.int .i64 y.c) (.int .i64 y.s)) BX _ 24 := (set3_other _ _ _ _ _ BX h3).trans (hX.set2 _ _)
  have a2 : Bx (set2c X BX (.bool true) (.slice (some ⟨bb, o, none⟩) n c)) BY _ 26 := (set2_other _ _ _ _ BY h3.symm).trans hY
  have a3 := (hT.other BX (fun x hx e => by cases hx; exact h1 e) (fun g hg => set2_other X BX (.bool true) (.slice (some ⟨bb, o, none⟩) n c) g hg)).other BY (fun x hx e => by cases hx; exact h2 e) (fun g hg => set3_other _ BY (.int .i64 y.g) (.int .i64 y.c) (.int .i64 y.s) g hg)
  exact ⟨a1.below (Below.refl _ _).drew, (a2.set3 _ _ _).below (Below.refl _ _).drew, a3.drew, (below_set3 (below_set2 hb h4 _ _) h5 _ _ _).drew⟩
theorem res_cc1' {fn : Func} {p q u : Tmp} {ty ty2 : TypeId} (h : fn.results = #[.cell p ty, .cell q ty2, .tmp u]) (tmps : Array Value) (w : World) :
    (results fn tmps).run Try.prog w = ((asAddr (tmps.getD p undef)).run Try.prog w).andThen fun a w₁ => ((loadVar ty a).run Try.prog w₁).andThen fun v w₂ => ((asAddr (tmps.getD q undef)).run Try.prog w₂).andThen fun a2 w₃ => ((loadVar ty2 a2).run Try.prog w₃).andThen fun v2 w₄ => .ok (.tuple #[v, v2, tmps.getD u undef]) w₄ := by
  simp only [results, h]
  simp [Sem.run_bind, Result.andThen]
theorem res_cc1 {fn : Func} {p q u : Tmp} {ty ty2 : TypeId} (h : fn.results = #[.cell p ty, .cell q ty2, .tmp u]) (tmps : Array Value) {W : World} {B C : Nat} {v v2 : Value} (hp : tmps.getD p undef = .pointer (some ⟨B, 0, none⟩)) (hg : (loadVar ty ⟨B, 0, none⟩).run Try.prog W = .ok v W) (hq : tmps.getD q undef = .pointer (some ⟨C, 0, none⟩)) (hg2 : (loadVar ty2 ⟨C, 0, none⟩).run Try.prog W = .ok v2 W) :
    (results fn tmps).run Try.prog W = .ok (.tuple #[v, v2, tmps.getD u undef]) W := by
  rw [res_cc1' h, hp, hq]
  simp [asAddr, Result.andThen, hg, hg2]
set_option maxRecDepth 100000 in
set_option maxHeartbeats 4000000 in
theorem refTake_free (a : Option Addr) (len cap : Nat) (L : List Wt) (x : Wt) (w : World) (hL : Wts w a len cap L) :
    Calls Try.prog 15 #[lkV false a len cap, wV x] w (GotL w true [] true 0) := by
  go_enter Try.func15, Try.ntmps15
  go_wp2_with fail
  refine bodyPost_ret (v := .tuple #[lkV true none 0 0, .bool true, .int .i64 0]) (by first | (rw [res_c2 Try.results15 _ (by rfl) ((Bx.new3 w _ _ #[.bool true, .slice none 0 0] 24).load Try.underlying24 inf24)]; rfl)) rfl ⟨none, 0, 0, rfl, Wts.nil _, ?_⟩
  exact ((below_alloc w _).alloc (by simp) _).alloc (by simp; omega) _
set_option maxRecDepth 100000 in
set_option maxHeartbeats 4000000 in
theorem refTake_twice (a : Option Addr) (len cap : Nat) (L : List Wt) (x : Wt) (w : World) (hL : Wts w a len cap L) (hh : hasW L x.g x.c = true) :
    Calls Try.prog 15 #[lkV true a len cap, wV x] w (GotL w false [] false 7) := by
  have HH := Lib.hid (fun W (h : Wts W a len cap L) => refHas_any a len cap L x.g x.c W h)
  rw [hh] at HH
  have B_0 := Lib.hid (((below_alloc w (.cells #[.bool true, .slice a len cap] 24)).alloc (by simp) (.cells #[.int .i64 x.g, .int .i64 x.c, .int .i64 x.s] 26)).alloc (by simp; omega) (.cells #[.bool false, .slice none 0 0] 24))
  have L_0 := Lib.hid (hL.below B_0.out); clear hL
  have X_0 := Lib.hid (Bx.new3 w (.cells #[.bool true, .slice a len cap] 24) (.cells #[.int .i64 x.g, .int .i64 x.c, .int .i64 x.s] 26) #[.bool false, .slice none 0 0] 24)
  have K_0 := Lib.hid (((Bx.new w #[.bool true, .slice a len cap] 24).below (below_alloc _ (.cells #[.int .i64 x.g, .int .i64 x.c, .int .i64 x.s] 26))).below (below_alloc _ (.cells #[.bool false, .slice none 0 0] 24)))
  have Y_0 := Lib.hid ((Bx.new2 w (.cells #[.bool true, .slice a len cap] 24) #[.int .i64 x.g, .int .i64 x.c, .int .i64 x.s] 26).below (below_alloc _ (.cells #[.bool false, .slice none 0 0] 24)))
  go_enter Try.func15, Try.ntmps15
  go_wp2_with fail
  refine (HH.out _ L_0.out).mono ?_
  rintro e w1 ⟨rfl, hb⟩
  have X_1 := Lib.hid (X_0.out.below hb); have K_1 := Lib.hid (K_0.out.below hb); have Y_1 := Lib.hid (Y_0.out.below hb); have B_1 := Lib.hid (B_0.out.trans (Below.mono hb B_0.out.size)); have L_1 := Lib.hid (L_0.out.below hb)
  clear hb
  obtain ⟨BX, hBX⟩ : ∃ x, x = w.heap.size + 2 := ⟨_, rfl⟩
  obtain ⟨BY, hBY⟩ : ∃ x, x = w.heap.size + 1 := ⟨_, rfl⟩
  obtain ⟨BK, hBK⟩ : ∃ x, x = w.heap.size := ⟨_, rfl⟩
  have HBW := Lib.hid (show w.heap.size ≤ BX by omega)
  have HBV := Lib.hid (show w.heap.size ≤ BY by omega)
  have hKX : BK ≠ BX := by omega
  have hXK : BX ≠ BK := by omega
  have hYX : BY ≠ BX := by omega
  have hXY : BX ≠ BY := by omega
  rw [← hBX] at X_1
  try rw [show w.heap.size + 1 + 1 = w.heap.size + 2 from rfl]
  rw [← hBX]
  rw [← hBY] at Y_1 ⊢
  rw [← hBK] at K_1 ⊢
  clear hBX hBY hBK
  have hlt := X_1.out.lt
  have hlt2 := Y_1.out.lt
  have hlt3 := K_1.out.lt
  obtain ⟨c0, c1⟩ := X_1.out.cells2
  obtain ⟨k0, k1⟩ := K_1.out.cells2
  obtain ⟨y0, y1, y2⟩ := Y_1.out.cells3
  have f0 := X_1.out.froz 0; have f1 := X_1.out.froz 1
  go_wp2_with fail
  have ST := Lib.hid (X_1.out.set2 (.bool false) (.slice none 0 0))
  refine bodyPost_ret (v := .tuple #[lkV false none 0 0, .bool false, .int .i64 7]) (by first | (rw [res_c2 Try.results15 _ (by rfl) (ST.out.load Try.underlying24 inf24)]; rfl)) rfl ⟨none, 0, 0, rfl, Wts.nil _, ?_⟩
  exact below_set2 B_1.out HBW.out _ _
set_option maxRecDepth 100000 in
set_option maxHeartbeats 4000000 in
theorem refTake_full (a : Option Addr) (len cap : Nat) (L : List Wt) (x : Wt) (w : World) (hL : Wts w a len cap L) (hh : hasW L x.g x.c = false) (hf : len = 64) :
    Calls Try.prog 15 #[lkV true a len cap, wV x] w (GotL w false [] false 5) := by
  have HH := Lib.hid (fun W (h : Wts W a len cap L) => refHas_any a len cap L x.g x.c W h)
  rw [hh] at HH
  have hfb : ((len : Int) == 64) = true := by rw [beq_iff_eq]; omega
  clear hf
  have B_0 := Lib.hid (((below_alloc w (.cells #[.bool true, .slice a len cap] 24)).alloc (by simp) (.cells #[.int .i64 x.g, .int .i64 x.c, .int .i64 x.s] 26)).alloc (by simp; omega) (.cells #[.bool false, .slice none 0 0] 24))
  have L_0 := Lib.hid (hL.below B_0.out); clear hL
  have X_0 := Lib.hid (Bx.new3 w (.cells #[.bool true, .slice a len cap] 24) (.cells #[.int .i64 x.g, .int .i64 x.c, .int .i64 x.s] 26) #[.bool false, .slice none 0 0] 24)
  have K_0 := Lib.hid (((Bx.new w #[.bool true, .slice a len cap] 24).below (below_alloc _ (.cells #[.int .i64 x.g, .int .i64 x.c, .int .i64 x.s] 26))).below (below_alloc _ (.cells #[.bool false, .slice none 0 0] 24)))
  have Y_0 := Lib.hid ((Bx.new2 w (.cells #[.bool true, .slice a len cap] 24) #[.int .i64 x.g, .int .i64 x.c, .int .i64 x.s] 26).below (below_alloc _ (.cells #[.bool false, .slice none 0 0] 24)))
  go_enter Try.func15, Try.ntmps15
  go_wp2_with fail
  refine (HH.out _ L_0.out).mono ?_
  rintro e w1 ⟨rfl, hb⟩
  have X_1 := Lib.hid (X_0.out.below hb); have K_1 := Lib.hid (K_0.out.below hb); have Y_1 := Lib.hid (Y_0.out.below hb); have B_1 := Lib.hid (B_0.out.trans (Below.mono hb B_0.out.size)); have L_1 := Lib.hid (L_0.out.below hb)
  clear hb
  obtain ⟨BX, hBX⟩ : ∃ x, x = w.heap.size + 2 := ⟨_, rfl⟩
  obtain ⟨BY, hBY⟩ : ∃ x, x = w.heap.size + 1 := ⟨_, rfl⟩
  obtain ⟨BK, hBK⟩ : ∃ x, x = w.heap.size := ⟨_, rfl⟩
  have HBW := Lib.hid (show w.heap.size ≤ BX by omega)
  have HBV := Lib.hid (show w.heap.size ≤ BY by omega)
  have hKX : BK ≠ BX := by omega
  have hXK : BX ≠ BK := by omega
  have hYX : BY ≠ BX := by omega
  have hXY : BX ≠ BY := by omega
  rw [← hBX] at X_1
  try rw [show w.heap.size + 1 + 1 = w.heap.size + 2 from rfl]
  rw [← hBX]
  rw [← hBY] at Y_1 ⊢
  rw [← hBK] at K_1 ⊢
  clear hBX hBY hBK
  have hlt := X_1.out.lt
  have hlt2 := Y_1.out.lt
  have hlt3 := K_1.out.lt
  obtain ⟨c0, c1⟩ := X_1.out.cells2
  obtain ⟨k0, k1⟩ := K_1.out.cells2
  obtain ⟨y0, y1, y2⟩ := Y_1.out.cells3
  have f0 := X_1.out.froz 0; have f1 := X_1.out.froz 1
  go_wp2_with fail
  have ST := Lib.hid (X_1.out.set2 (.bool false) (.slice none 0 0))
  refine bodyPost_ret (v := .tuple #[lkV false none 0 0, .bool false, .int .i64 5]) (by first | (rw [res_c2 Try.results15 _ (by rfl) (ST.out.load Try.underlying24 inf24)]; rfl)) rfl ⟨none, 0, 0, rfl, Wts.nil _, ?_⟩
  exact below_set2 B_1.out HBW.out _ _
set_option maxRecDepth 100000 in
set_option maxHeartbeats 4000000 in
theorem refTake_ok (a : Option Addr) (len cap : Nat) (L : List Wt) (x : Wt) (w : World) (hL : Wts w a len cap L) (hx : WtOk x) (hh : hasW L x.g x.c = false) (hf : len ≠ 64) (hl : len ≤ 1000) :
    Calls Try.prog 15 #[lkV true a len cap, wV x] w (GotL w true (L ++ [x]) false 0) := by
  have HH := Lib.hid (fun W (h : Wts W a len cap L) => refHas_any a len cap L x.g x.c W h)
  rw [hh] at HH
  have hfb : ((len : Int) == 64) = false := by rw [beq_eq_false_iff_ne]; omega
  have HLL := Lib.hid hL.recs.len_eq
  have B_0 := Lib.hid (((below_alloc w (.cells #[.bool true, .slice a len cap] 24)).alloc (by simp) (.cells #[.int .i64 x.g, .int .i64 x.c, .int .i64 x.s] 26)).alloc (by simp; omega) (.cells #[.bool false, .slice none 0 0] 24))
  have L_0 := Lib.hid (hL.below B_0.out); clear hL
  have X_0 := Lib.hid (Bx.new3 w (.cells #[.bool true, .slice a len cap] 24) (.cells #[.int .i64 x.g, .int .i64 x.c, .int .i64 x.s] 26) #[.bool false, .slice none 0 0] 24)
  have K_0 := Lib.hid (((Bx.new w #[.bool true, .slice a len cap] 24).below (below_alloc _ (.cells #[.int .i64 x.g, .int .i64 x.c, .int .i64 x.s] 26))).below (below_alloc _ (.cells #[.bool false, .slice none 0 0] 24)))
  have Y_0 := Lib.hid ((Bx.new2 w (.cells #[.bool true, .slice a len cap] 24) #[.int .i64 x.g, .int .i64 x.c, .int .i64 x.s] 26).below (below_alloc _ (.cells #[.bool false, .slice none 0 0] 24)))
  go_enter Try.func15, Try.ntmps15
  go_wp2_with fail
  refine (HH.out _ L_0.out).mono ?_
  rintro e w1 ⟨rfl, hb⟩
  have X_1 := Lib.hid (X_0.out.below hb); have K_1 := Lib.hid (K_0.out.below hb); have Y_1 := Lib.hid (Y_0.out.below hb); have B_1 := Lib.hid (B_0.out.trans (Below.mono hb B_0.out.size)); have L_1 := Lib.hid (L_0.out.below hb)
  clear hb
  obtain ⟨BX, hBX⟩ : ∃ x, x = w.heap.size + 2 := ⟨_, rfl⟩
  obtain ⟨BY, hBY⟩ : ∃ x, x = w.heap.size + 1 := ⟨_, rfl⟩
  obtain ⟨BK, hBK⟩ : ∃ x, x = w.heap.size := ⟨_, rfl⟩
  have HBW := Lib.hid (show w.heap.size ≤ BX by omega)
  have HBV := Lib.hid (show w.heap.size ≤ BY by omega)
  have hKX : BK ≠ BX := by omega
  have hXK : BX ≠ BK := by omega
  have hYX : BY ≠ BX := by omega
  have hXY : BX ≠ BY := by omega
  rw [← hBX] at X_1
  try rw [show w.heap.size + 1 + 1 = w.heap.size + 2 from rfl]
  rw [← hBX]
  rw [← hBY] at Y_1 ⊢
  rw [← hBK] at K_1 ⊢
  clear hBX hBY hBK
  have hlt := X_1.out.lt
  have hlt2 := Y_1.out.lt
  have hlt3 := K_1.out.lt
  obtain ⟨c0, c1⟩ := X_1.out.cells2
  obtain ⟨k0, k1⟩ := K_1.out.cells2
  obtain ⟨y0, y1, y2⟩ := Y_1.out.cells3
  have f0 := X_1.out.froz 0; have f1 := X_1.out.froz 1
  have HX := Lib.hid hx; clear hx hf
  go_wp2_with (first
    | (at_builtin; refine wpList_appR rfl (.tmp 26) (.tmp 28) rfl w1.heap.size _ [] rfl (ownR_empty (heap_alloc_new w1 _) (Nat.le_refl _)) _ _ _ L rfl (L_1.out.below (below_alloc w1 _)).recs (by simp) (by omega) (by simp) ?_; intro v' w' ho hg; have HB : Hid (Below w1.heap.size w1 w') := Lib.hid ((below_alloc w1 (.cells #[] 26)).grown hg.out (by simp) (fun r hr => by cases hr; exact Nat.le_refl _)); have HO : Hid (OwnW w' w1.heap.size v' L) := Lib.hid (by have h := ho.out; rw [List.nil_append] at h; exact h); clear ho hg c0 c1 k0 k1 y0 y1 y2 f0 f1; have X_2 := Lib.hid (X_1.out.below HB.out); have Y_2 := Lib.hid (Y_1.out.below HB.out); have B_2 := Lib.hid (B_1.out.trans (Below.mono HB.out B_1.out.size)); obtain ⟨y0, y1, y2⟩ := Y_2.out.cells3)
    | (at_builtin; refine wpList_appR rfl (.tmp 30) (.tmp 32) rfl w1.heap.size _ L rfl (OwnR.below HO.out (below_alloc _ _)) _ 1 1 [x] rfl (recs_one (Box3.new _ x)) (by rw [HLL.out]; omega) (by omega) (by have := HB.out.size; simp; omega) ?_; intro v2 w2 ho2 hg2; have HB2 : Hid (Below w1.heap.size w1 w2) := Lib.hid (Below.grown (belowX_alloc HB.out _) hg2.out (by have := HB.out.size; simp; omega) (fun r hr => OwnR.lt HO.out r hr)); have hfr : Hid (∀ r, v2.ownBlock = some r → BX < r) := Lib.hid (fun r hr => Nat.lt_of_lt_of_le X_1.out.lt (OwnR.lt ho2.out r hr)); obtain ⟨qa, ql, qc, hv2, hq0⟩ := own_wts ho2.out (ok_snoc (fun y hy => L_1.out.ok y hy) HX.out); subst hv2; have hq := Lib.hid hq0; clear y0 y1 y2 hg2 ho2 hq0; have X_3 := Lib.hid (X_1.out.below HB2.out); have B_3 := Lib.hid (B_1.out.trans (Below.mono HB2.out B_1.out.size)); have hlt4 := X_3.out.lt; have c0 := X_3.out.cell 0 rfl; have c1 := X_3.out.cell 1 rfl; have f0 := X_3.out.froz 0; have f1 := X_3.out.froz 1))
  have ST := Lib.hid (X_3.out.set2 (.bool true) (.slice qa ql qc))
  refine bodyPost_ret (v := .tuple #[lkV true qa ql qc, .bool false, .int .i64 0]) (by first | (rw [res_c2 Try.results15 _ (by rfl) (ST.out.load Try.underlying24 inf24)]; rfl)) rfl ⟨qa, ql, qc, rfl, ?_, ?_⟩
  · exact hq.out.other BX (fun y hy e => by have := hfr.out y.block (by rw [hy]; rfl); omega) (fun g hg => set2_other _ _ _ _ g hg)
  · exact below_set2 B_3.out HBW.out _ _
theorem res_c0' {fn : Func} {p : Tmp} {ty : TypeId} (h : fn.results = #[.cell p ty]) (tmps : Array Value) (w : World) :
    (results fn tmps).run Try.prog w = ((asAddr (tmps.getD p undef)).run Try.prog w).andThen fun a w₁ => ((loadVar ty a).run Try.prog w₁).andThen fun v w₂ => .ok v w₂ := by
  simp only [results, h]
  simp [Sem.run_bind, Result.andThen]
  cases Sem.run Try.prog (asAddr (tmps[p]?.getD undef)) w with
  | ok a w1 => simp only []; cases Sem.run Try.prog (loadVar ty a) w1 <;> rfl
  | halt h w1 => rfl
theorem res_c0 {fn : Func} {p : Tmp} {ty : TypeId} (h : fn.results = #[.cell p ty]) (tmps : Array Value) {W : World} {B : Nat} {v : Value} (hp : tmps.getD p undef = .pointer (some ⟨B, 0, none⟩)) (hg : (loadVar ty ⟨B, 0, none⟩).run Try.prog W = .ok v W) :
    (results fn tmps).run Try.prog W = .ok v W := by
  rw [res_c0' h, hp]
  simp [asAddr, Result.andThen, hg]
set_option maxRecDepth 100000 in
set_option maxHeartbeats 4000000 in
theorem few_lk (h : Bool) (a : Option Addr) (len cap : Nat) (w : World) (hlc : len ≤ cap) (hcc : cap ≤ maxLen) :
    Calls Try.prog 5 #[lkV h a len cap] w fun e w' => e = .returned (lkV h a (min len 70) cap) ∧ Below w.heap.size w w' := by
  unfold maxLen at hcc
  have hcm : len ≤ 9223372036854775807 := by omega
  by_cases h70 : len ≤ 70
  all_goals
    first
    | (have e : min len 70 = len := by omega
       rw [e]
       have h' : (len : Int) ≤ 70 := by omega
       clear e)
    | (have e : min len 70 = 70 := by omega
       rw [e]
       have h' : (70 : Int) < (len : Int) := by omega
       clear e)
    go_enter Try.func5, Try.ntmps5
    go_wp2_with fail
    refine bodyPost_ret (v := lkV h a _ cap) (by first | (rw [res_c0 Try.results5 _ (by rfl) ((Bx.new2 w _ #[.bool h, .slice a _ cap] 24).load Try.underlying24 inf24)])) rfl ⟨rfl, ?_⟩
    exact (below_alloc w _).alloc (by simp) _
set_option maxRecDepth 100000 in
set_option maxHeartbeats 4000000 in
theorem refGive_none (h : Bool) (a : Option Addr) (cap : Nat) (w : World) :
    Calls Try.prog 13 #[lkV h a 0 cap] w (GotRG w false [] zeroW false) := by
  go_enter Try.func13, Try.ntmps13
  go_wp2_with fail
  refine bodyPost_ret (v := .tuple #[lkV false none 0 0, wV zeroW, .bool false]) (by first | (rw [res_cc1 Try.results13 _ (by rfl) (((Bx.new2 w _ #[.bool false, .slice none 0 0] 24).below (below_alloc _ _)).load Try.underlying24 inf24) (by rfl) ((Bx.new3 w _ _ #[.int .i64 0, .int .i64 0, .int .i64 0] 26).load Try.underlying26 inf26)]; rfl)) rfl ⟨none, 0, 0, rfl, Wts.nil _, ?_⟩
  exact ((below_alloc w _).alloc (by simp) _).alloc (by simp; omega) _
set_option maxRecDepth 100000 in
set_option maxHeartbeats 4000000 in
theorem refGive_ok (h : Bool) (a : Option Addr) (len cap : Nat) (y : Wt) (ys : List Wt) (w : World) (hL : Wts w a len cap (y :: ys)) :
    Calls Try.prog 13 #[lkV h a len cap] w (GotRG w true ys y true) := by
  have hlen : ys.length + 1 = len := by have := hL.recs.len_eq; simpa using this
  have hcap := hL.recs.le_cap
  have hcm := hL.recs.len_le
  have HCM := Lib.hid hL.recs.cap_le
  have hz : ((len : Int) == 0) = false := by rw [beq_eq_false_iff_ne]; omega
  have h1 : 1 ≤ len := by omega
  have h1' : (0 : Int) < (len : Int) := by omega
  have h1'' : (1 : Int) ≤ (len : Int) := by omega
  have HOK := Lib.hid hL.ok
  have B_0 := Lib.hid (((below_alloc w (.cells #[.bool h, .slice a len cap] 24)).alloc (by simp) (.cells #[.bool false, .slice none 0 0] 24)).alloc (by simp; omega) (.cells #[.int .i64 0, .int .i64 0, .int .i64 0] 26))
  have L_0 := Lib.hid (hL.below B_0.out)
  have HBB : Hid (∀ z, a = some z → z.block < w.heap.size) := Lib.hid (fun z hz => by
    obtain ⟨_, b, o, _, _, e, c, _, _⟩ := hL.at 0 (by omega)
    rw [hz] at e; cases e
    exact World.block_lt_of_cell? _ _ c)
  clear hL
  have Y_0 := Lib.hid (Bx.new3 w (.cells #[.bool h, .slice a len cap] 24) (.cells #[.bool false, .slice none 0 0] 24) #[.int .i64 0, .int .i64 0, .int .i64 0] 26)
  have X_0 := Lib.hid ((Bx.new2 w (.cells #[.bool h, .slice a len cap] 24) #[.bool false, .slice none 0 0] 24).below (below_alloc _ (.cells #[.int .i64 0, .int .i64 0, .int .i64 0] 26)))
  have K_0 := Lib.hid (((Bx.new w #[.bool h, .slice a len cap] 24).below (below_alloc _ (.cells #[.bool false, .slice none 0 0] 24))).below (below_alloc _ (.cells #[.int .i64 0, .int .i64 0, .int .i64 0] 26)))
  obtain ⟨X, hX⟩ : ∃ x, x = (((w.alloc (.cells #[.bool h, .slice a len cap] 24)).alloc (.cells #[.bool false, .slice none 0 0] 24)).alloc (.cells #[.int .i64 0, .int .i64 0, .int .i64 0] 26)) := ⟨_, rfl⟩
  rw [← hX] at Y_0 X_0 K_0 B_0 L_0
  have HX := Lib.hid hX; clear hX
  obtain ⟨y', bb, off, hy, _, rfl, c0, c1, c2⟩ := L_0.out.at 0 (by omega)
  obtain rfl : y = y' := by simpa using hy
  rw [Nat.zero_mul, Nat.add_zero] at c0 c1 c2
  have HC := Lib.hid (And.intro c0 (And.intro c1 c2))
  clear hy c0 c1 c2
  have HT := Lib.hid (fun W (H : Wts W (some ⟨bb, off, none⟩) len cap (y :: ys)) => H.tail)
  by_cases hk : cap = 1
  all_goals
    first
    | (obtain rfl : ys = [] := List.eq_nil_of_length_eq_zero (by omega)
       obtain rfl : len = 1 := by omega
       subst hk)
    | (have hk' : (1 : Int) < (cap : Int) := by omega)
    go_enter Try.func13, Try.ntmps13
    go_upto_region 3 with (fail)
    obtain ⟨c0, c1, c2⟩ := HC.out
    first
    | have HTL := Lib.hid (HT.out _ L_0.out hk')
    | have HTL := Lib.hid (Wts.zero X ⟨bb, off, none⟩)
    rw [← HX.out]
    clear HC HT HX
    obtain ⟨BX, hBX⟩ : ∃ x, x = w.heap.size + 1 := ⟨_, rfl⟩
    obtain ⟨BY, hBY⟩ : ∃ x, x = w.heap.size + 2 := ⟨_, rfl⟩
    have HBW := Lib.hid (show w.heap.size ≤ BX by omega)
    have HBV := Lib.hid (show w.heap.size ≤ BY by omega)
    have hXY' : BX ≠ BY := by omega
    have hYX' : BY ≠ BX := by omega
    rw [← hBY] at Y_0
    rw [show w.heap.size + 1 + 1 = w.heap.size + 2 from rfl]
    rw [← hBY]
    rw [← hBX] at X_0 ⊢
    obtain ⟨BK, hBK⟩ : ∃ x, x = w.heap.size := ⟨_, rfl⟩
    rw [← hBK] at K_0 ⊢
    have HQX : Hid (bb ≠ BX ∧ bb ≠ BY) := Lib.hid (by have := HBB.out _ rfl; simp only [] at this; omega)
    have hq3 : BK ≠ BX := by omega
    have hq4 : BK ≠ BY := by omega
    try have hpos : 0 < len := by omega
    clear hBX hBY hBK
    have hlt := X_0.out.lt
    have hlt2 := Y_0.out.lt
    obtain ⟨e0, e1, e2⟩ := Y_0.out.cells3
    have g0 := Y_0.out.froz 0; have g1 := Y_0.out.froz 1; have g2 := Y_0.out.froz 2
    obtain ⟨d0, d1⟩ := X_0.out.cells2
    obtain ⟨k0, k1⟩ := K_0.out.cells2
    have f0 := X_0.out.froz 0; have f1 := X_0.out.froz 1
    have hq1 : bb ≠ BX := HQX.out.1
    have hq2 : bb ≠ BY := HQX.out.2
    go_region
    all_goals
      go_wp2_with fail
      have D := rg_done HTL.out X_0.out Y_0.out hq1 hq2 hXY' B_0.out HBW.out HBV.out y
      refine bodyPost_ret (v := .tuple #[lkV true _ _ _, wV y, .bool true]) (by first | (rw [res_cc1 Try.results13 _ (by rfl) (D.1.load Try.underlying24 inf24) (by rfl) (D.2.1.load Try.underlying26 inf26)]; rfl)) rfl ⟨_, _, _, rfl, D.2.2.1, D.2.2.2⟩
end Go.Proofs.Ytipjdkaibkmciaa
