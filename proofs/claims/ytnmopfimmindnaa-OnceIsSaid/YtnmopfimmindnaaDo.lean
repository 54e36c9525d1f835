/- Do; End; the reference's Do and End. -/
import Derived.Test.YtnmopfimmindnaaCome
import Derived.Deep.RegionHeld3
namespace Go.Proofs.Ytnmopfimmindnaa
open Go.RowKit
set_option maxRecDepth 100000 in
set_option maxHeartbeats 8000000 in
theorem Do_of_24 (by_ : Int) (a : Option Addr) (len cap : Nat) (L : List Wt) (x : Wt) (st2 by2 : Int) (L2 : List Wt) (k why : Int) (w : World) (hL : Wts w a len cap L) (hx : WtOk x) (hbI : I64 by_) (hr : rightO 0 by_ L = true) (hm : mayW x = true)
    (hask : ∀ W, Wts W a len cap L → Calls Try.prog 24 #[onV 0 by_ a len cap, wV x] W (GotD W st2 by2 L2 k why)) :
    Calls Try.prog 6 #[onV 0 by_ a len cap, wV x] w (GotD w st2 by2 L2 k why) := by
  have HR := Lib.hid (fun W (H : Wts W a len cap L) => ORight_any 0 by_ a len cap L W H ⟨by omega, by omega⟩ hbI)
  rw [hr] at HR
  have HA := Lib.hid hask; clear hask hr
  unfold GotD at HA
  obtain ⟨⟨_, _⟩, ⟨_, _⟩, ⟨_, _⟩⟩ := hx
  have hc : 0 ≤ x.g ∧ 0 ≤ x.c ∧ 0 ≤ x.s := by simpa [mayW] using hm
  clear hm
  obtain ⟨_, _, _⟩ := hc
  unfold I64 at hbI
  have B_0 := Lib.hid (((below_alloc w (.cells (onC 0 by_ a len cap) 24)).alloc (by simp) (.cells #[.int .i64 x.g, .int .i64 x.c, .int .i64 x.s] 26)).alloc (by simp; omega) (.cells #[.int .i64 0, .int .i64 0, .slice none 0 0] 24))
  have L_0 := Lib.hid (hL.below B_0.out); clear hL
  have X_0 := Lib.hid (Bx.new3 w (.cells (onC 0 by_ a len cap) 24) (.cells #[.int .i64 x.g, .int .i64 x.c, .int .i64 x.s] 26) #[.int .i64 0, .int .i64 0, .slice none 0 0] 24)
  have K_0 := Lib.hid (((Bx.new w (onC 0 by_ a len cap) 24).below (below_alloc _ (.cells #[.int .i64 x.g, .int .i64 x.c, .int .i64 x.s] 26))).below (below_alloc _ (.cells #[.int .i64 0, .int .i64 0, .slice none 0 0] 24)))
  have Y_0 := Lib.hid ((Bx.new2 w (.cells (onC 0 by_ a len cap) 24) #[.int .i64 x.g, .int .i64 x.c, .int .i64 x.s] 26).below (below_alloc _ (.cells #[.int .i64 0, .int .i64 0, .slice none 0 0] 24)))
  go_enter Try.func6, Try.ntmps6
  go_wp2_with fail
  refine (HR.out _ L_0.out).mono ?_
  rintro e w1 ⟨rfl, hb⟩
  have X_1 := Lib.hid (X_0.out.below hb); have K_1 := Lib.hid (K_0.out.below hb); have Y_1 := Lib.hid (Y_0.out.below hb); have B_1 := Lib.hid (B_0.out.trans (Below.mono hb B_0.out.size)); have L_1 := Lib.hid (L_0.out.below hb)
  clear hb
  obtain ⟨BX, hBX⟩ : ∃ x, x = w.heap.size + 2 := ⟨_, rfl⟩
  obtain ⟨BY, hBY⟩ : ∃ x, x = w.heap.size + 1 := ⟨_, rfl⟩
  obtain ⟨BK, hBK⟩ : ∃ x, x = w.heap.size := ⟨_, rfl⟩
  have HBW := Lib.hid (show w.heap.size ≤ BX by omega)
  have hKX : BK ≠ BX := by omega
  have hXK : BX ≠ BK := by omega
  have hYX : BY ≠ BX := by omega
  have hXY : BX ≠ BY := by omega
  rw [← hBX] at X_1
  try rw [show w.heap.size + 1 + 1 = w.heap.size + 2 from rfl]
  rw [← hBX]
  rw [← hBY] at Y_1 ⊢
  rw [← hBK] at K_1 ⊢
  clear hBX hBY hBK
  have hlt := X_1.out.lt
  have hlt2 := Y_1.out.lt
  have hlt3 := K_1.out.lt
  obtain ⟨c0, c1, c2⟩ := X_1.out.cells3
  obtain ⟨k0, k1, k2⟩ := K_1.out.cells3
  obtain ⟨y0, y1, y2⟩ := Y_1.out.cells3
  have f0 := X_1.out.froz 0; have f1 := X_1.out.froz 1; have f2 := X_1.out.froz 2
  go_wp2_with fail
  clear c0 c1 c2 k0 k1 k2 y0 y1 y2 f0 f1 f2
  have i0 : ∀ w, (Instr.index 43 tab (.int .i64 0)).run Try.prog w = .ok (.func (.func 24) #[] #[]) w := fun _ => by kernel_rfl
  have HSS : Hid (∀ W', Below w1.heap.size w1 W' → W'.cell? ⟨BK, 0, none⟩ = some (.int .i64 0) ∧ W'.cell? ⟨BK, 1, none⟩ = some (.int .i64 by_) ∧ W'.cell? ⟨BK, 2, none⟩ = some (.slice a len cap) ∧ W'.cell? ⟨BY, 0, none⟩ = some (.int .i64 x.g) ∧ W'.cell? ⟨BY, 1, none⟩ = some (.int .i64 x.c) ∧ W'.cell? ⟨BY, 2, none⟩ = some (.int .i64 x.s)) := Lib.hid (fun W' hb => by
    obtain ⟨a0, a1, a2⟩ := (K_1.out.below hb).cells3
    obtain ⟨b0, b1, b2⟩ := (Y_1.out.below hb).cells3
    exact ⟨a0, a1, a2, b0, b1, b2⟩)
  go_region_held3 (fun W => W.cell? ⟨BK, 0, none⟩ = some (.int .i64 0) ∧ W.cell? ⟨BK, 1, none⟩ = some (.int .i64 by_) ∧ W.cell? ⟨BK, 2, none⟩ = some (.slice a len cap) ∧ W.cell? ⟨BY, 0, none⟩ = some (.int .i64 x.g) ∧ W.cell? ⟨BY, 1, none⟩ = some (.int .i64 x.c) ∧ W.cell? ⟨BY, 2, none⟩ = some (.int .i64 x.s))
    (first | exact HST.out | (refine HSS.out _ ?_; first | exact HBq.out | exact HBp.out | exact (Below.refl _ _).drew))
    (first
      | (go_at_call 16; refine (comers_any _).mono ?_; rintro e wp ⟨rfl, hbp⟩; have HBp : Hid (Below w1.heap.size w1 wp) := Lib.hid (((Below.refl w1.heap.size w1).drew).trans (Below.mono hbp (Nat.le_refl _))); clear hbp)
      | (go_at_call 24; refine (HA.out _ (L_1.out.below HBp.out)).mono ?_; rintro e wq ⟨qa, ql, qc, rfl, hq, hbq, hfr⟩; have HBq : Hid (Below w1.heap.size w1 wq) := Lib.hid (HBp.out.trans (Below.mono hbq HBp.out.size)); have HQ := Lib.hid hq; have HFQ : Hid (∀ y, qa = some y → w1.heap.size ≤ y.block) := Lib.hid (fun y hy => Nat.le_trans HBp.out.size (hfr y hy)); clear hq hbq hfr; have X_q := Lib.hid (X_1.out.below HBq.out); have c0 := X_q.out.cell 0 rfl; have c1 := X_q.out.cell 1 rfl; have c2 := X_q.out.cell 2 rfl; have f0 := X_q.out.froz 0; have f1 := X_q.out.froz 1; have f2 := X_q.out.froz 2; have hlq := X_q.out.lt; have HST : Hid ((fun W => W.cell? ⟨BK, 0, none⟩ = some (.int .i64 0) ∧ W.cell? ⟨BK, 1, none⟩ = some (.int .i64 by_) ∧ W.cell? ⟨BK, 2, none⟩ = some (.slice a len cap) ∧ W.cell? ⟨BY, 0, none⟩ = some (.int .i64 x.g) ∧ W.cell? ⟨BY, 1, none⟩ = some (.int .i64 x.c) ∧ W.cell? ⟨BY, 2, none⟩ = some (.int .i64 x.s)) (set3c wq BX (.int .i64 st2) (.int .i64 by2) (.slice qa ql qc))) := Lib.hid (by
          obtain ⟨a0, a1, a2⟩ := (show Bx (set3c wq BX (.int .i64 st2) (.int .i64 by2) (.slice qa ql qc)) BK _ 24 from (set3_other wq BX _ _ _ BK hKX).trans (K_1.out.below HBq.out)).cells3
          obtain ⟨b0, b1, b2⟩ := (show Bx (set3c wq BX (.int .i64 st2) (.int .i64 by2) (.slice qa ql qc)) BY _ 26 from (set3_other wq BX _ _ _ BY hYX).trans (Y_1.out.below HBq.out)).cells3
          exact ⟨a0, a1, a2, b0, b1, b2⟩)))
  all_goals
    go_wp2_with fail
    have ST := Lib.hid ((X_q.out.set3 (.int .i64 st2) (.int .i64 by2) (.slice qa ql qc)))
    refine bodyPost_ret (v := .tuple #[onV st2 by2 qa ql qc, .int .i64 k, .int .i64 why]) (by first | (rw [res_c2 Try.results6 _ (by rfl) (ST.out.load Try.underlying24 inf24)]; rfl)) rfl ⟨qa, ql, qc, rfl, (HQ.out).other _ (fun x hx e => by have h1 := HFQ.out x hx; have h2 := X_1.out.lt; omega) (fun g hg => set3_other _ _ _ _ _ g hg), ?_, fun y hy => Nat.le_trans B_1.out.size (HFQ.out y hy)⟩
    exact below_set3 (B_1.out.trans (Below.mono HBq.out B_1.out.size)) HBW.out _ _ _
set_option maxRecDepth 100000 in
set_option maxHeartbeats 8000000 in
theorem Do_of_25 (by_ : Int) (a : Option Addr) (len cap : Nat) (L : List Wt) (x : Wt) (st2 by2 : Int) (L2 : List Wt) (k why : Int) (w : World) (hL : Wts w a len cap L) (hx : WtOk x) (hbI : I64 by_) (hr : rightO 1 by_ L = true) (hm : mayW x = true)
    (hask : ∀ W, Wts W a len cap L → Calls Try.prog 25 #[onV 1 by_ a len cap, wV x] W (GotD W st2 by2 L2 k why)) :
    Calls Try.prog 6 #[onV 1 by_ a len cap, wV x] w (GotD w st2 by2 L2 k why) := by
  have HR := Lib.hid (fun W (H : Wts W a len cap L) => ORight_any 1 by_ a len cap L W H ⟨by omega, by omega⟩ hbI)
  rw [hr] at HR
  have HA := Lib.hid hask; clear hask hr
  unfold GotD at HA
  obtain ⟨⟨_, _⟩, ⟨_, _⟩, ⟨_, _⟩⟩ := hx
  have hc : 0 ≤ x.g ∧ 0 ≤ x.c ∧ 0 ≤ x.s := by simpa [mayW] using hm
  clear hm
  obtain ⟨_, _, _⟩ := hc
  unfold I64 at hbI
  have B_0 := Lib.hid (((below_alloc w (.cells (onC 1 by_ a len cap) 24)).alloc (by simp) (.cells #[.int .i64 x.g, .int .i64 x.c, .int .i64 x.s] 26)).alloc (by simp; omega) (.cells #[.int .i64 0, .int .i64 0, .slice none 0 0] 24))
  have L_0 := Lib.hid (hL.below B_0.out); clear hL
  have X_0 := Lib.hid (Bx.new3 w (.cells (onC 1 by_ a len cap) 24) (.cells #[.int .i64 x.g, .int .i64 x.c, .int .i64 x.s] 26) #[.int .i64 0, .int .i64 0, .slice none 0 0] 24)
  have K_0 := Lib.hid (((Bx.new w (onC 1 by_ a len cap) 24).below (below_alloc _ (.cells #[.int .i64 x.g, .int .i64 x.c, .int .i64 x.s] 26))).below (below_alloc _ (.cells #[.int .i64 0, .int .i64 0, .slice none 0 0] 24)))
  have Y_0 := Lib.hid ((Bx.new2 w (.cells (onC 1 by_ a len cap) 24) #[.int .i64 x.g, .int .i64 x.c, .int .i64 x.s] 26).below (below_alloc _ (.cells #[.int .i64 0, .int .i64 0, .slice none 0 0] 24)))
  go_enter Try.func6, Try.ntmps6
  go_wp2_with fail
  refine (HR.out _ L_0.out).mono ?_
  rintro e w1 ⟨rfl, hb⟩
  have X_1 := Lib.hid (X_0.out.below hb); have K_1 := Lib.hid (K_0.out.below hb); have Y_1 := Lib.hid (Y_0.out.below hb); have B_1 := Lib.hid (B_0.out.trans (Below.mono hb B_0.out.size)); have L_1 := Lib.hid (L_0.out.below hb)
  clear hb
  obtain ⟨BX, hBX⟩ : ∃ x, x = w.heap.size + 2 := ⟨_, rfl⟩
  obtain ⟨BY, hBY⟩ : ∃ x, x = w.heap.size + 1 := ⟨_, rfl⟩
  obtain ⟨BK, hBK⟩ : ∃ x, x = w.heap.size := ⟨_, rfl⟩
  have HBW := Lib.hid (show w.heap.size ≤ BX by omega)
  have hKX : BK ≠ BX := by omega
  have hXK : BX ≠ BK := by omega
  have hYX : BY ≠ BX := by omega
  have hXY : BX ≠ BY := by omega
  rw [← hBX] at X_1
  try rw [show w.heap.size + 1 + 1 = w.heap.size + 2 from rfl]
  rw [← hBX]
  rw [← hBY] at Y_1 ⊢
  rw [← hBK] at K_1 ⊢
  clear hBX hBY hBK
  have hlt := X_1.out.lt
  have hlt2 := Y_1.out.lt
  have hlt3 := K_1.out.lt
  obtain ⟨c0, c1, c2⟩ := X_1.out.cells3
  obtain ⟨k0, k1, k2⟩ := K_1.out.cells3
  obtain ⟨y0, y1, y2⟩ := Y_1.out.cells3
  have f0 := X_1.out.froz 0; have f1 := X_1.out.froz 1; have f2 := X_1.out.froz 2
  go_wp2_with fail
  clear c0 c1 c2 k0 k1 k2 y0 y1 y2 f0 f1 f2
  have i0 : ∀ w, (Instr.index 43 tab (.int .i64 1)).run Try.prog w = .ok (.func (.func 25) #[] #[]) w := fun _ => by kernel_rfl
  have HSS : Hid (∀ W', Below w1.heap.size w1 W' → W'.cell? ⟨BK, 0, none⟩ = some (.int .i64 1) ∧ W'.cell? ⟨BK, 1, none⟩ = some (.int .i64 by_) ∧ W'.cell? ⟨BK, 2, none⟩ = some (.slice a len cap) ∧ W'.cell? ⟨BY, 0, none⟩ = some (.int .i64 x.g) ∧ W'.cell? ⟨BY, 1, none⟩ = some (.int .i64 x.c) ∧ W'.cell? ⟨BY, 2, none⟩ = some (.int .i64 x.s)) := Lib.hid (fun W' hb => by
    obtain ⟨a0, a1, a2⟩ := (K_1.out.below hb).cells3
    obtain ⟨b0, b1, b2⟩ := (Y_1.out.below hb).cells3
    exact ⟨a0, a1, a2, b0, b1, b2⟩)
  go_region_held3 (fun W => W.cell? ⟨BK, 0, none⟩ = some (.int .i64 1) ∧ W.cell? ⟨BK, 1, none⟩ = some (.int .i64 by_) ∧ W.cell? ⟨BK, 2, none⟩ = some (.slice a len cap) ∧ W.cell? ⟨BY, 0, none⟩ = some (.int .i64 x.g) ∧ W.cell? ⟨BY, 1, none⟩ = some (.int .i64 x.c) ∧ W.cell? ⟨BY, 2, none⟩ = some (.int .i64 x.s))
    (first | exact HST.out | (refine HSS.out _ ?_; first | exact HBq.out | exact HBp.out | exact (Below.refl _ _).drew))
    (first
      | (go_at_call 16; refine (comers_any _).mono ?_; rintro e wp ⟨rfl, hbp⟩; have HBp : Hid (Below w1.heap.size w1 wp) := Lib.hid (((Below.refl w1.heap.size w1).drew).trans (Below.mono hbp (Nat.le_refl _))); clear hbp)
      | (go_at_call 25; refine (HA.out _ (L_1.out.below HBp.out)).mono ?_; rintro e wq ⟨qa, ql, qc, rfl, hq, hbq, hfr⟩; have HBq : Hid (Below w1.heap.size w1 wq) := Lib.hid (HBp.out.trans (Below.mono hbq HBp.out.size)); have HQ := Lib.hid hq; have HFQ : Hid (∀ y, qa = some y → w1.heap.size ≤ y.block) := Lib.hid (fun y hy => Nat.le_trans HBp.out.size (hfr y hy)); clear hq hbq hfr; have X_q := Lib.hid (X_1.out.below HBq.out); have c0 := X_q.out.cell 0 rfl; have c1 := X_q.out.cell 1 rfl; have c2 := X_q.out.cell 2 rfl; have f0 := X_q.out.froz 0; have f1 := X_q.out.froz 1; have f2 := X_q.out.froz 2; have hlq := X_q.out.lt; have HST : Hid ((fun W => W.cell? ⟨BK, 0, none⟩ = some (.int .i64 1) ∧ W.cell? ⟨BK, 1, none⟩ = some (.int .i64 by_) ∧ W.cell? ⟨BK, 2, none⟩ = some (.slice a len cap) ∧ W.cell? ⟨BY, 0, none⟩ = some (.int .i64 x.g) ∧ W.cell? ⟨BY, 1, none⟩ = some (.int .i64 x.c) ∧ W.cell? ⟨BY, 2, none⟩ = some (.int .i64 x.s)) (set3c wq BX (.int .i64 st2) (.int .i64 by2) (.slice qa ql qc))) := Lib.hid (by
          obtain ⟨a0, a1, a2⟩ := (show Bx (set3c wq BX (.int .i64 st2) (.int .i64 by2) (.slice qa ql qc)) BK _ 24 from (set3_other wq BX _ _ _ BK hKX).trans (K_1.out.below HBq.out)).cells3
          obtain ⟨b0, b1, b2⟩ := (show Bx (set3c wq BX (.int .i64 st2) (.int .i64 by2) (.slice qa ql qc)) BY _ 26 from (set3_other wq BX _ _ _ BY hYX).trans (Y_1.out.below HBq.out)).cells3
          exact ⟨a0, a1, a2, b0, b1, b2⟩)))
  all_goals
    go_wp2_with fail
    have ST := Lib.hid ((X_q.out.set3 (.int .i64 st2) (.int .i64 by2) (.slice qa ql qc)))
    refine bodyPost_ret (v := .tuple #[onV st2 by2 qa ql qc, .int .i64 k, .int .i64 why]) (by first | (rw [res_c2 Try.results6 _ (by rfl) (ST.out.load Try.underlying24 inf24)]; rfl)) rfl ⟨qa, ql, qc, rfl, (HQ.out).other _ (fun x hx e => by have h1 := HFQ.out x hx; have h2 := X_1.out.lt; omega) (fun g hg => set3_other _ _ _ _ _ g hg), ?_, fun y hy => Nat.le_trans B_1.out.size (HFQ.out y hy)⟩
    exact below_set3 (B_1.out.trans (Below.mono HBq.out B_1.out.size)) HBW.out _ _ _
set_option maxRecDepth 100000 in
set_option maxHeartbeats 8000000 in
theorem Do_of_26 (by_ : Int) (a : Option Addr) (len cap : Nat) (L : List Wt) (x : Wt) (st2 by2 : Int) (L2 : List Wt) (k why : Int) (w : World) (hL : Wts w a len cap L) (hx : WtOk x) (hbI : I64 by_) (hr : rightO 2 by_ L = true) (hm : mayW x = true)
    (hask : ∀ W, Wts W a len cap L → Calls Try.prog 26 #[onV 2 by_ a len cap, wV x] W (GotD W st2 by2 L2 k why)) :
    Calls Try.prog 6 #[onV 2 by_ a len cap, wV x] w (GotD w st2 by2 L2 k why) := by
  have HR := Lib.hid (fun W (H : Wts W a len cap L) => ORight_any 2 by_ a len cap L W H ⟨by omega, by omega⟩ hbI)
  rw [hr] at HR
  have HA := Lib.hid hask; clear hask hr
  unfold GotD at HA
  obtain ⟨⟨_, _⟩, ⟨_, _⟩, ⟨_, _⟩⟩ := hx
  have hc : 0 ≤ x.g ∧ 0 ≤ x.c ∧ 0 ≤ x.s := by simpa [mayW] using hm
  clear hm
  obtain ⟨_, _, _⟩ := hc
  unfold I64 at hbI
  have B_0 := Lib.hid (((below_alloc w (.cells (onC 2 by_ a len cap) 24)).alloc (by simp) (.cells #[.int .i64 x.g, .int .i64 x.c, .int .i64 x.s] 26)).alloc (by simp; omega) (.cells #[.int .i64 0, .int .i64 0, .slice none 0 0] 24))
  have L_0 := Lib.hid (hL.below B_0.out); clear hL
  have X_0 := Lib.hid (Bx.new3 w (.cells (onC 2 by_ a len cap) 24) (.cells #[.int .i64 x.g, .int .i64 x.c, .int .i64 x.s] 26) #[.int .i64 0, .int .i64 0, .slice none 0 0] 24)
  have K_0 := Lib.hid (((Bx.new w (onC 2 by_ a len cap) 24).below (below_alloc _ (.cells #[.int .i64 x.g, .int .i64 x.c, .int .i64 x.s] 26))).below (below_alloc _ (.cells #[.int .i64 0, .int .i64 0, .slice none 0 0] 24)))
  have Y_0 := Lib.hid ((Bx.new2 w (.cells (onC 2 by_ a len cap) 24) #[.int .i64 x.g, .int .i64 x.c, .int .i64 x.s] 26).below (below_alloc _ (.cells #[.int .i64 0, .int .i64 0, .slice none 0 0] 24)))
  go_enter Try.func6, Try.ntmps6
  go_wp2_with fail
  refine (HR.out _ L_0.out).mono ?_
  rintro e w1 ⟨rfl, hb⟩
  have X_1 := Lib.hid (X_0.out.below hb); have K_1 := Lib.hid (K_0.out.below hb); have Y_1 := Lib.hid (Y_0.out.below hb); have B_1 := Lib.hid (B_0.out.trans (Below.mono hb B_0.out.size)); have L_1 := Lib.hid (L_0.out.below hb)
  clear hb
  obtain ⟨BX, hBX⟩ : ∃ x, x = w.heap.size + 2 := ⟨_, rfl⟩
  obtain ⟨BY, hBY⟩ : ∃ x, x = w.heap.size + 1 := ⟨_, rfl⟩
  obtain ⟨BK, hBK⟩ : ∃ x, x = w.heap.size := ⟨_, rfl⟩
  have HBW := Lib.hid (show w.heap.size ≤ BX by omega)
  have hKX : BK ≠ BX := by omega
  have hXK : BX ≠ BK := by omega
  have hYX : BY ≠ BX := by omega
  have hXY : BX ≠ BY := by omega
  rw [← hBX] at X_1
  try rw [show w.heap.size + 1 + 1 = w.heap.size + 2 from rfl]
  rw [← hBX]
  rw [← hBY] at Y_1 ⊢
  rw [← hBK] at K_1 ⊢
  clear hBX hBY hBK
  have hlt := X_1.out.lt
  have hlt2 := Y_1.out.lt
  have hlt3 := K_1.out.lt
  obtain ⟨c0, c1, c2⟩ := X_1.out.cells3
  obtain ⟨k0, k1, k2⟩ := K_1.out.cells3
  obtain ⟨y0, y1, y2⟩ := Y_1.out.cells3
  have f0 := X_1.out.froz 0; have f1 := X_1.out.froz 1; have f2 := X_1.out.froz 2
  go_wp2_with fail
  clear c0 c1 c2 k0 k1 k2 y0 y1 y2 f0 f1 f2
  have i0 : ∀ w, (Instr.index 43 tab (.int .i64 2)).run Try.prog w = .ok (.func (.func 26) #[] #[]) w := fun _ => by kernel_rfl
  have HSS : Hid (∀ W', Below w1.heap.size w1 W' → W'.cell? ⟨BK, 0, none⟩ = some (.int .i64 2) ∧ W'.cell? ⟨BK, 1, none⟩ = some (.int .i64 by_) ∧ W'.cell? ⟨BK, 2, none⟩ = some (.slice a len cap) ∧ W'.cell? ⟨BY, 0, none⟩ = some (.int .i64 x.g) ∧ W'.cell? ⟨BY, 1, none⟩ = some (.int .i64 x.c) ∧ W'.cell? ⟨BY, 2, none⟩ = some (.int .i64 x.s)) := Lib.hid (fun W' hb => by
    obtain ⟨a0, a1, a2⟩ := (K_1.out.below hb).cells3
    obtain ⟨b0, b1, b2⟩ := (Y_1.out.below hb).cells3
    exact ⟨a0, a1, a2, b0, b1, b2⟩)
  go_region_held3 (fun W => W.cell? ⟨BK, 0, none⟩ = some (.int .i64 2) ∧ W.cell? ⟨BK, 1, none⟩ = some (.int .i64 by_) ∧ W.cell? ⟨BK, 2, none⟩ = some (.slice a len cap) ∧ W.cell? ⟨BY, 0, none⟩ = some (.int .i64 x.g) ∧ W.cell? ⟨BY, 1, none⟩ = some (.int .i64 x.c) ∧ W.cell? ⟨BY, 2, none⟩ = some (.int .i64 x.s))
    (first | exact HST.out | (refine HSS.out _ ?_; first | exact HBq.out | exact HBp.out | exact (Below.refl _ _).drew))
    (first
      | (go_at_call 16; refine (comers_any _).mono ?_; rintro e wp ⟨rfl, hbp⟩; have HBp : Hid (Below w1.heap.size w1 wp) := Lib.hid (((Below.refl w1.heap.size w1).drew).trans (Below.mono hbp (Nat.le_refl _))); clear hbp)
      | (go_at_call 26; refine (HA.out _ (L_1.out.below HBp.out)).mono ?_; rintro e wq ⟨qa, ql, qc, rfl, hq, hbq, hfr⟩; have HBq : Hid (Below w1.heap.size w1 wq) := Lib.hid (HBp.out.trans (Below.mono hbq HBp.out.size)); have HQ := Lib.hid hq; have HFQ : Hid (∀ y, qa = some y → w1.heap.size ≤ y.block) := Lib.hid (fun y hy => Nat.le_trans HBp.out.size (hfr y hy)); clear hq hbq hfr; have X_q := Lib.hid (X_1.out.below HBq.out); have c0 := X_q.out.cell 0 rfl; have c1 := X_q.out.cell 1 rfl; have c2 := X_q.out.cell 2 rfl; have f0 := X_q.out.froz 0; have f1 := X_q.out.froz 1; have f2 := X_q.out.froz 2; have hlq := X_q.out.lt; have HST : Hid ((fun W => W.cell? ⟨BK, 0, none⟩ = some (.int .i64 2) ∧ W.cell? ⟨BK, 1, none⟩ = some (.int .i64 by_) ∧ W.cell? ⟨BK, 2, none⟩ = some (.slice a len cap) ∧ W.cell? ⟨BY, 0, none⟩ = some (.int .i64 x.g) ∧ W.cell? ⟨BY, 1, none⟩ = some (.int .i64 x.c) ∧ W.cell? ⟨BY, 2, none⟩ = some (.int .i64 x.s)) (set3c wq BX (.int .i64 st2) (.int .i64 by2) (.slice qa ql qc))) := Lib.hid (by
          obtain ⟨a0, a1, a2⟩ := (show Bx (set3c wq BX (.int .i64 st2) (.int .i64 by2) (.slice qa ql qc)) BK _ 24 from (set3_other wq BX _ _ _ BK hKX).trans (K_1.out.below HBq.out)).cells3
          obtain ⟨b0, b1, b2⟩ := (show Bx (set3c wq BX (.int .i64 st2) (.int .i64 by2) (.slice qa ql qc)) BY _ 26 from (set3_other wq BX _ _ _ BY hYX).trans (Y_1.out.below HBq.out)).cells3
          exact ⟨a0, a1, a2, b0, b1, b2⟩)))
  all_goals
    go_wp2_with fail
    have ST := Lib.hid ((X_q.out.set3 (.int .i64 st2) (.int .i64 by2) (.slice qa ql qc)))
    refine bodyPost_ret (v := .tuple #[onV st2 by2 qa ql qc, .int .i64 k, .int .i64 why]) (by first | (rw [res_c2 Try.results6 _ (by rfl) (ST.out.load Try.underlying24 inf24)]; rfl)) rfl ⟨qa, ql, qc, rfl, (HQ.out).other _ (fun x hx e => by have h1 := HFQ.out x hx; have h2 := X_1.out.lt; omega) (fun g hg => set3_other _ _ _ _ _ g hg), ?_, fun y hy => Nat.le_trans B_1.out.size (HFQ.out y hy)⟩
    exact below_set3 (B_1.out.trans (Below.mono HBq.out B_1.out.size)) HBW.out _ _ _
set_option maxRecDepth 100000 in
set_option maxHeartbeats 8000000 in
theorem Do_arg (st by_ : Int) (a : Option Addr) (len cap : Nat) (L : List Wt) (x : Wt) (w : World) (hL : Wts w a len cap L) (hx : WtOk x) (hs : I64 st) (hbI : I64 by_) (hbad : rightO st by_ L = false ∨ mayW x = false) :
    Calls Try.prog 6 #[onV st by_ a len cap, wV x] w (GotD w 0 0 [] 0 1) := by
  have HR := Lib.hid (fun W (H : Wts W a len cap L) => ORight_any st by_ a len cap L W H hs hbI)
  obtain ⟨⟨_, _⟩, ⟨_, _⟩, ⟨_, _⟩⟩ := hx
  unfold I64 at hbI hs
  have B_0 := Lib.hid (((below_alloc w (.cells (onC st by_ a len cap) 24)).alloc (by simp) (.cells #[.int .i64 x.g, .int .i64 x.c, .int .i64 x.s] 26)).alloc (by simp; omega) (.cells #[.int .i64 0, .int .i64 0, .slice none 0 0] 24))
  have L_0 := Lib.hid (hL.below B_0.out); clear hL
  have X_0 := Lib.hid (Bx.new3 w (.cells (onC st by_ a len cap) 24) (.cells #[.int .i64 x.g, .int .i64 x.c, .int .i64 x.s] 26) #[.int .i64 0, .int .i64 0, .slice none 0 0] 24)
  have K_0 := Lib.hid (((Bx.new w (onC st by_ a len cap) 24).below (below_alloc _ (.cells #[.int .i64 x.g, .int .i64 x.c, .int .i64 x.s] 26))).below (below_alloc _ (.cells #[.int .i64 0, .int .i64 0, .slice none 0 0] 24)))
  have Y_0 := Lib.hid ((Bx.new2 w (.cells (onC st by_ a len cap) 24) #[.int .i64 x.g, .int .i64 x.c, .int .i64 x.s] 26).below (below_alloc _ (.cells #[.int .i64 0, .int .i64 0, .slice none 0 0] 24)))
  cases hr : rightO st by_ L with
  | false =>
    rw [hr] at HR
    clear hr hbad
    go_enter Try.func6, Try.ntmps6
    go_wp2_with fail
    refine (HR.out _ L_0.out).mono ?_
    rintro e w1 ⟨rfl, hb⟩
    have X_1 := Lib.hid (X_0.out.below hb); have B_1 := Lib.hid (B_0.out.trans (Below.mono hb B_0.out.size))
    clear hb
    obtain ⟨BX, hBX⟩ : ∃ x, x = w.heap.size + 2 := ⟨_, rfl⟩
    have HBW := Lib.hid (show w.heap.size ≤ BX by omega)
    rw [← hBX] at X_1
    try rw [show w.heap.size + 1 + 1 = w.heap.size + 2 from rfl]
    rw [← hBX]
    clear hBX
    have hlt := X_1.out.lt
    obtain ⟨c0, c1, c2⟩ := X_1.out.cells3
    have f0 := X_1.out.froz 0; have f1 := X_1.out.froz 1; have f2 := X_1.out.froz 2
    go_wp2_with fail
    have ST := Lib.hid (X_1.out.set3 (.int .i64 0) (.int .i64 0) (.slice none 0 0))
    refine bodyPost_ret (v := .tuple #[onV 0 0 none 0 0, .int .i64 0, .int .i64 1]) (by first | (rw [res_c2 Try.results6 _ (by rfl) (ST.out.load Try.underlying24 inf24)]; rfl)) rfl ⟨none, 0, 0, rfl, Wts.nil _, ?_, fun x hx => by cases hx⟩
    exact below_set3 B_1.out HBW.out _ _ _
  | true =>
    rw [hr] at HR
    have hc : x.g < 0 ∨ (0 ≤ x.g ∧ x.c < 0) ∨ (0 ≤ x.g ∧ 0 ≤ x.c ∧ x.s < 0) := by
      rcases hbad with h | h
      · rw [h] at hr; cases hr
      · simp [mayW] at h; omega
    clear hr hbad
    rcases hc with hc | ⟨_, hc⟩ | ⟨_, _, hc⟩
    all_goals
      go_enter Try.func6, Try.ntmps6
      go_wp2_with fail
      refine (HR.out _ L_0.out).mono ?_
      rintro e w1 ⟨rfl, hb⟩
      have X_1 := Lib.hid (X_0.out.below hb); have Y_1 := Lib.hid (Y_0.out.below hb); have B_1 := Lib.hid (B_0.out.trans (Below.mono hb B_0.out.size))
      clear hb
      obtain ⟨BX, hBX⟩ : ∃ x, x = w.heap.size + 2 := ⟨_, rfl⟩
      obtain ⟨BY, hBY⟩ : ∃ x, x = w.heap.size + 1 := ⟨_, rfl⟩
      have HBW := Lib.hid (show w.heap.size ≤ BX by omega)
      rw [← hBX] at X_1
      try rw [show w.heap.size + 1 + 1 = w.heap.size + 2 from rfl]
      rw [← hBX]
      rw [← hBY] at Y_1 ⊢
      clear hBX hBY
      have hlt := X_1.out.lt
      obtain ⟨c0, c1, c2⟩ := X_1.out.cells3
      obtain ⟨y0, y1, y2⟩ := Y_1.out.cells3
      have f0 := X_1.out.froz 0; have f1 := X_1.out.froz 1; have f2 := X_1.out.froz 2
      go_wp2_with fail
      have ST := Lib.hid (X_1.out.set3 (.int .i64 0) (.int .i64 0) (.slice none 0 0))
      refine bodyPost_ret (v := .tuple #[onV 0 0 none 0 0, .int .i64 0, .int .i64 1]) (by first | (rw [res_c2 Try.results6 _ (by rfl) (ST.out.load Try.underlying24 inf24)]; rfl)) rfl ⟨none, 0, 0, rfl, Wts.nil _, ?_, fun x hx => by cases hx⟩
      exact below_set3 B_1.out HBW.out _ _ _
def doZ (st by_ : Int) (L : List Wt) (x : Wt) : Int × Int × List Wt × Int × Int :=
  if st = 0 then (1, x.g, [], 0, 0) else if st = 2 then (2, 0, [], 2, 0) else if by_ = x.g then (0, 0, [], 0, 6) else if hasW L x.g x.c = true then (0, 0, [], 0, 7) else if L.length = 64 then (0, 0, [], 0, 5) else (1, by_, L ++ [x], 1, 0)
theorem rightO_parts {st by_ : Int} {L : List Wt} (h : rightO st by_ L = true) : 0 ≤ st ∧ st ≤ 2 ∧ 0 ≤ by_ ∧ rightW L = true ∧ (st = 1 → metW L by_ = false) ∧ (st ≠ 1 → by_ = 0 ∧ L = []) := by
  unfold rightO at h
  simp only [Bool.and_eq_true, decide_eq_true_eq] at h
  obtain ⟨⟨⟨h1, h2, h3⟩, h4⟩, h5⟩ := h
  refine ⟨h1, h2, h3, h4, fun e => ?_, fun e => ?_⟩
  · rw [if_pos e] at h5; simpa using h5
  · rw [if_neg e] at h5; simp at h5; exact h5
theorem Do_any (st by_ : Int) (a : Option Addr) (len cap : Nat) (L : List Wt) (x : Wt) (w : World) (hL : Wts w a len cap L) (hx : WtOk x) (hbI : I64 by_) (hr : rightO st by_ L = true) (hm : mayW x = true) :
    Calls Try.prog 6 #[onV st by_ a len cap, wV x] w (GotD w (doZ st by_ L x).1 (doZ st by_ L x).2.1 (doZ st by_ L x).2.2.1 (doZ st by_ L x).2.2.2.1 (doZ st by_ L x).2.2.2.2) := by
  obtain ⟨h1, h2, h3, hrw, hmet, hno⟩ := rightO_parts hr
  have hlen := hL.recs.len_eq
  have hst : st = 0 ∨ st = 1 ∨ st = 2 := by omega
  rcases hst with rfl | rfl | rfl
  · exact Do_of_24 by_ a len cap L x 1 x.g [] 0 0 w hL hx hbI hr hm (fun W _ => first_any 0 by_ a len cap x W)
  · by_cases hg : by_ = x.g
    · have e : doZ 1 by_ L x = (0, 0, [], 0, 6) := by simp [doZ, hg]
      rw [e]
      exact Do_of_25 by_ a len cap L x 0 0 [] 0 6 w hL hx hbI hr hm (fun W _ => mean_state by_ a len cap x W hg)
    · cases hh : hasW L x.g x.c with
      | true =>
        have e : doZ 1 by_ L x = (0, 0, [], 0, 7) := by simp [doZ, hg, hh]
        rw [e]
        exact Do_of_25 by_ a len cap L x 0 0 [] 0 7 w hL hx hbI hr hm (fun W H => mean_twice by_ a len cap L x W H hx hrw hm hg hh)
      | false =>
        by_cases hf : len = 64
        · have e : doZ 1 by_ L x = (0, 0, [], 0, 5) := by simp [doZ, hg, hh, hlen, hf]
          rw [e]
          exact Do_of_25 by_ a len cap L x 0 0 [] 0 5 w hL hx hbI hr hm (fun W H => mean_full by_ a len cap L x W H hx hrw hm hg hh hf)
        · have e : doZ 1 by_ L x = (1, by_, L ++ [x], 1, 0) := by simp [doZ, hg, hh, hlen, hf]
          rw [e]
          exact Do_of_25 by_ a len cap L x 1 by_ (L ++ [x]) 1 0 w hL hx hbI hr hm (fun W H => mean_ok by_ a len cap L x W H hx hrw hm hg hh hf)
  · exact Do_of_26 by_ a len cap L x 2 0 [] 2 0 w hL hx hbI hr hm (fun W _ => later_any 2 by_ a len cap x W)
end Go.Proofs.Ytnmopfimmindnaa
