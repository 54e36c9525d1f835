/- Small calls of a channel at work. -/
import Derived.Test.YtfolhgpbplfilaaK
namespace Go.Proofs.Ytfolhgpbplfilaa
open Go.RowKit
theorem res1_c {fn : Func} {p : Tmp} {ty : TypeId} (h : fn.results = #[.cell p ty]) (tmps : Array Value) {W : World} {B : Nat} {v : Value} (hp : tmps.getD p undef = .pointer (some ⟨B, 0, none⟩)) (hg : (loadVar ty ⟨B, 0, none⟩).run Try.prog W = .ok v W) :
    (results fn tmps).run Try.prog W = .ok v W := by
  have hp' : tmps[p]?.getD undef = .pointer (some ⟨B, 0, none⟩) := by simpa using hp
  simp only [results, h]
  simp [hp', asAddr, hg]
abbrev aloneC (k : Int) : Array Value := #[.int .i64 k, .int .i64 0, .int .i64 (-1), .int .i64 0, .int .i64 0, .int .i64 0]
theorem res_c1 {fn : Func} {p u : Tmp} {ty : TypeId} (h : fn.results = #[.cell p ty, .tmp u]) (tmps : Array Value) {W : World} {B : Nat} {v : Value} (hp : tmps.getD p undef = .pointer (some ⟨B, 0, none⟩)) (hg : (loadVar ty ⟨B, 0, none⟩).run Try.prog W = .ok v W) :
    (results fn tmps).run Try.prog W = .ok (.tuple #[v, tmps.getD u undef]) W := by
  rw [results_cell_tmp h, hp]
  simp [asAddr, Result.andThen, hg]
theorem res_c2' {fn : Func} {p u u2 : Tmp} {ty : TypeId} (h : fn.results = #[.cell p ty, .tmp u, .tmp u2]) (tmps : Array Value) (w : World) :
    (results fn tmps).run Try.prog w = ((asAddr (tmps.getD p undef)).run Try.prog w).andThen fun a w₁ => ((loadVar ty a).run Try.prog w₁).andThen fun v w₂ => .ok (.tuple #[v, tmps.getD u undef, tmps.getD u2 undef]) w₂ := by
  simp only [results, h]
  simp [Sem.run_bind, Result.andThen]
theorem res_c2 {fn : Func} {p u u2 : Tmp} {ty : TypeId} (h : fn.results = #[.cell p ty, .tmp u, .tmp u2]) (tmps : Array Value) {W : World} {B : Nat} {v : Value} (hp : tmps.getD p undef = .pointer (some ⟨B, 0, none⟩)) (hg : (loadVar ty ⟨B, 0, none⟩).run Try.prog W = .ok v W) :
    (results fn tmps).run Try.prog W = .ok (.tuple #[v, tmps.getD u undef, tmps.getD u2 undef]) W := by
  rw [res_c2' h, hp]
  simp [asAddr, Result.andThen, hg]
theorem res_c3' {fn : Func} {p u u2 u3 : Tmp} {ty : TypeId} (h : fn.results = #[.cell p ty, .tmp u, .tmp u2, .tmp u3]) (tmps : Array Value) (w : World) :
    (results fn tmps).run Try.prog w = ((asAddr (tmps.getD p undef)).run Try.prog w).andThen fun a w₁ => ((loadVar ty a).run Try.prog w₁).andThen fun v w₂ => .ok (.tuple #[v, tmps.getD u undef, tmps.getD u2 undef, tmps.getD u3 undef]) w₂ := by
  simp only [results, h]
  simp [Sem.run_bind, Result.andThen]
theorem res_c3 {fn : Func} {p u u2 u3 : Tmp} {ty : TypeId} (h : fn.results = #[.cell p ty, .tmp u, .tmp u2, .tmp u3]) (tmps : Array Value) {W : World} {B : Nat} {v : Value} (hp : tmps.getD p undef = .pointer (some ⟨B, 0, none⟩)) (hg : (loadVar ty ⟨B, 0, none⟩).run Try.prog W = .ok v W) :
    (results fn tmps).run Try.prog W = .ok (.tuple #[v, tmps.getD u undef, tmps.getD u2 undef, tmps.getD u3 undef]) W := by
  rw [res_c3' h, hp]
  simp [asAddr, Result.andThen, hg]
theorem res_cc1' {fn : Func} {p q u : Tmp} {ty ty2 : TypeId} (h : fn.results = #[.cell p ty, .cell q ty2, .tmp u]) (tmps : Array Value) (w : World) :
    (results fn tmps).run Try.prog w = ((asAddr (tmps.getD p undef)).run Try.prog w).andThen fun a w₁ => ((loadVar ty a).run Try.prog w₁).andThen fun v w₂ => ((asAddr (tmps.getD q undef)).run Try.prog w₂).andThen fun a2 w₃ => ((loadVar ty2 a2).run Try.prog w₃).andThen fun v2 w₄ => .ok (.tuple #[v, v2, tmps.getD u undef]) w₄ := by
  simp only [results, h]
  simp [Sem.run_bind, Result.andThen]
theorem res_cc1 {fn : Func} {p q u : Tmp} {ty ty2 : TypeId} (h : fn.results = #[.cell p ty, .cell q ty2, .tmp u]) (tmps : Array Value) {W : World} {B C : Nat} {v v2 : Value} (hp : tmps.getD p undef = .pointer (some ⟨B, 0, none⟩)) (hg : (loadVar ty ⟨B, 0, none⟩).run Try.prog W = .ok v W) (hq : tmps.getD q undef = .pointer (some ⟨C, 0, none⟩)) (hg2 : (loadVar ty2 ⟨C, 0, none⟩).run Try.prog W = .ok v2 W) :
    (results fn tmps).run Try.prog W = .ok (.tuple #[v, v2, tmps.getD u undef]) W := by
  rw [res_cc1' h, hp, hq]
  simp [asAddr, Result.andThen, hg, hg2]
set_option maxRecDepth 100000 in
set_option maxHeartbeats 4000000 in
theorem alone_any (k : Int) (w : World) : Calls Try.prog 44 #[.int .i64 k] w fun e w' => e = .returned (.agg (aloneC k)) ∧ Below w.heap.size w w' := by
  go_enter Try.func44, Try.ntmps44
  go_wp2_with fail
  refine bodyPost_ret (v := .agg (aloneC k)) (by first | (rw [res1_c Try.results44 _ (by rfl) ((Bx.new w (aloneC k) 50).load Try.underlying50 infO)])) rfl ⟨rfl, below_alloc w _⟩
set_option maxRecDepth 100000 in
set_option maxHeartbeats 4000000 in
theorem cmay_any (x : Wt) (w : World) (hx : WtOk x) : Calls Try.prog 42 #[wV x] w fun e w' => e = .returned (.bool (mayW x)) ∧ Below w.heap.size w w' := by
  obtain ⟨g, c, s⟩ := x
  obtain ⟨h1, h2, h3⟩ := hx
  unfold I64 at h1 h2 h3
  simp only at h1 h2 h3
  have DONE := Lib.hid (fun (b : Bool) (hb : b = mayW ⟨g, c, s⟩) (o : Obj) => (⟨by rw [hb], below_alloc w o⟩ : Ending.returned (.bool b) = .returned (.bool (mayW ⟨g, c, s⟩)) ∧ Below w.heap.size w (w.alloc o)))
  by_cases c1 : 0 ≤ g
  · by_cases c2 : 0 ≤ c
    · by_cases c3 : 0 ≤ s
      all_goals
        have R := Lib.hid (show decide (0 ≤ s) = mayW ⟨g, c, s⟩ by simp [mayW, c1, c2])
        go_enter Try.func42, Try.ntmps42
        go_wp2
        go_ret
        exact DONE.out _ (by rw [← R.out]; simp [c3]) _
    · have R := Lib.hid (show false = mayW ⟨g, c, s⟩ by simp [mayW, c2])
      go_enter Try.func42, Try.ntmps42
      go_wp2
      go_ret
      exact DONE.out _ R.out _
  · have R := Lib.hid (show false = mayW ⟨g, c, s⟩ by simp [mayW, c1])
    go_enter Try.func42, Try.ntmps42
    go_wp2
    go_ret
    exact DONE.out _ R.out _

set_option maxRecDepth 100000 in
set_option maxHeartbeats 4000000 in
theorem hasRoom_any (B : Nat) (c : Chn) (q : CAt) (x : Wt) (w : World) (h : Wk w B c q x) (r : Bool) (hr : decide (c.rk < c.rc) = r) :
    Calls Try.prog 29 #[.pointer (some ⟨B, 0, none⟩)] w fun e w' => e = .returned (.bool r) ∧ Below w.heap.size w w' := by
  obtain ⟨p0, p1, p2, p3, p4, p5, p6, p7, p8, p9, p10, p11, p12⟩ := h.box.cells13
  have R := Lib.hid hr
  clear h hr
  go_enter Try.func29, Try.ntmps29
  go_wp2_with fail
  go_quiet (fail)
  go_wp2_with fail
  go_ret
  exact ⟨ret_bool R.out, below_drewN (Below.refl _ _) _⟩
def someB {α : Type} (o : Option α) : Bool := o.isSome
set_option maxRecDepth 100000 in
set_option maxHeartbeats 4000000 in
theorem isOther_any (B : Nat) (c : Chn) (q : CAt) (x : Wt) (a : Option Addr) (len cap : Nat) (L : List Wt) (w : World) (h : Wk w B c q x) (hL : Wts w a len cap L) (hr : rightW L = true) (hx : 0 ≤ x.g) (hxI : I64 x.g) :
    Calls Try.prog 30 #[.pointer (some ⟨B, 0, none⟩), .slice a len cap] w fun e w' => e = .returned (.bool (someB (firstW L x.g))) ∧ Below w.heap.size w w' := by
  obtain ⟨p0, p1, p2, p3, p4, p5, p6, p7, p8, p9, p10, p11, p12⟩ := h.box.cells13
  have HF := Lib.hid (First_go a len cap L x.g w hL hr hx hxI)
  clear h hL hr hx hxI
  cases ho : firstW L x.g with
  | none =>
    rw [ho] at HF
    clear ho
    unfold GotFirst at HF
    simp only at HF
    unfold GotWait at HF
    go_enter Try.func30, Try.ntmps30
    go_wp2_with fail
    refine HF.out.mono ?_
    rintro e w1 ⟨rfl, hb⟩
    have HB := Lib.hid hb; clear hb p0 p1 p2 p3 p4 p5 p6 p7 p8 p9 p10 p11 p12
    go_wp2_with fail
    go_ret
    exact ⟨rfl, HB.out.alloc HB.out.size _⟩
  | some y =>
    rw [ho] at HF
    clear ho
    unfold GotFirst at HF
    simp only at HF
    unfold GotWait at HF
    go_enter Try.func30, Try.ntmps30
    go_wp2_with fail
    refine HF.out.mono ?_
    rintro e w1 ⟨rfl, hb⟩
    have HB := Lib.hid hb; clear hb p0 p1 p2 p3 p4 p5 p6 p7 p8 p9 p10 p11 p12
    go_wp2_with fail
    go_ret
    exact ⟨rfl, HB.out.alloc HB.out.size _⟩
set_option maxRecDepth 100000 in
set_option maxHeartbeats 4000000 in
theorem leave_any (B : Nat) (c : Chn) (q : CAt) (x : Wt) (g : Int) (w : World) (h : Wk w B c q x) (hs : rightW c.sends = true) (hr : rightW c.recvs = true) (hg : 0 ≤ g) (hgI : I64 g) :
    Calls Try.prog 32 #[.pointer (some ⟨B, 0, none⟩), .int .i64 g] w (Did w B q x { c with sends := dropW c.sends g, recvs := dropW c.recvs g } (.int .i64 0)) := by
  have HD1 := Lib.hid (Drop_goF q.sa q.sn q.sc c.sends g w h.ch.sends hs hg hgI)
  have HD2 := Lib.hid (fun W (H : Wts W q.ra q.rn q.rq c.recvs) => Drop_goF q.ra q.rn q.rq c.recvs g W H hr hg hgI)
  unfold GotF at HD1 HD2
  have HW := Lib.hid h
  clear h hs hr hg hgI
  obtain ⟨p0, p1, p2, p3, p4, p5, p6, p7, p8, p9, p10, p11, p12⟩ := HW.out.box.cells13
  have lB := HW.out.box.lt
  go_enter Try.func32, Try.ntmps32
  go_wp2_with fail
  refine HD1.out.mono ?_
  rintro e w1 ⟨a1, n1, c1, rfl, hw1, hb1, hf1⟩
  have HW1 := Lib.hid (HW.out.below hb1); have HL1 := Lib.hid hw1; have HB1 := Lib.hid hb1; have HF1 := Lib.hid hf1
  clear hw1 hb1 hf1 p0 p1 p2 p3 p4 p5 p6 p7 p8 p9 p10 p11 p12
  obtain ⟨p0, p1, p2, p3, p4, p5, p6, p7, p8, p9, p10, p11, p12⟩ := HW1.out.box.cells13
  have l1 := HW1.out.box.lt
  have f8 := HW1.out.box.froz 8
  go_wp2_with fail
  obtain ⟨X, hX⟩ : ∃ X, X = w1.setCell ⟨B, 8, none⟩ (.slice a1 n1 c1) := ⟨_, rfl⟩
  have G2 := Lib.hid (show w.grownBy X (some B) by rw [hX]; exact grow_set (grow_below (World.grownBy.refl _ _) HB1.out) 8 _)
  have G1 := Lib.hid (show w1.grownBy X (some B) by rw [hX]; exact grow_setCell _ _ _ _)
  have BX2 := Lib.hid (show Bx X B (wkC { c with sends := dropW c.sends g } { q with sa := a1, sn := n1, sc := c1 } x) 61 by rw [hX]; exact HW1.out.box.set 8 _)
  rw [← hX]
  clear hX p0 p1 p2 p3 p4 p5 p6 p7 p8 p9 p10 p11 p12 l1 f8
  have AP1 := Lib.hid (show ∀ y, a1 = some y → 0 < n1 → y.block ≠ B from fun y hy _ he => by have := HF1.out y hy; omega)
  have HS2 := Lib.hid (HL1.out.other AP1.out G1.out)
  have HR2 := Lib.hid (HW1.out.ch.recvs.other HW1.out.ap.ar G1.out)
  have HZ2 := Lib.hid (HW1.out.ch.zs.other HW1.out.ap.az G1.out)
  obtain ⟨p0, p1, p2, p3, p4, p5, p6, p7, p8, p9, p10, p11, p12⟩ := BX2.out.cells13
  go_wp2_with fail
  refine (HD2.out _ HR2.out).mono ?_
  rintro e w3 ⟨a3, n3, c3, rfl, hw3, hb3, hf3⟩
  have G3 := Lib.hid (grow_below G2.out hb3); have BX3 := Lib.hid (BX2.out.below hb3); have HS3 := Lib.hid (HS2.out.below hb3); have HZ3 := Lib.hid (HZ2.out.below hb3); have HL3 := Lib.hid hw3; have HF3 := Lib.hid hf3; have hsz := G2.out.size; have HSZ := Lib.hid hsz
  have AP3 := Lib.hid (show ∀ y, a3 = some y → 0 < n3 → y.block ≠ B from fun y hy _ he => by have := HF3.out y hy; omega)
  clear hw3 hb3 hf3 hsz p0 p1 p2 p3 p4 p5 p6 p7 p8 p9 p10 p11 p12
  obtain ⟨p0, p1, p2, p3, p4, p5, p6, p7, p8, p9, p10, p11, p12⟩ := BX3.out.cells13
  have l1 := BX3.out.lt
  have f9 := BX3.out.froz 9
  go_wp2_with fail
  go_ret
  have G4 : w3.grownBy (w3.setCell ⟨B, 9, none⟩ (.slice a3 n3 c3)) (some B) := grow_setCell _ _ _ _
  refine ⟨{ q with sa := a1, sn := n1, sc := c1, ra := a3, rn := n3, rq := c3 }, rfl, ⟨BX3.out.set 9 _, ⟨HW.out.ch.cap, HW.out.ch.rc, HW.out.ch.rf, HW.out.ch.rk, HW.out.ch.sent, HW.out.ch.got, HZ3.out.other HW.out.ap.az G4, HS3.out.other AP1.out G4, HL3.out.other AP3.out G4⟩, ⟨HW.out.ap.az, AP1.out, AP3.out⟩⟩, G3.out.trans G4, fun Bo hBo hA => ⟨hA.az, fun y hy _ he => by have := HF1.out y hy; omega, fun y hy _ he => by have := HF3.out y hy; have := HSZ.out; omega⟩⟩
end Go.Proofs.Ytfolhgpbplfilaa
