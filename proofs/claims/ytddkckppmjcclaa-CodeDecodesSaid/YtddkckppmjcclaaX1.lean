/- The reference's reader: next and many. -/
import Derived.Test.YtddkckppmjcclaaD9
namespace Go.Proofs.Ytddkckppmjcclaa
open Go.RowKit
set_option linter.unusedSimpArgs false
set_option linter.unusedVariables false
abbrev st4 (W : World) (B : Nat) (v0 v1 v2 v3 : Value) : World := ((((W.setCell ⟨B, 0, none⟩ v0).setCell ⟨B, 1, none⟩ v1).setCell ⟨B, 2, none⟩ v2).setCell ⟨B, 3, none⟩ v3)
theorem Bx.st4 {W : World} {B : Nat} {x0 x1 x2 x3 : Value} {t : TypeId} (h : Bx W B #[x0, x1, x2, x3] t) (v0 v1 v2 v3 : Value) : Bx (st4 W B v0 v1 v2 v3) B #[v0, v1, v2, v3] t := by
  show Bx ((((W.setCell ⟨B, 0, none⟩ v0).setCell ⟨B, 1, none⟩ v1).setCell ⟨B, 2, none⟩ v2).setCell ⟨B, 3, none⟩ v3) B _ t
  have h0 : Bx (W.setCell ⟨B, 0, none⟩ v0) B #[v0, x1, x2, x3] t := h.set 0 v0
  generalize W.setCell ⟨B, 0, none⟩ v0 = W0 at h0 ⊢
  have h1 : Bx (W0.setCell ⟨B, 1, none⟩ v1) B #[v0, v1, x2, x3] t := h0.set 1 v1
  generalize W0.setCell ⟨B, 1, none⟩ v1 = W1 at h1 ⊢
  have h2 : Bx (W1.setCell ⟨B, 2, none⟩ v2) B #[v0, v1, v2, x3] t := h1.set 2 v2
  generalize W1.setCell ⟨B, 2, none⟩ v2 = W2 at h2 ⊢
  have h3 : Bx (W2.setCell ⟨B, 3, none⟩ v3) B #[v0, v1, v2, v3] t := h2.set 3 v3
  exact h3
theorem grown_st4 {w W : World} {B : Nat} (h : w.grownBy W (some B)) (v0 v1 v2 v3 : Value) : w.grownBy (st4 W B v0 v1 v2 v3) (some B) := (grow_set (grow_set (grow_set (grow_set h 0 _) 1 _) 2 _) 3 _)
theorem Bx.cells4 {W : World} {B : Nat} {x0 x1 x2 x3 : Value} {t : TypeId} (h : Bx W B #[x0, x1, x2, x3] t) : W.cell? ⟨B, 0, none⟩ = some x0 ∧ W.cell? ⟨B, 1, none⟩ = some x1 ∧ W.cell? ⟨B, 2, none⟩ = some x2 ∧ W.cell? ⟨B, 3, none⟩ = some x3 := ⟨Bx.cell h 0 rfl, Bx.cell h 1 rfl, Bx.cell h 2 rfl, Bx.cell h 3 rfl⟩
theorem Bx.new3 (w : World) (A A2 : Obj) (cs : Array Value) (t : TypeId) : Bx (((w.alloc A).alloc A2).alloc (.cells cs t)) (w.heap.size + 2) cs t := by
  have := Bx.new2 (w.alloc A) A2 cs t
  rwa [World.size_alloc] at this
theorem inf58 : (Try.prog.info? 58).map (·.size) = some 4 := by kernel_rfl
structure XS where
  at_ : Nat
  n : Int
  e : Int
abbrev xC (s : ByteArray) (x : XS) : Array Value := #[.string s, .int .i64 (x.at_ : Int), .int .i64 x.n, .int .i64 x.e]
abbrev xV (s : ByteArray) (x : XS) : Value := .agg (xC s x)
def XOk (T : List Int) (x : XS) : Prop := x.at_ ≤ T.length ∧ 0 ≤ x.n ∧ x.n ≤ 2147483647
def nextX (T : List Int) (x : XS) : XS := if x.e = 0 then (match nP T x.at_ with | .ok n j => ⟨j, n, 0⟩ | .no c => ⟨x.at_, 0, c⟩) else x
def manyX (T : List Int) (x : XS) (each most : Int) : XS := if (nextX T x).e = 0 ∧ most < (nextX T x).n / each then ⟨(nextX T x).at_, (nextX T x).n, 2⟩ else nextX T x
theorem XOk.next {T : List Int} (hT : Byt T) {x : XS} (h : XOk T x) : XOk T (nextX T x) := by
  unfold nextX
  split
  · cases hn : nP T x.at_ with
    | no c => exact ⟨h.1, Int.le_refl _, by show (0 : Int) ≤ _; decide⟩
    | ok n j => have := nP_ok hT h.1 hn; exact ⟨this.2.1, this.2.2.1, this.2.2.2⟩
  · exact h
theorem XOk.many {T : List Int} (hT : Byt T) {x : XS} (h : XOk T x) (e m : Int) : XOk T (manyX T x e m) := by
  unfold manyX
  split
  · exact ⟨(h.next hT).1, (h.next hT).2.1, (h.next hT).2.2⟩
  · exact h.next hT
def Gives (w : World) (v : Value) (e : Ending) (w' : World) : Prop := e = .returned v ∧ Below w.heap.size w w'
set_option maxRecDepth 100000 in
set_option maxHeartbeats 8000000 in
theorem xnext_e (s : ByteArray) (x : XS) (w : World) (h : XOk (tx s) x) (hs : s.size ≤ 100000) (he : ¬ x.e = 0) : Calls Try.prog 41 #[xV s x] w (Gives w (xV s (nextX (tx s) x))) := by
  have HR := Lib.hid (show nextX (tx s) x = x by unfold nextX; rw [if_neg he])
  have heb : (x.e == 0) = false := by rw [beq_eq_false_iff_ne]; exact he
  have hen : (x.e != 0) = true := by simp [he]
  rw [HR.out]
  clear h
  have KX := Lib.hid ((Bx.new w #[.string s, .int .i64 (x.at_ : Int), .int .i64 x.n, .int .i64 x.e] 58).below (below_alloc _ (.cells #[.string ⟨#[]⟩, .int .i64 0, .int .i64 0, .int .i64 0] 58)))
  have KR := Lib.hid (Bx.new2 w (.cells #[.string s, .int .i64 (x.at_ : Int), .int .i64 x.n, .int .i64 x.e] 58) #[.string ⟨#[]⟩, .int .i64 0, .int .i64 0, .int .i64 0] 58)
  have B0 := Lib.hid ((below_alloc w (.cells #[.string s, .int .i64 (x.at_ : Int), .int .i64 x.n, .int .i64 x.e] 58)).trans (Below.mono (below_alloc (w.alloc (.cells #[.string s, .int .i64 (x.at_ : Int), .int .i64 x.n, .int .i64 x.e] 58)) (.cells #[.string ⟨#[]⟩, .int .i64 0, .int .i64 0, .int .i64 0] 58)) (by simp; try omega)))
  obtain ⟨bx, hbx⟩ : ∃ zz, zz = w.heap.size := ⟨_, rfl⟩
  obtain ⟨br, hbr⟩ : ∃ zz, zz = w.heap.size + 1 := ⟨_, rfl⟩
  obtain ⟨v0, hv0⟩ : ∃ zz, zz = ((w.alloc (.cells #[.string s, .int .i64 (x.at_ : Int), .int .i64 x.n, .int .i64 x.e] 58)).alloc (.cells #[.string ⟨#[]⟩, .int .i64 0, .int .i64 0, .int .i64 0] 58)) := ⟨_, rfl⟩
  have Hbx := Lib.hid hbx; have Hnbx := Lib.hid (show w.heap.size ≤ bx by omega)
  have Hbr := Lib.hid hbr; have Hnbr := Lib.hid (show w.heap.size ≤ br by omega)
  have HV0 := Lib.hid hv0
  have nbxbr : bx ≠ br := by omega
  have nbrbx : br ≠ bx := by omega
  rw [← hv0] at B0 KX KR
  rw [← hbx] at KX
  rw [← hbr] at KR
  clear hv0 hbx hbr
  go_enter Try.func41, Try.ntmps41
  go_upto_region 1 with (fail)
  rw [← HV0.out, ← Hbr.out, ← Hbx.out]
  obtain ⟨cKX0, cKX1, cKX2, cKX3⟩ := Bx.cells4 KX.out
  obtain ⟨cKR0, cKR1, cKR2, cKR3⟩ := Bx.cells4 KR.out
  have lKR := Bx.lt KR.out; have fKR0 := Bx.froz KR.out 0; have fKR1 := Bx.froz KR.out 1; have fKR2 := Bx.froz KR.out 2; have fKR3 := Bx.froz KR.out 3
  have HE := Lib.hid (Bx.st4 KR.out (.string s) (.int .i64 (x.at_ : Int)) (.int .i64 x.n) (.int .i64 x.e))
  have HBE := Lib.hid (B0.out.trans (below_grown (grown_st4 (World.grownBy.refl v0 (some br)) (.string s) (.int .i64 (x.at_ : Int)) (.int .i64 x.n) (.int .i64 x.e)) Hnbr.out B0.out.size))
  go_wp2_with fail
  refine bodyPost_ret (v := .agg #[.string s, .int .i64 (x.at_ : Int), .int .i64 x.n, .int .i64 x.e]) (by first | rw [res_c0 Try.results41 _ (by rfl) (Bx.load HE.out Try.underlying58 inf58)] | skip) rfl ?_
  exact ⟨rfl, HBE.out⟩
set_option maxRecDepth 100000 in
set_option maxHeartbeats 8000000 in
theorem xnext_no (s : ByteArray) (x : XS) (w : World) (h : XOk (tx s) x) (hs : s.size ≤ 100000) (he : x.e = 0) {c : Int} (hn : nP (tx s) x.at_ = .no c) : Calls Try.prog 41 #[xV s x] w (Gives w (xV s (nextX (tx s) x))) := by
  have HR := Lib.hid (show nextX (tx s) x = ⟨x.at_, 0, c⟩ by unfold nextX; rw [if_pos he, hn])
  have HG := Lib.hid (fun W => refget_in s x.at_ W (by rw [← tx_len]; exact h.1) (by omega))
  obtain ⟨hz, hc0, _⟩ := nP_no h.1 hn
  simp only [hz] at HG
  have hcb : (c == 0) = false := by rw [beq_eq_false_iff_ne]; exact hc0
  have hcn : (c != 0) = true := by simp [hc0]
  clear hz
  obtain ⟨xa, xn, xe⟩ := x
  dsimp only at he hn HG h HR
  subst he
  rw [HR.out]
  clear hn
  clear h
  have KX := Lib.hid ((Bx.new w #[.string s, .int .i64 (xa : Int), .int .i64 xn, .int .i64 0] 58).below (below_alloc _ (.cells #[.string ⟨#[]⟩, .int .i64 0, .int .i64 0, .int .i64 0] 58)))
  have KR := Lib.hid (Bx.new2 w (.cells #[.string s, .int .i64 (xa : Int), .int .i64 xn, .int .i64 0] 58) #[.string ⟨#[]⟩, .int .i64 0, .int .i64 0, .int .i64 0] 58)
  have B0 := Lib.hid ((below_alloc w (.cells #[.string s, .int .i64 (xa : Int), .int .i64 xn, .int .i64 0] 58)).trans (Below.mono (below_alloc (w.alloc (.cells #[.string s, .int .i64 (xa : Int), .int .i64 xn, .int .i64 0] 58)) (.cells #[.string ⟨#[]⟩, .int .i64 0, .int .i64 0, .int .i64 0] 58)) (by simp; try omega)))
  obtain ⟨bx, hbx⟩ : ∃ zz, zz = w.heap.size := ⟨_, rfl⟩
  obtain ⟨br, hbr⟩ : ∃ zz, zz = w.heap.size + 1 := ⟨_, rfl⟩
  obtain ⟨v0, hv0⟩ : ∃ zz, zz = ((w.alloc (.cells #[.string s, .int .i64 (xa : Int), .int .i64 xn, .int .i64 0] 58)).alloc (.cells #[.string ⟨#[]⟩, .int .i64 0, .int .i64 0, .int .i64 0] 58)) := ⟨_, rfl⟩
  have Hbx := Lib.hid hbx; have Hnbx := Lib.hid (show w.heap.size ≤ bx by omega)
  have Hbr := Lib.hid hbr; have Hnbr := Lib.hid (show w.heap.size ≤ br by omega)
  have HV0 := Lib.hid hv0
  have nbxbr : bx ≠ br := by omega
  have nbrbx : br ≠ bx := by omega
  rw [← hv0] at B0 KX KR
  rw [← hbx] at KX
  rw [← hbr] at KR
  clear hv0 hbx hbr
  go_enter Try.func41, Try.ntmps41
  go_upto_region 1 with (fail)
  rw [← HV0.out, ← Hbr.out, ← Hbx.out]
  obtain ⟨cKX0, cKX1, cKX2, cKX3⟩ := Bx.cells4 KX.out
  go_wp2_with fail
  clear cKX0 cKX1 cKX2 cKX3
  refine (HG.out _).mono ?_
  rintro e u1 ⟨rfl, rfl⟩
  obtain ⟨cKX0, cKX1, cKX2, cKX3⟩ := Bx.cells4 KX.out
  have lKX := Bx.lt KX.out; have fKX0 := Bx.froz KX.out 0; have fKX1 := Bx.froz KX.out 1; have fKX2 := Bx.froz KX.out 2; have fKX3 := Bx.froz KX.out 3
  go_upto_region 5 with (fail)
  clear cKX0 cKX1 cKX2 cKX3 lKX fKX0 fKX1 fKX2 fKX3
  have SG1 := Lib.hid (grow_setCell v0 bx 2 (.int .i64 0))
  have B_1 := Lib.hid (B0.out.trans (below_grown SG1.out Hnbx.out B0.out.size))
  have KX_1 := Lib.hid ((show Bx (v0.setCell ⟨bx, 2, none⟩ (.int .i64 0)) bx #[.string s, .int .i64 (xa : Int), .int .i64 0, .int .i64 0] _ from Bx.set KX.out 2 (.int .i64 0)))
  have KR_1 := Lib.hid (Bx.other KR.out SG1.out (some_ne nbrbx))
  obtain ⟨v2, hv2⟩ : ∃ zz, zz = v0.setCell ⟨bx, 2, none⟩ (.int .i64 0) := ⟨_, rfl⟩
  rw [← hv2] at B_1 KX_1 KR_1
  have gv2 := hv2
  first | rw [← hv2] | rw [← gv2]
  clear hv2 gv2
  clear SG1 B0 KX KR
  obtain ⟨cKX0, cKX1, cKX2, cKX3⟩ := Bx.cells4 KX_1.out
  have lKX := Bx.lt KX_1.out; have fKX0 := Bx.froz KX_1.out 0; have fKX1 := Bx.froz KX_1.out 1; have fKX2 := Bx.froz KX_1.out 2; have fKX3 := Bx.froz KX_1.out 3
  go_upto_region 6 with (fail)
  clear cKX0 cKX1 cKX2 cKX3 lKX fKX0 fKX1 fKX2 fKX3
  have SG3 := Lib.hid (grow_setCell v2 bx 3 (.int .i64 c))
  have B_3 := Lib.hid (B_1.out.trans (below_grown SG3.out Hnbx.out B_1.out.size))
  have KX_3 := Lib.hid ((show Bx (v2.setCell ⟨bx, 3, none⟩ (.int .i64 c)) bx #[.string s, .int .i64 (xa : Int), .int .i64 0, .int .i64 c] _ from Bx.set KX_1.out 3 (.int .i64 c)))
  have KR_3 := Lib.hid (Bx.other KR_1.out SG3.out (some_ne nbrbx))
  obtain ⟨v4, hv4⟩ : ∃ zz, zz = v2.setCell ⟨bx, 3, none⟩ (.int .i64 c) := ⟨_, rfl⟩
  rw [← hv4] at B_3 KX_3 KR_3
  have gv4 := hv4
  first | rw [← hv4] | rw [← gv4]
  clear hv4 gv4
  clear SG3 B_1 KX_1 KR_1
  obtain ⟨cKX0, cKX1, cKX2, cKX3⟩ := Bx.cells4 KX_3.out
  obtain ⟨cKR0, cKR1, cKR2, cKR3⟩ := Bx.cells4 KR_3.out
  have lKR := Bx.lt KR_3.out; have fKR0 := Bx.froz KR_3.out 0; have fKR1 := Bx.froz KR_3.out 1; have fKR2 := Bx.froz KR_3.out 2; have fKR3 := Bx.froz KR_3.out 3
  have HE := Lib.hid (Bx.st4 KR_3.out (.string s) (.int .i64 (xa : Int)) (.int .i64 0) (.int .i64 c))
  have HBE := Lib.hid (B_3.out.trans (below_grown (grown_st4 (World.grownBy.refl v4 (some br)) (.string s) (.int .i64 (xa : Int)) (.int .i64 0) (.int .i64 c)) Hnbr.out B_3.out.size))
  go_wp2_with fail
  refine bodyPost_ret (v := .agg #[.string s, .int .i64 (xa : Int), .int .i64 0, .int .i64 c]) (by first | rw [res_c0 Try.results41 _ (by rfl) (Bx.load HE.out Try.underlying58 inf58)] | skip) rfl ?_
  exact ⟨rfl, HBE.out⟩
set_option maxRecDepth 100000 in
set_option maxHeartbeats 8000000 in
theorem xnext_ok (s : ByteArray) (x : XS) (w : World) (h : XOk (tx s) x) (hs : s.size ≤ 100000) (he : x.e = 0) {n : Int} {j : Nat} (hn : nP (tx s) x.at_ = .ok n j) : Calls Try.prog 41 #[xV s x] w (Gives w (xV s (nextX (tx s) x))) := by
  have HR := Lib.hid (show nextX (tx s) x = ⟨j, n, 0⟩ by unfold nextX; rw [if_pos he, hn])
  have HG := Lib.hid (fun W => refget_in s x.at_ W (by rw [← tx_len]; exact h.1) (by omega))
  simp only [nP_eq h.1 hn] at HG
  obtain ⟨_, hjl, hn0, hn1⟩ := nP_ok (tx_byt s) h.1 hn
  obtain ⟨xa, xn, xe⟩ := x
  dsimp only at he hn HG h HR
  subst he
  rw [HR.out]
  clear hn
  clear h
  have KX := Lib.hid ((Bx.new w #[.string s, .int .i64 (xa : Int), .int .i64 xn, .int .i64 0] 58).below (below_alloc _ (.cells #[.string ⟨#[]⟩, .int .i64 0, .int .i64 0, .int .i64 0] 58)))
  have KR := Lib.hid (Bx.new2 w (.cells #[.string s, .int .i64 (xa : Int), .int .i64 xn, .int .i64 0] 58) #[.string ⟨#[]⟩, .int .i64 0, .int .i64 0, .int .i64 0] 58)
  have B0 := Lib.hid ((below_alloc w (.cells #[.string s, .int .i64 (xa : Int), .int .i64 xn, .int .i64 0] 58)).trans (Below.mono (below_alloc (w.alloc (.cells #[.string s, .int .i64 (xa : Int), .int .i64 xn, .int .i64 0] 58)) (.cells #[.string ⟨#[]⟩, .int .i64 0, .int .i64 0, .int .i64 0] 58)) (by simp; try omega)))
  obtain ⟨bx, hbx⟩ : ∃ zz, zz = w.heap.size := ⟨_, rfl⟩
  obtain ⟨br, hbr⟩ : ∃ zz, zz = w.heap.size + 1 := ⟨_, rfl⟩
  obtain ⟨v0, hv0⟩ : ∃ zz, zz = ((w.alloc (.cells #[.string s, .int .i64 (xa : Int), .int .i64 xn, .int .i64 0] 58)).alloc (.cells #[.string ⟨#[]⟩, .int .i64 0, .int .i64 0, .int .i64 0] 58)) := ⟨_, rfl⟩
  have Hbx := Lib.hid hbx; have Hnbx := Lib.hid (show w.heap.size ≤ bx by omega)
  have Hbr := Lib.hid hbr; have Hnbr := Lib.hid (show w.heap.size ≤ br by omega)
  have HV0 := Lib.hid hv0
  have nbxbr : bx ≠ br := by omega
  have nbrbx : br ≠ bx := by omega
  rw [← hv0] at B0 KX KR
  rw [← hbx] at KX
  rw [← hbr] at KR
  clear hv0 hbx hbr
  go_enter Try.func41, Try.ntmps41
  go_upto_region 1 with (fail)
  rw [← HV0.out, ← Hbr.out, ← Hbx.out]
  obtain ⟨cKX0, cKX1, cKX2, cKX3⟩ := Bx.cells4 KX.out
  go_wp2_with fail
  clear cKX0 cKX1 cKX2 cKX3
  refine (HG.out _).mono ?_
  rintro e u1 ⟨rfl, rfl⟩
  obtain ⟨cKX0, cKX1, cKX2, cKX3⟩ := Bx.cells4 KX.out
  have lKX := Bx.lt KX.out; have fKX0 := Bx.froz KX.out 0; have fKX1 := Bx.froz KX.out 1; have fKX2 := Bx.froz KX.out 2; have fKX3 := Bx.froz KX.out 3
  go_upto_region 5 with (fail)
  clear cKX0 cKX1 cKX2 cKX3 lKX fKX0 fKX1 fKX2 fKX3
  have SG1 := Lib.hid (grow_setCell v0 bx 2 (.int .i64 n))
  have B_1 := Lib.hid (B0.out.trans (below_grown SG1.out Hnbx.out B0.out.size))
  have KX_1 := Lib.hid ((show Bx (v0.setCell ⟨bx, 2, none⟩ (.int .i64 n)) bx #[.string s, .int .i64 (xa : Int), .int .i64 n, .int .i64 0] _ from Bx.set KX.out 2 (.int .i64 n)))
  have KR_1 := Lib.hid (Bx.other KR.out SG1.out (some_ne nbrbx))
  obtain ⟨v2, hv2⟩ : ∃ zz, zz = v0.setCell ⟨bx, 2, none⟩ (.int .i64 n) := ⟨_, rfl⟩
  rw [← hv2] at B_1 KX_1 KR_1
  have gv2 := hv2
  first | rw [← hv2] | rw [← gv2]
  clear hv2 gv2
  clear SG1 B0 KX KR
  obtain ⟨cKX0, cKX1, cKX2, cKX3⟩ := Bx.cells4 KX_1.out
  have lKX := Bx.lt KX_1.out; have fKX0 := Bx.froz KX_1.out 0; have fKX1 := Bx.froz KX_1.out 1; have fKX2 := Bx.froz KX_1.out 2; have fKX3 := Bx.froz KX_1.out 3
  go_upto_region 6 with (fail)
  clear cKX0 cKX1 cKX2 cKX3 lKX fKX0 fKX1 fKX2 fKX3
  have SG3 := Lib.hid (grow_setCell v2 bx 3 (.int .i64 0))
  have B_3 := Lib.hid (B_1.out.trans (below_grown SG3.out Hnbx.out B_1.out.size))
  have KX_3 := Lib.hid ((show Bx (v2.setCell ⟨bx, 3, none⟩ (.int .i64 0)) bx #[.string s, .int .i64 (xa : Int), .int .i64 n, .int .i64 0] _ from Bx.set KX_1.out 3 (.int .i64 0)))
  have KR_3 := Lib.hid (Bx.other KR_1.out SG3.out (some_ne nbrbx))
  obtain ⟨v4, hv4⟩ : ∃ zz, zz = v2.setCell ⟨bx, 3, none⟩ (.int .i64 0) := ⟨_, rfl⟩
  rw [← hv4] at B_3 KX_3 KR_3
  have gv4 := hv4
  first | rw [← hv4] | rw [← gv4]
  clear hv4 gv4
  clear SG3 B_1 KX_1 KR_1
  obtain ⟨cKX0, cKX1, cKX2, cKX3⟩ := Bx.cells4 KX_3.out
  have lKX := Bx.lt KX_3.out; have fKX0 := Bx.froz KX_3.out 0; have fKX1 := Bx.froz KX_3.out 1; have fKX2 := Bx.froz KX_3.out 2; have fKX3 := Bx.froz KX_3.out 3
  go_upto_region 8 with (fail)
  clear cKX0 cKX1 cKX2 cKX3 lKX fKX0 fKX1 fKX2 fKX3
  have SG5 := Lib.hid (grow_setCell v4 bx 1 (.int .i64 (j : Int)))
  have B_5 := Lib.hid (B_3.out.trans (below_grown SG5.out Hnbx.out B_3.out.size))
  have KX_5 := Lib.hid ((show Bx (v4.setCell ⟨bx, 1, none⟩ (.int .i64 (j : Int))) bx #[.string s, .int .i64 (j : Int), .int .i64 n, .int .i64 0] _ from Bx.set KX_3.out 1 (.int .i64 (j : Int))))
  have KR_5 := Lib.hid (Bx.other KR_3.out SG5.out (some_ne nbrbx))
  obtain ⟨v6, hv6⟩ : ∃ zz, zz = v4.setCell ⟨bx, 1, none⟩ (.int .i64 (j : Int)) := ⟨_, rfl⟩
  rw [← hv6] at B_5 KX_5 KR_5
  have gv6 := hv6
  first | rw [← hv6] | rw [← gv6]
  clear hv6 gv6
  clear SG5 B_3 KX_3 KR_3
  obtain ⟨cKX0, cKX1, cKX2, cKX3⟩ := Bx.cells4 KX_5.out
  obtain ⟨cKR0, cKR1, cKR2, cKR3⟩ := Bx.cells4 KR_5.out
  have lKR := Bx.lt KR_5.out; have fKR0 := Bx.froz KR_5.out 0; have fKR1 := Bx.froz KR_5.out 1; have fKR2 := Bx.froz KR_5.out 2; have fKR3 := Bx.froz KR_5.out 3
  have HE := Lib.hid (Bx.st4 KR_5.out (.string s) (.int .i64 (j : Int)) (.int .i64 n) (.int .i64 0))
  have HBE := Lib.hid (B_5.out.trans (below_grown (grown_st4 (World.grownBy.refl v6 (some br)) (.string s) (.int .i64 (j : Int)) (.int .i64 n) (.int .i64 0)) Hnbr.out B_5.out.size))
  go_wp2_with fail
  refine bodyPost_ret (v := .agg #[.string s, .int .i64 (j : Int), .int .i64 n, .int .i64 0]) (by first | rw [res_c0 Try.results41 _ (by rfl) (Bx.load HE.out Try.underlying58 inf58)] | skip) rfl ?_
  exact ⟨rfl, HBE.out⟩
theorem xnext_any (s : ByteArray) (x : XS) (w : World) (h : XOk (tx s) x) (hs : s.size ≤ 100000) : Calls Try.prog 41 #[xV s x] w (Gives w (xV s (nextX (tx s) x))) := by
  by_cases he : x.e = 0
  · cases hn : nP (tx s) x.at_ with
    | no c => exact xnext_no s x w h hs he hn
    | ok n j => exact xnext_ok s x w h hs he hn
  · exact xnext_e s x w h hs he
set_option maxRecDepth 100000 in
set_option maxHeartbeats 8000000 in
theorem many_1_4_e (s : ByteArray) (x : XS) (w : World) (h : XOk (tx s) x) (hs : s.size ≤ 100000) (he : ¬ (nextX (tx s) x).e = 0) : Calls Try.prog 25 #[xV s x, .int .i64 1, .int .i64 4] w (Gives w (xV s (manyX (tx s) x 1 4))) := by
  have hT := tx_byt s
  have hy := h.next hT
  have HN := Lib.hid (fun W => xnext_any s x W h hs)
  unfold Gives at HN
  unfold manyX
  rw [if_neg (fun hh => he hh.1)]
  obtain ⟨y, hyd⟩ : ∃ y, y = nextX (tx s) x := ⟨_, rfl⟩
  rw [← hyd] at HN hy he ⊢
  clear hyd h
  obtain ⟨ya, yn, ye⟩ := y
  obtain ⟨hy1, hy2, hy3⟩ := hy
  dsimp only at hy1 hy2 hy3 he
  have hya : ya ≤ 100000 := by rw [tx_len] at hy1; omega
  clear hy1
  have heb : (ye == 0) = false := by rw [beq_eq_false_iff_ne]; exact he
  have KX := Lib.hid ((Bx.new w #[.string s, .int .i64 (x.at_ : Int), .int .i64 x.n, .int .i64 x.e] 58).below (below_alloc _ (.cells #[.string ⟨#[]⟩, .int .i64 0, .int .i64 0, .int .i64 0] 58)))
  have KR := Lib.hid (Bx.new2 w (.cells #[.string s, .int .i64 (x.at_ : Int), .int .i64 x.n, .int .i64 x.e] 58) #[.string ⟨#[]⟩, .int .i64 0, .int .i64 0, .int .i64 0] 58)
  have B0 := Lib.hid ((below_alloc w (.cells #[.string s, .int .i64 (x.at_ : Int), .int .i64 x.n, .int .i64 x.e] 58)).trans (Below.mono (below_alloc (w.alloc (.cells #[.string s, .int .i64 (x.at_ : Int), .int .i64 x.n, .int .i64 x.e] 58)) (.cells #[.string ⟨#[]⟩, .int .i64 0, .int .i64 0, .int .i64 0] 58)) (by simp; try omega)))
  obtain ⟨bx, hbx⟩ : ∃ zz, zz = w.heap.size := ⟨_, rfl⟩
  obtain ⟨br, hbr⟩ : ∃ zz, zz = w.heap.size + 1 := ⟨_, rfl⟩
  obtain ⟨v0, hv0⟩ : ∃ zz, zz = ((w.alloc (.cells #[.string s, .int .i64 (x.at_ : Int), .int .i64 x.n, .int .i64 x.e] 58)).alloc (.cells #[.string ⟨#[]⟩, .int .i64 0, .int .i64 0, .int .i64 0] 58)) := ⟨_, rfl⟩
  have Hbx := Lib.hid hbx; have Hnbx := Lib.hid (show w.heap.size ≤ bx by omega)
  have Hbr := Lib.hid hbr; have Hnbr := Lib.hid (show w.heap.size ≤ br by omega)
  have HV0 := Lib.hid hv0
  have nbxbr : bx ≠ br := by omega
  have nbrbx : br ≠ bx := by omega
  rw [← hv0] at B0 KX KR
  rw [← hbx] at KX
  rw [← hbr] at KR
  clear hv0 hbx hbr
  go_enter Try.func25, Try.ntmps25
  go_upto_region 1 with (fail)
  rw [← HV0.out, ← Hbr.out, ← Hbx.out]
  obtain ⟨cKX0, cKX1, cKX2, cKX3⟩ := Bx.cells4 KX.out
  go_wp2_with fail
  clear cKX0 cKX1 cKX2 cKX3
  refine (HN.out _).mono ?_
  rintro e u1 ⟨rfl, hb⟩
  have B_1 := Lib.hid (B0.out.trans (Below.mono hb B0.out.size))
  have KX_1 := Lib.hid (Bx.below KX.out hb)
  have KR_1 := Lib.hid (Bx.below KR.out hb)
  clear hb B0 KX KR
  obtain ⟨cKX0, cKX1, cKX2, cKX3⟩ := Bx.cells4 KX_1.out
  have lKX := Bx.lt KX_1.out; have fKX0 := Bx.froz KX_1.out 0; have fKX1 := Bx.froz KX_1.out 1; have fKX2 := Bx.froz KX_1.out 2; have fKX3 := Bx.froz KX_1.out 3
  go_upto_region 2 with (fail)
  clear cKX0 cKX1 cKX2 cKX3 lKX fKX0 fKX1 fKX2 fKX3
  have SG2 := Lib.hid (grown_st4 (World.grownBy.refl u1 (some bx)) (.string s) (.int .i64 (ya : Int)) (.int .i64 yn) (.int .i64 ye))
  have B_2 := Lib.hid (B_1.out.trans (below_grown SG2.out Hnbx.out B_1.out.size))
  have KX_2 := Lib.hid (Bx.st4 KX_1.out (.string s) (.int .i64 (ya : Int)) (.int .i64 yn) (.int .i64 ye))
  have KR_2 := Lib.hid (Bx.other KR_1.out SG2.out (some_ne nbrbx))
  obtain ⟨v3, hv3⟩ : ∃ zz, zz = st4 u1 bx (.string s) (.int .i64 (ya : Int)) (.int .i64 yn) (.int .i64 ye) := ⟨_, rfl⟩
  rw [← hv3] at B_2 KX_2 KR_2
  have gv3 := hv3
  simp only [st4] at gv3
  first | rw [← hv3] | rw [← gv3]
  clear hv3 gv3
  clear SG2 B_1 KX_1 KR_1
  obtain ⟨cKX0, cKX1, cKX2, cKX3⟩ := Bx.cells4 KX_2.out
  obtain ⟨cKR0, cKR1, cKR2, cKR3⟩ := Bx.cells4 KR_2.out
  have lKR := Bx.lt KR_2.out; have fKR0 := Bx.froz KR_2.out 0; have fKR1 := Bx.froz KR_2.out 1; have fKR2 := Bx.froz KR_2.out 2; have fKR3 := Bx.froz KR_2.out 3
  have HE := Lib.hid (Bx.st4 KR_2.out (.string s) (.int .i64 (ya : Int)) (.int .i64 yn) (.int .i64 ye))
  have HBE := Lib.hid (B_2.out.trans (below_grown (grown_st4 (World.grownBy.refl v3 (some br)) (.string s) (.int .i64 (ya : Int)) (.int .i64 yn) (.int .i64 ye)) Hnbr.out B_2.out.size))
  go_wp2_with fail
  refine bodyPost_ret (v := .agg #[.string s, .int .i64 (ya : Int), .int .i64 yn, .int .i64 ye]) (by first | rw [res_c0 Try.results25 _ (by rfl) (Bx.load HE.out Try.underlying58 inf58)] | skip) rfl ?_
  exact ⟨rfl, HBE.out⟩
set_option maxRecDepth 100000 in
set_option maxHeartbeats 8000000 in
theorem many_1_4_big (s : ByteArray) (x : XS) (w : World) (h : XOk (tx s) x) (hs : s.size ≤ 100000) (he : (nextX (tx s) x).e = 0) (hb : 4 < (nextX (tx s) x).n / 1) : Calls Try.prog 25 #[xV s x, .int .i64 1, .int .i64 4] w (Gives w (xV s (manyX (tx s) x 1 4))) := by
  have hT := tx_byt s
  have hy := h.next hT
  have HN := Lib.hid (fun W => xnext_any s x W h hs)
  unfold Gives at HN
  unfold manyX
  rw [if_pos ⟨he, hb⟩]
  obtain ⟨y, hyd⟩ : ∃ y, y = nextX (tx s) x := ⟨_, rfl⟩
  rw [← hyd] at HN hy he hb ⊢
  clear hyd h
  obtain ⟨ya, yn, ye⟩ := y
  obtain ⟨hy1, hy2, hy3⟩ := hy
  dsimp only at hy1 hy2 hy3 he hb
  have hya : ya ≤ 100000 := by rw [tx_len] at hy1; omega
  clear hy1
  subst he
  have hbd : yn.tdiv 1 = yn / 1 := Int.tdiv_eq_ediv_of_nonneg hy2
  have KX := Lib.hid ((Bx.new w #[.string s, .int .i64 (x.at_ : Int), .int .i64 x.n, .int .i64 x.e] 58).below (below_alloc _ (.cells #[.string ⟨#[]⟩, .int .i64 0, .int .i64 0, .int .i64 0] 58)))
  have KR := Lib.hid (Bx.new2 w (.cells #[.string s, .int .i64 (x.at_ : Int), .int .i64 x.n, .int .i64 x.e] 58) #[.string ⟨#[]⟩, .int .i64 0, .int .i64 0, .int .i64 0] 58)
  have B0 := Lib.hid ((below_alloc w (.cells #[.string s, .int .i64 (x.at_ : Int), .int .i64 x.n, .int .i64 x.e] 58)).trans (Below.mono (below_alloc (w.alloc (.cells #[.string s, .int .i64 (x.at_ : Int), .int .i64 x.n, .int .i64 x.e] 58)) (.cells #[.string ⟨#[]⟩, .int .i64 0, .int .i64 0, .int .i64 0] 58)) (by simp; try omega)))
  obtain ⟨bx, hbx⟩ : ∃ zz, zz = w.heap.size := ⟨_, rfl⟩
  obtain ⟨br, hbr⟩ : ∃ zz, zz = w.heap.size + 1 := ⟨_, rfl⟩
  obtain ⟨v0, hv0⟩ : ∃ zz, zz = ((w.alloc (.cells #[.string s, .int .i64 (x.at_ : Int), .int .i64 x.n, .int .i64 x.e] 58)).alloc (.cells #[.string ⟨#[]⟩, .int .i64 0, .int .i64 0, .int .i64 0] 58)) := ⟨_, rfl⟩
  have Hbx := Lib.hid hbx; have Hnbx := Lib.hid (show w.heap.size ≤ bx by omega)
  have Hbr := Lib.hid hbr; have Hnbr := Lib.hid (show w.heap.size ≤ br by omega)
  have HV0 := Lib.hid hv0
  have nbxbr : bx ≠ br := by omega
  have nbrbx : br ≠ bx := by omega
  rw [← hv0] at B0 KX KR
  rw [← hbx] at KX
  rw [← hbr] at KR
  clear hv0 hbx hbr
  go_enter Try.func25, Try.ntmps25
  go_upto_region 1 with (fail)
  rw [← HV0.out, ← Hbr.out, ← Hbx.out]
  obtain ⟨cKX0, cKX1, cKX2, cKX3⟩ := Bx.cells4 KX.out
  go_wp2_with fail
  clear cKX0 cKX1 cKX2 cKX3
  refine (HN.out _).mono ?_
  rintro e u1 ⟨rfl, hbw⟩
  have B_1 := Lib.hid (B0.out.trans (Below.mono hbw B0.out.size))
  have KX_1 := Lib.hid (Bx.below KX.out hbw)
  have KR_1 := Lib.hid (Bx.below KR.out hbw)
  clear hbw B0 KX KR
  obtain ⟨cKX0, cKX1, cKX2, cKX3⟩ := Bx.cells4 KX_1.out
  have lKX := Bx.lt KX_1.out; have fKX0 := Bx.froz KX_1.out 0; have fKX1 := Bx.froz KX_1.out 1; have fKX2 := Bx.froz KX_1.out 2; have fKX3 := Bx.froz KX_1.out 3
  go_upto_region 2 with (fail)
  clear cKX0 cKX1 cKX2 cKX3 lKX fKX0 fKX1 fKX2 fKX3
  have SG2 := Lib.hid (grown_st4 (World.grownBy.refl u1 (some bx)) (.string s) (.int .i64 (ya : Int)) (.int .i64 yn) (.int .i64 0))
  have B_2 := Lib.hid (B_1.out.trans (below_grown SG2.out Hnbx.out B_1.out.size))
  have KX_2 := Lib.hid (Bx.st4 KX_1.out (.string s) (.int .i64 (ya : Int)) (.int .i64 yn) (.int .i64 0))
  have KR_2 := Lib.hid (Bx.other KR_1.out SG2.out (some_ne nbrbx))
  obtain ⟨v3, hv3⟩ : ∃ zz, zz = st4 u1 bx (.string s) (.int .i64 (ya : Int)) (.int .i64 yn) (.int .i64 0) := ⟨_, rfl⟩
  rw [← hv3] at B_2 KX_2 KR_2
  have gv3 := hv3
  simp only [st4] at gv3
  first | rw [← hv3] | rw [← gv3]
  clear hv3 gv3
  clear SG2 B_1 KX_1 KR_1
  obtain ⟨cKX0, cKX1, cKX2, cKX3⟩ := Bx.cells4 KX_2.out
  have lKX := Bx.lt KX_2.out; have fKX0 := Bx.froz KX_2.out 0; have fKX1 := Bx.froz KX_2.out 1; have fKX2 := Bx.froz KX_2.out 2; have fKX3 := Bx.froz KX_2.out 3
  go_upto_region 4 with (fail)
  clear cKX0 cKX1 cKX2 cKX3 lKX fKX0 fKX1 fKX2 fKX3
  have SG4 := Lib.hid (grow_setCell v3 bx 3 (.int .i64 2))
  have B_4 := Lib.hid (B_2.out.trans (below_grown SG4.out Hnbx.out B_2.out.size))
  have KX_4 := Lib.hid ((show Bx (v3.setCell ⟨bx, 3, none⟩ (.int .i64 2)) bx #[.string s, .int .i64 (ya : Int), .int .i64 yn, .int .i64 2] _ from Bx.set KX_2.out 3 (.int .i64 2)))
  have KR_4 := Lib.hid (Bx.other KR_2.out SG4.out (some_ne nbrbx))
  obtain ⟨v5, hv5⟩ : ∃ zz, zz = v3.setCell ⟨bx, 3, none⟩ (.int .i64 2) := ⟨_, rfl⟩
  rw [← hv5] at B_4 KX_4 KR_4
  have gv5 := hv5
  first | rw [← hv5] | rw [← gv5]
  clear hv5 gv5
  clear SG4 B_2 KX_2 KR_2
  obtain ⟨cKX0, cKX1, cKX2, cKX3⟩ := Bx.cells4 KX_4.out
  obtain ⟨cKR0, cKR1, cKR2, cKR3⟩ := Bx.cells4 KR_4.out
  have lKR := Bx.lt KR_4.out; have fKR0 := Bx.froz KR_4.out 0; have fKR1 := Bx.froz KR_4.out 1; have fKR2 := Bx.froz KR_4.out 2; have fKR3 := Bx.froz KR_4.out 3
  have HE := Lib.hid (Bx.st4 KR_4.out (.string s) (.int .i64 (ya : Int)) (.int .i64 yn) (.int .i64 2))
  have HBE := Lib.hid (B_4.out.trans (below_grown (grown_st4 (World.grownBy.refl v5 (some br)) (.string s) (.int .i64 (ya : Int)) (.int .i64 yn) (.int .i64 2)) Hnbr.out B_4.out.size))
  go_wp2_with fail
  refine bodyPost_ret (v := .agg #[.string s, .int .i64 (ya : Int), .int .i64 yn, .int .i64 2]) (by first | rw [res_c0 Try.results25 _ (by rfl) (Bx.load HE.out Try.underlying58 inf58)] | skip) rfl ?_
  exact ⟨rfl, HBE.out⟩
set_option maxRecDepth 100000 in
set_option maxHeartbeats 8000000 in
theorem many_1_4_ok (s : ByteArray) (x : XS) (w : World) (h : XOk (tx s) x) (hs : s.size ≤ 100000) (he : (nextX (tx s) x).e = 0) (hb : ¬ 4 < (nextX (tx s) x).n / 1) : Calls Try.prog 25 #[xV s x, .int .i64 1, .int .i64 4] w (Gives w (xV s (manyX (tx s) x 1 4))) := by
  have hT := tx_byt s
  have hy := h.next hT
  have HN := Lib.hid (fun W => xnext_any s x W h hs)
  unfold Gives at HN
  unfold manyX
  rw [if_neg (fun hh => hb hh.2)]
  obtain ⟨y, hyd⟩ : ∃ y, y = nextX (tx s) x := ⟨_, rfl⟩
  rw [← hyd] at HN hy he hb ⊢
  clear hyd h
  obtain ⟨ya, yn, ye⟩ := y
  obtain ⟨hy1, hy2, hy3⟩ := hy
  dsimp only at hy1 hy2 hy3 he hb
  have hya : ya ≤ 100000 := by rw [tx_len] at hy1; omega
  clear hy1
  subst he
  have hbd : yn.tdiv 1 = yn / 1 := Int.tdiv_eq_ediv_of_nonneg hy2
  have KX := Lib.hid ((Bx.new w #[.string s, .int .i64 (x.at_ : Int), .int .i64 x.n, .int .i64 x.e] 58).below (below_alloc _ (.cells #[.string ⟨#[]⟩, .int .i64 0, .int .i64 0, .int .i64 0] 58)))
  have KR := Lib.hid (Bx.new2 w (.cells #[.string s, .int .i64 (x.at_ : Int), .int .i64 x.n, .int .i64 x.e] 58) #[.string ⟨#[]⟩, .int .i64 0, .int .i64 0, .int .i64 0] 58)
  have B0 := Lib.hid ((below_alloc w (.cells #[.string s, .int .i64 (x.at_ : Int), .int .i64 x.n, .int .i64 x.e] 58)).trans (Below.mono (below_alloc (w.alloc (.cells #[.string s, .int .i64 (x.at_ : Int), .int .i64 x.n, .int .i64 x.e] 58)) (.cells #[.string ⟨#[]⟩, .int .i64 0, .int .i64 0, .int .i64 0] 58)) (by simp; try omega)))
  obtain ⟨bx, hbx⟩ : ∃ zz, zz = w.heap.size := ⟨_, rfl⟩
  obtain ⟨br, hbr⟩ : ∃ zz, zz = w.heap.size + 1 := ⟨_, rfl⟩
  obtain ⟨v0, hv0⟩ : ∃ zz, zz = ((w.alloc (.cells #[.string s, .int .i64 (x.at_ : Int), .int .i64 x.n, .int .i64 x.e] 58)).alloc (.cells #[.string ⟨#[]⟩, .int .i64 0, .int .i64 0, .int .i64 0] 58)) := ⟨_, rfl⟩
  have Hbx := Lib.hid hbx; have Hnbx := Lib.hid (show w.heap.size ≤ bx by omega)
  have Hbr := Lib.hid hbr; have Hnbr := Lib.hid (show w.heap.size ≤ br by omega)
  have HV0 := Lib.hid hv0
  have nbxbr : bx ≠ br := by omega
  have nbrbx : br ≠ bx := by omega
  rw [← hv0] at B0 KX KR
  rw [← hbx] at KX
  rw [← hbr] at KR
  clear hv0 hbx hbr
  go_enter Try.func25, Try.ntmps25
  go_upto_region 1 with (fail)
  rw [← HV0.out, ← Hbr.out, ← Hbx.out]
  obtain ⟨cKX0, cKX1, cKX2, cKX3⟩ := Bx.cells4 KX.out
  go_wp2_with fail
  clear cKX0 cKX1 cKX2 cKX3
  refine (HN.out _).mono ?_
  rintro e u1 ⟨rfl, hbw⟩
  have B_1 := Lib.hid (B0.out.trans (Below.mono hbw B0.out.size))
  have KX_1 := Lib.hid (Bx.below KX.out hbw)
  have KR_1 := Lib.hid (Bx.below KR.out hbw)
  clear hbw B0 KX KR
  obtain ⟨cKX0, cKX1, cKX2, cKX3⟩ := Bx.cells4 KX_1.out
  have lKX := Bx.lt KX_1.out; have fKX0 := Bx.froz KX_1.out 0; have fKX1 := Bx.froz KX_1.out 1; have fKX2 := Bx.froz KX_1.out 2; have fKX3 := Bx.froz KX_1.out 3
  go_upto_region 2 with (fail)
  clear cKX0 cKX1 cKX2 cKX3 lKX fKX0 fKX1 fKX2 fKX3
  have SG2 := Lib.hid (grown_st4 (World.grownBy.refl u1 (some bx)) (.string s) (.int .i64 (ya : Int)) (.int .i64 yn) (.int .i64 0))
  have B_2 := Lib.hid (B_1.out.trans (below_grown SG2.out Hnbx.out B_1.out.size))
  have KX_2 := Lib.hid (Bx.st4 KX_1.out (.string s) (.int .i64 (ya : Int)) (.int .i64 yn) (.int .i64 0))
  have KR_2 := Lib.hid (Bx.other KR_1.out SG2.out (some_ne nbrbx))
  obtain ⟨v3, hv3⟩ : ∃ zz, zz = st4 u1 bx (.string s) (.int .i64 (ya : Int)) (.int .i64 yn) (.int .i64 0) := ⟨_, rfl⟩
  rw [← hv3] at B_2 KX_2 KR_2
  have gv3 := hv3
  simp only [st4] at gv3
  first | rw [← hv3] | rw [← gv3]
  clear hv3 gv3
  clear SG2 B_1 KX_1 KR_1
  obtain ⟨cKX0, cKX1, cKX2, cKX3⟩ := Bx.cells4 KX_2.out
  obtain ⟨cKR0, cKR1, cKR2, cKR3⟩ := Bx.cells4 KR_2.out
  have lKR := Bx.lt KR_2.out; have fKR0 := Bx.froz KR_2.out 0; have fKR1 := Bx.froz KR_2.out 1; have fKR2 := Bx.froz KR_2.out 2; have fKR3 := Bx.froz KR_2.out 3
  have HE := Lib.hid (Bx.st4 KR_2.out (.string s) (.int .i64 (ya : Int)) (.int .i64 yn) (.int .i64 0))
  have HBE := Lib.hid (B_2.out.trans (below_grown (grown_st4 (World.grownBy.refl v3 (some br)) (.string s) (.int .i64 (ya : Int)) (.int .i64 yn) (.int .i64 0)) Hnbr.out B_2.out.size))
  go_wp2_with fail
  refine bodyPost_ret (v := .agg #[.string s, .int .i64 (ya : Int), .int .i64 yn, .int .i64 0]) (by first | rw [res_c0 Try.results25 _ (by rfl) (Bx.load HE.out Try.underlying58 inf58)] | skip) rfl ?_
  exact ⟨rfl, HBE.out⟩
theorem many_1_4 (s : ByteArray) (x : XS) (w : World) (h : XOk (tx s) x) (hs : s.size ≤ 100000) : Calls Try.prog 25 #[xV s x, .int .i64 1, .int .i64 4] w (Gives w (xV s (manyX (tx s) x 1 4))) := by
  by_cases he : (nextX (tx s) x).e = 0
  · by_cases hb : 4 < (nextX (tx s) x).n / 1
    · exact many_1_4_big s x w h hs he hb
    · exact many_1_4_ok s x w h hs he hb
  · exact many_1_4_e s x w h hs he
set_option maxRecDepth 100000 in
set_option maxHeartbeats 8000000 in
theorem many_2_4_e (s : ByteArray) (x : XS) (w : World) (h : XOk (tx s) x) (hs : s.size ≤ 100000) (he : ¬ (nextX (tx s) x).e = 0) : Calls Try.prog 25 #[xV s x, .int .i64 2, .int .i64 4] w (Gives w (xV s (manyX (tx s) x 2 4))) := by
  have hT := tx_byt s
  have hy := h.next hT
  have HN := Lib.hid (fun W => xnext_any s x W h hs)
  unfold Gives at HN
  unfold manyX
  rw [if_neg (fun hh => he hh.1)]
  obtain ⟨y, hyd⟩ : ∃ y, y = nextX (tx s) x := ⟨_, rfl⟩
  rw [← hyd] at HN hy he ⊢
  clear hyd h
  obtain ⟨ya, yn, ye⟩ := y
  obtain ⟨hy1, hy2, hy3⟩ := hy
  dsimp only at hy1 hy2 hy3 he
  have hya : ya ≤ 100000 := by rw [tx_len] at hy1; omega
  clear hy1
  have heb : (ye == 0) = false := by rw [beq_eq_false_iff_ne]; exact he
  have KX := Lib.hid ((Bx.new w #[.string s, .int .i64 (x.at_ : Int), .int .i64 x.n, .int .i64 x.e] 58).below (below_alloc _ (.cells #[.string ⟨#[]⟩, .int .i64 0, .int .i64 0, .int .i64 0] 58)))
  have KR := Lib.hid (Bx.new2 w (.cells #[.string s, .int .i64 (x.at_ : Int), .int .i64 x.n, .int .i64 x.e] 58) #[.string ⟨#[]⟩, .int .i64 0, .int .i64 0, .int .i64 0] 58)
  have B0 := Lib.hid ((below_alloc w (.cells #[.string s, .int .i64 (x.at_ : Int), .int .i64 x.n, .int .i64 x.e] 58)).trans (Below.mono (below_alloc (w.alloc (.cells #[.string s, .int .i64 (x.at_ : Int), .int .i64 x.n, .int .i64 x.e] 58)) (.cells #[.string ⟨#[]⟩, .int .i64 0, .int .i64 0, .int .i64 0] 58)) (by simp; try omega)))
  obtain ⟨bx, hbx⟩ : ∃ zz, zz = w.heap.size := ⟨_, rfl⟩
  obtain ⟨br, hbr⟩ : ∃ zz, zz = w.heap.size + 1 := ⟨_, rfl⟩
  obtain ⟨v0, hv0⟩ : ∃ zz, zz = ((w.alloc (.cells #[.string s, .int .i64 (x.at_ : Int), .int .i64 x.n, .int .i64 x.e] 58)).alloc (.cells #[.string ⟨#[]⟩, .int .i64 0, .int .i64 0, .int .i64 0] 58)) := ⟨_, rfl⟩
  have Hbx := Lib.hid hbx; have Hnbx := Lib.hid (show w.heap.size ≤ bx by omega)
  have Hbr := Lib.hid hbr; have Hnbr := Lib.hid (show w.heap.size ≤ br by omega)
  have HV0 := Lib.hid hv0
  have nbxbr : bx ≠ br := by omega
  have nbrbx : br ≠ bx := by omega
  rw [← hv0] at B0 KX KR
  rw [← hbx] at KX
  rw [← hbr] at KR
  clear hv0 hbx hbr
  go_enter Try.func25, Try.ntmps25
  go_upto_region 1 with (fail)
  rw [← HV0.out, ← Hbr.out, ← Hbx.out]
  obtain ⟨cKX0, cKX1, cKX2, cKX3⟩ := Bx.cells4 KX.out
  go_wp2_with fail
  clear cKX0 cKX1 cKX2 cKX3
  refine (HN.out _).mono ?_
  rintro e u1 ⟨rfl, hb⟩
  have B_1 := Lib.hid (B0.out.trans (Below.mono hb B0.out.size))
  have KX_1 := Lib.hid (Bx.below KX.out hb)
  have KR_1 := Lib.hid (Bx.below KR.out hb)
  clear hb B0 KX KR
  obtain ⟨cKX0, cKX1, cKX2, cKX3⟩ := Bx.cells4 KX_1.out
  have lKX := Bx.lt KX_1.out; have fKX0 := Bx.froz KX_1.out 0; have fKX1 := Bx.froz KX_1.out 1; have fKX2 := Bx.froz KX_1.out 2; have fKX3 := Bx.froz KX_1.out 3
  go_upto_region 2 with (fail)
  clear cKX0 cKX1 cKX2 cKX3 lKX fKX0 fKX1 fKX2 fKX3
  have SG2 := Lib.hid (grown_st4 (World.grownBy.refl u1 (some bx)) (.string s) (.int .i64 (ya : Int)) (.int .i64 yn) (.int .i64 ye))
  have B_2 := Lib.hid (B_1.out.trans (below_grown SG2.out Hnbx.out B_1.out.size))
  have KX_2 := Lib.hid (Bx.st4 KX_1.out (.string s) (.int .i64 (ya : Int)) (.int .i64 yn) (.int .i64 ye))
  have KR_2 := Lib.hid (Bx.other KR_1.out SG2.out (some_ne nbrbx))
  obtain ⟨v3, hv3⟩ : ∃ zz, zz = st4 u1 bx (.string s) (.int .i64 (ya : Int)) (.int .i64 yn) (.int .i64 ye) := ⟨_, rfl⟩
  rw [← hv3] at B_2 KX_2 KR_2
  have gv3 := hv3
  simp only [st4] at gv3
  first | rw [← hv3] | rw [← gv3]
  clear hv3 gv3
  clear SG2 B_1 KX_1 KR_1
  obtain ⟨cKX0, cKX1, cKX2, cKX3⟩ := Bx.cells4 KX_2.out
  obtain ⟨cKR0, cKR1, cKR2, cKR3⟩ := Bx.cells4 KR_2.out
  have lKR := Bx.lt KR_2.out; have fKR0 := Bx.froz KR_2.out 0; have fKR1 := Bx.froz KR_2.out 1; have fKR2 := Bx.froz KR_2.out 2; have fKR3 := Bx.froz KR_2.out 3
  have HE := Lib.hid (Bx.st4 KR_2.out (.string s) (.int .i64 (ya : Int)) (.int .i64 yn) (.int .i64 ye))
  have HBE := Lib.hid (B_2.out.trans (below_grown (grown_st4 (World.grownBy.refl v3 (some br)) (.string s) (.int .i64 (ya : Int)) (.int .i64 yn) (.int .i64 ye)) Hnbr.out B_2.out.size))
  go_wp2_with fail
  refine bodyPost_ret (v := .agg #[.string s, .int .i64 (ya : Int), .int .i64 yn, .int .i64 ye]) (by first | rw [res_c0 Try.results25 _ (by rfl) (Bx.load HE.out Try.underlying58 inf58)] | skip) rfl ?_
  exact ⟨rfl, HBE.out⟩
set_option maxRecDepth 100000 in
set_option maxHeartbeats 8000000 in
theorem many_2_4_big (s : ByteArray) (x : XS) (w : World) (h : XOk (tx s) x) (hs : s.size ≤ 100000) (he : (nextX (tx s) x).e = 0) (hb : 4 < (nextX (tx s) x).n / 2) : Calls Try.prog 25 #[xV s x, .int .i64 2, .int .i64 4] w (Gives w (xV s (manyX (tx s) x 2 4))) := by
  have hT := tx_byt s
  have hy := h.next hT
  have HN := Lib.hid (fun W => xnext_any s x W h hs)
  unfold Gives at HN
  unfold manyX
  rw [if_pos ⟨he, hb⟩]
  obtain ⟨y, hyd⟩ : ∃ y, y = nextX (tx s) x := ⟨_, rfl⟩
  rw [← hyd] at HN hy he hb ⊢
  clear hyd h
  obtain ⟨ya, yn, ye⟩ := y
  obtain ⟨hy1, hy2, hy3⟩ := hy
  dsimp only at hy1 hy2 hy3 he hb
  have hya : ya ≤ 100000 := by rw [tx_len] at hy1; omega
  clear hy1
  subst he
  have hbd : yn.tdiv 2 = yn / 2 := Int.tdiv_eq_ediv_of_nonneg hy2
  have KX := Lib.hid ((Bx.new w #[.string s, .int .i64 (x.at_ : Int), .int .i64 x.n, .int .i64 x.e] 58).below (below_alloc _ (.cells #[.string ⟨#[]⟩, .int .i64 0, .int .i64 0, .int .i64 0] 58)))
  have KR := Lib.hid (Bx.new2 w (.cells #[.string s, .int .i64 (x.at_ : Int), .int .i64 x.n, .int .i64 x.e] 58) #[.string ⟨#[]⟩, .int .i64 0, .int .i64 0, .int .i64 0] 58)
  have B0 := Lib.hid ((below_alloc w (.cells #[.string s, .int .i64 (x.at_ : Int), .int .i64 x.n, .int .i64 x.e] 58)).trans (Below.mono (below_alloc (w.alloc (.cells #[.string s, .int .i64 (x.at_ : Int), .int .i64 x.n, .int .i64 x.e] 58)) (.cells #[.string ⟨#[]⟩, .int .i64 0, .int .i64 0, .int .i64 0] 58)) (by simp; try omega)))
  obtain ⟨bx, hbx⟩ : ∃ zz, zz = w.heap.size := ⟨_, rfl⟩
  obtain ⟨br, hbr⟩ : ∃ zz, zz = w.heap.size + 1 := ⟨_, rfl⟩
  obtain ⟨v0, hv0⟩ : ∃ zz, zz = ((w.alloc (.cells #[.string s, .int .i64 (x.at_ : Int), .int .i64 x.n, .int .i64 x.e] 58)).alloc (.cells #[.string ⟨#[]⟩, .int .i64 0, .int .i64 0, .int .i64 0] 58)) := ⟨_, rfl⟩
  have Hbx := Lib.hid hbx; have Hnbx := Lib.hid (show w.heap.size ≤ bx by omega)
  have Hbr := Lib.hid hbr; have Hnbr := Lib.hid (show w.heap.size ≤ br by omega)
  have HV0 := Lib.hid hv0
  have nbxbr : bx ≠ br := by omega
  have nbrbx : br ≠ bx := by omega
  rw [← hv0] at B0 KX KR
  rw [← hbx] at KX
  rw [← hbr] at KR
  clear hv0 hbx hbr
  go_enter Try.func25, Try.ntmps25
  go_upto_region 1 with (fail)
  rw [← HV0.out, ← Hbr.out, ← Hbx.out]
  obtain ⟨cKX0, cKX1, cKX2, cKX3⟩ := Bx.cells4 KX.out
  go_wp2_with fail
  clear cKX0 cKX1 cKX2 cKX3
  refine (HN.out _).mono ?_
  rintro e u1 ⟨rfl, hbw⟩
  have B_1 := Lib.hid (B0.out.trans (Below.mono hbw B0.out.size))
  have KX_1 := Lib.hid (Bx.below KX.out hbw)
  have KR_1 := Lib.hid (Bx.below KR.out hbw)
  clear hbw B0 KX KR
  obtain ⟨cKX0, cKX1, cKX2, cKX3⟩ := Bx.cells4 KX_1.out
  have lKX := Bx.lt KX_1.out; have fKX0 := Bx.froz KX_1.out 0; have fKX1 := Bx.froz KX_1.out 1; have fKX2 := Bx.froz KX_1.out 2; have fKX3 := Bx.froz KX_1.out 3
  go_upto_region 2 with (fail)
  clear cKX0 cKX1 cKX2 cKX3 lKX fKX0 fKX1 fKX2 fKX3
  have SG2 := Lib.hid (grown_st4 (World.grownBy.refl u1 (some bx)) (.string s) (.int .i64 (ya : Int)) (.int .i64 yn) (.int .i64 0))
  have B_2 := Lib.hid (B_1.out.trans (below_grown SG2.out Hnbx.out B_1.out.size))
  have KX_2 := Lib.hid (Bx.st4 KX_1.out (.string s) (.int .i64 (ya : Int)) (.int .i64 yn) (.int .i64 0))
  have KR_2 := Lib.hid (Bx.other KR_1.out SG2.out (some_ne nbrbx))
  obtain ⟨v3, hv3⟩ : ∃ zz, zz = st4 u1 bx (.string s) (.int .i64 (ya : Int)) (.int .i64 yn) (.int .i64 0) := ⟨_, rfl⟩
  rw [← hv3] at B_2 KX_2 KR_2
  have gv3 := hv3
  simp only [st4] at gv3
  first | rw [← hv3] | rw [← gv3]
  clear hv3 gv3
  clear SG2 B_1 KX_1 KR_1
  obtain ⟨cKX0, cKX1, cKX2, cKX3⟩ := Bx.cells4 KX_2.out
  have lKX := Bx.lt KX_2.out; have fKX0 := Bx.froz KX_2.out 0; have fKX1 := Bx.froz KX_2.out 1; have fKX2 := Bx.froz KX_2.out 2; have fKX3 := Bx.froz KX_2.out 3
  go_upto_region 4 with (fail)
  clear cKX0 cKX1 cKX2 cKX3 lKX fKX0 fKX1 fKX2 fKX3
  have SG4 := Lib.hid (grow_setCell v3 bx 3 (.int .i64 2))
  have B_4 := Lib.hid (B_2.out.trans (below_grown SG4.out Hnbx.out B_2.out.size))
  have KX_4 := Lib.hid ((show Bx (v3.setCell ⟨bx, 3, none⟩ (.int .i64 2)) bx #[.string s, .int .i64 (ya : Int), .int .i64 yn, .int .i64 2] _ from Bx.set KX_2.out 3 (.int .i64 2)))
  have KR_4 := Lib.hid (Bx.other KR_2.out SG4.out (some_ne nbrbx))
  obtain ⟨v5, hv5⟩ : ∃ zz, zz = v3.setCell ⟨bx, 3, none⟩ (.int .i64 2) := ⟨_, rfl⟩
  rw [← hv5] at B_4 KX_4 KR_4
  have gv5 := hv5
  first | rw [← hv5] | rw [← gv5]
  clear hv5 gv5
  clear SG4 B_2 KX_2 KR_2
  obtain ⟨cKX0, cKX1, cKX2, cKX3⟩ := Bx.cells4 KX_4.out
  obtain ⟨cKR0, cKR1, cKR2, cKR3⟩ := Bx.cells4 KR_4.out
  have lKR := Bx.lt KR_4.out; have fKR0 := Bx.froz KR_4.out 0; have fKR1 := Bx.froz KR_4.out 1; have fKR2 := Bx.froz KR_4.out 2; have fKR3 := Bx.froz KR_4.out 3
  have HE := Lib.hid (Bx.st4 KR_4.out (.string s) (.int .i64 (ya : Int)) (.int .i64 yn) (.int .i64 2))
  have HBE := Lib.hid (B_4.out.trans (below_grown (grown_st4 (World.grownBy.refl v5 (some br)) (.string s) (.int .i64 (ya : Int)) (.int .i64 yn) (.int .i64 2)) Hnbr.out B_4.out.size))
  go_wp2_with fail
  refine bodyPost_ret (v := .agg #[.string s, .int .i64 (ya : Int), .int .i64 yn, .int .i64 2]) (by first | rw [res_c0 Try.results25 _ (by rfl) (Bx.load HE.out Try.underlying58 inf58)] | skip) rfl ?_
  exact ⟨rfl, HBE.out⟩
set_option maxRecDepth 100000 in
set_option maxHeartbeats 8000000 in
theorem many_2_4_ok (s : ByteArray) (x : XS) (w : World) (h : XOk (tx s) x) (hs : s.size ≤ 100000) (he : (nextX (tx s) x).e = 0) (hb : ¬ 4 < (nextX (tx s) x).n / 2) : Calls Try.prog 25 #[xV s x, .int .i64 2, .int .i64 4] w (Gives w (xV s (manyX (tx s) x 2 4))) := by
  have hT := tx_byt s
  have hy := h.next hT
  have HN := Lib.hid (fun W => xnext_any s x W h hs)
  unfold Gives at HN
  unfold manyX
  rw [if_neg (fun hh => hb hh.2)]
  obtain ⟨y, hyd⟩ : ∃ y, y = nextX (tx s) x := ⟨_, rfl⟩
  rw [← hyd] at HN hy he hb ⊢
  clear hyd h
  obtain ⟨ya, yn, ye⟩ := y
  obtain ⟨hy1, hy2, hy3⟩ := hy
  dsimp only at hy1 hy2 hy3 he hb
  have hya : ya ≤ 100000 := by rw [tx_len] at hy1; omega
  clear hy1
  subst he
  have hbd : yn.tdiv 2 = yn / 2 := Int.tdiv_eq_ediv_of_nonneg hy2
  have KX := Lib.hid ((Bx.new w #[.string s, .int .i64 (x.at_ : Int), .int .i64 x.n, .int .i64 x.e] 58).below (below_alloc _ (.cells #[.string ⟨#[]⟩, .int .i64 0, .int .i64 0, .int .i64 0] 58)))
  have KR := Lib.hid (Bx.new2 w (.cells #[.string s, .int .i64 (x.at_ : Int), .int .i64 x.n, .int .i64 x.e] 58) #[.string ⟨#[]⟩, .int .i64 0, .int .i64 0, .int .i64 0] 58)
  have B0 := Lib.hid ((below_alloc w (.cells #[.string s, .int .i64 (x.at_ : Int), .int .i64 x.n, .int .i64 x.e] 58)).trans (Below.mono (below_alloc (w.alloc (.cells #[.string s, .int .i64 (x.at_ : Int), .int .i64 x.n, .int .i64 x.e] 58)) (.cells #[.string ⟨#[]⟩, .int .i64 0, .int .i64 0, .int .i64 0] 58)) (by simp; try omega)))
  obtain ⟨bx, hbx⟩ : ∃ zz, zz = w.heap.size := ⟨_, rfl⟩
  obtain ⟨br, hbr⟩ : ∃ zz, zz = w.heap.size + 1 := ⟨_, rfl⟩
  obtain ⟨v0, hv0⟩ : ∃ zz, zz = ((w.alloc (.cells #[.string s, .int .i64 (x.at_ : Int), .int .i64 x.n, .int .i64 x.e] 58)).alloc (.cells #[.string ⟨#[]⟩, .int .i64 0, .int .i64 0, .int .i64 0] 58)) := ⟨_, rfl⟩
  have Hbx := Lib.hid hbx; have Hnbx := Lib.hid (show w.heap.size ≤ bx by omega)
  have Hbr := Lib.hid hbr; have Hnbr := Lib.hid (show w.heap.size ≤ br by omega)
  have HV0 := Lib.hid hv0
  have nbxbr : bx ≠ br := by omega
  have nbrbx : br ≠ bx := by omega
  rw [← hv0] at B0 KX KR
  rw [← hbx] at KX
  rw [← hbr] at KR
  clear hv0 hbx hbr
  go_enter Try.func25, Try.ntmps25
  go_upto_region 1 with (fail)
  rw [← HV0.out, ← Hbr.out, ← Hbx.out]
  obtain ⟨cKX0, cKX1, cKX2, cKX3⟩ := Bx.cells4 KX.out
  go_wp2_with fail
  clear cKX0 cKX1 cKX2 cKX3
  refine (HN.out _).mono ?_
  rintro e u1 ⟨rfl, hbw⟩
  have B_1 := Lib.hid (B0.out.trans (Below.mono hbw B0.out.size))
  have KX_1 := Lib.hid (Bx.below KX.out hbw)
  have KR_1 := Lib.hid (Bx.below KR.out hbw)
  clear hbw B0 KX KR
  obtain ⟨cKX0, cKX1, cKX2, cKX3⟩ := Bx.cells4 KX_1.out
  have lKX := Bx.lt KX_1.out; have fKX0 := Bx.froz KX_1.out 0; have fKX1 := Bx.froz KX_1.out 1; have fKX2 := Bx.froz KX_1.out 2; have fKX3 := Bx.froz KX_1.out 3
  go_upto_region 2 with (fail)
  clear cKX0 cKX1 cKX2 cKX3 lKX fKX0 fKX1 fKX2 fKX3
  have SG2 := Lib.hid (grown_st4 (World.grownBy.refl u1 (some bx)) (.string s) (.int .i64 (ya : Int)) (.int .i64 yn) (.int .i64 0))
  have B_2 := Lib.hid (B_1.out.trans (below_grown SG2.out Hnbx.out B_1.out.size))
  have KX_2 := Lib.hid (Bx.st4 KX_1.out (.string s) (.int .i64 (ya : Int)) (.int .i64 yn) (.int .i64 0))
  have KR_2 := Lib.hid (Bx.other KR_1.out SG2.out (some_ne nbrbx))
  obtain ⟨v3, hv3⟩ : ∃ zz, zz = st4 u1 bx (.string s) (.int .i64 (ya : Int)) (.int .i64 yn) (.int .i64 0) := ⟨_, rfl⟩
  rw [← hv3] at B_2 KX_2 KR_2
  have gv3 := hv3
  simp only [st4] at gv3
  first | rw [← hv3] | rw [← gv3]
  clear hv3 gv3
  clear SG2 B_1 KX_1 KR_1
  obtain ⟨cKX0, cKX1, cKX2, cKX3⟩ := Bx.cells4 KX_2.out
  obtain ⟨cKR0, cKR1, cKR2, cKR3⟩ := Bx.cells4 KR_2.out
  have lKR := Bx.lt KR_2.out; have fKR0 := Bx.froz KR_2.out 0; have fKR1 := Bx.froz KR_2.out 1; have fKR2 := Bx.froz KR_2.out 2; have fKR3 := Bx.froz KR_2.out 3
  have HE := Lib.hid (Bx.st4 KR_2.out (.string s) (.int .i64 (ya : Int)) (.int .i64 yn) (.int .i64 0))
  have HBE := Lib.hid (B_2.out.trans (below_grown (grown_st4 (World.grownBy.refl v3 (some br)) (.string s) (.int .i64 (ya : Int)) (.int .i64 yn) (.int .i64 0)) Hnbr.out B_2.out.size))
  go_wp2_with fail
  refine bodyPost_ret (v := .agg #[.string s, .int .i64 (ya : Int), .int .i64 yn, .int .i64 0]) (by first | rw [res_c0 Try.results25 _ (by rfl) (Bx.load HE.out Try.underlying58 inf58)] | skip) rfl ?_
  exact ⟨rfl, HBE.out⟩
theorem many_2_4 (s : ByteArray) (x : XS) (w : World) (h : XOk (tx s) x) (hs : s.size ≤ 100000) : Calls Try.prog 25 #[xV s x, .int .i64 2, .int .i64 4] w (Gives w (xV s (manyX (tx s) x 2 4))) := by
  by_cases he : (nextX (tx s) x).e = 0
  · by_cases hb : 4 < (nextX (tx s) x).n / 2
    · exact many_2_4_big s x w h hs he hb
    · exact many_2_4_ok s x w h hs he hb
  · exact many_2_4_e s x w h hs he
set_option maxRecDepth 100000 in
set_option maxHeartbeats 8000000 in
theorem many_1_24_e (s : ByteArray) (x : XS) (w : World) (h : XOk (tx s) x) (hs : s.size ≤ 100000) (he : ¬ (nextX (tx s) x).e = 0) : Calls Try.prog 25 #[xV s x, .int .i64 1, .int .i64 24] w (Gives w (xV s (manyX (tx s) x 1 24))) := by
  have hT := tx_byt s
  have hy := h.next hT
  have HN := Lib.hid (fun W => xnext_any s x W h hs)
  unfold Gives at HN
  unfold manyX
  rw [if_neg (fun hh => he hh.1)]
  obtain ⟨y, hyd⟩ : ∃ y, y = nextX (tx s) x := ⟨_, rfl⟩
  rw [← hyd] at HN hy he ⊢
  clear hyd h
  obtain ⟨ya, yn, ye⟩ := y
  obtain ⟨hy1, hy2, hy3⟩ := hy
  dsimp only at hy1 hy2 hy3 he
  have hya : ya ≤ 100000 := by rw [tx_len] at hy1; omega
  clear hy1
  have heb : (ye == 0) = false := by rw [beq_eq_false_iff_ne]; exact he
  have KX := Lib.hid ((Bx.new w #[.string s, .int .i64 (x.at_ : Int), .int .i64 x.n, .int .i64 x.e] 58).below (below_alloc _ (.cells #[.string ⟨#[]⟩, .int .i64 0, .int .i64 0, .int .i64 0] 58)))
  have KR := Lib.hid (Bx.new2 w (.cells #[.string s, .int .i64 (x.at_ : Int), .int .i64 x.n, .int .i64 x.e] 58) #[.string ⟨#[]⟩, .int .i64 0, .int .i64 0, .int .i64 0] 58)
  have B0 := Lib.hid ((below_alloc w (.cells #[.string s, .int .i64 (x.at_ : Int), .int .i64 x.n, .int .i64 x.e] 58)).trans (Below.mono (below_alloc (w.alloc (.cells #[.string s, .int .i64 (x.at_ : Int), .int .i64 x.n, .int .i64 x.e] 58)) (.cells #[.string ⟨#[]⟩, .int .i64 0, .int .i64 0, .int .i64 0] 58)) (by simp; try omega)))
  obtain ⟨bx, hbx⟩ : ∃ zz, zz = w.heap.size := ⟨_, rfl⟩
  obtain ⟨br, hbr⟩ : ∃ zz, zz = w.heap.size + 1 := ⟨_, rfl⟩
  obtain ⟨v0, hv0⟩ : ∃ zz, zz = ((w.alloc (.cells #[.string s, .int .i64 (x.at_ : Int), .int .i64 x.n, .int .i64 x.e] 58)).alloc (.cells #[.string ⟨#[]⟩, .int .i64 0, .int .i64 0, .int .i64 0] 58)) := ⟨_, rfl⟩
  have Hbx := Lib.hid hbx; have Hnbx := Lib.hid (show w.heap.size ≤ bx by omega)
  have Hbr := Lib.hid hbr; have Hnbr := Lib.hid (show w.heap.size ≤ br by omega)
  have HV0 := Lib.hid hv0
  have nbxbr : bx ≠ br := by omega
  have nbrbx : br ≠ bx := by omega
  rw [← hv0] at B0 KX KR
  rw [← hbx] at KX
  rw [← hbr] at KR
  clear hv0 hbx hbr
  go_enter Try.func25, Try.ntmps25
  go_upto_region 1 with (fail)
  rw [← HV0.out, ← Hbr.out, ← Hbx.out]
  obtain ⟨cKX0, cKX1, cKX2, cKX3⟩ := Bx.cells4 KX.out
  go_wp2_with fail
  clear cKX0 cKX1 cKX2 cKX3
  refine (HN.out _).mono ?_
  rintro e u1 ⟨rfl, hb⟩
  have B_1 := Lib.hid (B0.out.trans (Below.mono hb B0.out.size))
  have KX_1 := Lib.hid (Bx.below KX.out hb)
  have KR_1 := Lib.hid (Bx.below KR.out hb)
  clear hb B0 KX KR
  obtain ⟨cKX0, cKX1, cKX2, cKX3⟩ := Bx.cells4 KX_1.out
  have lKX := Bx.lt KX_1.out; have fKX0 := Bx.froz KX_1.out 0; have fKX1 := Bx.froz KX_1.out 1; have fKX2 := Bx.froz KX_1.out 2; have fKX3 := Bx.froz KX_1.out 3
  go_upto_region 2 with (fail)
  clear cKX0 cKX1 cKX2 cKX3 lKX fKX0 fKX1 fKX2 fKX3
  have SG2 := Lib.hid (grown_st4 (World.grownBy.refl u1 (some bx)) (.string s) (.int .i64 (ya : Int)) (.int .i64 yn) (.int .i64 ye))
  have B_2 := Lib.hid (B_1.out.trans (below_grown SG2.out Hnbx.out B_1.out.size))
  have KX_2 := Lib.hid (Bx.st4 KX_1.out (.string s) (.int .i64 (ya : Int)) (.int .i64 yn) (.int .i64 ye))
  have KR_2 := Lib.hid (Bx.other KR_1.out SG2.out (some_ne nbrbx))
  obtain ⟨v3, hv3⟩ : ∃ zz, zz = st4 u1 bx (.string s) (.int .i64 (ya : Int)) (.int .i64 yn) (.int .i64 ye) := ⟨_, rfl⟩
  rw [← hv3] at B_2 KX_2 KR_2
  have gv3 := hv3
  simp only [st4] at gv3
  first | rw [← hv3] | rw [← gv3]
  clear hv3 gv3
  clear SG2 B_1 KX_1 KR_1
  obtain ⟨cKX0, cKX1, cKX2, cKX3⟩ := Bx.cells4 KX_2.out
  obtain ⟨cKR0, cKR1, cKR2, cKR3⟩ := Bx.cells4 KR_2.out
  have lKR := Bx.lt KR_2.out; have fKR0 := Bx.froz KR_2.out 0; have fKR1 := Bx.froz KR_2.out 1; have fKR2 := Bx.froz KR_2.out 2; have fKR3 := Bx.froz KR_2.out 3
  have HE := Lib.hid (Bx.st4 KR_2.out (.string s) (.int .i64 (ya : Int)) (.int .i64 yn) (.int .i64 ye))
  have HBE := Lib.hid (B_2.out.trans (below_grown (grown_st4 (World.grownBy.refl v3 (some br)) (.string s) (.int .i64 (ya : Int)) (.int .i64 yn) (.int .i64 ye)) Hnbr.out B_2.out.size))
  go_wp2_with fail
  refine bodyPost_ret (v := .agg #[.string s, .int .i64 (ya : Int), .int .i64 yn, .int .i64 ye]) (by first | rw [res_c0 Try.results25 _ (by rfl) (Bx.load HE.out Try.underlying58 inf58)] | skip) rfl ?_
  exact ⟨rfl, HBE.out⟩
set_option maxRecDepth 100000 in
set_option maxHeartbeats 8000000 in
theorem many_1_24_big (s : ByteArray) (x : XS) (w : World) (h : XOk (tx s) x) (hs : s.size ≤ 100000) (he : (nextX (tx s) x).e = 0) (hb : 24 < (nextX (tx s) x).n / 1) : Calls Try.prog 25 #[xV s x, .int .i64 1, .int .i64 24] w (Gives w (xV s (manyX (tx s) x 1 24))) := by
  have hT := tx_byt s
  have hy := h.next hT
  have HN := Lib.hid (fun W => xnext_any s x W h hs)
  unfold Gives at HN
  unfold manyX
  rw [if_pos ⟨he, hb⟩]
  obtain ⟨y, hyd⟩ : ∃ y, y = nextX (tx s) x := ⟨_, rfl⟩
  rw [← hyd] at HN hy he hb ⊢
  clear hyd h
  obtain ⟨ya, yn, ye⟩ := y
  obtain ⟨hy1, hy2, hy3⟩ := hy
  dsimp only at hy1 hy2 hy3 he hb
  have hya : ya ≤ 100000 := by rw [tx_len] at hy1; omega
  clear hy1
  subst he
  have hbd : yn.tdiv 1 = yn / 1 := Int.tdiv_eq_ediv_of_nonneg hy2
  have KX := Lib.hid ((Bx.new w #[.string s, .int .i64 (x.at_ : Int), .int .i64 x.n, .int .i64 x.e] 58).below (below_alloc _ (.cells #[.string ⟨#[]⟩, .int .i64 0, .int .i64 0, .int .i64 0] 58)))
  have KR := Lib.hid (Bx.new2 w (.cells #[.string s, .int .i64 (x.at_ : Int), .int .i64 x.n, .int .i64 x.e] 58) #[.string ⟨#[]⟩, .int .i64 0, .int .i64 0, .int .i64 0] 58)
  have B0 := Lib.hid ((below_alloc w (.cells #[.string s, .int .i64 (x.at_ : Int), .int .i64 x.n, .int .i64 x.e] 58)).trans (Below.mono (below_alloc (w.alloc (.cells #[.string s, .int .i64 (x.at_ : Int), .int .i64 x.n, .int .i64 x.e] 58)) (.cells #[.string ⟨#[]⟩, .int .i64 0, .int .i64 0, .int .i64 0] 58)) (by simp; try omega)))
  obtain ⟨bx, hbx⟩ : ∃ zz, zz = w.heap.size := ⟨_, rfl⟩
  obtain ⟨br, hbr⟩ : ∃ zz, zz = w.heap.size + 1 := ⟨_, rfl⟩
  obtain ⟨v0, hv0⟩ : ∃ zz, zz = ((w.alloc (.cells #[.string s, .int .i64 (x.at_ : Int), .int .i64 x.n, .int .i64 x.e] 58)).alloc (.cells #[.string ⟨#[]⟩, .int .i64 0, .int .i64 0, .int .i64 0] 58)) := ⟨_, rfl⟩
  have Hbx := Lib.hid hbx; have Hnbx := Lib.hid (show w.heap.size ≤ bx by omega)
  have Hbr := Lib.hid hbr; have Hnbr := Lib.hid (show w.heap.size ≤ br by omega)
  have HV0 := Lib.hid hv0
  have nbxbr : bx ≠ br := by omega
  have nbrbx : br ≠ bx := by omega
  rw [← hv0] at B0 KX KR
  rw [← hbx] at KX
  rw [← hbr] at KR
  clear hv0 hbx hbr
  go_enter Try.func25, Try.ntmps25
  go_upto_region 1 with (fail)
  rw [← HV0.out, ← Hbr.out, ← Hbx.out]
  obtain ⟨cKX0, cKX1, cKX2, cKX3⟩ := Bx.cells4 KX.out
  go_wp2_with fail
  clear cKX0 cKX1 cKX2 cKX3
  refine (HN.out _).mono ?_
  rintro e u1 ⟨rfl, hbw⟩
  have B_1 := Lib.hid (B0.out.trans (Below.mono hbw B0.out.size))
  have KX_1 := Lib.hid (Bx.below KX.out hbw)
  have KR_1 := Lib.hid (Bx.below KR.out hbw)
  clear hbw B0 KX KR
  obtain ⟨cKX0, cKX1, cKX2, cKX3⟩ := Bx.cells4 KX_1.out
  have lKX := Bx.lt KX_1.out; have fKX0 := Bx.froz KX_1.out 0; have fKX1 := Bx.froz KX_1.out 1; have fKX2 := Bx.froz KX_1.out 2; have fKX3 := Bx.froz KX_1.out 3
  go_upto_region 2 with (fail)
  clear cKX0 cKX1 cKX2 cKX3 lKX fKX0 fKX1 fKX2 fKX3
  have SG2 := Lib.hid (grown_st4 (World.grownBy.refl u1 (some bx)) (.string s) (.int .i64 (ya : Int)) (.int .i64 yn) (.int .i64 0))
  have B_2 := Lib.hid (B_1.out.trans (below_grown SG2.out Hnbx.out B_1.out.size))
  have KX_2 := Lib.hid (Bx.st4 KX_1.out (.string s) (.int .i64 (ya : Int)) (.int .i64 yn) (.int .i64 0))
  have KR_2 := Lib.hid (Bx.other KR_1.out SG2.out (some_ne nbrbx))
  obtain ⟨v3, hv3⟩ : ∃ zz, zz = st4 u1 bx (.string s) (.int .i64 (ya : Int)) (.int .i64 yn) (.int .i64 0) := ⟨_, rfl⟩
  rw [← hv3] at B_2 KX_2 KR_2
  have gv3 := hv3
  simp only [st4] at gv3
  first | rw [← hv3] | rw [← gv3]
  clear hv3 gv3
  clear SG2 B_1 KX_1 KR_1
  obtain ⟨cKX0, cKX1, cKX2, cKX3⟩ := Bx.cells4 KX_2.out
  have lKX := Bx.lt KX_2.out; have fKX0 := Bx.froz KX_2.out 0; have fKX1 := Bx.froz KX_2.out 1; have fKX2 := Bx.froz KX_2.out 2; have fKX3 := Bx.froz KX_2.out 3
  go_upto_region 4 with (fail)
  clear cKX0 cKX1 cKX2 cKX3 lKX fKX0 fKX1 fKX2 fKX3
  have SG4 := Lib.hid (grow_setCell v3 bx 3 (.int .i64 2))
  have B_4 := Lib.hid (B_2.out.trans (below_grown SG4.out Hnbx.out B_2.out.size))
  have KX_4 := Lib.hid ((show Bx (v3.setCell ⟨bx, 3, none⟩ (.int .i64 2)) bx #[.string s, .int .i64 (ya : Int), .int .i64 yn, .int .i64 2] _ from Bx.set KX_2.out 3 (.int .i64 2)))
  have KR_4 := Lib.hid (Bx.other KR_2.out SG4.out (some_ne nbrbx))
  obtain ⟨v5, hv5⟩ : ∃ zz, zz = v3.setCell ⟨bx, 3, none⟩ (.int .i64 2) := ⟨_, rfl⟩
  rw [← hv5] at B_4 KX_4 KR_4
  have gv5 := hv5
  first | rw [← hv5] | rw [← gv5]
  clear hv5 gv5
  clear SG4 B_2 KX_2 KR_2
  obtain ⟨cKX0, cKX1, cKX2, cKX3⟩ := Bx.cells4 KX_4.out
  obtain ⟨cKR0, cKR1, cKR2, cKR3⟩ := Bx.cells4 KR_4.out
  have lKR := Bx.lt KR_4.out; have fKR0 := Bx.froz KR_4.out 0; have fKR1 := Bx.froz KR_4.out 1; have fKR2 := Bx.froz KR_4.out 2; have fKR3 := Bx.froz KR_4.out 3
  have HE := Lib.hid (Bx.st4 KR_4.out (.string s) (.int .i64 (ya : Int)) (.int .i64 yn) (.int .i64 2))
  have HBE := Lib.hid (B_4.out.trans (below_grown (grown_st4 (World.grownBy.refl v5 (some br)) (.string s) (.int .i64 (ya : Int)) (.int .i64 yn) (.int .i64 2)) Hnbr.out B_4.out.size))
  go_wp2_with fail
  refine bodyPost_ret (v := .agg #[.string s, .int .i64 (ya : Int), .int .i64 yn, .int .i64 2]) (by first | rw [res_c0 Try.results25 _ (by rfl) (Bx.load HE.out Try.underlying58 inf58)] | skip) rfl ?_
  exact ⟨rfl, HBE.out⟩
set_option maxRecDepth 100000 in
set_option maxHeartbeats 8000000 in
theorem many_1_24_ok (s : ByteArray) (x : XS) (w : World) (h : XOk (tx s) x) (hs : s.size ≤ 100000) (he : (nextX (tx s) x).e = 0) (hb : ¬ 24 < (nextX (tx s) x).n / 1) : Calls Try.prog 25 #[xV s x, .int .i64 1, .int .i64 24] w (Gives w (xV s (manyX (tx s) x 1 24))) := by
  have hT := tx_byt s
  have hy := h.next hT
  have HN := Lib.hid (fun W => xnext_any s x W h hs)
  unfold Gives at HN
  unfold manyX
  rw [if_neg (fun hh => hb hh.2)]
  obtain ⟨y, hyd⟩ : ∃ y, y = nextX (tx s) x := ⟨_, rfl⟩
  rw [← hyd] at HN hy he hb ⊢
  clear hyd h
  obtain ⟨ya, yn, ye⟩ := y
  obtain ⟨hy1, hy2, hy3⟩ := hy
  dsimp only at hy1 hy2 hy3 he hb
  have hya : ya ≤ 100000 := by rw [tx_len] at hy1; omega
  clear hy1
  subst he
  have hbd : yn.tdiv 1 = yn / 1 := Int.tdiv_eq_ediv_of_nonneg hy2
  have KX := Lib.hid ((Bx.new w #[.string s, .int .i64 (x.at_ : Int), .int .i64 x.n, .int .i64 x.e] 58).below (below_alloc _ (.cells #[.string ⟨#[]⟩, .int .i64 0, .int .i64 0, .int .i64 0] 58)))
  have KR := Lib.hid (Bx.new2 w (.cells #[.string s, .int .i64 (x.at_ : Int), .int .i64 x.n, .int .i64 x.e] 58) #[.string ⟨#[]⟩, .int .i64 0, .int .i64 0, .int .i64 0] 58)
  have B0 := Lib.hid ((below_alloc w (.cells #[.string s, .int .i64 (x.at_ : Int), .int .i64 x.n, .int .i64 x.e] 58)).trans (Below.mono (below_alloc (w.alloc (.cells #[.string s, .int .i64 (x.at_ : Int), .int .i64 x.n, .int .i64 x.e] 58)) (.cells #[.string ⟨#[]⟩, .int .i64 0, .int .i64 0, .int .i64 0] 58)) (by simp; try omega)))
  obtain ⟨bx, hbx⟩ : ∃ zz, zz = w.heap.size := ⟨_, rfl⟩
  obtain ⟨br, hbr⟩ : ∃ zz, zz = w.heap.size + 1 := ⟨_, rfl⟩
  obtain ⟨v0, hv0⟩ : ∃ zz, zz = ((w.alloc (.cells #[.string s, .int .i64 (x.at_ : Int), .int .i64 x.n, .int .i64 x.e] 58)).alloc (.cells #[.string ⟨#[]⟩, .int .i64 0, .int .i64 0, .int .i64 0] 58)) := ⟨_, rfl⟩
  have Hbx := Lib.hid hbx; have Hnbx := Lib.hid (show w.heap.size ≤ bx by omega)
  have Hbr := Lib.hid hbr; have Hnbr := Lib.hid (show w.heap.size ≤ br by omega)
  have HV0 := Lib.hid hv0
  have nbxbr : bx ≠ br := by omega
  have nbrbx : br ≠ bx := by omega
  rw [← hv0] at B0 KX KR
  rw [← hbx] at KX
  rw [← hbr] at KR
  clear hv0 hbx hbr
  go_enter Try.func25, Try.ntmps25
  go_upto_region 1 with (fail)
  rw [← HV0.out, ← Hbr.out, ← Hbx.out]
  obtain ⟨cKX0, cKX1, cKX2, cKX3⟩ := Bx.cells4 KX.out
  go_wp2_with fail
  clear cKX0 cKX1 cKX2 cKX3
  refine (HN.out _).mono ?_
  rintro e u1 ⟨rfl, hbw⟩
  have B_1 := Lib.hid (B0.out.trans (Below.mono hbw B0.out.size))
  have KX_1 := Lib.hid (Bx.below KX.out hbw)
  have KR_1 := Lib.hid (Bx.below KR.out hbw)
  clear hbw B0 KX KR
  obtain ⟨cKX0, cKX1, cKX2, cKX3⟩ := Bx.cells4 KX_1.out
  have lKX := Bx.lt KX_1.out; have fKX0 := Bx.froz KX_1.out 0; have fKX1 := Bx.froz KX_1.out 1; have fKX2 := Bx.froz KX_1.out 2; have fKX3 := Bx.froz KX_1.out 3
  go_upto_region 2 with (fail)
  clear cKX0 cKX1 cKX2 cKX3 lKX fKX0 fKX1 fKX2 fKX3
  have SG2 := Lib.hid (grown_st4 (World.grownBy.refl u1 (some bx)) (.string s) (.int .i64 (ya : Int)) (.int .i64 yn) (.int .i64 0))
  have B_2 := Lib.hid (B_1.out.trans (below_grown SG2.out Hnbx.out B_1.out.size))
  have KX_2 := Lib.hid (Bx.st4 KX_1.out (.string s) (.int .i64 (ya : Int)) (.int .i64 yn) (.int .i64 0))
  have KR_2 := Lib.hid (Bx.other KR_1.out SG2.out (some_ne nbrbx))
  obtain ⟨v3, hv3⟩ : ∃ zz, zz = st4 u1 bx (.string s) (.int .i64 (ya : Int)) (.int .i64 yn) (.int .i64 0) := ⟨_, rfl⟩
  rw [← hv3] at B_2 KX_2 KR_2
  have gv3 := hv3
  simp only [st4] at gv3
  first | rw [← hv3] | rw [← gv3]
  clear hv3 gv3
  clear SG2 B_1 KX_1 KR_1
  obtain ⟨cKX0, cKX1, cKX2, cKX3⟩ := Bx.cells4 KX_2.out
  obtain ⟨cKR0, cKR1, cKR2, cKR3⟩ := Bx.cells4 KR_2.out
  have lKR := Bx.lt KR_2.out; have fKR0 := Bx.froz KR_2.out 0; have fKR1 := Bx.froz KR_2.out 1; have fKR2 := Bx.froz KR_2.out 2; have fKR3 := Bx.froz KR_2.out 3
  have HE := Lib.hid (Bx.st4 KR_2.out (.string s) (.int .i64 (ya : Int)) (.int .i64 yn) (.int .i64 0))
  have HBE := Lib.hid (B_2.out.trans (below_grown (grown_st4 (World.grownBy.refl v3 (some br)) (.string s) (.int .i64 (ya : Int)) (.int .i64 yn) (.int .i64 0)) Hnbr.out B_2.out.size))
  go_wp2_with fail
  refine bodyPost_ret (v := .agg #[.string s, .int .i64 (ya : Int), .int .i64 yn, .int .i64 0]) (by first | rw [res_c0 Try.results25 _ (by rfl) (Bx.load HE.out Try.underlying58 inf58)] | skip) rfl ?_
  exact ⟨rfl, HBE.out⟩
theorem many_1_24 (s : ByteArray) (x : XS) (w : World) (h : XOk (tx s) x) (hs : s.size ≤ 100000) : Calls Try.prog 25 #[xV s x, .int .i64 1, .int .i64 24] w (Gives w (xV s (manyX (tx s) x 1 24))) := by
  by_cases he : (nextX (tx s) x).e = 0
  · by_cases hb : 24 < (nextX (tx s) x).n / 1
    · exact many_1_24_big s x w h hs he hb
    · exact many_1_24_ok s x w h hs he hb
  · exact many_1_24_e s x w h hs he
set_option maxRecDepth 100000 in
set_option maxHeartbeats 8000000 in
theorem many_1_6_e (s : ByteArray) (x : XS) (w : World) (h : XOk (tx s) x) (hs : s.size ≤ 100000) (he : ¬ (nextX (tx s) x).e = 0) : Calls Try.prog 25 #[xV s x, .int .i64 1, .int .i64 6] w (Gives w (xV s (manyX (tx s) x 1 6))) := by
  have hT := tx_byt s
  have hy := h.next hT
  have HN := Lib.hid (fun W => xnext_any s x W h hs)
  unfold Gives at HN
  unfold manyX
  rw [if_neg (fun hh => he hh.1)]
  obtain ⟨y, hyd⟩ : ∃ y, y = nextX (tx s) x := ⟨_, rfl⟩
  rw [← hyd] at HN hy he ⊢
  clear hyd h
  obtain ⟨ya, yn, ye⟩ := y
  obtain ⟨hy1, hy2, hy3⟩ := hy
  dsimp only at hy1 hy2 hy3 he
  have hya : ya ≤ 100000 := by rw [tx_len] at hy1; omega
  clear hy1
  have heb : (ye == 0) = false := by rw [beq_eq_false_iff_ne]; exact he
  have KX := Lib.hid ((Bx.new w #[.string s, .int .i64 (x.at_ : Int), .int .i64 x.n, .int .i64 x.e] 58).below (below_alloc _ (.cells #[.string ⟨#[]⟩, .int .i64 0, .int .i64 0, .int .i64 0] 58)))
  have KR := Lib.hid (Bx.new2 w (.cells #[.string s, .int .i64 (x.at_ : Int), .int .i64 x.n, .int .i64 x.e] 58) #[.string ⟨#[]⟩, .int .i64 0, .int .i64 0, .int .i64 0] 58)
  have B0 := Lib.hid ((below_alloc w (.cells #[.string s, .int .i64 (x.at_ : Int), .int .i64 x.n, .int .i64 x.e] 58)).trans (Below.mono (below_alloc (w.alloc (.cells #[.string s, .int .i64 (x.at_ : Int), .int .i64 x.n, .int .i64 x.e] 58)) (.cells #[.string ⟨#[]⟩, .int .i64 0, .int .i64 0, .int .i64 0] 58)) (by simp; try omega)))
  obtain ⟨bx, hbx⟩ : ∃ zz, zz = w.heap.size := ⟨_, rfl⟩
  obtain ⟨br, hbr⟩ : ∃ zz, zz = w.heap.size + 1 := ⟨_, rfl⟩
  obtain ⟨v0, hv0⟩ : ∃ zz, zz = ((w.alloc (.cells #[.string s, .int .i64 (x.at_ : Int), .int .i64 x.n, .int .i64 x.e] 58)).alloc (.cells #[.string ⟨#[]⟩, .int .i64 0, .int .i64 0, .int .i64 0] 58)) := ⟨_, rfl⟩
  have Hbx := Lib.hid hbx; have Hnbx := Lib.hid (show w.heap.size ≤ bx by omega)
  have Hbr := Lib.hid hbr; have Hnbr := Lib.hid (show w.heap.size ≤ br by omega)
  have HV0 := Lib.hid hv0
  have nbxbr : bx ≠ br := by omega
  have nbrbx : br ≠ bx := by omega
  rw [← hv0] at B0 KX KR
  rw [← hbx] at KX
  rw [← hbr] at KR
  clear hv0 hbx hbr
  go_enter Try.func25, Try.ntmps25
  go_upto_region 1 with (fail)
  rw [← HV0.out, ← Hbr.out, ← Hbx.out]
  obtain ⟨cKX0, cKX1, cKX2, cKX3⟩ := Bx.cells4 KX.out
  go_wp2_with fail
  clear cKX0 cKX1 cKX2 cKX3
  refine (HN.out _).mono ?_
  rintro e u1 ⟨rfl, hb⟩
  have B_1 := Lib.hid (B0.out.trans (Below.mono hb B0.out.size))
  have KX_1 := Lib.hid (Bx.below KX.out hb)
  have KR_1 := Lib.hid (Bx.below KR.out hb)
  clear hb B0 KX KR
  obtain ⟨cKX0, cKX1, cKX2, cKX3⟩ := Bx.cells4 KX_1.out
  have lKX := Bx.lt KX_1.out; have fKX0 := Bx.froz KX_1.out 0; have fKX1 := Bx.froz KX_1.out 1; have fKX2 := Bx.froz KX_1.out 2; have fKX3 := Bx.froz KX_1.out 3
  go_upto_region 2 with (fail)
  clear cKX0 cKX1 cKX2 cKX3 lKX fKX0 fKX1 fKX2 fKX3
  have SG2 := Lib.hid (grown_st4 (World.grownBy.refl u1 (some bx)) (.string s) (.int .i64 (ya : Int)) (.int .i64 yn) (.int .i64 ye))
  have B_2 := Lib.hid (B_1.out.trans (below_grown SG2.out Hnbx.out B_1.out.size))
  have KX_2 := Lib.hid (Bx.st4 KX_1.out (.string s) (.int .i64 (ya : Int)) (.int .i64 yn) (.int .i64 ye))
  have KR_2 := Lib.hid (Bx.other KR_1.out SG2.out (some_ne nbrbx))
  obtain ⟨v3, hv3⟩ : ∃ zz, zz = st4 u1 bx (.string s) (.int .i64 (ya : Int)) (.int .i64 yn) (.int .i64 ye) := ⟨_, rfl⟩
  rw [← hv3] at B_2 KX_2 KR_2
  have gv3 := hv3
  simp only [st4] at gv3
  first | rw [← hv3] | rw [← gv3]
  clear hv3 gv3
  clear SG2 B_1 KX_1 KR_1
  obtain ⟨cKX0, cKX1, cKX2, cKX3⟩ := Bx.cells4 KX_2.out
  obtain ⟨cKR0, cKR1, cKR2, cKR3⟩ := Bx.cells4 KR_2.out
  have lKR := Bx.lt KR_2.out; have fKR0 := Bx.froz KR_2.out 0; have fKR1 := Bx.froz KR_2.out 1; have fKR2 := Bx.froz KR_2.out 2; have fKR3 := Bx.froz KR_2.out 3
  have HE := Lib.hid (Bx.st4 KR_2.out (.string s) (.int .i64 (ya : Int)) (.int .i64 yn) (.int .i64 ye))
  have HBE := Lib.hid (B_2.out.trans (below_grown (grown_st4 (World.grownBy.refl v3 (some br)) (.string s) (.int .i64 (ya : Int)) (.int .i64 yn) (.int .i64 ye)) Hnbr.out B_2.out.size))
  go_wp2_with fail
  refine bodyPost_ret (v := .agg #[.string s, .int .i64 (ya : Int), .int .i64 yn, .int .i64 ye]) (by first | rw [res_c0 Try.results25 _ (by rfl) (Bx.load HE.out Try.underlying58 inf58)] | skip) rfl ?_
  exact ⟨rfl, HBE.out⟩
set_option maxRecDepth 100000 in
set_option maxHeartbeats 8000000 in
theorem many_1_6_big (s : ByteArray) (x : XS) (w : World) (h : XOk (tx s) x) (hs : s.size ≤ 100000) (he : (nextX (tx s) x).e = 0) (hb : 6 < (nextX (tx s) x).n / 1) : Calls Try.prog 25 #[xV s x, .int .i64 1, .int .i64 6] w (Gives w (xV s (manyX (tx s) x 1 6))) := by
  have hT := tx_byt s
  have hy := h.next hT
  have HN := Lib.hid (fun W => xnext_any s x W h hs)
  unfold Gives at HN
  unfold manyX
  rw [if_pos ⟨he, hb⟩]
  obtain ⟨y, hyd⟩ : ∃ y, y = nextX (tx s) x := ⟨_, rfl⟩
  rw [← hyd] at HN hy he hb ⊢
  clear hyd h
  obtain ⟨ya, yn, ye⟩ := y
  obtain ⟨hy1, hy2, hy3⟩ := hy
  dsimp only at hy1 hy2 hy3 he hb
  have hya : ya ≤ 100000 := by rw [tx_len] at hy1; omega
  clear hy1
  subst he
  have hbd : yn.tdiv 1 = yn / 1 := Int.tdiv_eq_ediv_of_nonneg hy2
  have KX := Lib.hid ((Bx.new w #[.string s, .int .i64 (x.at_ : Int), .int .i64 x.n, .int .i64 x.e] 58).below (below_alloc _ (.cells #[.string ⟨#[]⟩, .int .i64 0, .int .i64 0, .int .i64 0] 58)))
  have KR := Lib.hid (Bx.new2 w (.cells #[.string s, .int .i64 (x.at_ : Int), .int .i64 x.n, .int .i64 x.e] 58) #[.string ⟨#[]⟩, .int .i64 0, .int .i64 0, .int .i64 0] 58)
  have B0 := Lib.hid ((below_alloc w (.cells #[.string s, .int .i64 (x.at_ : Int), .int .i64 x.n, .int .i64 x.e] 58)).trans (Below.mono (below_alloc (w.alloc (.cells #[.string s, .int .i64 (x.at_ : Int), .int .i64 x.n, .int .i64 x.e] 58)) (.cells #[.string ⟨#[]⟩, .int .i64 0, .int .i64 0, .int .i64 0] 58)) (by simp; try omega)))
  obtain ⟨bx, hbx⟩ : ∃ zz, zz = w.heap.size := ⟨_, rfl⟩
  obtain ⟨br, hbr⟩ : ∃ zz, zz = w.heap.size + 1 := ⟨_, rfl⟩
  obtain ⟨v0, hv0⟩ : ∃ zz, zz = ((w.alloc (.cells #[.string s, .int .i64 (x.at_ : Int), .int .i64 x.n, .int .i64 x.e] 58)).alloc (.cells #[.string ⟨#[]⟩, .int .i64 0, .int .i64 0, .int .i64 0] 58)) := ⟨_, rfl⟩
  have Hbx := Lib.hid hbx; have Hnbx := Lib.hid (show w.heap.size ≤ bx by omega)
  have Hbr := Lib.hid hbr; have Hnbr := Lib.hid (show w.heap.size ≤ br by omega)
  have HV0 := Lib.hid hv0
  have nbxbr : bx ≠ br := by omega
  have nbrbx : br ≠ bx := by omega
  rw [← hv0] at B0 KX KR
  rw [← hbx] at KX
  rw [← hbr] at KR
  clear hv0 hbx hbr
  go_enter Try.func25, Try.ntmps25
  go_upto_region 1 with (fail)
  rw [← HV0.out, ← Hbr.out, ← Hbx.out]
  obtain ⟨cKX0, cKX1, cKX2, cKX3⟩ := Bx.cells4 KX.out
  go_wp2_with fail
  clear cKX0 cKX1 cKX2 cKX3
  refine (HN.out _).mono ?_
  rintro e u1 ⟨rfl, hbw⟩
  have B_1 := Lib.hid (B0.out.trans (Below.mono hbw B0.out.size))
  have KX_1 := Lib.hid (Bx.below KX.out hbw)
  have KR_1 := Lib.hid (Bx.below KR.out hbw)
  clear hbw B0 KX KR
  obtain ⟨cKX0, cKX1, cKX2, cKX3⟩ := Bx.cells4 KX_1.out
  have lKX := Bx.lt KX_1.out; have fKX0 := Bx.froz KX_1.out 0; have fKX1 := Bx.froz KX_1.out 1; have fKX2 := Bx.froz KX_1.out 2; have fKX3 := Bx.froz KX_1.out 3
  go_upto_region 2 with (fail)
  clear cKX0 cKX1 cKX2 cKX3 lKX fKX0 fKX1 fKX2 fKX3
  have SG2 := Lib.hid (grown_st4 (World.grownBy.refl u1 (some bx)) (.string s) (.int .i64 (ya : Int)) (.int .i64 yn) (.int .i64 0))
  have B_2 := Lib.hid (B_1.out.trans (below_grown SG2.out Hnbx.out B_1.out.size))
  have KX_2 := Lib.hid (Bx.st4 KX_1.out (.string s) (.int .i64 (ya : Int)) (.int .i64 yn) (.int .i64 0))
  have KR_2 := Lib.hid (Bx.other KR_1.out SG2.out (some_ne nbrbx))
  obtain ⟨v3, hv3⟩ : ∃ zz, zz = st4 u1 bx (.string s) (.int .i64 (ya : Int)) (.int .i64 yn) (.int .i64 0) := ⟨_, rfl⟩
  rw [← hv3] at B_2 KX_2 KR_2
  have gv3 := hv3
  simp only [st4] at gv3
  first | rw [← hv3] | rw [← gv3]
  clear hv3 gv3
  clear SG2 B_1 KX_1 KR_1
  obtain ⟨cKX0, cKX1, cKX2, cKX3⟩ := Bx.cells4 KX_2.out
  have lKX := Bx.lt KX_2.out; have fKX0 := Bx.froz KX_2.out 0; have fKX1 := Bx.froz KX_2.out 1; have fKX2 := Bx.froz KX_2.out 2; have fKX3 := Bx.froz KX_2.out 3
  go_upto_region 4 with (fail)
  clear cKX0 cKX1 cKX2 cKX3 lKX fKX0 fKX1 fKX2 fKX3
  have SG4 := Lib.hid (grow_setCell v3 bx 3 (.int .i64 2))
  have B_4 := Lib.hid (B_2.out.trans (below_grown SG4.out Hnbx.out B_2.out.size))
  have KX_4 := Lib.hid ((show Bx (v3.setCell ⟨bx, 3, none⟩ (.int .i64 2)) bx #[.string s, .int .i64 (ya : Int), .int .i64 yn, .int .i64 2] _ from Bx.set KX_2.out 3 (.int .i64 2)))
  have KR_4 := Lib.hid (Bx.other KR_2.out SG4.out (some_ne nbrbx))
  obtain ⟨v5, hv5⟩ : ∃ zz, zz = v3.setCell ⟨bx, 3, none⟩ (.int .i64 2) := ⟨_, rfl⟩
  rw [← hv5] at B_4 KX_4 KR_4
  have gv5 := hv5
  first | rw [← hv5] | rw [← gv5]
  clear hv5 gv5
  clear SG4 B_2 KX_2 KR_2
  obtain ⟨cKX0, cKX1, cKX2, cKX3⟩ := Bx.cells4 KX_4.out
  obtain ⟨cKR0, cKR1, cKR2, cKR3⟩ := Bx.cells4 KR_4.out
  have lKR := Bx.lt KR_4.out; have fKR0 := Bx.froz KR_4.out 0; have fKR1 := Bx.froz KR_4.out 1; have fKR2 := Bx.froz KR_4.out 2; have fKR3 := Bx.froz KR_4.out 3
  have HE := Lib.hid (Bx.st4 KR_4.out (.string s) (.int .i64 (ya : Int)) (.int .i64 yn) (.int .i64 2))
  have HBE := Lib.hid (B_4.out.trans (below_grown (grown_st4 (World.grownBy.refl v5 (some br)) (.string s) (.int .i64 (ya : Int)) (.int .i64 yn) (.int .i64 2)) Hnbr.out B_4.out.size))
  go_wp2_with fail
  refine bodyPost_ret (v := .agg #[.string s, .int .i64 (ya : Int), .int .i64 yn, .int .i64 2]) (by first | rw [res_c0 Try.results25 _ (by rfl) (Bx.load HE.out Try.underlying58 inf58)] | skip) rfl ?_
  exact ⟨rfl, HBE.out⟩
set_option maxRecDepth 100000 in
set_option maxHeartbeats 8000000 in
theorem many_1_6_ok (s : ByteArray) (x : XS) (w : World) (h : XOk (tx s) x) (hs : s.size ≤ 100000) (he : (nextX (tx s) x).e = 0) (hb : ¬ 6 < (nextX (tx s) x).n / 1) : Calls Try.prog 25 #[xV s x, .int .i64 1, .int .i64 6] w (Gives w (xV s (manyX (tx s) x 1 6))) := by
  have hT := tx_byt s
  have hy := h.next hT
  have HN := Lib.hid (fun W => xnext_any s x W h hs)
  unfold Gives at HN
  unfold manyX
  rw [if_neg (fun hh => hb hh.2)]
  obtain ⟨y, hyd⟩ : ∃ y, y = nextX (tx s) x := ⟨_, rfl⟩
  rw [← hyd] at HN hy he hb ⊢
  clear hyd h
  obtain ⟨ya, yn, ye⟩ := y
  obtain ⟨hy1, hy2, hy3⟩ := hy
  dsimp only at hy1 hy2 hy3 he hb
  have hya : ya ≤ 100000 := by rw [tx_len] at hy1; omega
  clear hy1
  subst he
  have hbd : yn.tdiv 1 = yn / 1 := Int.tdiv_eq_ediv_of_nonneg hy2
  have KX := Lib.hid ((Bx.new w #[.string s, .int .i64 (x.at_ : Int), .int .i64 x.n, .int .i64 x.e] 58).below (below_alloc _ (.cells #[.string ⟨#[]⟩, .int .i64 0, .int .i64 0, .int .i64 0] 58)))
  have KR := Lib.hid (Bx.new2 w (.cells #[.string s, .int .i64 (x.at_ : Int), .int .i64 x.n, .int .i64 x.e] 58) #[.string ⟨#[]⟩, .int .i64 0, .int .i64 0, .int .i64 0] 58)
  have B0 := Lib.hid ((below_alloc w (.cells #[.string s, .int .i64 (x.at_ : Int), .int .i64 x.n, .int .i64 x.e] 58)).trans (Below.mono (below_alloc (w.alloc (.cells #[.string s, .int .i64 (x.at_ : Int), .int .i64 x.n, .int .i64 x.e] 58)) (.cells #[.string ⟨#[]⟩, .int .i64 0, .int .i64 0, .int .i64 0] 58)) (by simp; try omega)))
  obtain ⟨bx, hbx⟩ : ∃ zz, zz = w.heap.size := ⟨_, rfl⟩
  obtain ⟨br, hbr⟩ : ∃ zz, zz = w.heap.size + 1 := ⟨_, rfl⟩
  obtain ⟨v0, hv0⟩ : ∃ zz, zz = ((w.alloc (.cells #[.string s, .int .i64 (x.at_ : Int), .int .i64 x.n, .int .i64 x.e] 58)).alloc (.cells #[.string ⟨#[]⟩, .int .i64 0, .int .i64 0, .int .i64 0] 58)) := ⟨_, rfl⟩
  have Hbx := Lib.hid hbx; have Hnbx := Lib.hid (show w.heap.size ≤ bx by omega)
  have Hbr := Lib.hid hbr; have Hnbr := Lib.hid (show w.heap.size ≤ br by omega)
  have HV0 := Lib.hid hv0
  have nbxbr : bx ≠ br := by omega
  have nbrbx : br ≠ bx := by omega
  rw [← hv0] at B0 KX KR
  rw [← hbx] at KX
  rw [← hbr] at KR
  clear hv0 hbx hbr
  go_enter Try.func25, Try.ntmps25
  go_upto_region 1 with (fail)
  rw [← HV0.out, ← Hbr.out, ← Hbx.out]
  obtain ⟨cKX0, cKX1, cKX2, cKX3⟩ := Bx.cells4 KX.out
  go_wp2_with fail
  clear cKX0 cKX1 cKX2 cKX3
  refine (HN.out _).mono ?_
  rintro e u1 ⟨rfl, hbw⟩
  have B_1 := Lib.hid (B0.out.trans (Below.mono hbw B0.out.size))
  have KX_1 := Lib.hid (Bx.below KX.out hbw)
  have KR_1 := Lib.hid (Bx.below KR.out hbw)
  clear hbw B0 KX KR
  obtain ⟨cKX0, cKX1, cKX2, cKX3⟩ := Bx.cells4 KX_1.out
  have lKX := Bx.lt KX_1.out; have fKX0 := Bx.froz KX_1.out 0; have fKX1 := Bx.froz KX_1.out 1; have fKX2 := Bx.froz KX_1.out 2; have fKX3 := Bx.froz KX_1.out 3
  go_upto_region 2 with (fail)
  clear cKX0 cKX1 cKX2 cKX3 lKX fKX0 fKX1 fKX2 fKX3
  have SG2 := Lib.hid (grown_st4 (World.grownBy.refl u1 (some bx)) (.string s) (.int .i64 (ya : Int)) (.int .i64 yn) (.int .i64 0))
  have B_2 := Lib.hid (B_1.out.trans (below_grown SG2.out Hnbx.out B_1.out.size))
  have KX_2 := Lib.hid (Bx.st4 KX_1.out (.string s) (.int .i64 (ya : Int)) (.int .i64 yn) (.int .i64 0))
  have KR_2 := Lib.hid (Bx.other KR_1.out SG2.out (some_ne nbrbx))
  obtain ⟨v3, hv3⟩ : ∃ zz, zz = st4 u1 bx (.string s) (.int .i64 (ya : Int)) (.int .i64 yn) (.int .i64 0) := ⟨_, rfl⟩
  rw [← hv3] at B_2 KX_2 KR_2
  have gv3 := hv3
  simp only [st4] at gv3
  first | rw [← hv3] | rw [← gv3]
  clear hv3 gv3
  clear SG2 B_1 KX_1 KR_1
  obtain ⟨cKX0, cKX1, cKX2, cKX3⟩ := Bx.cells4 KX_2.out
  obtain ⟨cKR0, cKR1, cKR2, cKR3⟩ := Bx.cells4 KR_2.out
  have lKR := Bx.lt KR_2.out; have fKR0 := Bx.froz KR_2.out 0; have fKR1 := Bx.froz KR_2.out 1; have fKR2 := Bx.froz KR_2.out 2; have fKR3 := Bx.froz KR_2.out 3
  have HE := Lib.hid (Bx.st4 KR_2.out (.string s) (.int .i64 (ya : Int)) (.int .i64 yn) (.int .i64 0))
  have HBE := Lib.hid (B_2.out.trans (below_grown (grown_st4 (World.grownBy.refl v3 (some br)) (.string s) (.int .i64 (ya : Int)) (.int .i64 yn) (.int .i64 0)) Hnbr.out B_2.out.size))
  go_wp2_with fail
  refine bodyPost_ret (v := .agg #[.string s, .int .i64 (ya : Int), .int .i64 yn, .int .i64 0]) (by first | rw [res_c0 Try.results25 _ (by rfl) (Bx.load HE.out Try.underlying58 inf58)] | skip) rfl ?_
  exact ⟨rfl, HBE.out⟩
theorem many_1_6 (s : ByteArray) (x : XS) (w : World) (h : XOk (tx s) x) (hs : s.size ≤ 100000) : Calls Try.prog 25 #[xV s x, .int .i64 1, .int .i64 6] w (Gives w (xV s (manyX (tx s) x 1 6))) := by
  by_cases he : (nextX (tx s) x).e = 0
  · by_cases hb : 6 < (nextX (tx s) x).n / 1
    · exact many_1_6_big s x w h hs he hb
    · exact many_1_6_ok s x w h hs he hb
  · exact many_1_6_e s x w h hs he
end Go.Proofs.Ytddkckppmjcclaa
