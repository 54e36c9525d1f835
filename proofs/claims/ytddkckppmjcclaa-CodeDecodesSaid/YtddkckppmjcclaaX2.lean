/- The reference's reader: one. -/
import Derived.Test.YtddkckppmjcclaaX1
namespace Go.Proofs.Ytddkckppmjcclaa
open Go.RowKit
set_option linter.unusedSimpArgs false
set_option linter.unusedVariables false
theorem res_cc' {fn : Func} {p q : Tmp} {ty ty2 : TypeId} (h : fn.results = #[.cell p ty, .cell q ty2]) (tmps : Array Value) (w : World) :
    (results fn tmps).run Try.prog w = ((asAddr (tmps.getD p undef)).run Try.prog w).andThen fun a w₁ => ((loadVar ty a).run Try.prog w₁).andThen fun v w₂ => ((asAddr (tmps.getD q undef)).run Try.prog w₂).andThen fun a2 w₃ => ((loadVar ty2 a2).run Try.prog w₃).andThen fun v2 w₄ => .ok (.tuple #[v, v2]) w₄ := by
  simp only [results, h]
  simp [Sem.run_bind, Result.andThen]
theorem res_cc {fn : Func} {p q : Tmp} {ty ty2 : TypeId} (h : fn.results = #[.cell p ty, .cell q ty2]) (tmps : Array Value) {W : World} {B C : Nat} {v v2 : Value} (hp : tmps.getD p undef = .pointer (some ⟨B, 0, none⟩)) (hg : (loadVar ty ⟨B, 0, none⟩).run Try.prog W = .ok v W) (hq : tmps.getD q undef = .pointer (some ⟨C, 0, none⟩)) (hg2 : (loadVar ty2 ⟨C, 0, none⟩).run Try.prog W = .ok v2 W) :
    (results fn tmps).run Try.prog W = .ok (.tuple #[v, v2]) W := by
  rw [res_cc' h, hp, hq]
  simp [asAddr, Result.andThen, hg, hg2]
def oneX (T : List Int) (x : XS) : Ins × XS :=
  if (nextX T x).n = 0 then (⟨0, 0, 0⟩, nextX T x) else if (nextX T x).n = 7 then (⟨7, (nextX T (nextX T x)).n, (nextX T (nextX T (nextX T x))).n⟩, nextX T (nextX T (nextX T x)))
  else (⟨(nextX T x).n, (nextX T (nextX T x)).n, 0⟩, nextX T (nextX T x))
theorem XOk.one {T : List Int} (hT : Byt T) {x : XS} (h : XOk T x) : XOk T (oneX T x).2 := by
  unfold oneX
  split
  · exact h.next hT
  · split
    · exact ((h.next hT).next hT).next hT
    · exact (h.next hT).next hT
theorem one_insOk {T : List Int} (hT : Byt T) {x : XS} (h : XOk T x) : InsOk (oneX T x).1 := by
  have h1 := h.next hT
  have h2 := h1.next hT
  have h3 := h2.next hT
  have z : I64 0 := ⟨by decide, by decide⟩
  unfold oneX
  split
  · exact ⟨z, z, z⟩
  · split
    · exact ⟨(show I64 7 from ⟨by decide, by decide⟩), i64m h2.2.1 h2.2.2, i64m h3.2.1 h3.2.2⟩
    · exact ⟨i64m h1.2.1 h1.2.2, i64m h2.2.1 h2.2.2, z⟩
set_option maxRecDepth 100000 in
set_option maxHeartbeats 8000000 in
theorem one_z (s : ByteArray) (x : XS) (w : World) (h : XOk (tx s) x) (hs : s.size ≤ 100000) (h0 : (nextX (tx s) x).n = 0) : Calls Try.prog 43 #[xV s x] w (Gives w (.tuple #[insV (oneX (tx s) x).1, xV s (oneX (tx s) x).2])) := by
  have hT := tx_byt s
  have g1 := h.next hT
  have N1 := Lib.hid (fun W => xnext_any s x W h hs)
  unfold Gives at N1
  unfold oneX
  rw [if_pos h0]
  obtain ⟨y1, e1⟩ : ∃ zz, zz = nextX (tx s) x := ⟨_, rfl⟩
  rw [← e1] at N1 h0 ⊢
  clear e1 g1 h hT
  obtain ⟨ya, yn, ye⟩ := y1
  dsimp only at h0 N1
  subst h0
  have KX := Lib.hid (((Bx.new w #[.string s, .int .i64 (x.at_ : Int), .int .i64 x.n, .int .i64 x.e] 58).below (below_alloc _ (.cells #[.int .i64 0, .int .i64 0, .int .i64 0] 44))).below (below_alloc _ (.cells #[.string ⟨#[]⟩, .int .i64 0, .int .i64 0, .int .i64 0] 58)))
  have KR := Lib.hid ((Bx.new2 w (.cells #[.string s, .int .i64 (x.at_ : Int), .int .i64 x.n, .int .i64 x.e] 58) #[.int .i64 0, .int .i64 0, .int .i64 0] 44).below (below_alloc _ (.cells #[.string ⟨#[]⟩, .int .i64 0, .int .i64 0, .int .i64 0] 58)))
  have KS := Lib.hid (Bx.new3 w (.cells #[.string s, .int .i64 (x.at_ : Int), .int .i64 x.n, .int .i64 x.e] 58) (.cells #[.int .i64 0, .int .i64 0, .int .i64 0] 44) #[.string ⟨#[]⟩, .int .i64 0, .int .i64 0, .int .i64 0] 58)
  have B0 := Lib.hid (((below_alloc w (.cells #[.string s, .int .i64 (x.at_ : Int), .int .i64 x.n, .int .i64 x.e] 58)).trans (Below.mono (below_alloc (w.alloc (.cells #[.string s, .int .i64 (x.at_ : Int), .int .i64 x.n, .int .i64 x.e] 58)) (.cells #[.int .i64 0, .int .i64 0, .int .i64 0] 44)) (by simp; try omega))).trans (Below.mono (below_alloc ((w.alloc (.cells #[.string s, .int .i64 (x.at_ : Int), .int .i64 x.n, .int .i64 x.e] 58)).alloc (.cells #[.int .i64 0, .int .i64 0, .int .i64 0] 44)) (.cells #[.string ⟨#[]⟩, .int .i64 0, .int .i64 0, .int .i64 0] 58)) (by simp; try omega)))
  obtain ⟨bx, hbx⟩ : ∃ zz, zz = w.heap.size := ⟨_, rfl⟩
  obtain ⟨br, hbr⟩ : ∃ zz, zz = w.heap.size + 1 := ⟨_, rfl⟩
  obtain ⟨bs, hbs⟩ : ∃ zz, zz = w.heap.size + 2 := ⟨_, rfl⟩
  obtain ⟨v0, hv0⟩ : ∃ zz, zz = (((w.alloc (.cells #[.string s, .int .i64 (x.at_ : Int), .int .i64 x.n, .int .i64 x.e] 58)).alloc (.cells #[.int .i64 0, .int .i64 0, .int .i64 0] 44)).alloc (.cells #[.string ⟨#[]⟩, .int .i64 0, .int .i64 0, .int .i64 0] 58)) := ⟨_, rfl⟩
  have Hbx := Lib.hid hbx; have Hnbx := Lib.hid (show w.heap.size ≤ bx by omega)
  have Hbr := Lib.hid hbr; have Hnbr := Lib.hid (show w.heap.size ≤ br by omega)
  have Hbs := Lib.hid hbs; have Hnbs := Lib.hid (show w.heap.size ≤ bs by omega)
  have HV0 := Lib.hid hv0
  have nbxbr : bx ≠ br := by omega
  have nbxbs : bx ≠ bs := by omega
  have nbrbx : br ≠ bx := by omega
  have nbrbs : br ≠ bs := by omega
  have nbsbx : bs ≠ bx := by omega
  have nbsbr : bs ≠ br := by omega
  rw [← hv0] at B0 KX KR KS
  rw [← hbx] at KX
  rw [← hbr] at KR
  rw [← hbs] at KS
  clear hv0 hbx hbr hbs
  go_enter Try.func43, Try.ntmps43
  go_upto_region 1 with (fail)
  rw [← HV0.out, ← Hbs.out, ← Hbr.out, ← Hbx.out]
  obtain ⟨cKX0, cKX1, cKX2, cKX3⟩ := Bx.cells4 KX.out
  go_wp2_with fail
  clear cKX0 cKX1 cKX2 cKX3
  refine (N1.out _).mono ?_
  rintro e u1 ⟨rfl, hb⟩
  have B_1 := Lib.hid (B0.out.trans (Below.mono hb B0.out.size))
  have KX_1 := Lib.hid (Bx.below KX.out hb)
  have KR_1 := Lib.hid (Bx.below KR.out hb)
  have KS_1 := Lib.hid (Bx.below KS.out hb)
  clear hb B0 KX KR KS
  obtain ⟨cKX0, cKX1, cKX2, cKX3⟩ := Bx.cells4 KX_1.out
  have lKX := Bx.lt KX_1.out; have fKX0 := Bx.froz KX_1.out 0; have fKX1 := Bx.froz KX_1.out 1; have fKX2 := Bx.froz KX_1.out 2; have fKX3 := Bx.froz KX_1.out 3
  go_upto_region 2 with (fail)
  clear cKX0 cKX1 cKX2 cKX3 lKX fKX0 fKX1 fKX2 fKX3
  have SG2 := Lib.hid (grown_st4 (World.grownBy.refl u1 (some bx)) (.string s) (.int .i64 (ya : Int)) (.int .i64 0) (.int .i64 ye))
  have B_2 := Lib.hid (B_1.out.trans (below_grown SG2.out Hnbx.out B_1.out.size))
  have KX_2 := Lib.hid (Bx.st4 KX_1.out (.string s) (.int .i64 (ya : Int)) (.int .i64 0) (.int .i64 ye))
  have KR_2 := Lib.hid (Bx.other KR_1.out SG2.out (some_ne nbrbx))
  have KS_2 := Lib.hid (Bx.other KS_1.out SG2.out (some_ne nbsbx))
  obtain ⟨v3, hv3⟩ : ∃ zz, zz = st4 u1 bx (.string s) (.int .i64 (ya : Int)) (.int .i64 0) (.int .i64 ye) := ⟨_, rfl⟩
  rw [← hv3] at B_2 KX_2 KR_2 KS_2
  have gv3 := hv3
  simp only [st4] at gv3
  first | rw [← hv3] | rw [← gv3]
  clear hv3 gv3
  clear SG2 B_1 KX_1 KR_1 KS_1
  obtain ⟨cKX0, cKX1, cKX2, cKX3⟩ := Bx.cells4 KX_2.out
  have BA4 := below_alloc v3 (.cells #[.int .i64 0, .int .i64 0, .int .i64 0] 44)
  have KO_4 := Lib.hid (Bx.new v3 #[.int .i64 0, .int .i64 0, .int .i64 0] 44)
  have ltbx4 : bx < v3.heap.size := Bx.lt KX_2.out
  have ltbr4 : br < v3.heap.size := Bx.lt KR_2.out
  have ltbs4 : bs < v3.heap.size := Bx.lt KS_2.out
  have hs4 : w.heap.size ≤ v3.heap.size := B_2.out.size
  go_upto_region 3 with (fail)
  clear cKX0 cKX1 cKX2 cKX3
  obtain ⟨bo, hbo⟩ : ∃ zz, zz = v3.heap.size := ⟨_, rfl⟩
  have Hnbo := Lib.hid (show w.heap.size ≤ bo by omega)
  have nbxbo : bx ≠ bo := by omega
  have nbobx : bo ≠ bx := by omega
  have nbrbo : br ≠ bo := by omega
  have nbobr : bo ≠ br := by omega
  have nbsbo : bs ≠ bo := by omega
  have nbobs : bo ≠ bs := by omega
  rw [← hbo] at KO_4 ⊢
  clear ltbx4 ltbr4 ltbs4 hs4 hbo
  have B_5 := Lib.hid (B_2.out.trans (Below.mono BA4 B_2.out.size))
  have KX_5 := Lib.hid (Bx.below KX_2.out BA4)
  have KR_5 := Lib.hid (Bx.below KR_2.out BA4)
  have KS_5 := Lib.hid (Bx.below KS_2.out BA4)
  clear BA4 B_2 KX_2 KR_2 KS_2
  obtain ⟨v6, hv6⟩ : ∃ zz, zz = v3.alloc (.cells #[.int .i64 0, .int .i64 0, .int .i64 0] 44) := ⟨_, rfl⟩
  rw [← hv6] at B_5 KX_5 KR_5 KS_5 KO_4
  have gv6 := hv6
  first | rw [← hv6] | rw [← gv6]
  clear hv6 gv6
  obtain ⟨cKX0, cKX1, cKX2, cKX3⟩ := Bx.cells4 KX_5.out
  obtain ⟨cKO0, cKO1, cKO2⟩ := Bx.cells3 KO_4.out
  go_upto_region 9 with (fail)
  clear cKX0 cKX1 cKX2 cKX3 cKO0 cKO1 cKO2
  have HSS := Lib.hid (show ∀ W, Bx W bo #[.int .i64 0, .int .i64 0, .int .i64 0] 44 → Bx W bx #[.string s, .int .i64 (ya : Int), .int .i64 0, .int .i64 ye] 58 → (fun W => W.cell? ⟨bo, 0, none⟩ = some (.int .i64 0) ∧ W.cell? ⟨bo, 1, none⟩ = some (.int .i64 0) ∧ W.cell? ⟨bo, 2, none⟩ = some (.int .i64 0) ∧ W.cell? ⟨bx, 0, none⟩ = some (.string s) ∧ W.cell? ⟨bx, 1, none⟩ = some (.int .i64 (ya : Int)) ∧ W.cell? ⟨bx, 2, none⟩ = some (.int .i64 0) ∧ W.cell? ⟨bx, 3, none⟩ = some (.int .i64 ye)) W from fun W h0 h1 => ⟨Bx.cell h0 0 rfl, Bx.cell h0 1 rfl, Bx.cell h0 2 rfl, Bx.cell h1 0 rfl, Bx.cell h1 1 rfl, Bx.cell h1 2 rfl, Bx.cell h1 3 rfl⟩)
  refine wp_region_held_drew (S := (fun W => W.cell? ⟨bo, 0, none⟩ = some (.int .i64 0) ∧ W.cell? ⟨bo, 1, none⟩ = some (.int .i64 0) ∧ W.cell? ⟨bo, 2, none⟩ = some (.int .i64 0) ∧ W.cell? ⟨bx, 0, none⟩ = some (.string s) ∧ W.cell? ⟨bx, 1, none⟩ = some (.int .i64 (ya : Int)) ∧ W.cell? ⟨bx, 2, none⟩ = some (.int .i64 0) ∧ W.cell? ⟨bx, 3, none⟩ = some (.int .i64 ye))) (by kernel_rfl) (HSS.out _ KO_4.out KX_5.out) (fun hHeld => ?_)
  (try simp only [Act.put, List.getElem_toArray, List.getElem_cons_zero, List.getElem_cons_succ, List.setIfInBounds_toArray, List.set_cons_zero, List.set_cons_succ])
  have DR7 : Below v6.heap.size v6 v6.drew := (Below.refl _ _).drew
  have B_8 := Lib.hid (B_5.out.trans (Below.mono DR7 B_5.out.size))
  have KX_8 := Lib.hid (Bx.below KX_5.out DR7)
  have KR_8 := Lib.hid (Bx.below KR_5.out DR7)
  have KS_8 := Lib.hid (Bx.below KS_5.out DR7)
  have KO_8 := Lib.hid (Bx.below KO_4.out DR7)
  clear DR7 B_5 KX_5 KR_5 KS_5 KO_4
  obtain ⟨v9, hv9⟩ : ∃ zz, zz = v6.drew := ⟨_, rfl⟩
  rw [← hv9] at B_8 KX_8 KR_8 KS_8 KO_8
  have gv9 := hv9
  first | rw [← hv9] | rw [← gv9]
  clear hv9 gv9
  clear hHeld
  have hHeld := HSS.out _ KO_8.out KX_8.out
  dsimp only at hHeld
  refine wpAnyH_take (i := 0) (v := ?_) rfl (by kernel_rfl) (by kernel_rfl) (by kernel_rfl) (fun _ _ _ h => h) (Or.inl ⟨by rfl, ?_⟩) (by assumption) ?_
  rotate_left
  · (intro w hSw; (try dsimp only at hSw); go_simp; try with_reducible rfl)
  (try simp only [Act.put, List.getElem_toArray, List.getElem_cons_zero, List.getElem_cons_succ, List.setIfInBounds_toArray, List.set_cons_zero, List.set_cons_succ])
  refine wpAnyH_take (i := 1) (v := ?_) rfl (by kernel_rfl) (by kernel_rfl) (by kernel_rfl) (fun _ _ _ h => h) (Or.inl ⟨by rfl, ?_⟩) (by assumption) ?_
  rotate_left
  · (intro w hSw; (try dsimp only at hSw); go_simp; try with_reducible rfl)
  (try simp only [Act.put, List.getElem_toArray, List.getElem_cons_zero, List.getElem_cons_succ, List.setIfInBounds_toArray, List.set_cons_zero, List.set_cons_succ])
  have SG10 := Lib.hid (grown_st3 (World.grownBy.refl v9 (some br)) (.int .i64 0) (.int .i64 0) (.int .i64 0))
  have B_10 := Lib.hid (B_8.out.trans (below_grown SG10.out Hnbr.out B_8.out.size))
  have KX_10 := Lib.hid (Bx.other KX_8.out SG10.out (some_ne nbxbr))
  have KR_10 := Lib.hid (Bx.st3 KR_8.out (.int .i64 0) (.int .i64 0) (.int .i64 0))
  have KS_10 := Lib.hid (Bx.other KS_8.out SG10.out (some_ne nbsbr))
  have KO_10 := Lib.hid (Bx.other KO_8.out SG10.out (some_ne nbobr))
  obtain ⟨cKR0, cKR1, cKR2⟩ := Bx.cells3 KR_8.out
  have lKR := Bx.lt KR_8.out; have fKR0 := Bx.froz KR_8.out 0; have fKR1 := Bx.froz KR_8.out 1; have fKR2 := Bx.froz KR_8.out 2
  refine wpAnyH_ready (rs := [2]) (by kernel_rfl) (by simp) ?_
  refine AllReadyH.cons (o := _) rfl (fun K hK => ?_) AllReadyH.nil
  go_simp
  clear cKR0 cKR1 cKR2 lKR fKR0 fKR1 fKR2
  clear hHeld
  refine hK.out _ _ (HSS.out _ KO_10.out KX_10.out) (fun hHeld => ?_)
  clear hK K
  (try simp only [Act.put, List.getElem_toArray, List.getElem_cons_zero, List.getElem_cons_succ, List.setIfInBounds_toArray, List.set_cons_zero, List.set_cons_succ])
  obtain ⟨v11, hv11⟩ : ∃ zz, zz = st3 v9 br (.int .i64 0) (.int .i64 0) (.int .i64 0) := ⟨_, rfl⟩
  rw [← hv11] at B_10 KX_10 KR_10 KS_10 KO_10
  have gv11 := hv11
  simp only [st3] at gv11
  first | rw [← hv11] | rw [← gv11]
  clear hv11 gv11
  clear SG10 B_8 KX_8 KR_8 KS_8 KO_8
  have SG12 := Lib.hid (grown_st4 (World.grownBy.refl v11 (some bs)) (.string s) (.int .i64 (ya : Int)) (.int .i64 0) (.int .i64 ye))
  have B_12 := Lib.hid (B_10.out.trans (below_grown SG12.out Hnbs.out B_10.out.size))
  have KX_12 := Lib.hid (Bx.other KX_10.out SG12.out (some_ne nbxbs))
  have KR_12 := Lib.hid (Bx.other KR_10.out SG12.out (some_ne nbrbs))
  have KS_12 := Lib.hid (Bx.st4 KS_10.out (.string s) (.int .i64 (ya : Int)) (.int .i64 0) (.int .i64 ye))
  have KO_12 := Lib.hid (Bx.other KO_10.out SG12.out (some_ne nbobs))
  obtain ⟨cKS0, cKS1, cKS2, cKS3⟩ := Bx.cells4 KS_10.out
  have lKS := Bx.lt KS_10.out; have fKS0 := Bx.froz KS_10.out 0; have fKS1 := Bx.froz KS_10.out 1; have fKS2 := Bx.froz KS_10.out 2; have fKS3 := Bx.froz KS_10.out 3
  refine wpAnyH_ready (rs := [3]) (by kernel_rfl) (by simp) ?_
  refine AllReadyH.cons (o := _) rfl (fun K hK => ?_) AllReadyH.nil
  go_simp
  clear cKS0 cKS1 cKS2 cKS3 lKS fKS0 fKS1 fKS2 fKS3
  clear hHeld
  refine hK.out _ _ (HSS.out _ KO_12.out KX_12.out) (fun hHeld => ?_)
  clear hK K
  (try simp only [Act.put, List.getElem_toArray, List.getElem_cons_zero, List.getElem_cons_succ, List.setIfInBounds_toArray, List.set_cons_zero, List.set_cons_succ])
  obtain ⟨v13, hv13⟩ : ∃ zz, zz = st4 v11 bs (.string s) (.int .i64 (ya : Int)) (.int .i64 0) (.int .i64 ye) := ⟨_, rfl⟩
  rw [← hv13] at B_12 KX_12 KR_12 KS_12 KO_12
  have gv13 := hv13
  simp only [st4] at gv13
  first | rw [← hv13] | rw [← gv13]
  clear hv13 gv13
  clear SG12 B_10 KX_10 KR_10 KS_10 KO_10
  refine wpAnyH_done (by kernel_rfl) ?_ _
  clear hHeld HSS
  go_wp2_with fail
  refine bodyPost_ret (v := .tuple #[.agg #[.int .i64 0, .int .i64 0, .int .i64 0], .agg #[.string s, .int .i64 (ya : Int), .int .i64 0, .int .i64 ye]]) (by first | rw [res_cc Try.results43 _ (by rfl) (Bx.load KR_12.out Try.underlying44 inf44) (by rfl) (Bx.load KS_12.out Try.underlying58 inf58)] | skip) rfl ?_
  exact ⟨rfl, B_12.out⟩
set_option maxRecDepth 100000 in
set_option maxHeartbeats 8000000 in
theorem one_s (s : ByteArray) (x : XS) (w : World) (h : XOk (tx s) x) (hs : s.size ≤ 100000) (h7 : (nextX (tx s) x).n = 7) : Calls Try.prog 43 #[xV s x] w (Gives w (.tuple #[insV (oneX (tx s) x).1, xV s (oneX (tx s) x).2])) := by
  have hT := tx_byt s
  have g1 := h.next hT
  have N1 := Lib.hid (fun W => xnext_any s x W h hs)
  unfold Gives at N1
  unfold oneX
  rw [if_neg (by rw [h7]; decide), if_pos h7]
  have g2 := g1.next hT
  have N2 := Lib.hid (fun W => xnext_any s (nextX (tx s) x) W g1 hs)
  unfold Gives at N2
  have g3 := g2.next hT
  have N3 := Lib.hid (fun W => xnext_any s (nextX (tx s) (nextX (tx s) x)) W g2 hs)
  unfold Gives at N3
  obtain ⟨y3, e3⟩ : ∃ zz, zz = nextX (tx s) (nextX (tx s) (nextX (tx s) x)) := ⟨_, rfl⟩
  rw [← e3] at N3 ⊢
  clear e3
  obtain ⟨y2, e2⟩ : ∃ zz, zz = nextX (tx s) (nextX (tx s) x) := ⟨_, rfl⟩
  rw [← e2] at N2 N3 ⊢
  clear e2
  obtain ⟨y1, e1⟩ : ∃ zz, zz = nextX (tx s) x := ⟨_, rfl⟩
  rw [← e1] at N1 h7 N2
  clear e1 g1 g2 g3 h hT
  obtain ⟨ya, yn, ye⟩ := y1
  dsimp only at h7 N1 N2
  subst h7
  have KX := Lib.hid (((Bx.new w #[.string s, .int .i64 (x.at_ : Int), .int .i64 x.n, .int .i64 x.e] 58).below (below_alloc _ (.cells #[.int .i64 0, .int .i64 0, .int .i64 0] 44))).below (below_alloc _ (.cells #[.string ⟨#[]⟩, .int .i64 0, .int .i64 0, .int .i64 0] 58)))
  have KR := Lib.hid ((Bx.new2 w (.cells #[.string s, .int .i64 (x.at_ : Int), .int .i64 x.n, .int .i64 x.e] 58) #[.int .i64 0, .int .i64 0, .int .i64 0] 44).below (below_alloc _ (.cells #[.string ⟨#[]⟩, .int .i64 0, .int .i64 0, .int .i64 0] 58)))
  have KS := Lib.hid (Bx.new3 w (.cells #[.string s, .int .i64 (x.at_ : Int), .int .i64 x.n, .int .i64 x.e] 58) (.cells #[.int .i64 0, .int .i64 0, .int .i64 0] 44) #[.string ⟨#[]⟩, .int .i64 0, .int .i64 0, .int .i64 0] 58)
  have B0 := Lib.hid (((below_alloc w (.cells #[.string s, .int .i64 (x.at_ : Int), .int .i64 x.n, .int .i64 x.e] 58)).trans (Below.mono (below_alloc (w.alloc (.cells #[.string s, .int .i64 (x.at_ : Int), .int .i64 x.n, .int .i64 x.e] 58)) (.cells #[.int .i64 0, .int .i64 0, .int .i64 0] 44)) (by simp; try omega))).trans (Below.mono (below_alloc ((w.alloc (.cells #[.string s, .int .i64 (x.at_ : Int), .int .i64 x.n, .int .i64 x.e] 58)).alloc (.cells #[.int .i64 0, .int .i64 0, .int .i64 0] 44)) (.cells #[.string ⟨#[]⟩, .int .i64 0, .int .i64 0, .int .i64 0] 58)) (by simp; try omega)))
  obtain ⟨bx, hbx⟩ : ∃ zz, zz = w.heap.size := ⟨_, rfl⟩
  obtain ⟨br, hbr⟩ : ∃ zz, zz = w.heap.size + 1 := ⟨_, rfl⟩
  obtain ⟨bs, hbs⟩ : ∃ zz, zz = w.heap.size + 2 := ⟨_, rfl⟩
  obtain ⟨v0, hv0⟩ : ∃ zz, zz = (((w.alloc (.cells #[.string s, .int .i64 (x.at_ : Int), .int .i64 x.n, .int .i64 x.e] 58)).alloc (.cells #[.int .i64 0, .int .i64 0, .int .i64 0] 44)).alloc (.cells #[.string ⟨#[]⟩, .int .i64 0, .int .i64 0, .int .i64 0] 58)) := ⟨_, rfl⟩
  have Hbx := Lib.hid hbx; have Hnbx := Lib.hid (show w.heap.size ≤ bx by omega)
  have Hbr := Lib.hid hbr; have Hnbr := Lib.hid (show w.heap.size ≤ br by omega)
  have Hbs := Lib.hid hbs; have Hnbs := Lib.hid (show w.heap.size ≤ bs by omega)
  have HV0 := Lib.hid hv0
  have nbxbr : bx ≠ br := by omega
  have nbxbs : bx ≠ bs := by omega
  have nbrbx : br ≠ bx := by omega
  have nbrbs : br ≠ bs := by omega
  have nbsbx : bs ≠ bx := by omega
  have nbsbr : bs ≠ br := by omega
  rw [← hv0] at B0 KX KR KS
  rw [← hbx] at KX
  rw [← hbr] at KR
  rw [← hbs] at KS
  clear hv0 hbx hbr hbs
  go_enter Try.func43, Try.ntmps43
  go_upto_region 1 with (fail)
  rw [← HV0.out, ← Hbs.out, ← Hbr.out, ← Hbx.out]
  obtain ⟨cKX0, cKX1, cKX2, cKX3⟩ := Bx.cells4 KX.out
  go_wp2_with fail
  clear cKX0 cKX1 cKX2 cKX3
  refine (N1.out _).mono ?_
  rintro e u1 ⟨rfl, hb⟩
  have B_1 := Lib.hid (B0.out.trans (Below.mono hb B0.out.size))
  have KX_1 := Lib.hid (Bx.below KX.out hb)
  have KR_1 := Lib.hid (Bx.below KR.out hb)
  have KS_1 := Lib.hid (Bx.below KS.out hb)
  clear hb B0 KX KR KS
  obtain ⟨cKX0, cKX1, cKX2, cKX3⟩ := Bx.cells4 KX_1.out
  have lKX := Bx.lt KX_1.out; have fKX0 := Bx.froz KX_1.out 0; have fKX1 := Bx.froz KX_1.out 1; have fKX2 := Bx.froz KX_1.out 2; have fKX3 := Bx.froz KX_1.out 3
  go_upto_region 2 with (fail)
  clear cKX0 cKX1 cKX2 cKX3 lKX fKX0 fKX1 fKX2 fKX3
  have SG2 := Lib.hid (grown_st4 (World.grownBy.refl u1 (some bx)) (.string s) (.int .i64 (ya : Int)) (.int .i64 7) (.int .i64 ye))
  have B_2 := Lib.hid (B_1.out.trans (below_grown SG2.out Hnbx.out B_1.out.size))
  have KX_2 := Lib.hid (Bx.st4 KX_1.out (.string s) (.int .i64 (ya : Int)) (.int .i64 7) (.int .i64 ye))
  have KR_2 := Lib.hid (Bx.other KR_1.out SG2.out (some_ne nbrbx))
  have KS_2 := Lib.hid (Bx.other KS_1.out SG2.out (some_ne nbsbx))
  obtain ⟨v3, hv3⟩ : ∃ zz, zz = st4 u1 bx (.string s) (.int .i64 (ya : Int)) (.int .i64 7) (.int .i64 ye) := ⟨_, rfl⟩
  rw [← hv3] at B_2 KX_2 KR_2 KS_2
  have gv3 := hv3
  simp only [st4] at gv3
  first | rw [← hv3] | rw [← gv3]
  clear hv3 gv3
  clear SG2 B_1 KX_1 KR_1 KS_1
  obtain ⟨cKX0, cKX1, cKX2, cKX3⟩ := Bx.cells4 KX_2.out
  have BA4 := below_alloc v3 (.cells #[.int .i64 7, .int .i64 0, .int .i64 0] 44)
  have KO_4 := Lib.hid (Bx.new v3 #[.int .i64 7, .int .i64 0, .int .i64 0] 44)
  have ltbx4 : bx < v3.heap.size := Bx.lt KX_2.out
  have ltbr4 : br < v3.heap.size := Bx.lt KR_2.out
  have ltbs4 : bs < v3.heap.size := Bx.lt KS_2.out
  have hs4 : w.heap.size ≤ v3.heap.size := B_2.out.size
  go_upto_region 3 with (fail)
  clear cKX0 cKX1 cKX2 cKX3
  obtain ⟨bo, hbo⟩ : ∃ zz, zz = v3.heap.size := ⟨_, rfl⟩
  have Hnbo := Lib.hid (show w.heap.size ≤ bo by omega)
  have nbxbo : bx ≠ bo := by omega
  have nbobx : bo ≠ bx := by omega
  have nbrbo : br ≠ bo := by omega
  have nbobr : bo ≠ br := by omega
  have nbsbo : bs ≠ bo := by omega
  have nbobs : bo ≠ bs := by omega
  rw [← hbo] at KO_4 ⊢
  clear ltbx4 ltbr4 ltbs4 hs4 hbo
  have B_5 := Lib.hid (B_2.out.trans (Below.mono BA4 B_2.out.size))
  have KX_5 := Lib.hid (Bx.below KX_2.out BA4)
  have KR_5 := Lib.hid (Bx.below KR_2.out BA4)
  have KS_5 := Lib.hid (Bx.below KS_2.out BA4)
  clear BA4 B_2 KX_2 KR_2 KS_2
  obtain ⟨v6, hv6⟩ : ∃ zz, zz = v3.alloc (.cells #[.int .i64 7, .int .i64 0, .int .i64 0] 44) := ⟨_, rfl⟩
  rw [← hv6] at B_5 KX_5 KR_5 KS_5 KO_4
  have gv6 := hv6
  first | rw [← hv6] | rw [← gv6]
  clear hv6 gv6
  obtain ⟨cKX0, cKX1, cKX2, cKX3⟩ := Bx.cells4 KX_5.out
  obtain ⟨cKO0, cKO1, cKO2⟩ := Bx.cells3 KO_4.out
  go_upto_region 4 with (fail)
  clear cKX0 cKX1 cKX2 cKX3 cKO0 cKO1 cKO2
  obtain ⟨cKX0, cKX1, cKX2, cKX3⟩ := Bx.cells4 KX_5.out
  go_wp2_with fail
  clear cKX0 cKX1 cKX2 cKX3
  refine (N2.out _).mono ?_
  rintro e u2 ⟨rfl, hb⟩
  have B_7 := Lib.hid (B_5.out.trans (Below.mono hb B_5.out.size))
  have KX_7 := Lib.hid (Bx.below KX_5.out hb)
  have KR_7 := Lib.hid (Bx.below KR_5.out hb)
  have KS_7 := Lib.hid (Bx.below KS_5.out hb)
  have KO_7 := Lib.hid (Bx.below KO_4.out hb)
  clear hb B_5 KX_5 KR_5 KS_5 KO_4
  obtain ⟨cKX0, cKX1, cKX2, cKX3⟩ := Bx.cells4 KX_7.out
  have lKX := Bx.lt KX_7.out; have fKX0 := Bx.froz KX_7.out 0; have fKX1 := Bx.froz KX_7.out 1; have fKX2 := Bx.froz KX_7.out 2; have fKX3 := Bx.froz KX_7.out 3
  go_upto_region 5 with (fail)
  clear cKX0 cKX1 cKX2 cKX3 lKX fKX0 fKX1 fKX2 fKX3
  have SG8 := Lib.hid (grown_st4 (World.grownBy.refl u2 (some bx)) (.string s) (.int .i64 (y2.at_ : Int)) (.int .i64 y2.n) (.int .i64 y2.e))
  have B_8 := Lib.hid (B_7.out.trans (below_grown SG8.out Hnbx.out B_7.out.size))
  have KX_8 := Lib.hid (Bx.st4 KX_7.out (.string s) (.int .i64 (y2.at_ : Int)) (.int .i64 y2.n) (.int .i64 y2.e))
  have KR_8 := Lib.hid (Bx.other KR_7.out SG8.out (some_ne nbrbx))
  have KS_8 := Lib.hid (Bx.other KS_7.out SG8.out (some_ne nbsbx))
  have KO_8 := Lib.hid (Bx.other KO_7.out SG8.out (some_ne nbobx))
  obtain ⟨v9, hv9⟩ : ∃ zz, zz = st4 u2 bx (.string s) (.int .i64 (y2.at_ : Int)) (.int .i64 y2.n) (.int .i64 y2.e) := ⟨_, rfl⟩
  rw [← hv9] at B_8 KX_8 KR_8 KS_8 KO_8
  have gv9 := hv9
  simp only [st4] at gv9
  first | rw [← hv9] | rw [← gv9]
  clear hv9 gv9
  clear SG8 B_7 KX_7 KR_7 KS_7 KO_7
  obtain ⟨cKX0, cKX1, cKX2, cKX3⟩ := Bx.cells4 KX_8.out
  obtain ⟨cKO0, cKO1, cKO2⟩ := Bx.cells3 KO_8.out
  have lKO := Bx.lt KO_8.out; have fKO0 := Bx.froz KO_8.out 0; have fKO1 := Bx.froz KO_8.out 1; have fKO2 := Bx.froz KO_8.out 2
  go_upto_region 6 with (fail)
  clear cKX0 cKX1 cKX2 cKX3 cKO0 cKO1 cKO2 lKO fKO0 fKO1 fKO2
  have SG10 := Lib.hid (grow_setCell v9 bo 1 (.int .i64 y2.n))
  have B_10 := Lib.hid (B_8.out.trans (below_grown SG10.out Hnbo.out B_8.out.size))
  have KX_10 := Lib.hid (Bx.other KX_8.out SG10.out (some_ne nbxbo))
  have KR_10 := Lib.hid (Bx.other KR_8.out SG10.out (some_ne nbrbo))
  have KS_10 := Lib.hid (Bx.other KS_8.out SG10.out (some_ne nbsbo))
  have KO_10 := Lib.hid ((show Bx (v9.setCell ⟨bo, 1, none⟩ (.int .i64 y2.n)) bo #[.int .i64 7, .int .i64 y2.n, .int .i64 0] _ from Bx.set KO_8.out 1 (.int .i64 y2.n)))
  obtain ⟨v11, hv11⟩ : ∃ zz, zz = v9.setCell ⟨bo, 1, none⟩ (.int .i64 y2.n) := ⟨_, rfl⟩
  rw [← hv11] at B_10 KX_10 KR_10 KS_10 KO_10
  have gv11 := hv11
  first | rw [← hv11] | rw [← gv11]
  clear hv11 gv11
  clear SG10 B_8 KX_8 KR_8 KS_8 KO_8
  obtain ⟨cKX0, cKX1, cKX2, cKX3⟩ := Bx.cells4 KX_10.out
  obtain ⟨cKO0, cKO1, cKO2⟩ := Bx.cells3 KO_10.out
  go_upto_region 7 with (fail)
  clear cKX0 cKX1 cKX2 cKX3 cKO0 cKO1 cKO2
  obtain ⟨cKX0, cKX1, cKX2, cKX3⟩ := Bx.cells4 KX_10.out
  go_wp2_with fail
  clear cKX0 cKX1 cKX2 cKX3
  refine (N3.out _).mono ?_
  rintro e u3 ⟨rfl, hb⟩
  have B_12 := Lib.hid (B_10.out.trans (Below.mono hb B_10.out.size))
  have KX_12 := Lib.hid (Bx.below KX_10.out hb)
  have KR_12 := Lib.hid (Bx.below KR_10.out hb)
  have KS_12 := Lib.hid (Bx.below KS_10.out hb)
  have KO_12 := Lib.hid (Bx.below KO_10.out hb)
  clear hb B_10 KX_10 KR_10 KS_10 KO_10
  obtain ⟨cKX0, cKX1, cKX2, cKX3⟩ := Bx.cells4 KX_12.out
  have lKX := Bx.lt KX_12.out; have fKX0 := Bx.froz KX_12.out 0; have fKX1 := Bx.froz KX_12.out 1; have fKX2 := Bx.froz KX_12.out 2; have fKX3 := Bx.froz KX_12.out 3
  go_upto_region 8 with (fail)
  clear cKX0 cKX1 cKX2 cKX3 lKX fKX0 fKX1 fKX2 fKX3
  have SG13 := Lib.hid (grown_st4 (World.grownBy.refl u3 (some bx)) (.string s) (.int .i64 (y3.at_ : Int)) (.int .i64 y3.n) (.int .i64 y3.e))
  have B_13 := Lib.hid (B_12.out.trans (below_grown SG13.out Hnbx.out B_12.out.size))
  have KX_13 := Lib.hid (Bx.st4 KX_12.out (.string s) (.int .i64 (y3.at_ : Int)) (.int .i64 y3.n) (.int .i64 y3.e))
  have KR_13 := Lib.hid (Bx.other KR_12.out SG13.out (some_ne nbrbx))
  have KS_13 := Lib.hid (Bx.other KS_12.out SG13.out (some_ne nbsbx))
  have KO_13 := Lib.hid (Bx.other KO_12.out SG13.out (some_ne nbobx))
  obtain ⟨v14, hv14⟩ : ∃ zz, zz = st4 u3 bx (.string s) (.int .i64 (y3.at_ : Int)) (.int .i64 y3.n) (.int .i64 y3.e) := ⟨_, rfl⟩
  rw [← hv14] at B_13 KX_13 KR_13 KS_13 KO_13
  have gv14 := hv14
  simp only [st4] at gv14
  first | rw [← hv14] | rw [← gv14]
  clear hv14 gv14
  clear SG13 B_12 KX_12 KR_12 KS_12 KO_12
  obtain ⟨cKX0, cKX1, cKX2, cKX3⟩ := Bx.cells4 KX_13.out
  obtain ⟨cKO0, cKO1, cKO2⟩ := Bx.cells3 KO_13.out
  have lKO := Bx.lt KO_13.out; have fKO0 := Bx.froz KO_13.out 0; have fKO1 := Bx.froz KO_13.out 1; have fKO2 := Bx.froz KO_13.out 2
  go_upto_region 9 with (fail)
  clear cKX0 cKX1 cKX2 cKX3 cKO0 cKO1 cKO2 lKO fKO0 fKO1 fKO2
  have SG15 := Lib.hid (grow_setCell v14 bo 2 (.int .i64 y3.n))
  have B_15 := Lib.hid (B_13.out.trans (below_grown SG15.out Hnbo.out B_13.out.size))
  have KX_15 := Lib.hid (Bx.other KX_13.out SG15.out (some_ne nbxbo))
  have KR_15 := Lib.hid (Bx.other KR_13.out SG15.out (some_ne nbrbo))
  have KS_15 := Lib.hid (Bx.other KS_13.out SG15.out (some_ne nbsbo))
  have KO_15 := Lib.hid ((show Bx (v14.setCell ⟨bo, 2, none⟩ (.int .i64 y3.n)) bo #[.int .i64 7, .int .i64 y2.n, .int .i64 y3.n] _ from Bx.set KO_13.out 2 (.int .i64 y3.n)))
  obtain ⟨v16, hv16⟩ : ∃ zz, zz = v14.setCell ⟨bo, 2, none⟩ (.int .i64 y3.n) := ⟨_, rfl⟩
  rw [← hv16] at B_15 KX_15 KR_15 KS_15 KO_15
  have gv16 := hv16
  first | rw [← hv16] | rw [← gv16]
  clear hv16 gv16
  clear SG15 B_13 KX_13 KR_13 KS_13 KO_13
  have HSS := Lib.hid (show ∀ W, Bx W bo #[.int .i64 7, .int .i64 y2.n, .int .i64 y3.n] 44 → Bx W bx #[.string s, .int .i64 (y3.at_ : Int), .int .i64 y3.n, .int .i64 y3.e] 58 → (fun W => W.cell? ⟨bo, 0, none⟩ = some (.int .i64 7) ∧ W.cell? ⟨bo, 1, none⟩ = some (.int .i64 y2.n) ∧ W.cell? ⟨bo, 2, none⟩ = some (.int .i64 y3.n) ∧ W.cell? ⟨bx, 0, none⟩ = some (.string s) ∧ W.cell? ⟨bx, 1, none⟩ = some (.int .i64 (y3.at_ : Int)) ∧ W.cell? ⟨bx, 2, none⟩ = some (.int .i64 y3.n) ∧ W.cell? ⟨bx, 3, none⟩ = some (.int .i64 y3.e)) W from fun W h0 h1 => ⟨Bx.cell h0 0 rfl, Bx.cell h0 1 rfl, Bx.cell h0 2 rfl, Bx.cell h1 0 rfl, Bx.cell h1 1 rfl, Bx.cell h1 2 rfl, Bx.cell h1 3 rfl⟩)
  refine wp_region_held_drew (S := (fun W => W.cell? ⟨bo, 0, none⟩ = some (.int .i64 7) ∧ W.cell? ⟨bo, 1, none⟩ = some (.int .i64 y2.n) ∧ W.cell? ⟨bo, 2, none⟩ = some (.int .i64 y3.n) ∧ W.cell? ⟨bx, 0, none⟩ = some (.string s) ∧ W.cell? ⟨bx, 1, none⟩ = some (.int .i64 (y3.at_ : Int)) ∧ W.cell? ⟨bx, 2, none⟩ = some (.int .i64 y3.n) ∧ W.cell? ⟨bx, 3, none⟩ = some (.int .i64 y3.e))) (by kernel_rfl) (HSS.out _ KO_15.out KX_15.out) (fun hHeld => ?_)
  (try simp only [Act.put, List.getElem_toArray, List.getElem_cons_zero, List.getElem_cons_succ, List.setIfInBounds_toArray, List.set_cons_zero, List.set_cons_succ])
  have DR17 : Below v16.heap.size v16 v16.drew := (Below.refl _ _).drew
  have B_18 := Lib.hid (B_15.out.trans (Below.mono DR17 B_15.out.size))
  have KX_18 := Lib.hid (Bx.below KX_15.out DR17)
  have KR_18 := Lib.hid (Bx.below KR_15.out DR17)
  have KS_18 := Lib.hid (Bx.below KS_15.out DR17)
  have KO_18 := Lib.hid (Bx.below KO_15.out DR17)
  clear DR17 B_15 KX_15 KR_15 KS_15 KO_15
  obtain ⟨v19, hv19⟩ : ∃ zz, zz = v16.drew := ⟨_, rfl⟩
  rw [← hv19] at B_18 KX_18 KR_18 KS_18 KO_18
  have gv19 := hv19
  first | rw [← hv19] | rw [← gv19]
  clear hv19 gv19
  clear hHeld
  have hHeld := HSS.out _ KO_18.out KX_18.out
  dsimp only at hHeld
  refine wpAnyH_take (i := 0) (v := ?_) rfl (by kernel_rfl) (by kernel_rfl) (by kernel_rfl) (fun _ _ _ h => h) (Or.inl ⟨by rfl, ?_⟩) (by assumption) ?_
  rotate_left
  · (intro w hSw; (try dsimp only at hSw); go_simp; try with_reducible rfl)
  (try simp only [Act.put, List.getElem_toArray, List.getElem_cons_zero, List.getElem_cons_succ, List.setIfInBounds_toArray, List.set_cons_zero, List.set_cons_succ])
  refine wpAnyH_take (i := 1) (v := ?_) rfl (by kernel_rfl) (by kernel_rfl) (by kernel_rfl) (fun _ _ _ h => h) (Or.inl ⟨by rfl, ?_⟩) (by assumption) ?_
  rotate_left
  · (intro w hSw; (try dsimp only at hSw); go_simp; try with_reducible rfl)
  (try simp only [Act.put, List.getElem_toArray, List.getElem_cons_zero, List.getElem_cons_succ, List.setIfInBounds_toArray, List.set_cons_zero, List.set_cons_succ])
  have SG20 := Lib.hid (grown_st3 (World.grownBy.refl v19 (some br)) (.int .i64 7) (.int .i64 y2.n) (.int .i64 y3.n))
  have B_20 := Lib.hid (B_18.out.trans (below_grown SG20.out Hnbr.out B_18.out.size))
  have KX_20 := Lib.hid (Bx.other KX_18.out SG20.out (some_ne nbxbr))
  have KR_20 := Lib.hid (Bx.st3 KR_18.out (.int .i64 7) (.int .i64 y2.n) (.int .i64 y3.n))
  have KS_20 := Lib.hid (Bx.other KS_18.out SG20.out (some_ne nbsbr))
  have KO_20 := Lib.hid (Bx.other KO_18.out SG20.out (some_ne nbobr))
  obtain ⟨cKR0, cKR1, cKR2⟩ := Bx.cells3 KR_18.out
  have lKR := Bx.lt KR_18.out; have fKR0 := Bx.froz KR_18.out 0; have fKR1 := Bx.froz KR_18.out 1; have fKR2 := Bx.froz KR_18.out 2
  refine wpAnyH_ready (rs := [2]) (by kernel_rfl) (by simp) ?_
  refine AllReadyH.cons (o := _) rfl (fun K hK => ?_) AllReadyH.nil
  go_simp
  clear cKR0 cKR1 cKR2 lKR fKR0 fKR1 fKR2
  clear hHeld
  refine hK.out _ _ (HSS.out _ KO_20.out KX_20.out) (fun hHeld => ?_)
  clear hK K
  (try simp only [Act.put, List.getElem_toArray, List.getElem_cons_zero, List.getElem_cons_succ, List.setIfInBounds_toArray, List.set_cons_zero, List.set_cons_succ])
  obtain ⟨v21, hv21⟩ : ∃ zz, zz = st3 v19 br (.int .i64 7) (.int .i64 y2.n) (.int .i64 y3.n) := ⟨_, rfl⟩
  rw [← hv21] at B_20 KX_20 KR_20 KS_20 KO_20
  have gv21 := hv21
  simp only [st3] at gv21
  first | rw [← hv21] | rw [← gv21]
  clear hv21 gv21
  clear SG20 B_18 KX_18 KR_18 KS_18 KO_18
  have SG22 := Lib.hid (grown_st4 (World.grownBy.refl v21 (some bs)) (.string s) (.int .i64 (y3.at_ : Int)) (.int .i64 y3.n) (.int .i64 y3.e))
  have B_22 := Lib.hid (B_20.out.trans (below_grown SG22.out Hnbs.out B_20.out.size))
  have KX_22 := Lib.hid (Bx.other KX_20.out SG22.out (some_ne nbxbs))
  have KR_22 := Lib.hid (Bx.other KR_20.out SG22.out (some_ne nbrbs))
  have KS_22 := Lib.hid (Bx.st4 KS_20.out (.string s) (.int .i64 (y3.at_ : Int)) (.int .i64 y3.n) (.int .i64 y3.e))
  have KO_22 := Lib.hid (Bx.other KO_20.out SG22.out (some_ne nbobs))
  obtain ⟨cKS0, cKS1, cKS2, cKS3⟩ := Bx.cells4 KS_20.out
  have lKS := Bx.lt KS_20.out; have fKS0 := Bx.froz KS_20.out 0; have fKS1 := Bx.froz KS_20.out 1; have fKS2 := Bx.froz KS_20.out 2; have fKS3 := Bx.froz KS_20.out 3
  refine wpAnyH_ready (rs := [3]) (by kernel_rfl) (by simp) ?_
  refine AllReadyH.cons (o := _) rfl (fun K hK => ?_) AllReadyH.nil
  go_simp
  clear cKS0 cKS1 cKS2 cKS3 lKS fKS0 fKS1 fKS2 fKS3
  clear hHeld
  refine hK.out _ _ (HSS.out _ KO_22.out KX_22.out) (fun hHeld => ?_)
  clear hK K
  (try simp only [Act.put, List.getElem_toArray, List.getElem_cons_zero, List.getElem_cons_succ, List.setIfInBounds_toArray, List.set_cons_zero, List.set_cons_succ])
  obtain ⟨v23, hv23⟩ : ∃ zz, zz = st4 v21 bs (.string s) (.int .i64 (y3.at_ : Int)) (.int .i64 y3.n) (.int .i64 y3.e) := ⟨_, rfl⟩
  rw [← hv23] at B_22 KX_22 KR_22 KS_22 KO_22
  have gv23 := hv23
  simp only [st4] at gv23
  first | rw [← hv23] | rw [← gv23]
  clear hv23 gv23
  clear SG22 B_20 KX_20 KR_20 KS_20 KO_20
  refine wpAnyH_done (by kernel_rfl) ?_ _
  clear hHeld HSS
  go_wp2_with fail
  refine bodyPost_ret (v := .tuple #[.agg #[.int .i64 7, .int .i64 y2.n, .int .i64 y3.n], .agg #[.string s, .int .i64 (y3.at_ : Int), .int .i64 y3.n, .int .i64 y3.e]]) (by first | rw [res_cc Try.results43 _ (by rfl) (Bx.load KR_22.out Try.underlying44 inf44) (by rfl) (Bx.load KS_22.out Try.underlying58 inf58)] | skip) rfl ?_
  exact ⟨rfl, B_22.out⟩
set_option maxRecDepth 100000 in
set_option maxHeartbeats 8000000 in
theorem one_d (s : ByteArray) (x : XS) (w : World) (h : XOk (tx s) x) (hs : s.size ≤ 100000) (h0 : ¬ (nextX (tx s) x).n = 0) (h7 : ¬ (nextX (tx s) x).n = 7) : Calls Try.prog 43 #[xV s x] w (Gives w (.tuple #[insV (oneX (tx s) x).1, xV s (oneX (tx s) x).2])) := by
  have hT := tx_byt s
  have g1 := h.next hT
  have N1 := Lib.hid (fun W => xnext_any s x W h hs)
  unfold Gives at N1
  unfold oneX
  rw [if_neg h0, if_neg h7]
  have g2 := g1.next hT
  have N2 := Lib.hid (fun W => xnext_any s (nextX (tx s) x) W g1 hs)
  unfold Gives at N2
  obtain ⟨y2, e2⟩ : ∃ zz, zz = nextX (tx s) (nextX (tx s) x) := ⟨_, rfl⟩
  rw [← e2] at N2 ⊢
  clear e2
  obtain ⟨y1, e1⟩ : ∃ zz, zz = nextX (tx s) x := ⟨_, rfl⟩
  rw [← e1] at N1 h0 h7 N2 ⊢
  clear e1 g1 g2 h hT
  have h0b : (y1.n == 0) = false := by rw [beq_eq_false_iff_ne]; exact h0
  have h7b : (y1.n == 7) = false := by rw [beq_eq_false_iff_ne]; exact h7
  have h0c : (y1.n != 0) = true := by simp [h0]
  have KX := Lib.hid (((Bx.new w #[.string s, .int .i64 (x.at_ : Int), .int .i64 x.n, .int .i64 x.e] 58).below (below_alloc _ (.cells #[.int .i64 0, .int .i64 0, .int .i64 0] 44))).below (below_alloc _ (.cells #[.string ⟨#[]⟩, .int .i64 0, .int .i64 0, .int .i64 0] 58)))
  have KR := Lib.hid ((Bx.new2 w (.cells #[.string s, .int .i64 (x.at_ : Int), .int .i64 x.n, .int .i64 x.e] 58) #[.int .i64 0, .int .i64 0, .int .i64 0] 44).below (below_alloc _ (.cells #[.string ⟨#[]⟩, .int .i64 0, .int .i64 0, .int .i64 0] 58)))
  have KS := Lib.hid (Bx.new3 w (.cells #[.string s, .int .i64 (x.at_ : Int), .int .i64 x.n, .int .i64 x.e] 58) (.cells #[.int .i64 0, .int .i64 0, .int .i64 0] 44) #[.string ⟨#[]⟩, .int .i64 0, .int .i64 0, .int .i64 0] 58)
  have B0 := Lib.hid (((below_alloc w (.cells #[.string s, .int .i64 (x.at_ : Int), .int .i64 x.n, .int .i64 x.e] 58)).trans (Below.mono (below_alloc (w.alloc (.cells #[.string s, .int .i64 (x.at_ : Int), .int .i64 x.n, .int .i64 x.e] 58)) (.cells #[.int .i64 0, .int .i64 0, .int .i64 0] 44)) (by simp; try omega))).trans (Below.mono (below_alloc ((w.alloc (.cells #[.string s, .int .i64 (x.at_ : Int), .int .i64 x.n, .int .i64 x.e] 58)).alloc (.cells #[.int .i64 0, .int .i64 0, .int .i64 0] 44)) (.cells #[.string ⟨#[]⟩, .int .i64 0, .int .i64 0, .int .i64 0] 58)) (by simp; try omega)))
  obtain ⟨bx, hbx⟩ : ∃ zz, zz = w.heap.size := ⟨_, rfl⟩
  obtain ⟨br, hbr⟩ : ∃ zz, zz = w.heap.size + 1 := ⟨_, rfl⟩
  obtain ⟨bs, hbs⟩ : ∃ zz, zz = w.heap.size + 2 := ⟨_, rfl⟩
  obtain ⟨v0, hv0⟩ : ∃ zz, zz = (((w.alloc (.cells #[.string s, .int .i64 (x.at_ : Int), .int .i64 x.n, .int .i64 x.e] 58)).alloc (.cells #[.int .i64 0, .int .i64 0, .int .i64 0] 44)).alloc (.cells #[.string ⟨#[]⟩, .int .i64 0, .int .i64 0, .int .i64 0] 58)) := ⟨_, rfl⟩
  have Hbx := Lib.hid hbx; have Hnbx := Lib.hid (show w.heap.size ≤ bx by omega)
  have Hbr := Lib.hid hbr; have Hnbr := Lib.hid (show w.heap.size ≤ br by omega)
  have Hbs := Lib.hid hbs; have Hnbs := Lib.hid (show w.heap.size ≤ bs by omega)
  have HV0 := Lib.hid hv0
  have nbxbr : bx ≠ br := by omega
  have nbxbs : bx ≠ bs := by omega
  have nbrbx : br ≠ bx := by omega
  have nbrbs : br ≠ bs := by omega
  have nbsbx : bs ≠ bx := by omega
  have nbsbr : bs ≠ br := by omega
  rw [← hv0] at B0 KX KR KS
  rw [← hbx] at KX
  rw [← hbr] at KR
  rw [← hbs] at KS
  clear hv0 hbx hbr hbs
  go_enter Try.func43, Try.ntmps43
  go_upto_region 1 with (fail)
  rw [← HV0.out, ← Hbs.out, ← Hbr.out, ← Hbx.out]
  obtain ⟨cKX0, cKX1, cKX2, cKX3⟩ := Bx.cells4 KX.out
  go_wp2_with fail
  clear cKX0 cKX1 cKX2 cKX3
  refine (N1.out _).mono ?_
  rintro e u1 ⟨rfl, hb⟩
  have B_1 := Lib.hid (B0.out.trans (Below.mono hb B0.out.size))
  have KX_1 := Lib.hid (Bx.below KX.out hb)
  have KR_1 := Lib.hid (Bx.below KR.out hb)
  have KS_1 := Lib.hid (Bx.below KS.out hb)
  clear hb B0 KX KR KS
  obtain ⟨cKX0, cKX1, cKX2, cKX3⟩ := Bx.cells4 KX_1.out
  have lKX := Bx.lt KX_1.out; have fKX0 := Bx.froz KX_1.out 0; have fKX1 := Bx.froz KX_1.out 1; have fKX2 := Bx.froz KX_1.out 2; have fKX3 := Bx.froz KX_1.out 3
  go_upto_region 2 with (fail)
  clear cKX0 cKX1 cKX2 cKX3 lKX fKX0 fKX1 fKX2 fKX3
  have SG2 := Lib.hid (grown_st4 (World.grownBy.refl u1 (some bx)) (.string s) (.int .i64 (y1.at_ : Int)) (.int .i64 y1.n) (.int .i64 y1.e))
  have B_2 := Lib.hid (B_1.out.trans (below_grown SG2.out Hnbx.out B_1.out.size))
  have KX_2 := Lib.hid (Bx.st4 KX_1.out (.string s) (.int .i64 (y1.at_ : Int)) (.int .i64 y1.n) (.int .i64 y1.e))
  have KR_2 := Lib.hid (Bx.other KR_1.out SG2.out (some_ne nbrbx))
  have KS_2 := Lib.hid (Bx.other KS_1.out SG2.out (some_ne nbsbx))
  obtain ⟨v3, hv3⟩ : ∃ zz, zz = st4 u1 bx (.string s) (.int .i64 (y1.at_ : Int)) (.int .i64 y1.n) (.int .i64 y1.e) := ⟨_, rfl⟩
  rw [← hv3] at B_2 KX_2 KR_2 KS_2
  have gv3 := hv3
  simp only [st4] at gv3
  first | rw [← hv3] | rw [← gv3]
  clear hv3 gv3
  clear SG2 B_1 KX_1 KR_1 KS_1
  obtain ⟨cKX0, cKX1, cKX2, cKX3⟩ := Bx.cells4 KX_2.out
  have BA4 := below_alloc v3 (.cells #[.int .i64 y1.n, .int .i64 0, .int .i64 0] 44)
  have KO_4 := Lib.hid (Bx.new v3 #[.int .i64 y1.n, .int .i64 0, .int .i64 0] 44)
  have ltbx4 : bx < v3.heap.size := Bx.lt KX_2.out
  have ltbr4 : br < v3.heap.size := Bx.lt KR_2.out
  have ltbs4 : bs < v3.heap.size := Bx.lt KS_2.out
  have hs4 : w.heap.size ≤ v3.heap.size := B_2.out.size
  go_upto_region 3 with (fail)
  clear cKX0 cKX1 cKX2 cKX3
  obtain ⟨bo, hbo⟩ : ∃ zz, zz = v3.heap.size := ⟨_, rfl⟩
  have Hnbo := Lib.hid (show w.heap.size ≤ bo by omega)
  have nbxbo : bx ≠ bo := by omega
  have nbobx : bo ≠ bx := by omega
  have nbrbo : br ≠ bo := by omega
  have nbobr : bo ≠ br := by omega
  have nbsbo : bs ≠ bo := by omega
  have nbobs : bo ≠ bs := by omega
  rw [← hbo] at KO_4 ⊢
  clear ltbx4 ltbr4 ltbs4 hs4 hbo
  have B_5 := Lib.hid (B_2.out.trans (Below.mono BA4 B_2.out.size))
  have KX_5 := Lib.hid (Bx.below KX_2.out BA4)
  have KR_5 := Lib.hid (Bx.below KR_2.out BA4)
  have KS_5 := Lib.hid (Bx.below KS_2.out BA4)
  clear BA4 B_2 KX_2 KR_2 KS_2
  obtain ⟨v6, hv6⟩ : ∃ zz, zz = v3.alloc (.cells #[.int .i64 y1.n, .int .i64 0, .int .i64 0] 44) := ⟨_, rfl⟩
  rw [← hv6] at B_5 KX_5 KR_5 KS_5 KO_4
  have gv6 := hv6
  first | rw [← hv6] | rw [← gv6]
  clear hv6 gv6
  obtain ⟨cKX0, cKX1, cKX2, cKX3⟩ := Bx.cells4 KX_5.out
  obtain ⟨cKO0, cKO1, cKO2⟩ := Bx.cells3 KO_4.out
  go_upto_region 4 with (fail)
  clear cKX0 cKX1 cKX2 cKX3 cKO0 cKO1 cKO2
  obtain ⟨cKX0, cKX1, cKX2, cKX3⟩ := Bx.cells4 KX_5.out
  go_wp2_with fail
  clear cKX0 cKX1 cKX2 cKX3
  refine (N2.out _).mono ?_
  rintro e u2 ⟨rfl, hb⟩
  have B_7 := Lib.hid (B_5.out.trans (Below.mono hb B_5.out.size))
  have KX_7 := Lib.hid (Bx.below KX_5.out hb)
  have KR_7 := Lib.hid (Bx.below KR_5.out hb)
  have KS_7 := Lib.hid (Bx.below KS_5.out hb)
  have KO_7 := Lib.hid (Bx.below KO_4.out hb)
  clear hb B_5 KX_5 KR_5 KS_5 KO_4
  obtain ⟨cKX0, cKX1, cKX2, cKX3⟩ := Bx.cells4 KX_7.out
  have lKX := Bx.lt KX_7.out; have fKX0 := Bx.froz KX_7.out 0; have fKX1 := Bx.froz KX_7.out 1; have fKX2 := Bx.froz KX_7.out 2; have fKX3 := Bx.froz KX_7.out 3
  go_upto_region 5 with (fail)
  clear cKX0 cKX1 cKX2 cKX3 lKX fKX0 fKX1 fKX2 fKX3
  have SG8 := Lib.hid (grown_st4 (World.grownBy.refl u2 (some bx)) (.string s) (.int .i64 (y2.at_ : Int)) (.int .i64 y2.n) (.int .i64 y2.e))
  have B_8 := Lib.hid (B_7.out.trans (below_grown SG8.out Hnbx.out B_7.out.size))
  have KX_8 := Lib.hid (Bx.st4 KX_7.out (.string s) (.int .i64 (y2.at_ : Int)) (.int .i64 y2.n) (.int .i64 y2.e))
  have KR_8 := Lib.hid (Bx.other KR_7.out SG8.out (some_ne nbrbx))
  have KS_8 := Lib.hid (Bx.other KS_7.out SG8.out (some_ne nbsbx))
  have KO_8 := Lib.hid (Bx.other KO_7.out SG8.out (some_ne nbobx))
  obtain ⟨v9, hv9⟩ : ∃ zz, zz = st4 u2 bx (.string s) (.int .i64 (y2.at_ : Int)) (.int .i64 y2.n) (.int .i64 y2.e) := ⟨_, rfl⟩
  rw [← hv9] at B_8 KX_8 KR_8 KS_8 KO_8
  have gv9 := hv9
  simp only [st4] at gv9
  first | rw [← hv9] | rw [← gv9]
  clear hv9 gv9
  clear SG8 B_7 KX_7 KR_7 KS_7 KO_7
  obtain ⟨cKX0, cKX1, cKX2, cKX3⟩ := Bx.cells4 KX_8.out
  obtain ⟨cKO0, cKO1, cKO2⟩ := Bx.cells3 KO_8.out
  have lKO := Bx.lt KO_8.out; have fKO0 := Bx.froz KO_8.out 0; have fKO1 := Bx.froz KO_8.out 1; have fKO2 := Bx.froz KO_8.out 2
  go_upto_region 6 with (fail)
  clear cKX0 cKX1 cKX2 cKX3 cKO0 cKO1 cKO2 lKO fKO0 fKO1 fKO2
  have SG10 := Lib.hid (grow_setCell v9 bo 1 (.int .i64 y2.n))
  have B_10 := Lib.hid (B_8.out.trans (below_grown SG10.out Hnbo.out B_8.out.size))
  have KX_10 := Lib.hid (Bx.other KX_8.out SG10.out (some_ne nbxbo))
  have KR_10 := Lib.hid (Bx.other KR_8.out SG10.out (some_ne nbrbo))
  have KS_10 := Lib.hid (Bx.other KS_8.out SG10.out (some_ne nbsbo))
  have KO_10 := Lib.hid ((show Bx (v9.setCell ⟨bo, 1, none⟩ (.int .i64 y2.n)) bo #[.int .i64 y1.n, .int .i64 y2.n, .int .i64 0] _ from Bx.set KO_8.out 1 (.int .i64 y2.n)))
  obtain ⟨v11, hv11⟩ : ∃ zz, zz = v9.setCell ⟨bo, 1, none⟩ (.int .i64 y2.n) := ⟨_, rfl⟩
  rw [← hv11] at B_10 KX_10 KR_10 KS_10 KO_10
  have gv11 := hv11
  first | rw [← hv11] | rw [← gv11]
  clear hv11 gv11
  clear SG10 B_8 KX_8 KR_8 KS_8 KO_8
  obtain ⟨cKX0, cKX1, cKX2, cKX3⟩ := Bx.cells4 KX_10.out
  obtain ⟨cKO0, cKO1, cKO2⟩ := Bx.cells3 KO_10.out
  go_upto_region 9 with (fail)
  clear cKX0 cKX1 cKX2 cKX3 cKO0 cKO1 cKO2
  have HSS := Lib.hid (show ∀ W, Bx W bo #[.int .i64 y1.n, .int .i64 y2.n, .int .i64 0] 44 → Bx W bx #[.string s, .int .i64 (y2.at_ : Int), .int .i64 y2.n, .int .i64 y2.e] 58 → (fun W => W.cell? ⟨bo, 0, none⟩ = some (.int .i64 y1.n) ∧ W.cell? ⟨bo, 1, none⟩ = some (.int .i64 y2.n) ∧ W.cell? ⟨bo, 2, none⟩ = some (.int .i64 0) ∧ W.cell? ⟨bx, 0, none⟩ = some (.string s) ∧ W.cell? ⟨bx, 1, none⟩ = some (.int .i64 (y2.at_ : Int)) ∧ W.cell? ⟨bx, 2, none⟩ = some (.int .i64 y2.n) ∧ W.cell? ⟨bx, 3, none⟩ = some (.int .i64 y2.e)) W from fun W h0 h1 => ⟨Bx.cell h0 0 rfl, Bx.cell h0 1 rfl, Bx.cell h0 2 rfl, Bx.cell h1 0 rfl, Bx.cell h1 1 rfl, Bx.cell h1 2 rfl, Bx.cell h1 3 rfl⟩)
  refine wp_region_held_drew (S := (fun W => W.cell? ⟨bo, 0, none⟩ = some (.int .i64 y1.n) ∧ W.cell? ⟨bo, 1, none⟩ = some (.int .i64 y2.n) ∧ W.cell? ⟨bo, 2, none⟩ = some (.int .i64 0) ∧ W.cell? ⟨bx, 0, none⟩ = some (.string s) ∧ W.cell? ⟨bx, 1, none⟩ = some (.int .i64 (y2.at_ : Int)) ∧ W.cell? ⟨bx, 2, none⟩ = some (.int .i64 y2.n) ∧ W.cell? ⟨bx, 3, none⟩ = some (.int .i64 y2.e))) (by kernel_rfl) (HSS.out _ KO_10.out KX_10.out) (fun hHeld => ?_)
  (try simp only [Act.put, List.getElem_toArray, List.getElem_cons_zero, List.getElem_cons_succ, List.setIfInBounds_toArray, List.set_cons_zero, List.set_cons_succ])
  have DR12 : Below v11.heap.size v11 v11.drew := (Below.refl _ _).drew
  have B_13 := Lib.hid (B_10.out.trans (Below.mono DR12 B_10.out.size))
  have KX_13 := Lib.hid (Bx.below KX_10.out DR12)
  have KR_13 := Lib.hid (Bx.below KR_10.out DR12)
  have KS_13 := Lib.hid (Bx.below KS_10.out DR12)
  have KO_13 := Lib.hid (Bx.below KO_10.out DR12)
  clear DR12 B_10 KX_10 KR_10 KS_10 KO_10
  obtain ⟨v14, hv14⟩ : ∃ zz, zz = v11.drew := ⟨_, rfl⟩
  rw [← hv14] at B_13 KX_13 KR_13 KS_13 KO_13
  have gv14 := hv14
  first | rw [← hv14] | rw [← gv14]
  clear hv14 gv14
  clear hHeld
  have hHeld := HSS.out _ KO_13.out KX_13.out
  dsimp only at hHeld
  refine wpAnyH_take (i := 0) (v := ?_) rfl (by kernel_rfl) (by kernel_rfl) (by kernel_rfl) (fun _ _ _ h => h) (Or.inl ⟨by rfl, ?_⟩) (by assumption) ?_
  rotate_left
  · (intro w hSw; (try dsimp only at hSw); go_simp; try with_reducible rfl)
  (try simp only [Act.put, List.getElem_toArray, List.getElem_cons_zero, List.getElem_cons_succ, List.setIfInBounds_toArray, List.set_cons_zero, List.set_cons_succ])
  refine wpAnyH_take (i := 1) (v := ?_) rfl (by kernel_rfl) (by kernel_rfl) (by kernel_rfl) (fun _ _ _ h => h) (Or.inl ⟨by rfl, ?_⟩) (by assumption) ?_
  rotate_left
  · (intro w hSw; (try dsimp only at hSw); go_simp; try with_reducible rfl)
  (try simp only [Act.put, List.getElem_toArray, List.getElem_cons_zero, List.getElem_cons_succ, List.setIfInBounds_toArray, List.set_cons_zero, List.set_cons_succ])
  have SG15 := Lib.hid (grown_st3 (World.grownBy.refl v14 (some br)) (.int .i64 y1.n) (.int .i64 y2.n) (.int .i64 0))
  have B_15 := Lib.hid (B_13.out.trans (below_grown SG15.out Hnbr.out B_13.out.size))
  have KX_15 := Lib.hid (Bx.other KX_13.out SG15.out (some_ne nbxbr))
  have KR_15 := Lib.hid (Bx.st3 KR_13.out (.int .i64 y1.n) (.int .i64 y2.n) (.int .i64 0))
  have KS_15 := Lib.hid (Bx.other KS_13.out SG15.out (some_ne nbsbr))
  have KO_15 := Lib.hid (Bx.other KO_13.out SG15.out (some_ne nbobr))
  obtain ⟨cKR0, cKR1, cKR2⟩ := Bx.cells3 KR_13.out
  have lKR := Bx.lt KR_13.out; have fKR0 := Bx.froz KR_13.out 0; have fKR1 := Bx.froz KR_13.out 1; have fKR2 := Bx.froz KR_13.out 2
  refine wpAnyH_ready (rs := [2]) (by kernel_rfl) (by simp) ?_
  refine AllReadyH.cons (o := _) rfl (fun K hK => ?_) AllReadyH.nil
  go_simp
  clear cKR0 cKR1 cKR2 lKR fKR0 fKR1 fKR2
  clear hHeld
  refine hK.out _ _ (HSS.out _ KO_15.out KX_15.out) (fun hHeld => ?_)
  clear hK K
  (try simp only [Act.put, List.getElem_toArray, List.getElem_cons_zero, List.getElem_cons_succ, List.setIfInBounds_toArray, List.set_cons_zero, List.set_cons_succ])
  obtain ⟨v16, hv16⟩ : ∃ zz, zz = st3 v14 br (.int .i64 y1.n) (.int .i64 y2.n) (.int .i64 0) := ⟨_, rfl⟩
  rw [← hv16] at B_15 KX_15 KR_15 KS_15 KO_15
  have gv16 := hv16
  simp only [st3] at gv16
  first | rw [← hv16] | rw [← gv16]
  clear hv16 gv16
  clear SG15 B_13 KX_13 KR_13 KS_13 KO_13
  have SG17 := Lib.hid (grown_st4 (World.grownBy.refl v16 (some bs)) (.string s) (.int .i64 (y2.at_ : Int)) (.int .i64 y2.n) (.int .i64 y2.e))
  have B_17 := Lib.hid (B_15.out.trans (below_grown SG17.out Hnbs.out B_15.out.size))
  have KX_17 := Lib.hid (Bx.other KX_15.out SG17.out (some_ne nbxbs))
  have KR_17 := Lib.hid (Bx.other KR_15.out SG17.out (some_ne nbrbs))
  have KS_17 := Lib.hid (Bx.st4 KS_15.out (.string s) (.int .i64 (y2.at_ : Int)) (.int .i64 y2.n) (.int .i64 y2.e))
  have KO_17 := Lib.hid (Bx.other KO_15.out SG17.out (some_ne nbobs))
  obtain ⟨cKS0, cKS1, cKS2, cKS3⟩ := Bx.cells4 KS_15.out
  have lKS := Bx.lt KS_15.out; have fKS0 := Bx.froz KS_15.out 0; have fKS1 := Bx.froz KS_15.out 1; have fKS2 := Bx.froz KS_15.out 2; have fKS3 := Bx.froz KS_15.out 3
  refine wpAnyH_ready (rs := [3]) (by kernel_rfl) (by simp) ?_
  refine AllReadyH.cons (o := _) rfl (fun K hK => ?_) AllReadyH.nil
  go_simp
  clear cKS0 cKS1 cKS2 cKS3 lKS fKS0 fKS1 fKS2 fKS3
  clear hHeld
  refine hK.out _ _ (HSS.out _ KO_17.out KX_17.out) (fun hHeld => ?_)
  clear hK K
  (try simp only [Act.put, List.getElem_toArray, List.getElem_cons_zero, List.getElem_cons_succ, List.setIfInBounds_toArray, List.set_cons_zero, List.set_cons_succ])
  obtain ⟨v18, hv18⟩ : ∃ zz, zz = st4 v16 bs (.string s) (.int .i64 (y2.at_ : Int)) (.int .i64 y2.n) (.int .i64 y2.e) := ⟨_, rfl⟩
  rw [← hv18] at B_17 KX_17 KR_17 KS_17 KO_17
  have gv18 := hv18
  simp only [st4] at gv18
  first | rw [← hv18] | rw [← gv18]
  clear hv18 gv18
  clear SG17 B_15 KX_15 KR_15 KS_15 KO_15
  refine wpAnyH_done (by kernel_rfl) ?_ _
  clear hHeld HSS
  go_wp2_with fail
  refine bodyPost_ret (v := .tuple #[.agg #[.int .i64 y1.n, .int .i64 y2.n, .int .i64 0], .agg #[.string s, .int .i64 (y2.at_ : Int), .int .i64 y2.n, .int .i64 y2.e]]) (by first | rw [res_cc Try.results43 _ (by rfl) (Bx.load KR_17.out Try.underlying44 inf44) (by rfl) (Bx.load KS_17.out Try.underlying58 inf58)] | skip) rfl ?_
  exact ⟨rfl, B_17.out⟩
theorem one_any (s : ByteArray) (x : XS) (w : World) (h : XOk (tx s) x) (hs : s.size ≤ 100000) : Calls Try.prog 43 #[xV s x] w (Gives w (.tuple #[insV (oneX (tx s) x).1, xV s (oneX (tx s) x).2])) := by
  by_cases h0 : (nextX (tx s) x).n = 0
  · exact one_z s x w h hs h0
  · by_cases h7 : (nextX (tx s) x).n = 7
    · exact one_s s x w h hs h7
    · exact one_d s x w h hs h0 h7
end Go.Proofs.Ytddkckppmjcclaa
