/- note: the program. -/
import Derived.Test.YtjkbmenmpnidhaaC0
namespace Go.Proofs.Ytjkbmenmpnidhaa
open Go.RowKit Go.Maps
set_option linter.unusedSimpArgs false
set_option linter.unusedVariables false
theorem jc_last (cs ah : Value) (ls : List Int) (M : Nat) (ds : List Int) (h : ls.length = 8) (g : Nat) (hg : g < 8) (v : Int) : (jCells cs ah ls M ds).setIfInBounds (2 + g) (.int .i64 v) = jCells cs ah (ls.set g v) M ds := by
  match ls, h with
  | [a0, a1, a2, a3, a4, a5, a6, a7], _ => rcases (show g = 0 ∨ g = 1 ∨ g = 2 ∨ g = 3 ∨ g = 4 ∨ g = 5 ∨ g = 6 ∨ g = 7 by omega) with rfl | rfl | rfl | rfl | rfl | rfl | rfl | rfl <;> rfl
theorem jc_doer (cs ah : Value) (ls : List Int) (M : Nat) (ds : List Int) (h : ls.length = 8) (h2 : ds.length = 2) (o : Nat) (ho : o < 2) (v : Int) : (jCells cs ah ls M ds).setIfInBounds (11 + o) (.int .i64 v) = jCells cs ah ls M (ds.set o v) := by
  match ls, h, ds, h2 with
  | [a0, a1, a2, a3, a4, a5, a6, a7], _, [d0, d1], _ => rcases (show o = 0 ∨ o = 1 by omega) with rfl | rfl <;> rfl
theorem jc_ahead (cs ah v : Value) (ls : List Int) (M : Nat) (ds : List Int) : (jCells cs ah ls M ds).setIfInBounds 1 v = jCells cs v ls M ds := rfl
theorem jc_lastAt (cs ah : Value) (ls : List Int) (M : Nat) (ds : List Int) (h : ls.length = 8) (g : Nat) (hg : g < 8) : ∃ v, (jCells cs ah ls M ds)[2 + g]? = some (.int .i64 v) := by
  match ls, h with
  | [a0, a1, a2, a3, a4, a5, a6, a7], _ => rcases (show g = 0 ∨ g = 1 ∨ g = 2 ∨ g = 3 ∨ g = 4 ∨ g = 5 ∨ g = 6 ∨ g = 7 by omega) with rfl | rfl | rfl | rfl | rfl | rfl | rfl | rfl <;> exact ⟨_, rfl⟩
theorem jc_doerAt (cs ah : Value) (ls : List Int) (M : Nat) (ds : List Int) (h : ls.length = 8) (h2 : ds.length = 2) (o : Nat) (ho : o < 2) : ∃ v, (jCells cs ah ls M ds)[11 + o]? = some (.int .i64 v) := by
  match ls, h, ds, h2 with
  | [a0, a1, a2, a3, a4, a5, a6, a7], _, [d0, d1], _ => rcases (show o = 0 ∨ o = 1 by omega) with rfl | rfl <;> exact ⟨_, rfl⟩
theorem jc_map (cs ah : Value) (ls : List Int) (M : Nat) (ds : List Int) (h : ls.length = 8) : (jCells cs ah ls M ds)[10]? = some (.map (some M)) := by
  match ls, h with
  | [a0, a1, a2, a3, a4, a5, a6, a7], _ => rfl
/-- the judge's box and its map -/
structure Jb (w : World) (J : Nat) (cs ah : Value) (ls : List Int) (M n : Nat) (ds : List Int) (S : Int → Int → Int) : Prop where
  box : Bx w J (jCells cs ah ls M ds) 75
  cnt : Cnt w M n S
  l8 : ls.length = 8
  l2 : ds.length = 2
section
variable {w : World} {J : Nat} {cs ah : Value} {ls : List Int} {M n : Nat} {ds : List Int} {S : Int → Int → Int}
theorem Jb.ne (h : Jb w J cs ah ls M n ds S) : J ≠ M := by
  intro e
  have h1 := h.box
  obtain ⟨D, ⟨es, clock, hb, _⟩, _⟩ := h.cnt
  unfold Bx at h1
  rw [e, hb] at h1
  cases h1
theorem Jb.below {w' : World} (h : Jb w J cs ah ls M n ds S) (hb : Below w.heap.size w w') : Jb w' J cs ah ls M n ds S := ⟨h.box.below hb, h.cnt.below hb, h.l8, h.l2⟩
theorem Jb.setLast (h : Jb w J cs ah ls M n ds S) (g : Nat) (hg : g < 8) (v : Int) : Jb (w.setCell ⟨J, 2 + g, none⟩ (.int .i64 v)) J cs ah (ls.set g v) M n ds S :=
  ⟨by have := h.box.set (2 + g) (.int .i64 v); rwa [jc_last cs ah ls M ds h.l8 g hg v] at this, h.cnt.kept (grow_setCell w J _ _) (some_ne (Ne.symm h.ne)), by rw [List.length_set]; exact h.l8, h.l2⟩
theorem Jb.setDoer (h : Jb w J cs ah ls M n ds S) (o : Nat) (ho : o < 2) (v : Int) : Jb (w.setCell ⟨J, 11 + o, none⟩ (.int .i64 v)) J cs ah ls M n (ds.set o v) S :=
  ⟨by have := h.box.set (11 + o) (.int .i64 v); rwa [jc_doer cs ah ls M ds h.l8 h.l2 o ho v] at this, h.cnt.kept (grow_setCell w J _ _) (some_ne (Ne.symm h.ne)), h.l8, by rw [List.length_set]; exact h.l2⟩
theorem Jb.setAhead (h : Jb w J cs ah ls M n ds S) (v : Value) : Jb (w.setCell ⟨J, 1, none⟩ v) J cs v ls M n ds S :=
  ⟨h.box.set 1 v, h.cnt.kept (grow_setCell w J _ _) (some_ne (Ne.symm h.ne)), h.l8, h.l2⟩
theorem Jb.setCnt {w' : World} {n' : Nat} {S' : Int → Int → Int} (h : Jb w J cs ah ls M n ds S) (hg : w.grownBy w' (some M)) (hc : Cnt w' M n' S') : Jb w' J cs ah ls M n' ds S' :=
  ⟨h.box.other hg (some_ne h.ne), hc, h.l8, h.l2⟩
end
def Tb (w : World) (b : Nat) (o : Obj) : Prop := w.heap[b]? = some o
theorem Tb.below {w w' : World} {b : Nat} {o : Obj} (h : Tb w b o) (hb : Below w.heap.size w w') : Tb w' b o := (hb.block _ (Array.getElem?_eq_some_iff.1 h).1).trans h
theorem Tb.other {w w' : World} {b : Nat} {o : Obj} {row : Option Nat} (h : Tb w b o) (hg : w.grownBy w' row) (hne : some b ≠ row) : Tb w' b o := (hg.block b (Array.getElem?_eq_some_iff.1 h).1 hne).trans h
theorem below_grown {B : Nat} {w0 w w' : World} {b : Nat} (h : Below B w0 w) (hg : w.grownBy w' (some b)) (hb : B ≤ b) (hs : B ≤ w.heap.size) : Below B w0 w' :=
  ⟨hg.os.trans h.os, hg.tape.trans h.tape, hg.output.trans h.output, Nat.le_trans h.size hg.size, fun k hk => (hg.block k (by omega) (some_ne (by omega))).trans (h.block k hk)⟩
theorem lasts_len (L : List Ev) (k : Nat) : (lastsZ L k).length = 8 := by simp [lastsZ]
theorem lasts_next (L : List Ev) (k g : Nat) (hx : (evAt L k).g = (g : Int)) : (lastsZ L k).set g (k : Int) = lastsZ L (k + 1) := by
  apply List.ext_getElem
  · simp [lastsZ]
  · intro i h1 h2
    rw [List.getElem_set]
    simp only [lastsZ, List.getElem_map, List.getElem_range]
    rw [show lastZ L (i : Int) (k + 1) = if (evAt L k).g = (i : Int) then (k : Int) else lastZ L (i : Int) k from rfl, hx]
    by_cases e : g = i
    · rw [if_pos e, if_pos (by rw [e])]
    · rw [if_neg e, if_neg (by omega)]
theorem cnt_next (L : List Ev) (k : Nat) (x : Ev) (hx : evAt L k = x) : (fun k' o' => if k' = x.kind ∧ o' = x.obj then cntZ L x.kind x.obj k + 1 else cntZ L k' o' k) = (fun k' o' => cntZ L k' o' (k + 1)) := by
  funext k' o'
  rw [show cntZ L k' o' (k + 1) = if (evAt L k).kind = k' ∧ (evAt L k).obj = o' then cntZ L k' o' k + 1 else cntZ L k' o' k from rfl, hx]
  by_cases e : k' = x.kind ∧ o' = x.obj
  · obtain ⟨rfl, rfl⟩ := e
    simp
  · rw [if_neg e, if_neg (fun h => e ⟨h.1.symm, h.2.symm⟩)]
theorem doer_none (L : List Ev) (o : Int) : ∀ k, cntZ L 13 o k = 0 ↔ doerZ L o k = none
  | 0 => by simp [cntZ, doerZ]
  | k + 1 => by
    have ih := doer_none L o k
    have h0 := cntZ_le L 13 o k
    unfold cntZ doerZ
    cases hd : doerZ L o k with
    | some g =>
      have : cntZ L 13 o k ≠ 0 := fun e => by rw [ih.1 e] at hd; cases hd
      split <;> simp <;> omega
    | none =>
      have := ih.2 hd
      split <;> simp_all <;> omega
theorem doers_same (L : List Ev) (k : Nat) (x : Ev) (hx : evAt L k = x) (h : ¬ (x.kind = 13 ∧ cntZ L 13 x.obj k = 0)) : doersZ L k = doersZ L (k + 1) := by
  have one : ∀ o : Int, doerZ L o (k + 1) = doerZ L o k := fun o => by
    rw [show doerZ L o (k + 1) = (match doerZ L o k with | some g => some g | none => if (evAt L k).kind = 13 ∧ (evAt L k).obj = o then some (evAt L k).g else none) from rfl, hx]
    cases hd : doerZ L o k with
    | some g => rfl
    | none =>
      have := (doer_none L o k).2 hd
      dsimp only
      rw [if_neg]
      rintro ⟨h1, h2⟩
      exact h ⟨h1, by rw [h2]; exact this⟩
  unfold doersZ
  rw [one, one]
theorem doers_next (L : List Ev) (k o : Nat) (ho : o < 2) (x : Ev) (hx : evAt L k = x) (h13 : x.kind = 13) (hob : x.obj = (o : Int)) (h0 : cntZ L 13 x.obj k = 0) : (doersZ L k).set o x.g = doersZ L (k + 1) := by
  have hn := (doer_none L x.obj k).1 h0
  have one : ∀ q : Int, doerZ L q (k + 1) = (if q = x.obj then some x.g else doerZ L q k) := fun q => by
    rw [show doerZ L q (k + 1) = (match doerZ L q k with | some g => some g | none => if (evAt L k).kind = 13 ∧ (evAt L k).obj = q then some (evAt L k).g else none) from rfl, hx]
    by_cases e : q = x.obj
    · subst e
      rw [hn]
      simp [h13]
    · rw [if_neg e]
      cases hd : doerZ L q k with
      | some g => rfl
      | none =>
        dsimp only
        rw [if_neg (fun h => e h.2.symm)]
  unfold doersZ
  rw [one, one, hob]
  rcases (show o = 0 ∨ o = 1 by omega) with rfl | rfl <;> simp
set_option maxRecDepth 100000 in
set_option maxHeartbeats 8000000 in
theorem note_any (J : Nat) (p : JPlace) (caps : List Int) (L : List Ev) (k : Nat) (x : Ev) (aa : Option Addr) (ac : Nat) (w0 w : World) (hk : k ≤ 1000) (h : Jd w J p caps L k) (hx : evAt L k = x) (hok : EvOk x) (hg : 0 ≤ x.g ∧ x.g < 8) (hd : x.kind = 13 → 0 ≤ x.obj ∧ x.obj < 2) (hB : Below w0.heap.size w0 w) (hJ : w0.heap.size ≤ J) (hM : w0.heap.size ≤ p.M) (tb : Nat) (tob : Obj) (hT : Tb w tb tob) (hbJ : tb ≠ J) (hbM : tb ≠ p.M) (sb : Nat) (sob : Obj) (hS : Tb w sb sob) (hsJ : sb ≠ J) (hsM : sb ≠ p.M) : Calls Try.prog 42 #[.pointer (some ⟨J, 0, none⟩), evV x, .slice aa (k + 1) ac] w fun e w' => e = .returned (.tuple #[]) ∧ Below w0.heap.size w0 w' ∧ Jb w' J (.slice p.ca p.cn p.cc) (.slice aa (k + 1) ac) (lastsZ L (k + 1)) p.M (k + 1) (doersZ L (k + 1)) (fun kd ob => cntZ L kd ob (k + 1)) ∧ Tb w' tb tob ∧ Tb w' sb sob := by
  have hJs := hB.size
  have K_0 := Lib.hid (Bx.new w (evC x) 48)
  have A_0 := Lib.hid (hB.trans ((below_alloc w (.cells (evC x) 48)).mono hB.size))
  have D_0 := Lib.hid (h.below (below_alloc w (.cells (evC x) 48)))
  have Q_0 := Lib.hid ((⟨h.box, h.cnt, lasts_len L k, rfl⟩ : Jb w J (.slice p.ca p.cn p.cc) (.slice p.aa k p.ac) (lastsZ L k) p.M k (doersZ L k) (fun kd ob => cntZ L kd ob k)).below (below_alloc w (.cells (evC x) 48)))
  have T_0 := Lib.hid (Tb.below hT (below_alloc w (.cells (evC x) 48)))
  have U_0 := Lib.hid (Tb.below hS (below_alloc w (.cells (evC x) 48)))
  clear hT hS
  have hnJ : J ≠ w.heap.size := Nat.ne_of_lt h.box.lt
  have hnM : p.M ≠ w.heap.size := Nat.ne_of_lt h.cnt.lt
  have hc13 := fun W (h : Jd W J p caps L k) => counted_any J p caps L k x.kind x.obj W h hok.2.1 hok.2.2.1
  have HDS := Lib.hid (doers_same L k x hx)
  have HDN := Lib.hid (fun o ho => doers_next L k o ho x hx)
  have HCN := Lib.hid (cnt_next L k x hx)
  have HLN := Lib.hid (fun (g : Nat) (e : x.g = (g : Int)) => lasts_next L k g (by rw [hx]; exact e))
  have hcl := cntZ_le L x.kind x.obj k
  obtain ⟨c, hc⟩ : ∃ z, z = cntZ L x.kind x.obj k := ⟨_, rfl⟩
  have HCC := Lib.hid hc.symm
  rw [← hc] at hc13 HCN hcl
  have HC := Lib.hid hc13
  clear h hx hc13 hc hB
  unfold evV
  unfold EvOk I64 at hok
  unfold evC at K_0 A_0 D_0 Q_0 T_0 U_0
  unfold evC
  obtain ⟨x0, x1, x2, x3, x4⟩ := x
  dsimp only at hok hg hd K_0 A_0 D_0 Q_0 T_0 U_0 HDS HDN HCN HLN HC HCC hcl ⊢
  obtain ⟨gg, rfl⟩ : ∃ gg : Nat, x0 = (gg : Int) := ⟨x0.toNat, by omega⟩
  have hg8 : gg < 8 := by omega
  have hg8' : (gg : Int) < 8 := by omega
  have hg0 : (0 : Int) ≤ (gg : Int) := by omega
  have HLE := Lib.hid (HLN.out gg rfl)
  clear HLN hg
  obtain ⟨n1, hn1⟩ : ∃ z : Nat, z = k + 1 := ⟨_, rfl⟩
  rw [← hn1]
  have HN1 := Lib.hid hn1
  clear hn1
  obtain ⟨b1, b2, b3, b4, b5⟩ := hok
  obtain ⟨e0, he0⟩ : ∃ z, z = w.heap.size := ⟨_, rfl⟩
  obtain ⟨v0, hv0⟩ : ∃ z, z = w.alloc (.cells #[.int .i64 (gg : Int), .int .i64 x1, .int .i64 x2, .int .i64 x3, .int .i64 x4] 48) := ⟨_, rfl⟩
  rw [← hv0] at A_0 D_0 K_0 Q_0 T_0 U_0
  rw [← he0] at K_0 hnJ hnM hJs
  have HE0 := Lib.hid he0; have HV0 := Lib.hid hv0
  clear he0 hv0
  go_enter Try.func42, Try.ntmps42
  go_upto_region 1 with (fail)
  rw [← HV0.out, ← HE0.out]
  by_cases k13 : ¬ x1 = 13
  · obtain ⟨k13f1, k13f2⟩ := ne_facts k13
    have HDF := Lib.hid (HDS.out (fun h => k13 h.1))
    clear HC D_0
    obtain ⟨z0, z1, z2, z3, z4⟩ := Bx.cells5 K_0.out
    go_upto_region 3 with (fail)
    clear z0 z1 z2 z3 z4
    have hbd : Below v0.heap.size v0 v0.drew := (Below.refl _ _).drew
    have KD := Lib.hid (K_0.out.below hbd)
    have QD := Lib.hid (Q_0.out.below hbd)
    have hbs : Below (v0.setCell ⟨J, 2 + gg, none⟩ (.int .i64 (k : Int))).heap.size (v0.setCell ⟨J, 2 + gg, none⟩ (.int .i64 (k : Int))) (v0.setCell ⟨J, 2 + gg, none⟩ (.int .i64 (k : Int))).drew := (Below.refl _ _).drew
    have K_1 := Lib.hid ((Bx.other K_0.out (grow_setCell v0 J (2 + gg) (.int .i64 (k : Int))) (some_ne (Ne.symm hnJ))).below hbs)
    have A_1 := Lib.hid (Below.setCell (p := ⟨J, 2 + gg, none⟩) A_0.out hJ (.int .i64 (k : Int))).drew
    have T_1 := Lib.hid ((Tb.other T_0.out (grow_setCell v0 J (2 + gg) (.int .i64 (k : Int))) (some_ne hbJ)).below hbs)
    have U_1 := Lib.hid ((Tb.other U_0.out (grow_setCell v0 J (2 + gg) (.int .i64 (k : Int))) (some_ne hsJ)).below hbs)
    have Q_1 := Lib.hid ((Q_0.out.setLast gg hg8 (k : Int)).below hbs)
    clear hbd hbs K_0 A_0 Q_0 T_0 U_0
    rw [HLE.out] at Q_1
    have hfx0 : IntKind.i64.wrap ((n1 : Int) - 1) = (k : Int) := by have h1 := HN1.out; rw [IntKind.wrap_i64]; omega
    refine wp_region_held_drew (S := (fun V => V.cell? ⟨e0, 0, none⟩ = some (.int .i64 (gg : Int)) ∧ V.cell? ⟨e0, 1, none⟩ = some (.int .i64 x1) ∧ V.cell? ⟨e0, 2, none⟩ = some (.int .i64 x2) ∧ V.cell? ⟨e0, 3, none⟩ = some (.int .i64 x3) ∧ V.cell? ⟨e0, 4, none⟩ = some (.int .i64 x4))) (by kernel_rfl) (Bx.cells5 KD.out) (fun hHeld => ?_)
    (try simp only [Act.put, List.getElem_toArray, List.getElem_cons_zero, List.getElem_cons_succ, List.setIfInBounds_toArray, List.set_cons_zero, List.set_cons_succ])
    refine takes [0, 1, 2, 3, 4, 5, 6, 7, 8] (by kernel_rfl) (fun _ _ _ _ _ h => h) (by assumption) ?_
    iterate 9 (refine ally_cons (v := ?_) rfl (Or.inl ⟨?_, fun w hSw => ?_⟩) ?_; rotate_left; rfl; ((try dsimp only at hSw); go_simp; try with_reducible rfl); (try simp only [Act.put, List.getElem_toArray, List.getElem_cons_zero, List.getElem_cons_succ, List.setIfInBounds_toArray, List.set_cons_zero, List.set_cons_succ, hfx0]))
    refine ally_nil ?_
    obtain ⟨old, hold⟩ := jc_lastAt _ _ _ _ _ QD.out.l8 gg hg8
    have hcell := Bx.cell QD.out.box (2 + gg) hold
    have hfz := Bx.froz QD.out.box (2 + gg)
    refine wpAnyH_ready (rs := [9]) (by kernel_rfl) (by simp) ?_
    refine AllReadyH.cons (o := _) rfl (fun K hK => ?_) AllReadyH.nil
    skip
    go_simp
    clear hcell hfz hold old KD QD
    clear hHeld
    refine hK.out _ _ (Bx.cells5 K_1.out) (fun hHeld => ?_)
    clear hK K
    (try simp only [Act.put, List.getElem_toArray, List.getElem_cons_zero, List.getElem_cons_succ, List.setIfInBounds_toArray, List.set_cons_zero, List.set_cons_succ])
    refine wpAnyH_done (by kernel_rfl) ?_ _
    clear hHeld
    obtain ⟨v3, hv3⟩ : ∃ z, z = (v0.setCell ⟨J, 2 + gg, none⟩ (.int .i64 (k : Int))).drew := ⟨_, rfl⟩
    rw [← hv3] at K_1 A_1 Q_1 T_1 U_1 ⊢
    clear hv3
    go_upto_region 4 with (fail)
    have hbd : Below v3.heap.size v3 v3.drew := (Below.refl _ _).drew
    have K_2 := Lib.hid (K_1.out.below hbd)
    have A_2 := Lib.hid (A_1.out.drew)
    have T_2 := Lib.hid (T_1.out.below hbd)
    have U_2 := Lib.hid (U_1.out.below hbd)
    have Q_2 := Lib.hid (Q_1.out.below hbd)
    clear hbd K_1 A_1 Q_1 T_1 U_1
    obtain ⟨st, w1, r1, g1, q1, r2⟩ := Q_2.out.cnt.entry x1 x2 b2 b3 (by unfold maxLen; omega)
    obtain ⟨w2, r3, g2, g3, q2⟩ := r2 (c + 1) (by unfold I64; omega)
    clear r2
    have hlook := Q_2.out.cnt.look x1 x2 b2 b3
    have hlook2 := q1.look x1 x2 b2 b3
    rw [HCC.out] at hlook hlook2 r1
    have hs3 : w0.heap.size ≤ v3.drew.heap.size := A_2.out.size
    have hfx1 : IntKind.i64.wrap (c + 1) = c + 1 := by rw [IntKind.wrap_i64]; omega
    have hmp := Bx.cell Q_2.out.box 10 (jc_map _ _ _ _ _ Q_2.out.l8)
    have K1 := Lib.hid (Bx.other K_2.out g1 (some_ne (Ne.symm hnM)))
    have K_3 := Lib.hid (Bx.other K_2.out g2 (some_ne (Ne.symm hnM)))
    have A_3 := Lib.hid (below_grown A_2.out g2 hM hs3)
    have T_3 := Lib.hid (Tb.other T_2.out g2 (some_ne hbM))
    have U_3 := Lib.hid (Tb.other U_2.out g2 (some_ne hsM))
    have Q_3 := Lib.hid (Q_2.out.setCnt g2 q2)
    rw [HCN.out] at Q_3
    have sone := Bx.cell (Q_2.out.setCnt g1 q1).box 10 (jc_map _ _ _ _ _ Q_2.out.l8)
    clear g1 g2 g3 q1 q2
    have S0 := Lib.hid (show v3.drew.cell? ⟨J, 10, none⟩ = _ from hmp)
    have S1 := Lib.hid (show w1.cell? ⟨J, 10, none⟩ = some (.map (some p.M)) from sone)
    have S2 := Lib.hid (show w2.cell? ⟨J, 10, none⟩ = some (.map (some p.M)) from Bx.cell Q_3.out.box 10 (jc_map _ _ _ _ _ Q_3.out.l8))
    clear hmp sone
    refine wp_region_held_drew (S := (fun V => V.cell? ⟨e0, 0, none⟩ = some (.int .i64 (gg : Int)) ∧ V.cell? ⟨e0, 1, none⟩ = some (.int .i64 x1) ∧ V.cell? ⟨e0, 2, none⟩ = some (.int .i64 x2) ∧ V.cell? ⟨e0, 3, none⟩ = some (.int .i64 x3) ∧ V.cell? ⟨e0, 4, none⟩ = some (.int .i64 x4) ∧ V.cell? ⟨J, 10, none⟩ = some (.map (some p.M)))) (by kernel_rfl) (show _ from by obtain ⟨z0, z1, z2, z3, z4⟩ := Bx.cells5 K_2.out; exact ⟨z0, z1, z2, z3, z4, S0.out⟩) (fun hHeld => ?_)
    (try simp only [Act.put, List.getElem_toArray, List.getElem_cons_zero, List.getElem_cons_succ, List.setIfInBounds_toArray, List.set_cons_zero, List.set_cons_succ])
    refine takes [0, 1, 2, 3, 4, 5, 6, 7, 8] (by kernel_rfl) (fun _ _ _ _ _ h => h) (by assumption) ?_
    iterate 9 (refine ally_cons (v := ?_) rfl (Or.inl ⟨?_, fun w hSw => ?_⟩) ?_; rotate_left; rfl; ((try dsimp only at hSw); go_simp; try with_reducible rfl); (try simp only [Act.put, List.getElem_toArray, List.getElem_cons_zero, List.getElem_cons_succ, List.setIfInBounds_toArray, List.set_cons_zero, List.set_cons_succ]))
    refine ally_nil ?_
    refine wpAnyH_ready (rs := [9, 11]) (by kernel_rfl) (by simp) ?_
    refine AllReadyH.cons (o := _) rfl (fun K hK => ?_) (AllReadyH.cons (o := _) rfl (fun K hK => ?_) AllReadyH.nil)
    · go_simp
      clear hHeld
      refine hK.out _ _ (show _ from by obtain ⟨z0, z1, z2, z3, z4⟩ := Bx.cells5 K_2.out; exact ⟨z0, z1, z2, z3, z4, S0.out⟩) (fun hHeld => ?_)
      clear hK K
      (try simp only [Act.put, List.getElem_toArray, List.getElem_cons_zero, List.getElem_cons_succ, List.setIfInBounds_toArray, List.set_cons_zero, List.set_cons_succ])
      refine takes [10] (by kernel_rfl) (fun _ _ _ _ _ h => h) (by assumption) ?_
      iterate 1 (refine ally_cons (v := ?_) rfl (Or.inl ⟨?_, fun w hSw => ?_⟩) ?_; rotate_left; rfl; ((try dsimp only at hSw); go_simp; try with_reducible rfl); (try simp only [Act.put, List.getElem_toArray, List.getElem_cons_zero, List.getElem_cons_succ, List.setIfInBounds_toArray, List.set_cons_zero, List.set_cons_succ, hfx1]))
      refine ally_nil ?_
      refine wpAnyH_ready (rs := [11]) (by kernel_rfl) (by simp) ?_
      refine AllReadyH.cons (o := _) rfl (fun K hK => ?_) AllReadyH.nil
      go_simp
      clear hHeld
      refine hK.out _ _ (show _ from by obtain ⟨z0, z1, z2, z3, z4⟩ := Bx.cells5 K1.out; exact ⟨z0, z1, z2, z3, z4, S1.out⟩) (fun hHeld => ?_)
      clear hK K
      (try simp only [Act.put, List.getElem_toArray, List.getElem_cons_zero, List.getElem_cons_succ, List.setIfInBounds_toArray, List.set_cons_zero, List.set_cons_succ])
      refine takes [12] (by kernel_rfl) (fun _ _ _ _ _ h => h) (by assumption) ?_
      iterate 1 (refine ally_cons (v := ?_) rfl (Or.inl ⟨?_, fun w hSw => ?_⟩) ?_; rotate_left; rfl; ((try dsimp only at hSw); go_simp; try with_reducible rfl); (try simp only [Act.put, List.getElem_toArray, List.getElem_cons_zero, List.getElem_cons_succ, List.setIfInBounds_toArray, List.set_cons_zero, List.set_cons_succ]))
      refine ally_nil ?_
      refine wpAnyH_ready (rs := [13]) (by kernel_rfl) (by simp) ?_
      refine AllReadyH.cons (o := _) rfl (fun K hK => ?_) AllReadyH.nil
      go_simp
      clear hHeld
      refine hK.out _ _ (show _ from by obtain ⟨z0, z1, z2, z3, z4⟩ := Bx.cells5 K_3.out; exact ⟨z0, z1, z2, z3, z4, S2.out⟩) (fun hHeld => ?_)
      clear hK K
      (try simp only [Act.put, List.getElem_toArray, List.getElem_cons_zero, List.getElem_cons_succ, List.setIfInBounds_toArray, List.set_cons_zero, List.set_cons_succ])
      refine wpAnyH_done (by kernel_rfl) ?_ _
      clear hHeld
      clear S0 S1 S2 r1 r3 hlook hlook2 K1 K_2 A_2 Q_2 T_2 U_2 hs3
      go_upto_region 5 with (fail)
      have hah := Bx.cell Q_3.out.box 1 rfl
      have hfz := Bx.froz Q_3.out.box 1
      go_wp2_with fail
      refine bodyPost_end (v := .tuple #[]) (results_none (by rfl) _ _ _) rfl ?_
      rw [HN1.out]
      exact ⟨rfl, (Below.setCell (p := ⟨J, 1, none⟩) A_3.out hJ _), by rw [← HDF.out]; exact Q_3.out.setAhead _, Tb.other T_3.out (grow_setCell w2 J 1 _) (some_ne hbJ), Tb.other U_3.out (grow_setCell w2 J 1 _) (some_ne hsJ)⟩
    · go_simp
      clear hHeld
      refine hK.out _ _ (show _ from by obtain ⟨z0, z1, z2, z3, z4⟩ := Bx.cells5 K1.out; exact ⟨z0, z1, z2, z3, z4, S1.out⟩) (fun hHeld => ?_)
      clear hK K
      (try simp only [Act.put, List.getElem_toArray, List.getElem_cons_zero, List.getElem_cons_succ, List.setIfInBounds_toArray, List.set_cons_zero, List.set_cons_succ])
      refine takes [12] (by kernel_rfl) (fun _ _ _ _ _ h => h) (by assumption) ?_
      iterate 1 (refine ally_cons (v := ?_) rfl (Or.inl ⟨?_, fun w hSw => ?_⟩) ?_; rotate_left; rfl; ((try dsimp only at hSw); go_simp; try with_reducible rfl); (try simp only [Act.put, List.getElem_toArray, List.getElem_cons_zero, List.getElem_cons_succ, List.setIfInBounds_toArray, List.set_cons_zero, List.set_cons_succ]))
      refine ally_nil ?_
      refine wpAnyH_ready (rs := [9]) (by kernel_rfl) (by simp) ?_
      refine AllReadyH.cons (o := _) rfl (fun K hK => ?_) AllReadyH.nil
      go_simp
      clear hHeld
      refine hK.out _ _ (show _ from by obtain ⟨z0, z1, z2, z3, z4⟩ := Bx.cells5 K1.out; exact ⟨z0, z1, z2, z3, z4, S1.out⟩) (fun hHeld => ?_)
      clear hK K
      (try simp only [Act.put, List.getElem_toArray, List.getElem_cons_zero, List.getElem_cons_succ, List.setIfInBounds_toArray, List.set_cons_zero, List.set_cons_succ])
      refine takes [10] (by kernel_rfl) (fun _ _ _ _ _ h => h) (by assumption) ?_
      iterate 1 (refine ally_cons (v := ?_) rfl (Or.inl ⟨?_, fun w hSw => ?_⟩) ?_; rotate_left; rfl; ((try dsimp only at hSw); go_simp; try with_reducible rfl); (try simp only [Act.put, List.getElem_toArray, List.getElem_cons_zero, List.getElem_cons_succ, List.setIfInBounds_toArray, List.set_cons_zero, List.set_cons_succ, hfx1]))
      refine ally_nil ?_
      refine wpAnyH_ready (rs := [13]) (by kernel_rfl) (by simp) ?_
      refine AllReadyH.cons (o := _) rfl (fun K hK => ?_) AllReadyH.nil
      go_simp
      clear hHeld
      refine hK.out _ _ (show _ from by obtain ⟨z0, z1, z2, z3, z4⟩ := Bx.cells5 K_3.out; exact ⟨z0, z1, z2, z3, z4, S2.out⟩) (fun hHeld => ?_)
      clear hK K
      (try simp only [Act.put, List.getElem_toArray, List.getElem_cons_zero, List.getElem_cons_succ, List.setIfInBounds_toArray, List.set_cons_zero, List.set_cons_succ])
      refine wpAnyH_done (by kernel_rfl) ?_ _
      clear hHeld
      clear S0 S1 S2 r1 r3 hlook hlook2 K1 K_2 A_2 Q_2 T_2 U_2 hs3
      go_upto_region 5 with (fail)
      have hah := Bx.cell Q_3.out.box 1 rfl
      have hfz := Bx.froz Q_3.out.box 1
      go_wp2_with fail
      refine bodyPost_end (v := .tuple #[]) (results_none (by rfl) _ _ _) rfl ?_
      rw [HN1.out]
      exact ⟨rfl, (Below.setCell (p := ⟨J, 1, none⟩) A_3.out hJ _), by rw [← HDF.out]; exact Q_3.out.setAhead _, Tb.other T_3.out (grow_setCell w2 J 1 _) (some_ne hbJ), Tb.other U_3.out (grow_setCell w2 J 1 _) (some_ne hsJ)⟩
  · have k13 := Classical.not_not.1 k13
    obtain ⟨k13t1, k13t2⟩ := eq_facts k13
    subst k13
    obtain ⟨q, hq⟩ : ∃ q : Nat, x2 = (q : Int) := ⟨x2.toNat, by have := hd rfl; omega⟩
    have hq2 : q < 2 := by have := hd rfl; omega
    clear hd
    subst hq
    have hq2' : (q : Int) < 2 := by omega
    have hq0 : (0 : Int) ≤ (q : Int) := by omega
    obtain ⟨z0, z1, z2, z3, z4⟩ := Bx.cells5 K_0.out
    go_wp2_with fail
    refine (HC.out _ D_0.out).mono ?_
    rintro e y1 ⟨rfl, rfl⟩
    clear HC D_0
    by_cases d0 : c = 0
    · obtain ⟨d0t1, d0t2⟩ := eq_facts d0
      have HDF := Lib.hid (HDN.out q hq2 (by first | trivial | rfl) (by first | trivial | rfl) (HCC.out.trans d0))
      go_upto_region 2 with (fail)
      clear d0 d0t1 d0t2
      clear z0 z1 z2 z3 z4
      have hbd : Below v0.heap.size v0 v0.drew := (Below.refl _ _).drew
      have KD := Lib.hid (K_0.out.below hbd)
      have QD := Lib.hid (Q_0.out.below hbd)
      have hbs : Below (v0.setCell ⟨J, 11 + q, none⟩ (.int .i64 (gg : Int))).heap.size (v0.setCell ⟨J, 11 + q, none⟩ (.int .i64 (gg : Int))) (v0.setCell ⟨J, 11 + q, none⟩ (.int .i64 (gg : Int))).drew := (Below.refl _ _).drew
      have K_1 := Lib.hid ((Bx.other K_0.out (grow_setCell v0 J (11 + q) (.int .i64 (gg : Int))) (some_ne (Ne.symm hnJ))).below hbs)
      have A_1 := Lib.hid (Below.setCell (p := ⟨J, 11 + q, none⟩) A_0.out hJ (.int .i64 (gg : Int))).drew
      have T_1 := Lib.hid ((Tb.other T_0.out (grow_setCell v0 J (11 + q) (.int .i64 (gg : Int))) (some_ne hbJ)).below hbs)
      have U_1 := Lib.hid ((Tb.other U_0.out (grow_setCell v0 J (11 + q) (.int .i64 (gg : Int))) (some_ne hsJ)).below hbs)
      have Q_1 := Lib.hid ((Q_0.out.setDoer q hq2 (gg : Int)).below hbs)
      clear hbd hbs K_0 A_0 Q_0 T_0 U_0
      refine wp_region_held_drew (S := (fun V => V.cell? ⟨e0, 0, none⟩ = some (.int .i64 (gg : Int)) ∧ V.cell? ⟨e0, 1, none⟩ = some (.int .i64 13) ∧ V.cell? ⟨e0, 2, none⟩ = some (.int .i64 (q : Int)) ∧ V.cell? ⟨e0, 3, none⟩ = some (.int .i64 x3) ∧ V.cell? ⟨e0, 4, none⟩ = some (.int .i64 x4))) (by kernel_rfl) (Bx.cells5 KD.out) (fun hHeld => ?_)
      (try simp only [Act.put, List.getElem_toArray, List.getElem_cons_zero, List.getElem_cons_succ, List.setIfInBounds_toArray, List.set_cons_zero, List.set_cons_succ])
      refine takes [0, 1, 2, 3, 4, 5, 6, 7] (by kernel_rfl) (fun _ _ _ _ _ h => h) (by assumption) ?_
      iterate 8 (refine ally_cons (v := ?_) rfl (Or.inl ⟨?_, fun w hSw => ?_⟩) ?_; rotate_left; rfl; ((try dsimp only at hSw); go_simp; try with_reducible rfl); (try simp only [Act.put, List.getElem_toArray, List.getElem_cons_zero, List.getElem_cons_succ, List.setIfInBounds_toArray, List.set_cons_zero, List.set_cons_succ]))
      refine ally_nil ?_
      obtain ⟨old, hold⟩ := jc_doerAt _ _ _ _ _ QD.out.l8 QD.out.l2 q hq2
      have hcell := Bx.cell QD.out.box (11 + q) hold
      have hfz := Bx.froz QD.out.box (11 + q)
      refine wpAnyH_ready (rs := [8]) (by kernel_rfl) (by simp) ?_
      refine AllReadyH.cons (o := _) rfl (fun K hK => ?_) AllReadyH.nil
      skip
      go_simp
      clear hcell hfz hold old KD QD
      clear hHeld
      refine hK.out _ _ (Bx.cells5 K_1.out) (fun hHeld => ?_)
      clear hK K
      (try simp only [Act.put, List.getElem_toArray, List.getElem_cons_zero, List.getElem_cons_succ, List.setIfInBounds_toArray, List.set_cons_zero, List.set_cons_succ])
      refine wpAnyH_done (by kernel_rfl) ?_ _
      clear hHeld
      obtain ⟨v2, hv2⟩ : ∃ z, z = (v0.setCell ⟨J, 11 + q, none⟩ (.int .i64 (gg : Int))).drew := ⟨_, rfl⟩
      rw [← hv2] at K_1 A_1 Q_1 T_1 U_1 ⊢
      clear hv2
      go_upto_region 3 with (fail)
      have hbd : Below v2.heap.size v2 v2.drew := (Below.refl _ _).drew
      have KD := Lib.hid (K_1.out.below hbd)
      have QD := Lib.hid (Q_1.out.below hbd)
      have hbs : Below (v2.setCell ⟨J, 2 + gg, none⟩ (.int .i64 (k : Int))).heap.size (v2.setCell ⟨J, 2 + gg, none⟩ (.int .i64 (k : Int))) (v2.setCell ⟨J, 2 + gg, none⟩ (.int .i64 (k : Int))).drew := (Below.refl _ _).drew
      have K_2 := Lib.hid ((Bx.other K_1.out (grow_setCell v2 J (2 + gg) (.int .i64 (k : Int))) (some_ne (Ne.symm hnJ))).below hbs)
      have A_2 := Lib.hid (Below.setCell (p := ⟨J, 2 + gg, none⟩) A_1.out hJ (.int .i64 (k : Int))).drew
      have T_2 := Lib.hid ((Tb.other T_1.out (grow_setCell v2 J (2 + gg) (.int .i64 (k : Int))) (some_ne hbJ)).below hbs)
      have U_2 := Lib.hid ((Tb.other U_1.out (grow_setCell v2 J (2 + gg) (.int .i64 (k : Int))) (some_ne hsJ)).below hbs)
      have Q_2 := Lib.hid ((Q_1.out.setLast gg hg8 (k : Int)).below hbs)
      clear hbd hbs K_1 A_1 Q_1 T_1 U_1
      rw [HLE.out] at Q_2
      have hfx0 : IntKind.i64.wrap ((n1 : Int) - 1) = (k : Int) := by have h1 := HN1.out; rw [IntKind.wrap_i64]; omega
      refine wp_region_held_drew (S := (fun V => V.cell? ⟨e0, 0, none⟩ = some (.int .i64 (gg : Int)) ∧ V.cell? ⟨e0, 1, none⟩ = some (.int .i64 13) ∧ V.cell? ⟨e0, 2, none⟩ = some (.int .i64 (q : Int)) ∧ V.cell? ⟨e0, 3, none⟩ = some (.int .i64 x3) ∧ V.cell? ⟨e0, 4, none⟩ = some (.int .i64 x4))) (by kernel_rfl) (Bx.cells5 KD.out) (fun hHeld => ?_)
      (try simp only [Act.put, List.getElem_toArray, List.getElem_cons_zero, List.getElem_cons_succ, List.setIfInBounds_toArray, List.set_cons_zero, List.set_cons_succ])
      refine takes [0, 1, 2, 3, 4, 5, 6, 7, 8] (by kernel_rfl) (fun _ _ _ _ _ h => h) (by assumption) ?_
      iterate 9 (refine ally_cons (v := ?_) rfl (Or.inl ⟨?_, fun w hSw => ?_⟩) ?_; rotate_left; rfl; ((try dsimp only at hSw); go_simp; try with_reducible rfl); (try simp only [Act.put, List.getElem_toArray, List.getElem_cons_zero, List.getElem_cons_succ, List.setIfInBounds_toArray, List.set_cons_zero, List.set_cons_succ, hfx0]))
      refine ally_nil ?_
      obtain ⟨old, hold⟩ := jc_lastAt _ _ _ _ _ QD.out.l8 gg hg8
      have hcell := Bx.cell QD.out.box (2 + gg) hold
      have hfz := Bx.froz QD.out.box (2 + gg)
      refine wpAnyH_ready (rs := [9]) (by kernel_rfl) (by simp) ?_
      refine AllReadyH.cons (o := _) rfl (fun K hK => ?_) AllReadyH.nil
      skip
      go_simp
      clear hcell hfz hold old KD QD
      clear hHeld
      refine hK.out _ _ (Bx.cells5 K_2.out) (fun hHeld => ?_)
      clear hK K
      (try simp only [Act.put, List.getElem_toArray, List.getElem_cons_zero, List.getElem_cons_succ, List.setIfInBounds_toArray, List.set_cons_zero, List.set_cons_succ])
      refine wpAnyH_done (by kernel_rfl) ?_ _
      clear hHeld
      obtain ⟨v3, hv3⟩ : ∃ z, z = (v2.setCell ⟨J, 2 + gg, none⟩ (.int .i64 (k : Int))).drew := ⟨_, rfl⟩
      rw [← hv3] at K_2 A_2 Q_2 T_2 U_2 ⊢
      clear hv3
      go_upto_region 4 with (fail)
      have hbd : Below v3.heap.size v3 v3.drew := (Below.refl _ _).drew
      have K_3 := Lib.hid (K_2.out.below hbd)
      have A_3 := Lib.hid (A_2.out.drew)
      have T_3 := Lib.hid (T_2.out.below hbd)
      have U_3 := Lib.hid (U_2.out.below hbd)
      have Q_3 := Lib.hid (Q_2.out.below hbd)
      clear hbd K_2 A_2 Q_2 T_2 U_2
      obtain ⟨st, w1, r1, g1, q1, r2⟩ := Q_3.out.cnt.entry 13 (q : Int) b2 b3 (by unfold maxLen; omega)
      obtain ⟨w2, r3, g2, g3, q2⟩ := r2 (c + 1) (by unfold I64; omega)
      clear r2
      have hlook := Q_3.out.cnt.look 13 (q : Int) b2 b3
      have hlook2 := q1.look 13 (q : Int) b2 b3
      rw [HCC.out] at hlook hlook2 r1
      have hs3 : w0.heap.size ≤ v3.drew.heap.size := A_3.out.size
      have hfx1 : IntKind.i64.wrap (c + 1) = c + 1 := by rw [IntKind.wrap_i64]; omega
      have hmp := Bx.cell Q_3.out.box 10 (jc_map _ _ _ _ _ Q_3.out.l8)
      have K1 := Lib.hid (Bx.other K_3.out g1 (some_ne (Ne.symm hnM)))
      have K_4 := Lib.hid (Bx.other K_3.out g2 (some_ne (Ne.symm hnM)))
      have A_4 := Lib.hid (below_grown A_3.out g2 hM hs3)
      have T_4 := Lib.hid (Tb.other T_3.out g2 (some_ne hbM))
      have U_4 := Lib.hid (Tb.other U_3.out g2 (some_ne hsM))
      have Q_4 := Lib.hid (Q_3.out.setCnt g2 q2)
      rw [HCN.out] at Q_4
      have sone := Bx.cell (Q_3.out.setCnt g1 q1).box 10 (jc_map _ _ _ _ _ Q_3.out.l8)
      clear g1 g2 g3 q1 q2
      have S0 := Lib.hid (show v3.drew.cell? ⟨J, 10, none⟩ = _ from hmp)
      have S1 := Lib.hid (show w1.cell? ⟨J, 10, none⟩ = some (.map (some p.M)) from sone)
      have S2 := Lib.hid (show w2.cell? ⟨J, 10, none⟩ = some (.map (some p.M)) from Bx.cell Q_4.out.box 10 (jc_map _ _ _ _ _ Q_4.out.l8))
      clear hmp sone
      refine wp_region_held_drew (S := (fun V => V.cell? ⟨e0, 0, none⟩ = some (.int .i64 (gg : Int)) ∧ V.cell? ⟨e0, 1, none⟩ = some (.int .i64 13) ∧ V.cell? ⟨e0, 2, none⟩ = some (.int .i64 (q : Int)) ∧ V.cell? ⟨e0, 3, none⟩ = some (.int .i64 x3) ∧ V.cell? ⟨e0, 4, none⟩ = some (.int .i64 x4) ∧ V.cell? ⟨J, 10, none⟩ = some (.map (some p.M)))) (by kernel_rfl) (show _ from by obtain ⟨z0, z1, z2, z3, z4⟩ := Bx.cells5 K_3.out; exact ⟨z0, z1, z2, z3, z4, S0.out⟩) (fun hHeld => ?_)
      (try simp only [Act.put, List.getElem_toArray, List.getElem_cons_zero, List.getElem_cons_succ, List.setIfInBounds_toArray, List.set_cons_zero, List.set_cons_succ])
      refine takes [0, 1, 2, 3, 4, 5, 6, 7, 8] (by kernel_rfl) (fun _ _ _ _ _ h => h) (by assumption) ?_
      iterate 9 (refine ally_cons (v := ?_) rfl (Or.inl ⟨?_, fun w hSw => ?_⟩) ?_; rotate_left; rfl; ((try dsimp only at hSw); go_simp; try with_reducible rfl); (try simp only [Act.put, List.getElem_toArray, List.getElem_cons_zero, List.getElem_cons_succ, List.setIfInBounds_toArray, List.set_cons_zero, List.set_cons_succ]))
      refine ally_nil ?_
      refine wpAnyH_ready (rs := [9, 11]) (by kernel_rfl) (by simp) ?_
      refine AllReadyH.cons (o := _) rfl (fun K hK => ?_) (AllReadyH.cons (o := _) rfl (fun K hK => ?_) AllReadyH.nil)
      · go_simp
        clear hHeld
        refine hK.out _ _ (show _ from by obtain ⟨z0, z1, z2, z3, z4⟩ := Bx.cells5 K_3.out; exact ⟨z0, z1, z2, z3, z4, S0.out⟩) (fun hHeld => ?_)
        clear hK K
        (try simp only [Act.put, List.getElem_toArray, List.getElem_cons_zero, List.getElem_cons_succ, List.setIfInBounds_toArray, List.set_cons_zero, List.set_cons_succ])
        refine takes [10] (by kernel_rfl) (fun _ _ _ _ _ h => h) (by assumption) ?_
        iterate 1 (refine ally_cons (v := ?_) rfl (Or.inl ⟨?_, fun w hSw => ?_⟩) ?_; rotate_left; rfl; ((try dsimp only at hSw); go_simp; try with_reducible rfl); (try simp only [Act.put, List.getElem_toArray, List.getElem_cons_zero, List.getElem_cons_succ, List.setIfInBounds_toArray, List.set_cons_zero, List.set_cons_succ, hfx1]))
        refine ally_nil ?_
        refine wpAnyH_ready (rs := [11]) (by kernel_rfl) (by simp) ?_
        refine AllReadyH.cons (o := _) rfl (fun K hK => ?_) AllReadyH.nil
        go_simp
        clear hHeld
        refine hK.out _ _ (show _ from by obtain ⟨z0, z1, z2, z3, z4⟩ := Bx.cells5 K1.out; exact ⟨z0, z1, z2, z3, z4, S1.out⟩) (fun hHeld => ?_)
        clear hK K
        (try simp only [Act.put, List.getElem_toArray, List.getElem_cons_zero, List.getElem_cons_succ, List.setIfInBounds_toArray, List.set_cons_zero, List.set_cons_succ])
        refine takes [12] (by kernel_rfl) (fun _ _ _ _ _ h => h) (by assumption) ?_
        iterate 1 (refine ally_cons (v := ?_) rfl (Or.inl ⟨?_, fun w hSw => ?_⟩) ?_; rotate_left; rfl; ((try dsimp only at hSw); go_simp; try with_reducible rfl); (try simp only [Act.put, List.getElem_toArray, List.getElem_cons_zero, List.getElem_cons_succ, List.setIfInBounds_toArray, List.set_cons_zero, List.set_cons_succ]))
        refine ally_nil ?_
        refine wpAnyH_ready (rs := [13]) (by kernel_rfl) (by simp) ?_
        refine AllReadyH.cons (o := _) rfl (fun K hK => ?_) AllReadyH.nil
        go_simp
        clear hHeld
        refine hK.out _ _ (show _ from by obtain ⟨z0, z1, z2, z3, z4⟩ := Bx.cells5 K_4.out; exact ⟨z0, z1, z2, z3, z4, S2.out⟩) (fun hHeld => ?_)
        clear hK K
        (try simp only [Act.put, List.getElem_toArray, List.getElem_cons_zero, List.getElem_cons_succ, List.setIfInBounds_toArray, List.set_cons_zero, List.set_cons_succ])
        refine wpAnyH_done (by kernel_rfl) ?_ _
        clear hHeld
        clear S0 S1 S2 r1 r3 hlook hlook2 K1 K_3 A_3 Q_3 T_3 U_3 hs3
        go_upto_region 5 with (fail)
        have hah := Bx.cell Q_4.out.box 1 rfl
        have hfz := Bx.froz Q_4.out.box 1
        go_wp2_with fail
        refine bodyPost_end (v := .tuple #[]) (results_none (by rfl) _ _ _) rfl ?_
        rw [HN1.out]
        exact ⟨rfl, (Below.setCell (p := ⟨J, 1, none⟩) A_4.out hJ _), by rw [← HDF.out]; exact Q_4.out.setAhead _, Tb.other T_4.out (grow_setCell w2 J 1 _) (some_ne hbJ), Tb.other U_4.out (grow_setCell w2 J 1 _) (some_ne hsJ)⟩
      · go_simp
        clear hHeld
        refine hK.out _ _ (show _ from by obtain ⟨z0, z1, z2, z3, z4⟩ := Bx.cells5 K1.out; exact ⟨z0, z1, z2, z3, z4, S1.out⟩) (fun hHeld => ?_)
        clear hK K
        (try simp only [Act.put, List.getElem_toArray, List.getElem_cons_zero, List.getElem_cons_succ, List.setIfInBounds_toArray, List.set_cons_zero, List.set_cons_succ])
        refine takes [12] (by kernel_rfl) (fun _ _ _ _ _ h => h) (by assumption) ?_
        iterate 1 (refine ally_cons (v := ?_) rfl (Or.inl ⟨?_, fun w hSw => ?_⟩) ?_; rotate_left; rfl; ((try dsimp only at hSw); go_simp; try with_reducible rfl); (try simp only [Act.put, List.getElem_toArray, List.getElem_cons_zero, List.getElem_cons_succ, List.setIfInBounds_toArray, List.set_cons_zero, List.set_cons_succ]))
        refine ally_nil ?_
        refine wpAnyH_ready (rs := [9]) (by kernel_rfl) (by simp) ?_
        refine AllReadyH.cons (o := _) rfl (fun K hK => ?_) AllReadyH.nil
        go_simp
        clear hHeld
        refine hK.out _ _ (show _ from by obtain ⟨z0, z1, z2, z3, z4⟩ := Bx.cells5 K1.out; exact ⟨z0, z1, z2, z3, z4, S1.out⟩) (fun hHeld => ?_)
        clear hK K
        (try simp only [Act.put, List.getElem_toArray, List.getElem_cons_zero, List.getElem_cons_succ, List.setIfInBounds_toArray, List.set_cons_zero, List.set_cons_succ])
        refine takes [10] (by kernel_rfl) (fun _ _ _ _ _ h => h) (by assumption) ?_
        iterate 1 (refine ally_cons (v := ?_) rfl (Or.inl ⟨?_, fun w hSw => ?_⟩) ?_; rotate_left; rfl; ((try dsimp only at hSw); go_simp; try with_reducible rfl); (try simp only [Act.put, List.getElem_toArray, List.getElem_cons_zero, List.getElem_cons_succ, List.setIfInBounds_toArray, List.set_cons_zero, List.set_cons_succ, hfx1]))
        refine ally_nil ?_
        refine wpAnyH_ready (rs := [13]) (by kernel_rfl) (by simp) ?_
        refine AllReadyH.cons (o := _) rfl (fun K hK => ?_) AllReadyH.nil
        go_simp
        clear hHeld
        refine hK.out _ _ (show _ from by obtain ⟨z0, z1, z2, z3, z4⟩ := Bx.cells5 K_4.out; exact ⟨z0, z1, z2, z3, z4, S2.out⟩) (fun hHeld => ?_)
        clear hK K
        (try simp only [Act.put, List.getElem_toArray, List.getElem_cons_zero, List.getElem_cons_succ, List.setIfInBounds_toArray, List.set_cons_zero, List.set_cons_succ])
        refine wpAnyH_done (by kernel_rfl) ?_ _
        clear hHeld
        clear S0 S1 S2 r1 r3 hlook hlook2 K1 K_3 A_3 Q_3 T_3 U_3 hs3
        go_upto_region 5 with (fail)
        have hah := Bx.cell Q_4.out.box 1 rfl
        have hfz := Bx.froz Q_4.out.box 1
        go_wp2_with fail
        refine bodyPost_end (v := .tuple #[]) (results_none (by rfl) _ _ _) rfl ?_
        rw [HN1.out]
        exact ⟨rfl, (Below.setCell (p := ⟨J, 1, none⟩) A_4.out hJ _), by rw [← HDF.out]; exact Q_4.out.setAhead _, Tb.other T_4.out (grow_setCell w2 J 1 _) (some_ne hbJ), Tb.other U_4.out (grow_setCell w2 J 1 _) (some_ne hsJ)⟩
    · obtain ⟨d0f1, d0f2⟩ := ne_facts d0
      have HDF := Lib.hid (HDS.out (fun h => d0 (HCC.out.symm.trans h.2)))
      go_upto_region 3 with (fail)
      clear z0 z1 z2 z3 z4
      have hbd : Below v0.heap.size v0 v0.drew := (Below.refl _ _).drew
      have KD := Lib.hid (K_0.out.below hbd)
      have QD := Lib.hid (Q_0.out.below hbd)
      have hbs : Below (v0.setCell ⟨J, 2 + gg, none⟩ (.int .i64 (k : Int))).heap.size (v0.setCell ⟨J, 2 + gg, none⟩ (.int .i64 (k : Int))) (v0.setCell ⟨J, 2 + gg, none⟩ (.int .i64 (k : Int))).drew := (Below.refl _ _).drew
      have K_1 := Lib.hid ((Bx.other K_0.out (grow_setCell v0 J (2 + gg) (.int .i64 (k : Int))) (some_ne (Ne.symm hnJ))).below hbs)
      have A_1 := Lib.hid (Below.setCell (p := ⟨J, 2 + gg, none⟩) A_0.out hJ (.int .i64 (k : Int))).drew
      have T_1 := Lib.hid ((Tb.other T_0.out (grow_setCell v0 J (2 + gg) (.int .i64 (k : Int))) (some_ne hbJ)).below hbs)
      have U_1 := Lib.hid ((Tb.other U_0.out (grow_setCell v0 J (2 + gg) (.int .i64 (k : Int))) (some_ne hsJ)).below hbs)
      have Q_1 := Lib.hid ((Q_0.out.setLast gg hg8 (k : Int)).below hbs)
      clear hbd hbs K_0 A_0 Q_0 T_0 U_0
      rw [HLE.out] at Q_1
      have hfx0 : IntKind.i64.wrap ((n1 : Int) - 1) = (k : Int) := by have h1 := HN1.out; rw [IntKind.wrap_i64]; omega
      refine wp_region_held_drew (S := (fun V => V.cell? ⟨e0, 0, none⟩ = some (.int .i64 (gg : Int)) ∧ V.cell? ⟨e0, 1, none⟩ = some (.int .i64 13) ∧ V.cell? ⟨e0, 2, none⟩ = some (.int .i64 (q : Int)) ∧ V.cell? ⟨e0, 3, none⟩ = some (.int .i64 x3) ∧ V.cell? ⟨e0, 4, none⟩ = some (.int .i64 x4))) (by kernel_rfl) (Bx.cells5 KD.out) (fun hHeld => ?_)
      (try simp only [Act.put, List.getElem_toArray, List.getElem_cons_zero, List.getElem_cons_succ, List.setIfInBounds_toArray, List.set_cons_zero, List.set_cons_succ])
      refine takes [0, 1, 2, 3, 4, 5, 6, 7, 8] (by kernel_rfl) (fun _ _ _ _ _ h => h) (by assumption) ?_
      iterate 9 (refine ally_cons (v := ?_) rfl (Or.inl ⟨?_, fun w hSw => ?_⟩) ?_; rotate_left; rfl; ((try dsimp only at hSw); go_simp; try with_reducible rfl); (try simp only [Act.put, List.getElem_toArray, List.getElem_cons_zero, List.getElem_cons_succ, List.setIfInBounds_toArray, List.set_cons_zero, List.set_cons_succ, hfx0]))
      refine ally_nil ?_
      obtain ⟨old, hold⟩ := jc_lastAt _ _ _ _ _ QD.out.l8 gg hg8
      have hcell := Bx.cell QD.out.box (2 + gg) hold
      have hfz := Bx.froz QD.out.box (2 + gg)
      refine wpAnyH_ready (rs := [9]) (by kernel_rfl) (by simp) ?_
      refine AllReadyH.cons (o := _) rfl (fun K hK => ?_) AllReadyH.nil
      skip
      go_simp
      clear hcell hfz hold old KD QD
      clear hHeld
      refine hK.out _ _ (Bx.cells5 K_1.out) (fun hHeld => ?_)
      clear hK K
      (try simp only [Act.put, List.getElem_toArray, List.getElem_cons_zero, List.getElem_cons_succ, List.setIfInBounds_toArray, List.set_cons_zero, List.set_cons_succ])
      refine wpAnyH_done (by kernel_rfl) ?_ _
      clear hHeld
      obtain ⟨v3, hv3⟩ : ∃ z, z = (v0.setCell ⟨J, 2 + gg, none⟩ (.int .i64 (k : Int))).drew := ⟨_, rfl⟩
      rw [← hv3] at K_1 A_1 Q_1 T_1 U_1 ⊢
      clear hv3
      go_upto_region 4 with (fail)
      have hbd : Below v3.heap.size v3 v3.drew := (Below.refl _ _).drew
      have K_2 := Lib.hid (K_1.out.below hbd)
      have A_2 := Lib.hid (A_1.out.drew)
      have T_2 := Lib.hid (T_1.out.below hbd)
      have U_2 := Lib.hid (U_1.out.below hbd)
      have Q_2 := Lib.hid (Q_1.out.below hbd)
      clear hbd K_1 A_1 Q_1 T_1 U_1
      obtain ⟨st, w1, r1, g1, q1, r2⟩ := Q_2.out.cnt.entry 13 (q : Int) b2 b3 (by unfold maxLen; omega)
      obtain ⟨w2, r3, g2, g3, q2⟩ := r2 (c + 1) (by unfold I64; omega)
      clear r2
      have hlook := Q_2.out.cnt.look 13 (q : Int) b2 b3
      have hlook2 := q1.look 13 (q : Int) b2 b3
      rw [HCC.out] at hlook hlook2 r1
      have hs3 : w0.heap.size ≤ v3.drew.heap.size := A_2.out.size
      have hfx1 : IntKind.i64.wrap (c + 1) = c + 1 := by rw [IntKind.wrap_i64]; omega
      have hmp := Bx.cell Q_2.out.box 10 (jc_map _ _ _ _ _ Q_2.out.l8)
      have K1 := Lib.hid (Bx.other K_2.out g1 (some_ne (Ne.symm hnM)))
      have K_3 := Lib.hid (Bx.other K_2.out g2 (some_ne (Ne.symm hnM)))
      have A_3 := Lib.hid (below_grown A_2.out g2 hM hs3)
      have T_3 := Lib.hid (Tb.other T_2.out g2 (some_ne hbM))
      have U_3 := Lib.hid (Tb.other U_2.out g2 (some_ne hsM))
      have Q_3 := Lib.hid (Q_2.out.setCnt g2 q2)
      rw [HCN.out] at Q_3
      have sone := Bx.cell (Q_2.out.setCnt g1 q1).box 10 (jc_map _ _ _ _ _ Q_2.out.l8)
      clear g1 g2 g3 q1 q2
      have S0 := Lib.hid (show v3.drew.cell? ⟨J, 10, none⟩ = _ from hmp)
      have S1 := Lib.hid (show w1.cell? ⟨J, 10, none⟩ = some (.map (some p.M)) from sone)
      have S2 := Lib.hid (show w2.cell? ⟨J, 10, none⟩ = some (.map (some p.M)) from Bx.cell Q_3.out.box 10 (jc_map _ _ _ _ _ Q_3.out.l8))
      clear hmp sone
      refine wp_region_held_drew (S := (fun V => V.cell? ⟨e0, 0, none⟩ = some (.int .i64 (gg : Int)) ∧ V.cell? ⟨e0, 1, none⟩ = some (.int .i64 13) ∧ V.cell? ⟨e0, 2, none⟩ = some (.int .i64 (q : Int)) ∧ V.cell? ⟨e0, 3, none⟩ = some (.int .i64 x3) ∧ V.cell? ⟨e0, 4, none⟩ = some (.int .i64 x4) ∧ V.cell? ⟨J, 10, none⟩ = some (.map (some p.M)))) (by kernel_rfl) (show _ from by obtain ⟨z0, z1, z2, z3, z4⟩ := Bx.cells5 K_2.out; exact ⟨z0, z1, z2, z3, z4, S0.out⟩) (fun hHeld => ?_)
      (try simp only [Act.put, List.getElem_toArray, List.getElem_cons_zero, List.getElem_cons_succ, List.setIfInBounds_toArray, List.set_cons_zero, List.set_cons_succ])
      refine takes [0, 1, 2, 3, 4, 5, 6, 7, 8] (by kernel_rfl) (fun _ _ _ _ _ h => h) (by assumption) ?_
      iterate 9 (refine ally_cons (v := ?_) rfl (Or.inl ⟨?_, fun w hSw => ?_⟩) ?_; rotate_left; rfl; ((try dsimp only at hSw); go_simp; try with_reducible rfl); (try simp only [Act.put, List.getElem_toArray, List.getElem_cons_zero, List.getElem_cons_succ, List.setIfInBounds_toArray, List.set_cons_zero, List.set_cons_succ]))
      refine ally_nil ?_
      refine wpAnyH_ready (rs := [9, 11]) (by kernel_rfl) (by simp) ?_
      refine AllReadyH.cons (o := _) rfl (fun K hK => ?_) (AllReadyH.cons (o := _) rfl (fun K hK => ?_) AllReadyH.nil)
      · go_simp
        clear hHeld
        refine hK.out _ _ (show _ from by obtain ⟨z0, z1, z2, z3, z4⟩ := Bx.cells5 K_2.out; exact ⟨z0, z1, z2, z3, z4, S0.out⟩) (fun hHeld => ?_)
        clear hK K
        (try simp only [Act.put, List.getElem_toArray, List.getElem_cons_zero, List.getElem_cons_succ, List.setIfInBounds_toArray, List.set_cons_zero, List.set_cons_succ])
        refine takes [10] (by kernel_rfl) (fun _ _ _ _ _ h => h) (by assumption) ?_
        iterate 1 (refine ally_cons (v := ?_) rfl (Or.inl ⟨?_, fun w hSw => ?_⟩) ?_; rotate_left; rfl; ((try dsimp only at hSw); go_simp; try with_reducible rfl); (try simp only [Act.put, List.getElem_toArray, List.getElem_cons_zero, List.getElem_cons_succ, List.setIfInBounds_toArray, List.set_cons_zero, List.set_cons_succ, hfx1]))
        refine ally_nil ?_
        refine wpAnyH_ready (rs := [11]) (by kernel_rfl) (by simp) ?_
        refine AllReadyH.cons (o := _) rfl (fun K hK => ?_) AllReadyH.nil
        go_simp
        clear hHeld
        refine hK.out _ _ (show _ from by obtain ⟨z0, z1, z2, z3, z4⟩ := Bx.cells5 K1.out; exact ⟨z0, z1, z2, z3, z4, S1.out⟩) (fun hHeld => ?_)
        clear hK K
        (try simp only [Act.put, List.getElem_toArray, List.getElem_cons_zero, List.getElem_cons_succ, List.setIfInBounds_toArray, List.set_cons_zero, List.set_cons_succ])
        refine takes [12] (by kernel_rfl) (fun _ _ _ _ _ h => h) (by assumption) ?_
        iterate 1 (refine ally_cons (v := ?_) rfl (Or.inl ⟨?_, fun w hSw => ?_⟩) ?_; rotate_left; rfl; ((try dsimp only at hSw); go_simp; try with_reducible rfl); (try simp only [Act.put, List.getElem_toArray, List.getElem_cons_zero, List.getElem_cons_succ, List.setIfInBounds_toArray, List.set_cons_zero, List.set_cons_succ]))
        refine ally_nil ?_
        refine wpAnyH_ready (rs := [13]) (by kernel_rfl) (by simp) ?_
        refine AllReadyH.cons (o := _) rfl (fun K hK => ?_) AllReadyH.nil
        go_simp
        clear hHeld
        refine hK.out _ _ (show _ from by obtain ⟨z0, z1, z2, z3, z4⟩ := Bx.cells5 K_3.out; exact ⟨z0, z1, z2, z3, z4, S2.out⟩) (fun hHeld => ?_)
        clear hK K
        (try simp only [Act.put, List.getElem_toArray, List.getElem_cons_zero, List.getElem_cons_succ, List.setIfInBounds_toArray, List.set_cons_zero, List.set_cons_succ])
        refine wpAnyH_done (by kernel_rfl) ?_ _
        clear hHeld
        clear S0 S1 S2 r1 r3 hlook hlook2 K1 K_2 A_2 Q_2 T_2 U_2 hs3
        go_upto_region 5 with (fail)
        have hah := Bx.cell Q_3.out.box 1 rfl
        have hfz := Bx.froz Q_3.out.box 1
        go_wp2_with fail
        refine bodyPost_end (v := .tuple #[]) (results_none (by rfl) _ _ _) rfl ?_
        rw [HN1.out]
        exact ⟨rfl, (Below.setCell (p := ⟨J, 1, none⟩) A_3.out hJ _), by rw [← HDF.out]; exact Q_3.out.setAhead _, Tb.other T_3.out (grow_setCell w2 J 1 _) (some_ne hbJ), Tb.other U_3.out (grow_setCell w2 J 1 _) (some_ne hsJ)⟩
      · go_simp
        clear hHeld
        refine hK.out _ _ (show _ from by obtain ⟨z0, z1, z2, z3, z4⟩ := Bx.cells5 K1.out; exact ⟨z0, z1, z2, z3, z4, S1.out⟩) (fun hHeld => ?_)
        clear hK K
        (try simp only [Act.put, List.getElem_toArray, List.getElem_cons_zero, List.getElem_cons_succ, List.setIfInBounds_toArray, List.set_cons_zero, List.set_cons_succ])
        refine takes [12] (by kernel_rfl) (fun _ _ _ _ _ h => h) (by assumption) ?_
        iterate 1 (refine ally_cons (v := ?_) rfl (Or.inl ⟨?_, fun w hSw => ?_⟩) ?_; rotate_left; rfl; ((try dsimp only at hSw); go_simp; try with_reducible rfl); (try simp only [Act.put, List.getElem_toArray, List.getElem_cons_zero, List.getElem_cons_succ, List.setIfInBounds_toArray, List.set_cons_zero, List.set_cons_succ]))
        refine ally_nil ?_
        refine wpAnyH_ready (rs := [9]) (by kernel_rfl) (by simp) ?_
        refine AllReadyH.cons (o := _) rfl (fun K hK => ?_) AllReadyH.nil
        go_simp
        clear hHeld
        refine hK.out _ _ (show _ from by obtain ⟨z0, z1, z2, z3, z4⟩ := Bx.cells5 K1.out; exact ⟨z0, z1, z2, z3, z4, S1.out⟩) (fun hHeld => ?_)
        clear hK K
        (try simp only [Act.put, List.getElem_toArray, List.getElem_cons_zero, List.getElem_cons_succ, List.setIfInBounds_toArray, List.set_cons_zero, List.set_cons_succ])
        refine takes [10] (by kernel_rfl) (fun _ _ _ _ _ h => h) (by assumption) ?_
        iterate 1 (refine ally_cons (v := ?_) rfl (Or.inl ⟨?_, fun w hSw => ?_⟩) ?_; rotate_left; rfl; ((try dsimp only at hSw); go_simp; try with_reducible rfl); (try simp only [Act.put, List.getElem_toArray, List.getElem_cons_zero, List.getElem_cons_succ, List.setIfInBounds_toArray, List.set_cons_zero, List.set_cons_succ, hfx1]))
        refine ally_nil ?_
        refine wpAnyH_ready (rs := [13]) (by kernel_rfl) (by simp) ?_
        refine AllReadyH.cons (o := _) rfl (fun K hK => ?_) AllReadyH.nil
        go_simp
        clear hHeld
        refine hK.out _ _ (show _ from by obtain ⟨z0, z1, z2, z3, z4⟩ := Bx.cells5 K_3.out; exact ⟨z0, z1, z2, z3, z4, S2.out⟩) (fun hHeld => ?_)
        clear hK K
        (try simp only [Act.put, List.getElem_toArray, List.getElem_cons_zero, List.getElem_cons_succ, List.setIfInBounds_toArray, List.set_cons_zero, List.set_cons_succ])
        refine wpAnyH_done (by kernel_rfl) ?_ _
        clear hHeld
        clear S0 S1 S2 r1 r3 hlook hlook2 K1 K_2 A_2 Q_2 T_2 U_2 hs3
        go_upto_region 5 with (fail)
        have hah := Bx.cell Q_3.out.box 1 rfl
        have hfz := Bx.froz Q_3.out.box 1
        go_wp2_with fail
        refine bodyPost_end (v := .tuple #[]) (results_none (by rfl) _ _ _) rfl ?_
        rw [HN1.out]
        exact ⟨rfl, (Below.setCell (p := ⟨J, 1, none⟩) A_3.out hJ _), by rw [← HDF.out]; exact Q_3.out.setAhead _, Tb.other T_3.out (grow_setCell w2 J 1 _) (some_ne hbJ), Tb.other U_3.out (grow_setCell w2 J 1 _) (some_ne hsJ)⟩
end Go.Proofs.Ytjkbmenmpnidhaa
