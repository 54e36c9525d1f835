/- CodeGrows: the walk. -/
import Derived.Test.YtddkckppmjcclaaI1
import Derived.Test.YtddkckppmjcclaaLawEncodes
namespace Go.Proofs.Ytddkckppmjcclaa
open Go.RowKit
set_option linter.unusedSimpArgs false
set_option linter.unusedVariables false
theorem ownR_emptyG {α : Type} {k : Nat} {enc : α → List Value} (e : Nat) (w : World) : OwnR e k enc (w.alloc (.cells #[] e)) w.heap.size (.slice (some ⟨w.heap.size, 0, none⟩) 0 0) ([] : List α) :=
  ⟨by simp, .inr ⟨w.heap.size, 0, #[], rfl, Nat.le_refl _, heap_alloc_new w _, Nat.le_refl _, by decide, by simp, by simp⟩⟩
theorem recs_lt {α : Type} {enc : α → List Value} {k : Nat} {w : World} {g : Nat} {x : α} {v : Value} (h : Recs (k + 1) enc w (some ⟨g, 0, none⟩) 1 1 [x]) (hv : (enc x)[0]? = some v) : g < w.heap.size := by
  obtain ⟨b, off, e, hc⟩ := h.cell 0 x rfl
  cases e
  exact World.block_lt_of_cell? _ _ (hc 0 _ hv)
theorem own_box {w : World} {base g n c : Nat} {L : List RBlk} (h : OwnR 42 1 encB w base (.slice (some ⟨g, 0, none⟩) n c) L) : ∃ cur, Bx w g cur 42 := by
  rcases h.2 with ⟨hv, _⟩ | ⟨g', cap, cur, hv, hb, hh, _⟩
  · cases hv
  · injection hv with e1 e2 e3
    injection e1 with e1
    injection e1 with e1
    subst e1
    exact ⟨cur, hh⟩
theorem all2_unsnoc {α β : Type} {R : α → β → Prop} : ∀ {X : List α} {Y : List β} {x : α} {y : β}, All2 R (X ++ [x]) (Y ++ [y]) → All2 R X Y ∧ R x y
  | [], [], x, y, h => ⟨trivial, h.1⟩
  | [], y' :: Y, x, y, h => by have := All2.len h; simp at this
  | x' :: X, [], x, y, h => by have := All2.len h; simp at this
  | x' :: X, y' :: Y, x, y, h => by
    obtain ⟨h1, h2⟩ := all2_unsnoc (X := X) (Y := Y) h.2
    exact ⟨⟨h.1, h1⟩, h2⟩
theorem bytes_txE {p : Pr} (hr : rightP p = true) : tx (bytesP p) = allL (numL p) := tx_strOf _ (allL_byt _ (List.all_eq_true.1 (numL_all hr)))
set_option maxRecDepth 100000 in
set_option maxHeartbeats 8000000 in
theorem grows_bad (p0 : Pr) (q0 : PAt) (w : World) (h : Prg w p0 q0) (hr : rightP (fewP p0) = false) : Calls Try.prog 7 #[prV p0 q0] w (Says w) := by
  have B_0 := Lib.hid (below_alloc w (.cells (prC p0 q0) 26))
  have K_0 := Lib.hid (Bx.new w (prC p0 q0) 26)
  have HF := Lib.hid (few_any p0 q0 w _ h B_0.out)
  obtain ⟨p, hpe⟩ : ∃ p, p = fewP p0 := ⟨_, rfl⟩
  rw [← hpe] at HF hr
  unfold GotP at HF
  clear h hpe
  go_enter Try.func7, Try.ntmps7
  go_wp2_with fail
  refine HF.out.mono ?_
  rintro e w1 ⟨q, rfl, hp, hb⟩
  have K_1 := Lib.hid (K_0.out.below hb); have B_1 := Lib.hid (B_0.out.trans (Below.mono hb B_0.out.size)); have HP := Lib.hid hp
  clear hb hp
  obtain ⟨BK, hBK⟩ : ∃ x, x = w.heap.size := ⟨_, rfl⟩
  have HBK := Lib.hid hBK
  rw [← hBK] at K_1 ⊢
  clear hBK K_0 B_0 HF
  obtain ⟨k0, k1, k2, k3, k4, k5⟩ := K_1.out.cells6
  have lk := Bx.lt K_1.out
  have f0 := Bx.froz K_1.out 0; have f1 := Bx.froz K_1.out 1; have f2 := Bx.froz K_1.out 2; have f3 := Bx.froz K_1.out 3; have f4 := Bx.froz K_1.out 4; have f5 := Bx.froz K_1.out 5
  go_upto_region 2 with (fail)
  have hbk := HBK.out
  obtain ⟨X2, hX2⟩ : ∃ x, x = st6 w1 BK (.slice q.ca q.cn q.cc) (.int .i64 p.mu) (.int .i64 p.on) (.int .i64 p.va) (.slice q.sa q.sn q.sc) (.slice q.ba q.bn q.bc) := ⟨_, rfl⟩
  have B := Lib.hid (show Below w.heap.size w X2 by rw [hX2]; exact B_1.out.trans (below_grown (grown_st6 (World.grownBy.refl w1 (some BK)) _ _ _ _ _ _) (by omega) B_1.out.size))
  have K := Lib.hid (show Bx X2 BK (prC p q) 26 by rw [hX2]; exact K_1.out.st6 _ _ _ _ _ _)
  have P := Lib.hid (HP.out X2 B.out (fun g hg => by
    rw [hX2]
    by_cases hgs : g < w1.heap.size
    · exact (grown_st6 (World.grownBy.refl w1 (some BK)) _ _ _ _ _ _).block g hgs (some_ne (by simp at hg; omega))
    · have hsz := st6_size w1 BK (.slice q.ca q.cn q.cc) (.int .i64 p.mu) (.int .i64 p.on) (.int .i64 p.va) (.slice q.sa q.sn q.sc) (.slice q.ba q.bn q.bc)
      rw [Array.getElem?_eq_none (by rw [hsz]; omega), Array.getElem?_eq_none (by omega)]))
  simp only [st6] at hX2
  rw [← hX2]
  clear hX2 hbk k0 k1 k2 k3 k4 k5 lk f0 f1 f2 f3 f4 f5 K_1 B_1 HP
  have HE := Lib.hid (fun W H => Size_no p q W H hr)
  clear hr
  obtain ⟨k0, k1, k2, k3, k4, k5⟩ := K.out.cells6
  go_wp2_with fail
  clear k0 k1 k2 k3 k4 k5
  refine (HE.out _ P.out).mono ?_
  rintro e w11 ⟨rfl, hb⟩
  have Kn := Lib.hid (K.out.below hb); have Pn := Lib.hid (P.out.below hb); have Bn := Lib.hid (B.out.trans (Below.mono hb B.out.size))
  clear hb K P B
  have K := Kn; have P := Pn; have B := Bn
  clear Kn Pn Bn
  obtain ⟨k0, k1, k2, k3, k4, k5⟩ := K.out.cells6
  go_wp2_with fail
  clear k0 k1 k2 k3 k4 k5
  refine (alive_any _).mono ?_
  rintro e w12 ⟨rfl, hb⟩
  have Kn := Lib.hid (K.out.below hb); have Pn := Lib.hid (P.out.below hb); have Bn := Lib.hid (B.out.trans (Below.mono hb B.out.size))
  clear hb K P B
  have K := Kn; have P := Pn; have B := Bn
  clear Kn Pn Bn
  go_wp2_with fail
  go_ret
  exact ⟨ret_bool (by first | rfl | simp), B.out⟩
set_option maxRecDepth 100000 in
set_option maxHeartbeats 80000000 in
theorem grows_ok (p0 : Pr) (q0 : PAt) (w : World) (h : Prg w p0 q0) (hr : rightP (fewP p0) = true) : Calls Try.prog 7 #[prV p0 q0] w (Says w) := by
  have B_0 := Lib.hid (below_alloc w (.cells (prC p0 q0) 26))
  have K_0 := Lib.hid (Bx.new w (prC p0 q0) 26)
  have HF := Lib.hid (few_any p0 q0 w _ h B_0.out)
  obtain ⟨p, hpe⟩ : ∃ p, p = fewP p0 := ⟨_, rfl⟩
  rw [← hpe] at HF hr
  unfold GotP at HF
  clear h hpe
  go_enter Try.func7, Try.ntmps7
  go_wp2_with fail
  refine HF.out.mono ?_
  rintro e w1 ⟨q, rfl, hp, hb⟩
  have K_1 := Lib.hid (K_0.out.below hb); have B_1 := Lib.hid (B_0.out.trans (Below.mono hb B_0.out.size)); have HP := Lib.hid hp
  clear hb hp
  obtain ⟨BK, hBK⟩ : ∃ x, x = w.heap.size := ⟨_, rfl⟩
  have HBK := Lib.hid hBK
  rw [← hBK] at K_1 ⊢
  clear hBK K_0 B_0 HF
  obtain ⟨k0, k1, k2, k3, k4, k5⟩ := K_1.out.cells6
  have lk := Bx.lt K_1.out
  have f0 := Bx.froz K_1.out 0; have f1 := Bx.froz K_1.out 1; have f2 := Bx.froz K_1.out 2; have f3 := Bx.froz K_1.out 3; have f4 := Bx.froz K_1.out 4; have f5 := Bx.froz K_1.out 5
  go_upto_region 2 with (fail)
  have hbk := HBK.out
  obtain ⟨X2, hX2⟩ : ∃ x, x = st6 w1 BK (.slice q.ca q.cn q.cc) (.int .i64 p.mu) (.int .i64 p.on) (.int .i64 p.va) (.slice q.sa q.sn q.sc) (.slice q.ba q.bn q.bc) := ⟨_, rfl⟩
  have B := Lib.hid (show Below w.heap.size w X2 by rw [hX2]; exact B_1.out.trans (below_grown (grown_st6 (World.grownBy.refl w1 (some BK)) _ _ _ _ _ _) (by omega) B_1.out.size))
  have K := Lib.hid (show Bx X2 BK (prC p q) 26 by rw [hX2]; exact K_1.out.st6 _ _ _ _ _ _)
  have P := Lib.hid (HP.out X2 B.out (fun g hg => by
    rw [hX2]
    by_cases hgs : g < w1.heap.size
    · exact (grown_st6 (World.grownBy.refl w1 (some BK)) _ _ _ _ _ _).block g hgs (some_ne (by simp at hg; omega))
    · have hsz := st6_size w1 BK (.slice q.ca q.cn q.cc) (.int .i64 p.mu) (.int .i64 p.on) (.int .i64 p.va) (.slice q.sa q.sn q.sc) (.slice q.ba q.bn q.bc)
      rw [Array.getElem?_eq_none (by rw [hsz]; omega), Array.getElem?_eq_none (by omega)]))
  simp only [st6] at hX2
  rw [← hX2]
  clear hX2 hbk k0 k1 k2 k3 k4 k5 lk f0 f1 f2 f3 f4 f5 K_1 B_1 HP
  have HSZ := Lib.hid (fun W H => Size_ok p q W H hr)
  have hsz := bytesP_size hr
  obtain ⟨n, hn⟩ : ∃ n : Nat, n = (bytesP p).size := ⟨_, rfl⟩
  rw [← hn] at HSZ hsz
  have HN := Lib.hid hn
  clear hn
  have HR := Lib.hid hr
  obtain ⟨ht, hbk⟩ := right_parts hr
  have hnum := tab_nums ht
  have hbne : p.blks ≠ [] := by intro e; rw [e] at hnum; simp at hnum
  obtain ⟨A, b, hAb⟩ : ∃ A b, p.blks = A ++ [b] := by
    rcases List.eq_nil_or_concat p.blks with h | ⟨A, b, h⟩
    · exact absurd h hbne
    · exact ⟨A, b, by simpa using h⟩
  have HAB := Lib.hid hAb
  have hb24 : b.length ≤ 24 := (blk_ins (hbk b (by rw [hAb]; simp))).1
  have hA6 : A.length + 1 ≤ 6 := by have := hnum.2.2.2.2.2.2.2.2.2; rw [hAb] at this; simpa using this
  have hbn : q.bn = A.length + 1 := by rw [← P.out.blks.len, hAb]; simp
  obtain ⟨qca, qcn, qcc, qsa, qsn, qsc, qba, qbn, qbc⟩ := q
  dsimp only at hbn
  subst hbn
  clear hr ht hbk hnum hbne hAb
  obtain ⟨k0, k1, k2, k3, k4, k5⟩ := K.out.cells6
  go_wp2_with fail
  clear k0 k1 k2 k3 k4 k5
  refine (HSZ.out _ P.out).mono ?_
  rintro e w11 ⟨rfl, hb⟩
  have Kn := Lib.hid (K.out.below hb); have Pn := Lib.hid (P.out.below hb); have Bn := Lib.hid (B.out.trans (Below.mono hb B.out.size))
  clear hb K P B
  have K := Kn; have P := Pn; have B := Bn
  clear Kn Pn Bn
  have hk1 : ¬ ((A.length : Int) + 1 = 0) := by omega
  have hk2 : (((A.length : Int) + 1) == 0) = false := by rw [beq_eq_false_iff_ne]; omega
  obtain ⟨k0, k1, k2, k3, k4, k5⟩ := K.out.cells6
  dsimp only at k0 k1 k2 k3 k4 k5
  go_upto_region 6 with (fail)
  clear k0 k1 k2 k3 k4 k5
  obtain ⟨RB, hRB, hAll⟩ := P.out.blks
  rw [HAB.out] at hAll
  obtain ⟨RA, rb, hRA⟩ : ∃ RA rb, RB = RA ++ [rb] := by
    rcases List.eq_nil_or_concat RB with h | ⟨X, x, h⟩
    · have := hAll.len; rw [h] at this; simp at this
    · exact ⟨X, x, by simpa using h⟩
  subst hRA
  obtain ⟨hAA, hbb⟩ := all2_unsnoc hAll
  have hRl : RA.length = A.length := hAA.len
  obtain ⟨x0, sb, so, hx0, hqa, hx1⟩ := hRB.at 0 (by show 0 < A.length + 1; omega)
  clear hx0 hx1 x0
  dsimp only at hqa
  subst hqa
  have HRB := Lib.hid hRB; have HAA := Lib.hid hAA; have HBB := Lib.hid hbb
  clear hRB hAll hAA hbb
  -- the copy's box
  have BA1 := below_alloc w11 (.cells (prC p ⟨qca, qcn, qcc, qsa, qsn, qsc, some ⟨sb, so, none⟩, A.length + 1, qbc⟩) 26)
  have KQ0 := Lib.hid (Bx.new w11 (prC p ⟨qca, qcn, qcc, qsa, qsn, qsc, some ⟨sb, so, none⟩, A.length + 1, qbc⟩) 26)
  have hKl : BK < w11.heap.size := Bx.lt K.out
  have HB1 := Lib.hid BA1
  have HR1 := Lib.hid (HRB.out.below BA1)
  have HK1 := Lib.hid (K.out.below BA1)
  clear BA1
  obtain ⟨k0, k1, k2, k3, k4, k5⟩ := K.out.cells6
  dsimp only at k0 k1 k2 k3 k4 k5
  go_upto_region 7 with (fail)
  clear k0 k1 k2 k3 k4 k5
  obtain ⟨BQ, hBQ⟩ : ∃ z, z = w11.heap.size := ⟨_, rfl⟩
  obtain ⟨w12, hw12⟩ : ∃ z, z = w11.alloc (.cells (prC p ⟨qca, qcn, qcc, qsa, qsn, qsc, some ⟨sb, so, none⟩, A.length + 1, qbc⟩) 26) := ⟨_, rfl⟩
  have HBQ := Lib.hid hBQ
  have HQ1 := Lib.hid (show BQ < w12.heap.size by rw [hw12, hBQ]; simp)
  have hKQ : BK ≠ BQ := by omega
  have hQK : BQ ≠ BK := by omega
  have hw' := hw12
  simp only [prC] at hw'
  rw [← hw12] at KQ0 HB1 HR1 HK1
  rw [← hBQ] at KQ0 ⊢
  first | rw [← hw12] | rw [← hw']
  clear hw12 hw' hBQ hKl
  -- the empty slice, and the copy of the blocks
  have BA2 := below_alloc w12 (.cells #[] 42)
  have HR2 := Lib.hid (HR1.out.below BA2)
  have HK2 := Lib.hid (HK1.out.below BA2)
  have KQ2 := Lib.hid (KQ0.out.below BA2)
  have HB2 := Lib.hid (HB1.out.trans (Below.mono BA2 HB1.out.size))
  have OL := Lib.hid (ownR_emptyG (k := 1) (enc := encB) 42 w12)
  clear BA2
  have HS13 := Lib.hid (show w12.heap.size ≤ (w12.alloc (.cells #[] 42)).heap.size by simp)
  obtain ⟨k0, k1, k2, k3, k4, k5⟩ := HK2.out.cells6
  dsimp only at k0 k1 k2 k3 k4 k5
  have HR2' := HR2.out
  go_upto_region 8 with (at_builtin; refine wpList_appG encB_len (by decide) encB_one 24 42 24 _ Try.underlying24 inf41 rfl (by decide) rfl _ _ rfl w12.heap.size _ [] rfl OL.out ⟨sb, so, none⟩ (A.length + 1) qbc (RA ++ [rb]) rfl HR2.out (by simp) (by omega) HS13.out ?_; intro v9 w9 ho9 hg9; rw [List.nil_append] at ho9; obtain ⟨ra9, rc9, rfl, hre9⟩ := OwnR.recs encB_len ho9.out; clear hre9; have k1 := Bx.other KQ2.out hg9.out (ownR_apart OL.out KQ2.out (by decide)); have l1 := Bx.lt k1; have f1 := Bx.froz k1 5; obtain ⟨y0, y1, y2, y3, y4, y5⟩ := Bx.cells6 k1)
  clear k0 k1 k2 k3 k4 k5 y0 y1 y2 y3 y4 y5 l1 f1 HR2'
  have hl9 : (RA ++ [rb]).length = A.length + 1 := by simp [hRl]
  have HO9 := Lib.hid (show OwnR 42 1 encB w9 w12.heap.size (.slice ra9 (A.length + 1) rc9) (RA ++ [rb]) from by have := ho9.out; rwa [hl9] at this)
  obtain ⟨g9, hg9a, hg9c, hg9b⟩ := own_addr HO9.out (by rw [hl9]; omega)
  clear hg9c hl9
  subst hg9a
  have HG9 := Lib.hid hg9b
  have HKQ9 := Lib.hid (Bx.other KQ2.out hg9.out (ownR_apart OL.out KQ2.out (by decide)))
  have HK9 := Lib.hid (Bx.other HK2.out hg9.out (ownR_apart OL.out HK2.out (by decide)))
  have HB9 := Lib.hid (HB2.out.grown hg9.out HB2.out.size (fun r hr => by have := OwnR.lt OL.out r hr; have := HB1.out.size; omega))
  have hB11 : w11.heap.size ≤ BQ := by rw [HBQ.out]; exact Nat.le_refl _
  clear hg9 hg9b HR2 HK2 KQ2 HB2 OL ho9
  have SG := Lib.hid (grow_setCell w9 BQ 5 (.slice (some ⟨g9, 0, none⟩) (A.length + 1) rc9))
  have KQ4 := Lib.hid (show Bx (w9.setCell ⟨BQ, 5, none⟩ (.slice (some ⟨g9, 0, none⟩) (A.length + 1) rc9)) BQ #[.slice qca qcn qcc, .int .i64 p.mu, .int .i64 p.on, .int .i64 p.va, .slice qsa qsn qsc, .slice (some ⟨g9, 0, none⟩) (A.length + 1) rc9] 26 from Bx.set HKQ9.out 5 _)
  have K4 := Lib.hid (Bx.other HK9.out SG.out (some_ne hKQ))
  have O4 := Lib.hid (OwnR.away HO9.out SG.out (Away.box HKQ9.out (by decide)))
  have BB4 := Lib.hid (HB9.out.trans (below_grown SG.out hB11 HB9.out.size))
  have hlen9 : (RA.length + 1) = A.length + 1 := by rw [hRl]
  try rw [hRl]
  obtain ⟨X3, hX3⟩ : ∃ z, z = w9.setCell ⟨BQ, 5, none⟩ (.slice (some ⟨g9, 0, none⟩) (A.length + 1) rc9) := ⟨_, rfl⟩
  rw [← hX3] at KQ4 K4 O4 BB4
  rw [← hX3]
  clear hX3 SG HKQ9 HK9 HO9 HB9 HK1 HR1 KQ0
  have HQ9 := Lib.hid (show BQ < g9 from Nat.lt_of_lt_of_le HQ1.out HG9.out)
  have HCE := Lib.hid (show w11.cell? ⟨sb, so + A.length, none⟩ = some (.slice rb.a rb.n rb.c) from by
    have := HRB.out.cell A.length rb (by rw [← hRl]; simp)
    obtain ⟨b', off, he, hc⟩ := this
    cases he
    have := hc 0 _ rfl
    simpa using this)
  have HSB := Lib.hid (World.block_lt_of_cell? _ _ HCE.out)
  have hBKg : BK ≠ g9 := by have h1 := HQ9.out; have h2 := Bx.lt K.out; have h3 := HBQ.out; omega
  have hsbg : sb ≠ g9 := by have h1 : sb < w11.heap.size := HSB.out; have h2 := HQ9.out; have h3 := HBQ.out; omega
  go_cut [62] (fun u wx => Below w11.heap.size w11 wx ∧ Bx wx BQ #[.slice qca qcn qcc, .int .i64 p.mu, .int .i64 p.on, .int .i64 p.va, .slice qsa qsn qsc, .slice (some ⟨g9, 0, none⟩) (A.length + 1) rc9] 26 ∧ ∃ nb : RBlk, OwnR 42 1 encB wx w12.heap.size (.slice (some ⟨g9, 0, none⟩) (A.length + 1) rc9) (RA ++ [nb]) ∧ OwnR 44 3 encI wx w11.heap.size (.slice nb.a nb.n nb.c) (b ++ [nopI]))
  case first =>
    have HSS := Lib.hid (show ∀ W, Below X3.heap.size X3 W → (fun W => W.cell? ⟨BQ, 5, none⟩ = some (.slice (some ⟨g9, 0, none⟩) (A.length + 1) rc9) ∧ W.cell? ⟨BK, 5, none⟩ = some (.slice (some ⟨sb, so, none⟩) (A.length + 1) qbc) ∧ W.cell? ⟨sb, so + A.length, none⟩ = some (.slice rb.a rb.n rb.c)) W from fun W hb => ⟨Bx.cell (KQ4.out.below hb) 5 rfl, Bx.cell (K4.out.below hb) 5 rfl, (Below.cell (BB4.out.trans (Below.mono hb BB4.out.size)) HSB.out).trans HCE.out⟩)
    clear hlen9
    have hlt5 : (A.length : Int) < (A.length : Int) + 1 := by omega
    refine wp_region_held_drew (S := (fun W => W.cell? ⟨BQ, 5, none⟩ = some (.slice (some ⟨g9, 0, none⟩) (A.length + 1) rc9) ∧ W.cell? ⟨BK, 5, none⟩ = some (.slice (some ⟨sb, so, none⟩) (A.length + 1) qbc) ∧ W.cell? ⟨sb, so + A.length, none⟩ = some (.slice rb.a rb.n rb.c))) (by kernel_rfl) (HSS.out _ (Below.refl _ _).drew) (fun hHeld => ?_)
    (try simp only [Act.put, List.getElem_toArray, List.getElem_cons_zero, List.getElem_cons_succ, List.setIfInBounds_toArray, List.set_cons_zero, List.set_cons_succ])
    have BX_0 := Lib.hid (show Below X3.heap.size X3 X3.drew from (Below.refl _ _).drew)
    obtain ⟨y0w, hy0w⟩ : ∃ z, z = X3.drew := ⟨_, rfl⟩
    rw [← hy0w] at BX_0 ⊢
    clear hy0w hHeld
    have hHeld := HSS.out _ BX_0.out
    dsimp only at hHeld
    refine wpAnyH_take (i := 0) (v := ?_) rfl (by kernel_rfl) (by kernel_rfl) (by kernel_rfl) (fun _ _ _ h => h) (Or.inl ⟨by rfl, ?_⟩) (by assumption) ?_
    rotate_left
    · (intro w hSw; (try dsimp only at hSw); go_simp; try with_reducible rfl)
    (try simp only [Act.put, List.getElem_toArray, List.getElem_cons_zero, List.getElem_cons_succ, List.setIfInBounds_toArray, List.set_cons_zero, List.set_cons_succ])
    refine wpAnyH_take (i := 1) (v := ?_) rfl (by kernel_rfl) (by kernel_rfl) (by kernel_rfl) (fun _ _ _ h => h) (Or.inl ⟨by rfl, ?_⟩) (by assumption) ?_
    rotate_left
    · (intro w hSw; (try dsimp only at hSw); go_simp; try with_reducible rfl)
    (try simp only [Act.put, List.getElem_toArray, List.getElem_cons_zero, List.getElem_cons_succ, List.setIfInBounds_toArray, List.set_cons_zero, List.set_cons_succ])
    refine wpAnyH_take (i := 2) (v := ?_) rfl (by kernel_rfl) (by kernel_rfl) (by kernel_rfl) (fun _ _ _ h => h) (Or.inl ⟨by rfl, ?_⟩) (by assumption) ?_
    rotate_left
    · (intro w hSw; (try dsimp only at hSw); go_simp; try with_reducible rfl)
    (try simp only [Act.put, List.getElem_toArray, List.getElem_cons_zero, List.getElem_cons_succ, List.setIfInBounds_toArray, List.set_cons_zero, List.set_cons_succ])
    refine wpAnyH_take (i := 4) (v := ?_) rfl (by kernel_rfl) (by kernel_rfl) (by kernel_rfl) (fun _ _ _ h => h) (Or.inl ⟨by rfl, ?_⟩) (by assumption) ?_
    rotate_left
    · (intro w hSw; (try dsimp only at hSw); go_simp; try with_reducible rfl)
    (try simp only [Act.put, List.getElem_toArray, List.getElem_cons_zero, List.getElem_cons_succ, List.setIfInBounds_toArray, List.set_cons_zero, List.set_cons_succ])
    refine wpAnyH_take (i := 5) (v := ?_) rfl (by kernel_rfl) (by kernel_rfl) (by kernel_rfl) (fun _ _ _ h => h) (Or.inl ⟨by rfl, ?_⟩) (by assumption) ?_
    rotate_left
    · (intro w hSw; (try dsimp only at hSw); go_simp; try with_reducible rfl)
    (try simp only [Act.put, List.getElem_toArray, List.getElem_cons_zero, List.getElem_cons_succ, List.setIfInBounds_toArray, List.set_cons_zero, List.set_cons_succ])
    refine wpAnyH_take (i := 6) (v := ?_) rfl (by kernel_rfl) (by kernel_rfl) (by kernel_rfl) (fun _ _ _ h => h) (Or.inl ⟨by rfl, ?_⟩) (by assumption) ?_
    rotate_left
    · (intro w hSw; (try dsimp only at hSw); go_simp; try with_reducible rfl)
    (try simp only [Act.put, List.getElem_toArray, List.getElem_cons_zero, List.getElem_cons_succ, List.setIfInBounds_toArray, List.set_cons_zero, List.set_cons_succ])
    refine wpAnyH_take (i := 7) (v := ?_) rfl (by kernel_rfl) (by kernel_rfl) (by kernel_rfl) (fun _ _ _ h => h) (Or.inl ⟨by rfl, ?_⟩) (by assumption) ?_
    rotate_left
    · (intro w hSw; (try dsimp only at hSw); go_simp; try with_reducible rfl)
    (try simp only [Act.put, List.getElem_toArray, List.getElem_cons_zero, List.getElem_cons_succ, List.setIfInBounds_toArray, List.set_cons_zero, List.set_cons_succ])
    refine wpAnyH_take (i := 8) (v := ?_) rfl (by kernel_rfl) (by kernel_rfl) (by kernel_rfl) (fun _ _ _ h => h) (Or.inl ⟨by rfl, ?_⟩) (by assumption) ?_
    rotate_left
    · (intro w hSw; (try dsimp only at hSw); go_simp; try with_reducible rfl)
    (try simp only [Act.put, List.getElem_toArray, List.getElem_cons_zero, List.getElem_cons_succ, List.setIfInBounds_toArray, List.set_cons_zero, List.set_cons_succ])
    refine wpAnyH_take (i := 10) (v := ?_) rfl (by kernel_rfl) (by kernel_rfl) (by kernel_rfl) (fun _ _ _ h => h) (Or.inl ⟨by rfl, ?_⟩) (by assumption) ?_
    rotate_left
    · (intro w hSw; (try dsimp only at hSw); go_simp; try with_reducible rfl)
    (try simp only [Act.put, List.getElem_toArray, List.getElem_cons_zero, List.getElem_cons_succ, List.setIfInBounds_toArray, List.set_cons_zero, List.set_cons_succ])
    refine wpAnyH_ready (rs := [3, 11]) (by kernel_rfl) (by simp) ?_
    refine (AllReadyH.cons (o := _) rfl (fun K hK => ?_) (AllReadyH.cons (o := _) rfl (fun K hK => ?_) AllReadyH.nil))
    · skip
      go_simp
      have BX_1 := Lib.hid (BX_0.out.trans (Below.mono (below_alloc y0w (.cells #[] 44)) BX_0.out.size))
      have OO_1 := Lib.hid (show OwnR 44 3 encI (y0w.alloc (.cells #[] 44)) X3.heap.size _ ([] : List Ins) from World.ownsRow.mono' (ownR_emptyG (k := 3) (enc := encI) 44 y0w) BX_0.out.size)
      clear hHeld
      refine hK.out _ _ (HSS.out _ BX_1.out) (fun hHeld => ?_)
      clear hK K
      (try simp only [Act.put, List.getElem_toArray, List.getElem_cons_zero, List.getElem_cons_succ, List.setIfInBounds_toArray, List.set_cons_zero, List.set_cons_succ])
      obtain ⟨ww1, hww1⟩ : ∃ z, z = y0w.alloc (.cells #[] 44) := ⟨_, rfl⟩
      obtain ⟨gg1, hgg1⟩ : ∃ z, z = y0w.heap.size := ⟨_, rfl⟩
      rw [← hww1] at BX_1 OO_1  ⊢
      rw [← hgg1] at OO_1 ⊢
      have lt1 : gg1 < ww1.heap.size := by rw [hww1, hgg1]; simp
      clear hww1 hgg1
      refine wpAnyH_ready (rs := [9, 11]) (by kernel_rfl) (by simp) ?_
      refine (AllReadyH.cons (o := _) rfl (fun K hK => ?_) (AllReadyH.cons (o := _) rfl (fun K hK => ?_) AllReadyH.nil))
      · skip
        refine step_appO encI_len (by decide) encI_one 42 44 24 _ Try.underlying42 inf43 rfl (by decide) (w := ww1) (by first | rfl | kernel_rfl) (.tmp 52) (.tmp 57) (by rfl) X3.heap.size _ [] (by rfl) OO_1.out rb.a rb.n rb.c b (by rfl) (HBB.out.recs.below (BB4.out.trans (Below.mono BX_1.out BB4.out.size))) (by simp) (by rw [← HBB.out.recs.len_eq]; omega) BX_1.out.size ?_
        intro vv2 ww2 ho2 hg2
        have BX_2 := Lib.hid (BX_1.out.grown hg2.out BX_1.out.size (fun r hr => OwnR.lt OO_1.out r hr))
        clear hHeld
        refine hK.out _ _ (HSS.out _ BX_2.out) (fun hHeld => ?_)
        clear hK K
        (try simp only [Act.put, List.getElem_toArray, List.getElem_cons_zero, List.getElem_cons_succ, List.setIfInBounds_toArray, List.set_cons_zero, List.set_cons_succ])
        refine wpAnyH_ready (rs := [11]) (by kernel_rfl) (by simp) ?_
        refine (AllReadyH.cons (o := _) rfl (fun K hK => ?_) AllReadyH.nil)
        go_simp
        have BX_3 := Lib.hid (BX_2.out.trans (Below.mono (below_alloc ww2 (.cells #[.int .i64 0, .int .i64 0, .int .i64 0] 44)) BX_2.out.size))
        have S1_3 := Lib.hid (recs_oneG (k := 3) (enc := encI) (x := nopI) (t := 44) (heap_alloc_new ww2 (.cells #[.int .i64 0, .int .i64 0, .int .i64 0] 44)))
        have OO_3 := Lib.hid (ho2.out.below (below_alloc ww2 (.cells #[.int .i64 0, .int .i64 0, .int .i64 0] 44)))
        clear hHeld
        refine hK.out _ _ (HSS.out _ BX_3.out) (fun hHeld => ?_)
        clear hK K
        (try simp only [Act.put, List.getElem_toArray, List.getElem_cons_zero, List.getElem_cons_succ, List.setIfInBounds_toArray, List.set_cons_zero, List.set_cons_succ])
        obtain ⟨ww3, hww3⟩ : ∃ z, z = ww2.alloc (.cells #[.int .i64 0, .int .i64 0, .int .i64 0] 44) := ⟨_, rfl⟩
        obtain ⟨gg3, hgg3⟩ : ∃ z, z = ww2.heap.size := ⟨_, rfl⟩
        rw [← hww3] at BX_3 OO_3 S1_3 ⊢
        rw [← hgg3] at S1_3 ⊢
        have lt3 : gg3 < ww3.heap.size := by rw [hww3, hgg3]; simp
        clear hww3 hgg3
        refine wpAnyH_ready (rs := [12]) (by kernel_rfl) (by simp) ?_
        refine (AllReadyH.cons (o := _) rfl (fun K hK => ?_) AllReadyH.nil)
        refine step_appG encI_len (by decide) encI_one 42 44 24 _ Try.underlying42 inf43 rfl (by decide) (w := ww3) (by first | rfl | kernel_rfl) (.tmp 58) (.tmp 60) (by rfl) X3.heap.size _ ([] ++ b) (by rfl) OO_3.out ⟨gg3, 0, none⟩ 1 1 [nopI] (by rfl) S1_3.out (by simp; omega) (by decide) BX_3.out.size ?_
        intro vv4 ww4 ho4 hg4
        have BX_4 := Lib.hid (BX_3.out.grown hg4.out BX_3.out.size (fun r hr => OwnR.lt OO_3.out r hr))
        clear hHeld
        refine hK.out _ _ (HSS.out _ BX_4.out) (fun hHeld => ?_)
        clear hK K
        (try simp only [Act.put, List.getElem_toArray, List.getElem_cons_zero, List.getElem_cons_succ, List.setIfInBounds_toArray, List.set_cons_zero, List.set_cons_succ])
        obtain ⟨na, nc, rfl, _⟩ := OwnR.recs encI_len ho4.out
        clear hHeld
        have hHeld := HSS.out _ BX_4.out
        dsimp only at hHeld
        refine wpAnyH_take (i := 13) (v := ?_) rfl (by kernel_rfl) (by kernel_rfl) (by kernel_rfl) (fun _ _ _ h => h) (Or.inl ⟨by rfl, ?_⟩) (by assumption) ?_
        rotate_left
        · (intro w hSw; (try dsimp only at hSw); go_simp; try with_reducible rfl)
        (try simp only [Act.put, List.getElem_toArray, List.getElem_cons_zero, List.getElem_cons_succ, List.setIfInBounds_toArray, List.set_cons_zero, List.set_cons_succ])
        have OW := Lib.hid (O4.out.below BX_4.out)
        obtain ⟨cur, hbx⟩ := own_box OW.out
        have hcc : ww4.cell? ⟨g9, A.length, none⟩ = some (.slice rb.a rb.n rb.c) := by
          obtain ⟨a', c', he, hre⟩ := OwnR.recs encB_len OW.out
          obtain ⟨e1, e2, e3⟩ := slice_parts he
          subst e1
          obtain ⟨b', off, he2, hc⟩ := hre.cell A.length rb (by rw [← hRl]; simp)
          cases he2
          have := hc 0 _ rfl
          simpa using this
        have lbx := Bx.lt hbx; have fbx := Bx.froz hbx A.length
        refine wpAnyH_ready (rs := [14]) (by kernel_rfl) (by simp) ?_
        refine AllReadyH.cons (o := _) rfl (fun K hK => ?_) AllReadyH.nil
        go_simp
        clear hHeld
        have hn12 : w11.heap.size ≤ g9 := by have := HQ9.out; omega
        have SGf := Lib.hid (grow_setCell ww4 g9 A.length (.slice na (b.length + 1) nc))
        have hlq : ([] ++ b ++ [nopI]).length = b.length + 1 := by simp
        have HOf := Lib.hid (show OwnR 44 3 encI ww4 X3.heap.size (.slice na (b.length + 1) nc) (b ++ [nopI]) from by have := ho4.out; rw [hlq] at this; simpa using this)
        have F1 := Lib.hid ((BB4.out.trans (Below.mono BX_4.out BB4.out.size)).trans (below_grown SGf.out hn12 (Nat.le_trans BB4.out.size BX_4.out.size)))
        have F2 := Lib.hid (Bx.other (KQ4.out.below BX_4.out) SGf.out (some_ne (show BQ ≠ g9 by have := HQ9.out; omega)))
        have F3 := Lib.hid (own_last (r' := ⟨na, b.length + 1, nc⟩) OW.out)
        have F4 := Lib.hid (World.ownsRow.mono' (OwnR.away HOf.out SGf.out (Away.box hbx (by decide))) BB4.out.size)
        rw [hRl] at F3
        refine hK.out _ _ ⟨Bx.cell F2.out 5 rfl, ?_, ?_⟩ (fun hHeld => ?_)
        · exact (grow_setCell _ _ _ _).cell (Bx.cell (K4.out.below BX_4.out) 5 rfl) (some_ne hBKg)
        · exact (grow_setCell _ _ _ _).cell ((Below.cell (BB4.out.trans (Below.mono BX_4.out BB4.out.size)) HSB.out).trans HCE.out) (some_ne hsbg)
        clear hK K
        (try simp only [Act.put, List.getElem_toArray, List.getElem_cons_zero, List.getElem_cons_succ, List.setIfInBounds_toArray, List.set_cons_zero, List.set_cons_succ])
        refine wpAnyH_done (by kernel_rfl) ?_ _
        clear hHeld HSS
        go_wp2_with fail
        go_meet
        exact ⟨F1.out, F2.out, ⟨na, b.length + 1, nc⟩, F3.out, F4.out⟩
      · skip
        go_simp
        have BX_5 := Lib.hid (BX_1.out.trans (Below.mono (below_alloc ww1 (.cells #[.int .i64 0, .int .i64 0, .int .i64 0] 44)) BX_1.out.size))
        have S1_5 := Lib.hid (recs_oneG (k := 3) (enc := encI) (x := nopI) (t := 44) (heap_alloc_new ww1 (.cells #[.int .i64 0, .int .i64 0, .int .i64 0] 44)))
        have OO_5 := Lib.hid (OO_1.out.below (below_alloc ww1 (.cells #[.int .i64 0, .int .i64 0, .int .i64 0] 44)))
        clear hHeld
        refine hK.out _ _ (HSS.out _ BX_5.out) (fun hHeld => ?_)
        clear hK K
        (try simp only [Act.put, List.getElem_toArray, List.getElem_cons_zero, List.getElem_cons_succ, List.setIfInBounds_toArray, List.set_cons_zero, List.set_cons_succ])
        obtain ⟨ww5, hww5⟩ : ∃ z, z = ww1.alloc (.cells #[.int .i64 0, .int .i64 0, .int .i64 0] 44) := ⟨_, rfl⟩
        obtain ⟨gg5, hgg5⟩ : ∃ z, z = ww1.heap.size := ⟨_, rfl⟩
        rw [← hww5] at BX_5 OO_5 S1_5 ⊢
        rw [← hgg5] at S1_5 ⊢
        have lt5 : gg5 < ww5.heap.size := by rw [hww5, hgg5]; simp
        have ne5 : gg5 ≠ gg1 := by have := lt1; omega
        clear hww5 hgg5
        refine wpAnyH_ready (rs := [9]) (by kernel_rfl) (by simp) ?_
        refine (AllReadyH.cons (o := _) rfl (fun K hK => ?_) AllReadyH.nil)
        refine step_appO encI_len (by decide) encI_one 42 44 24 _ Try.underlying42 inf43 rfl (by decide) (w := ww5) (by first | rfl | kernel_rfl) (.tmp 52) (.tmp 57) (by rfl) X3.heap.size _ [] (by rfl) OO_5.out rb.a rb.n rb.c b (by rfl) (HBB.out.recs.below (BB4.out.trans (Below.mono BX_5.out BB4.out.size))) (by simp) (by rw [← HBB.out.recs.len_eq]; omega) BX_5.out.size ?_
        intro vv6 ww6 ho6 hg6
        have BX_6 := Lib.hid (BX_5.out.grown hg6.out BX_5.out.size (fun r hr => OwnR.lt OO_5.out r hr))
        have S1_6 := Lib.hid (Recs.other S1_5.out (fun x hx => by cases hx; exact hg6.out.block _ (recs_lt S1_5.out rfl) (some_ne ne5)))
        clear hHeld
        refine hK.out _ _ (HSS.out _ BX_6.out) (fun hHeld => ?_)
        clear hK K
        (try simp only [Act.put, List.getElem_toArray, List.getElem_cons_zero, List.getElem_cons_succ, List.setIfInBounds_toArray, List.set_cons_zero, List.set_cons_succ])
        refine wpAnyH_ready (rs := [12]) (by kernel_rfl) (by simp) ?_
        refine (AllReadyH.cons (o := _) rfl (fun K hK => ?_) AllReadyH.nil)
        refine step_appG encI_len (by decide) encI_one 42 44 24 _ Try.underlying42 inf43 rfl (by decide) (w := ww6) (by first | rfl | kernel_rfl) (.tmp 58) (.tmp 60) (by rfl) X3.heap.size _ ([] ++ b) (by rfl) ho6.out ⟨gg5, 0, none⟩ 1 1 [nopI] (by rfl) S1_6.out (by simp; omega) (by decide) BX_6.out.size ?_
        intro vv7 ww7 ho7 hg7
        have BX_7 := Lib.hid (BX_6.out.grown hg7.out BX_6.out.size (fun r hr => OwnR.lt ho6.out r hr))
        clear hHeld
        refine hK.out _ _ (HSS.out _ BX_7.out) (fun hHeld => ?_)
        clear hK K
        (try simp only [Act.put, List.getElem_toArray, List.getElem_cons_zero, List.getElem_cons_succ, List.setIfInBounds_toArray, List.set_cons_zero, List.set_cons_succ])
        obtain ⟨na, nc, rfl, _⟩ := OwnR.recs encI_len ho7.out
        clear hHeld
        have hHeld := HSS.out _ BX_7.out
        dsimp only at hHeld
        refine wpAnyH_take (i := 13) (v := ?_) rfl (by kernel_rfl) (by kernel_rfl) (by kernel_rfl) (fun _ _ _ h => h) (Or.inl ⟨by rfl, ?_⟩) (by assumption) ?_
        rotate_left
        · (intro w hSw; (try dsimp only at hSw); go_simp; try with_reducible rfl)
        (try simp only [Act.put, List.getElem_toArray, List.getElem_cons_zero, List.getElem_cons_succ, List.setIfInBounds_toArray, List.set_cons_zero, List.set_cons_succ])
        have OW := Lib.hid (O4.out.below BX_7.out)
        obtain ⟨cur, hbx⟩ := own_box OW.out
        have hcc : ww7.cell? ⟨g9, A.length, none⟩ = some (.slice rb.a rb.n rb.c) := by
          obtain ⟨a', c', he, hre⟩ := OwnR.recs encB_len OW.out
          obtain ⟨e1, e2, e3⟩ := slice_parts he
          subst e1
          obtain ⟨b', off, he2, hc⟩ := hre.cell A.length rb (by rw [← hRl]; simp)
          cases he2
          have := hc 0 _ rfl
          simpa using this
        have lbx := Bx.lt hbx; have fbx := Bx.froz hbx A.length
        refine wpAnyH_ready (rs := [14]) (by kernel_rfl) (by simp) ?_
        refine AllReadyH.cons (o := _) rfl (fun K hK => ?_) AllReadyH.nil
        go_simp
        clear hHeld
        have hn12 : w11.heap.size ≤ g9 := by have := HQ9.out; omega
        have SGf := Lib.hid (grow_setCell ww7 g9 A.length (.slice na (b.length + 1) nc))
        have hlq : ([] ++ b ++ [nopI]).length = b.length + 1 := by simp
        have HOf := Lib.hid (show OwnR 44 3 encI ww7 X3.heap.size (.slice na (b.length + 1) nc) (b ++ [nopI]) from by have := ho7.out; rw [hlq] at this; simpa using this)
        have F1 := Lib.hid ((BB4.out.trans (Below.mono BX_7.out BB4.out.size)).trans (below_grown SGf.out hn12 (Nat.le_trans BB4.out.size BX_7.out.size)))
        have F2 := Lib.hid (Bx.other (KQ4.out.below BX_7.out) SGf.out (some_ne (show BQ ≠ g9 by have := HQ9.out; omega)))
        have F3 := Lib.hid (own_last (r' := ⟨na, b.length + 1, nc⟩) OW.out)
        have F4 := Lib.hid (World.ownsRow.mono' (OwnR.away HOf.out SGf.out (Away.box hbx (by decide))) BB4.out.size)
        rw [hRl] at F3
        refine hK.out _ _ ⟨Bx.cell F2.out 5 rfl, ?_, ?_⟩ (fun hHeld => ?_)
        · exact (grow_setCell _ _ _ _).cell (Bx.cell (K4.out.below BX_7.out) 5 rfl) (some_ne hBKg)
        · exact (grow_setCell _ _ _ _).cell ((Below.cell (BB4.out.trans (Below.mono BX_7.out BB4.out.size)) HSB.out).trans HCE.out) (some_ne hsbg)
        clear hK K
        (try simp only [Act.put, List.getElem_toArray, List.getElem_cons_zero, List.getElem_cons_succ, List.setIfInBounds_toArray, List.set_cons_zero, List.set_cons_succ])
        refine wpAnyH_done (by kernel_rfl) ?_ _
        clear hHeld HSS
        go_wp2_with fail
        go_meet
        exact ⟨F1.out, F2.out, ⟨na, b.length + 1, nc⟩, F3.out, F4.out⟩
    · skip
      go_simp
      have BX_8 := Lib.hid (BX_0.out.trans (Below.mono (below_alloc y0w (.cells #[.int .i64 0, .int .i64 0, .int .i64 0] 44)) BX_0.out.size))
      have S1_8 := Lib.hid (recs_oneG (k := 3) (enc := encI) (x := nopI) (t := 44) (heap_alloc_new y0w (.cells #[.int .i64 0, .int .i64 0, .int .i64 0] 44)))
      clear hHeld
      refine hK.out _ _ (HSS.out _ BX_8.out) (fun hHeld => ?_)
      clear hK K
      (try simp only [Act.put, List.getElem_toArray, List.getElem_cons_zero, List.getElem_cons_succ, List.setIfInBounds_toArray, List.set_cons_zero, List.set_cons_succ])
      obtain ⟨ww8, hww8⟩ : ∃ z, z = y0w.alloc (.cells #[.int .i64 0, .int .i64 0, .int .i64 0] 44) := ⟨_, rfl⟩
      obtain ⟨gg8, hgg8⟩ : ∃ z, z = y0w.heap.size := ⟨_, rfl⟩
      rw [← hww8] at BX_8  S1_8 ⊢
      rw [← hgg8] at S1_8 ⊢
      have lt8 : gg8 < ww8.heap.size := by rw [hww8, hgg8]; simp
      clear hww8 hgg8
      refine wpAnyH_ready (rs := [3]) (by kernel_rfl) (by simp) ?_
      refine (AllReadyH.cons (o := _) rfl (fun K hK => ?_) AllReadyH.nil)
      go_simp
      have BX_9 := Lib.hid (BX_8.out.trans (Below.mono (below_alloc ww8 (.cells #[] 44)) BX_8.out.size))
      have OO_9 := Lib.hid (show OwnR 44 3 encI (ww8.alloc (.cells #[] 44)) X3.heap.size _ ([] : List Ins) from World.ownsRow.mono' (ownR_emptyG (k := 3) (enc := encI) 44 ww8) BX_8.out.size)
      have S1_9 := Lib.hid (S1_8.out.below (below_alloc ww8 (.cells #[] 44)))
      clear hHeld
      refine hK.out _ _ (HSS.out _ BX_9.out) (fun hHeld => ?_)
      clear hK K
      (try simp only [Act.put, List.getElem_toArray, List.getElem_cons_zero, List.getElem_cons_succ, List.setIfInBounds_toArray, List.set_cons_zero, List.set_cons_succ])
      obtain ⟨ww9, hww9⟩ : ∃ z, z = ww8.alloc (.cells #[] 44) := ⟨_, rfl⟩
      obtain ⟨gg9, hgg9⟩ : ∃ z, z = ww8.heap.size := ⟨_, rfl⟩
      rw [← hww9] at BX_9 OO_9 S1_9 ⊢
      rw [← hgg9] at OO_9 ⊢
      have lt9 : gg9 < ww9.heap.size := by rw [hww9, hgg9]; simp
      have ne9 : gg9 ≠ gg8 := by have := lt8; omega
      clear hww9 hgg9
      refine wpAnyH_ready (rs := [9]) (by kernel_rfl) (by simp) ?_
      refine (AllReadyH.cons (o := _) rfl (fun K hK => ?_) AllReadyH.nil)
      refine step_appO encI_len (by decide) encI_one 42 44 24 _ Try.underlying42 inf43 rfl (by decide) (w := ww9) (by first | rfl | kernel_rfl) (.tmp 52) (.tmp 57) (by rfl) X3.heap.size _ [] (by rfl) OO_9.out rb.a rb.n rb.c b (by rfl) (HBB.out.recs.below (BB4.out.trans (Below.mono BX_9.out BB4.out.size))) (by simp) (by rw [← HBB.out.recs.len_eq]; omega) BX_9.out.size ?_
      intro vv10 ww10 ho10 hg10
      have BX_10 := Lib.hid (BX_9.out.grown hg10.out BX_9.out.size (fun r hr => OwnR.lt OO_9.out r hr))
      have S1_10 := Lib.hid (Recs.other S1_9.out (fun x hx => by cases hx; exact hg10.out.block _ (recs_lt S1_9.out rfl) (some_ne (Ne.symm ne9))))
      clear hHeld
      refine hK.out _ _ (HSS.out _ BX_10.out) (fun hHeld => ?_)
      clear hK K
      (try simp only [Act.put, List.getElem_toArray, List.getElem_cons_zero, List.getElem_cons_succ, List.setIfInBounds_toArray, List.set_cons_zero, List.set_cons_succ])
      refine wpAnyH_ready (rs := [12]) (by kernel_rfl) (by simp) ?_
      refine (AllReadyH.cons (o := _) rfl (fun K hK => ?_) AllReadyH.nil)
      refine step_appG encI_len (by decide) encI_one 42 44 24 _ Try.underlying42 inf43 rfl (by decide) (w := ww10) (by first | rfl | kernel_rfl) (.tmp 58) (.tmp 60) (by rfl) X3.heap.size _ ([] ++ b) (by rfl) ho10.out ⟨gg8, 0, none⟩ 1 1 [nopI] (by rfl) S1_10.out (by simp; omega) (by decide) BX_10.out.size ?_
      intro vv11 ww11 ho11 hg11
      have BX_11 := Lib.hid (BX_10.out.grown hg11.out BX_10.out.size (fun r hr => OwnR.lt ho10.out r hr))
      clear hHeld
      refine hK.out _ _ (HSS.out _ BX_11.out) (fun hHeld => ?_)
      clear hK K
      (try simp only [Act.put, List.getElem_toArray, List.getElem_cons_zero, List.getElem_cons_succ, List.setIfInBounds_toArray, List.set_cons_zero, List.set_cons_succ])
      obtain ⟨na, nc, rfl, _⟩ := OwnR.recs encI_len ho11.out
      clear hHeld
      have hHeld := HSS.out _ BX_11.out
      dsimp only at hHeld
      refine wpAnyH_take (i := 13) (v := ?_) rfl (by kernel_rfl) (by kernel_rfl) (by kernel_rfl) (fun _ _ _ h => h) (Or.inl ⟨by rfl, ?_⟩) (by assumption) ?_
      rotate_left
      · (intro w hSw; (try dsimp only at hSw); go_simp; try with_reducible rfl)
      (try simp only [Act.put, List.getElem_toArray, List.getElem_cons_zero, List.getElem_cons_succ, List.setIfInBounds_toArray, List.set_cons_zero, List.set_cons_succ])
      have OW := Lib.hid (O4.out.below BX_11.out)
      obtain ⟨cur, hbx⟩ := own_box OW.out
      have hcc : ww11.cell? ⟨g9, A.length, none⟩ = some (.slice rb.a rb.n rb.c) := by
        obtain ⟨a', c', he, hre⟩ := OwnR.recs encB_len OW.out
        obtain ⟨e1, e2, e3⟩ := slice_parts he
        subst e1
        obtain ⟨b', off, he2, hc⟩ := hre.cell A.length rb (by rw [← hRl]; simp)
        cases he2
        have := hc 0 _ rfl
        simpa using this
      have lbx := Bx.lt hbx; have fbx := Bx.froz hbx A.length
      refine wpAnyH_ready (rs := [14]) (by kernel_rfl) (by simp) ?_
      refine AllReadyH.cons (o := _) rfl (fun K hK => ?_) AllReadyH.nil
      go_simp
      clear hHeld
      have hn12 : w11.heap.size ≤ g9 := by have := HQ9.out; omega
      have SGf := Lib.hid (grow_setCell ww11 g9 A.length (.slice na (b.length + 1) nc))
      have hlq : ([] ++ b ++ [nopI]).length = b.length + 1 := by simp
      have HOf := Lib.hid (show OwnR 44 3 encI ww11 X3.heap.size (.slice na (b.length + 1) nc) (b ++ [nopI]) from by have := ho11.out; rw [hlq] at this; simpa using this)
      have F1 := Lib.hid ((BB4.out.trans (Below.mono BX_11.out BB4.out.size)).trans (below_grown SGf.out hn12 (Nat.le_trans BB4.out.size BX_11.out.size)))
      have F2 := Lib.hid (Bx.other (KQ4.out.below BX_11.out) SGf.out (some_ne (show BQ ≠ g9 by have := HQ9.out; omega)))
      have F3 := Lib.hid (own_last (r' := ⟨na, b.length + 1, nc⟩) OW.out)
      have F4 := Lib.hid (World.ownsRow.mono' (OwnR.away HOf.out SGf.out (Away.box hbx (by decide))) BB4.out.size)
      rw [hRl] at F3
      refine hK.out _ _ ⟨Bx.cell F2.out 5 rfl, ?_, ?_⟩ (fun hHeld => ?_)
      · exact (grow_setCell _ _ _ _).cell (Bx.cell (K4.out.below BX_11.out) 5 rfl) (some_ne hBKg)
      · exact (grow_setCell _ _ _ _).cell ((Below.cell (BB4.out.trans (Below.mono BX_11.out BB4.out.size)) HSB.out).trans HCE.out) (some_ne hsbg)
      clear hK K
      (try simp only [Act.put, List.getElem_toArray, List.getElem_cons_zero, List.getElem_cons_succ, List.setIfInBounds_toArray, List.set_cons_zero, List.set_cons_succ])
      refine wpAnyH_done (by kernel_rfl) ?_ _
      clear hHeld HSS
      go_wp2_with fail
      go_meet
      exact ⟨F1.out, F2.out, ⟨na, b.length + 1, nc⟩, F3.out, F4.out⟩
  case rest =>
    obtain ⟨hbw, hkq, nb, hol, hob⟩ := hcut
    have hab := HAB.out
    have PG := Lib.hid (show Prg wc (growP p A b) ⟨qca, qcn, qcc, qsa, qsn, qsc, some ⟨g9, 0, none⟩, A.length + 1, rc9⟩ from by
      have P' := P.out.below hbw
      refine ⟨P'.caps, P'.mu, P'.on, P'.va, P'.sels, RA ++ [nb], ?_, ?_⟩
      · obtain ⟨a', c', he, hre⟩ := OwnR.recs encB_len hol
        obtain ⟨e1, e2, e3⟩ := slice_parts he
        dsimp only
        rw [e1, e2, e3]; exact hre
      · refine All2.snoc (HAA.out.mono fun _ _ h => Blk.below h hbw) ⟨?_, ?_⟩
        · obtain ⟨a', c', he, hre⟩ := OwnR.recs encI_len hob
          obtain ⟨e1, e2, e3⟩ := slice_parts he
          rw [e1, e2, e3]; exact hre
        · intro x hx
          rcases List.mem_append.1 hx with hx | hx
          · exact HBB.out.ok x hx
          · simp at hx; subst hx; exact ⟨⟨by decide, by decide⟩, ⟨by decide, by decide⟩, ⟨by decide, by decide⟩⟩)
    obtain ⟨qq, hqq⟩ : ∃ z : PAt, z = ⟨qca, qcn, qcc, qsa, qsn, qsc, some ⟨g9, 0, none⟩, A.length + 1, rc9⟩ := ⟨_, rfl⟩
    obtain ⟨pq, hpq⟩ : ∃ z, z = growP p A b := ⟨_, rfl⟩
    have KQ := Lib.hid (show Bx wc BQ (prC pq qq) 26 from by rw [hpq, hqq]; exact hkq)
    rw [← hqq, ← hpq] at PG
    have PPc := Lib.hid (P.out.below hbw); have KKc := Lib.hid (K.out.below hbw); have BBc := Lib.hid (B.out.trans (Below.mono hbw B.out.size))
    have CEc := Lib.hid (show wc.cell? ⟨sb, so + A.length, none⟩ = some (.slice rb.a b.length rb.c) from by rw [HBB.out.recs.len_eq]; exact (hbw.cell HSB.out).trans HCE.out)
    have hlt5 : (A.length : Int) < (A.length : Int) + 1 := by omega
    clear hbw hkq hol hob hqq K P B HSB HCE HBB HAA HRB K4 O4 KQ4 BB4 HQ9 hBKg hsbg
    obtain ⟨pp, hpp⟩ : ∃ z : PAt, z = ⟨qca, qcn, qcc, qsa, qsn, qsc, some ⟨sb, so, none⟩, A.length + 1, qbc⟩ := ⟨_, rfl⟩
    rw [← hpp] at PPc
    have HPP := Lib.hid hpp
    clear hpp
    by_cases h24 : b.length = 24
    · have hwr := grow_wrong (p := p) (A := A) h24
      rw [← hpq] at hwr
      have HSQ := Lib.hid (fun W H => Size_no pq qq W H hwr)
      have h24b : ((b.length : Int) == 24) = true := by rw [h24]; rfl
      clear hwr hpq hab
      obtain ⟨KQc0, KQc1, KQc2, KQc3, KQc4, KQc5⟩ := KQ.out.cells6
      go_wp2_with fail
      clear KQc0 KQc1 KQc2 KQc3 KQc4 KQc5
      refine (HSQ.out _ PG.out).mono ?_
      rintro e wn ⟨rfl, hb⟩
      have KKm1 := Lib.hid (Bx.below KKc.out hb)
      have KQm1 := Lib.hid (Bx.below KQ.out hb)
      have PPm1 := Lib.hid (PPc.out.below hb)
      have PGm1 := Lib.hid (PG.out.below hb)
      have Bm1 := Lib.hid (BBc.out.trans (Below.mono hb BBc.out.size))
      have CEm1 := Lib.hid ((Below.cell hb (World.block_lt_of_cell? _ _ CEc.out)).trans CEc.out)
      clear hb KKc KQ PPc PG BBc CEc
      skip
      have ce := CEm1.out
      obtain ⟨k0, k1, k2, k3, k4, k5⟩ := KKm1.out.cells6
      dsimp only at k0 k1 k2 k3 k4 k5
      go_upto_region 11 with (fail)
      clear k0 k1 k2 k3 k4 k5 ce
      go_wp2_with fail
      refine (alive_any _).mono ?_
      rintro e wn ⟨rfl, hb⟩
      have KKm2 := Lib.hid (Bx.below KKm1.out hb)
      have KQm2 := Lib.hid (Bx.below KQm1.out hb)
      have PPm2 := Lib.hid (PPm1.out.below hb)
      have PGm2 := Lib.hid (PGm1.out.below hb)
      have Bm2 := Lib.hid (Bm1.out.trans (Below.mono hb Bm1.out.size))
      have CEm2 := Lib.hid ((Below.cell hb (World.block_lt_of_cell? _ _ CEm1.out)).trans CEm1.out)
      clear hb KKm1 KQm1 PPm1 PGm1 Bm1 CEm1
      go_wp2_with fail
      go_ret
      exact ⟨ret_bool (by first | rfl | simp), Bm2.out⟩
    · have hl23 : b.length ≤ 23 := by omega
      have hgr := grow_right hab HR.out hl23
      have hbp := bytes_p hab hb24
      have hbq := bytes_q hab hl23
      rw [← hpq] at hgr hbq
      have hrp := HR.out
      have HSQ := Lib.hid (fun W H => Size_ok pq qq W H hgr)
      have HEP := Lib.hid (fun W H => Encode_ok p pp W H hrp)
      have HEQ := Lib.hid (fun W H => Encode_ok pq qq W H hgr)
      have htp := bytes_txE hrp
      have htq := bytes_txE hgr
      rw [hbp] at htp
      rw [hbq] at htq
      obtain ⟨X, hX⟩ : ∃ X, X = allL (preL p A) := ⟨_, rfl⟩
      obtain ⟨Y, hY⟩ : ∃ Y, Y = allL (b.flatMap insN) := ⟨_, rfl⟩
      rw [← hX, ← hY] at htp htq
      obtain ⟨S, hS⟩ : ∃ S, S = bytesP p := ⟨_, rfl⟩
      obtain ⟨T, hT⟩ : ∃ T, T = bytesP pq := ⟨_, rfl⟩
      have hn := HN.out
      rw [← hS] at HEP htp hn
      rw [← hT] at HEQ HSQ htq
      have hSl : S.size = X.length + 1 + Y.length := by rw [← tx_len, htp]; simp; omega
      have hTl : T.size = X.length + 1 + Y.length + 1 := by rw [← tx_len, htq]; simp; omega
      have hXn : X.length < n := by omega
      have hSn : S.size = n := hn.symm
      have hTn : T.size = n + 1 := by omega
      rw [hTn] at HSQ
      have hSe : ∀ i (h : i < S.size), ((S[i]'h).toNat : Int) = en (tx S) i := fun i h => by rw [PlainAid.get_bt S _ h, bt_en]
      have hTe : ∀ i (h : i < T.size), ((T[i]'h).toNat : Int) = en (tx T) i := fun i h => by rw [PlainAid.get_bt T _ h, bt_en]
      have HDF := Lib.hid (fun k (hk : k < n) => differ X Y (b.length : Int) k (by simp; omega))
      have hT0 : en (tx T) n = 0 := by
        rw [htq]
        have : X ++ (((b.length + 1 : Nat) : Int) :: (Y ++ [0])) = (X ++ (((b.length + 1 : Nat) : Int) :: Y)) ++ [0] := by simp
        rw [this]
        have e : n = (X ++ (((b.length + 1 : Nat) : Int) :: Y)).length := by simp; omega
        simp only [en, List.getD_eq_getElem?_getD]
        rw [e, List.getElem?_append_right (Nat.le_refl _)]
        simp
      have HTP := Lib.hid htp; have HTQ := Lib.hid htq
      have h24b : ((b.length : Int) == 24) = false := by rw [beq_eq_false_iff_ne]; omega
      have h24n : ¬ (b.length : Int) = 24 := by omega
      clear hgr hbp hbq hrp htp htq hX hY hS hT hn hpq hab hSl hTl
      obtain ⟨KQc0, KQc1, KQc2, KQc3, KQc4, KQc5⟩ := KQ.out.cells6
      go_wp2_with fail
      clear KQc0 KQc1 KQc2 KQc3 KQc4 KQc5
      refine (HSQ.out _ PG.out).mono ?_
      rintro e wn ⟨rfl, hb⟩
      have KKm1 := Lib.hid (Bx.below KKc.out hb)
      have KQm1 := Lib.hid (Bx.below KQ.out hb)
      have PPm1 := Lib.hid (PPc.out.below hb)
      have PGm1 := Lib.hid (PG.out.below hb)
      have Bm1 := Lib.hid (BBc.out.trans (Below.mono hb BBc.out.size))
      have CEm1 := Lib.hid ((Below.cell hb (World.block_lt_of_cell? _ _ CEc.out)).trans CEc.out)
      clear hb KKc KQ PPc PG BBc CEc
      have ce := CEm1.out
      obtain ⟨k0, k1, k2, k3, k4, k5⟩ := KKm1.out.cells6
      dsimp only at k0 k1 k2 k3 k4 k5
      rw [HPP.out] at HEP
      go_upto_region 12 with (fail)
      clear ce k0 k1 k2 k3 k4 k5
      have PP2 := PPm1.out
      rw [HPP.out] at PP2
      have HPE := Lib.hid (fun W (H : Below _ _ W) => HEP.out W (PP2.below H))
      clear PP2
      obtain ⟨KKc0, KKc1, KKc2, KKc3, KKc4, KKc5⟩ := KKm1.out.cells6
      dsimp only at KKc0 KKc1 KKc2 KKc3 KKc4 KKc5
      go_wp2_with fail
      clear KKc0 KKc1 KKc2 KKc3 KKc4 KKc5
      refine (HPE.out _ (Below.refl _ _)).mono ?_
      rintro e wn ⟨rfl, hb⟩
      have KKm2 := Lib.hid (Bx.below KKm1.out hb)
      have KQm2 := Lib.hid (Bx.below KQm1.out hb)
      have PPm2 := Lib.hid (PPm1.out.below hb)
      have PGm2 := Lib.hid (PGm1.out.below hb)
      have Bm2 := Lib.hid (Bm1.out.trans (Below.mono hb Bm1.out.size))
      have CEm2 := Lib.hid ((Below.cell hb (World.block_lt_of_cell? _ _ CEm1.out)).trans CEm1.out)
      clear hb KKm1 KQm1 PPm1 PGm1 Bm1 CEm1
      obtain ⟨KQc0, KQc1, KQc2, KQc3, KQc4, KQc5⟩ := KQm2.out.cells6
      go_wp2_with fail
      clear KQc0 KQc1 KQc2 KQc3 KQc4 KQc5
      refine (HEQ.out _ PGm2.out).mono ?_
      rintro e wn ⟨rfl, hb⟩
      have KKm3 := Lib.hid (Bx.below KKm2.out hb)
      have KQm3 := Lib.hid (Bx.below KQm2.out hb)
      have PPm3 := Lib.hid (PPm2.out.below hb)
      have PGm3 := Lib.hid (PGm2.out.below hb)
      have Bm3 := Lib.hid (Bm2.out.trans (Below.mono hb Bm2.out.size))
      have CEm3 := Lib.hid ((Below.cell hb (World.block_lt_of_cell? _ _ CEm2.out)).trans CEm2.out)
      clear hb KKm2 KQm2 PPm2 PGm2 Bm2 CEm2
      go_wp2_with fail
      refine (alive_any _).mono ?_
      rintro e wn ⟨rfl, hb⟩
      have KKm4 := Lib.hid (Bx.below KKm3.out hb)
      have KQm4 := Lib.hid (Bx.below KQm3.out hb)
      have PPm4 := Lib.hid (PPm3.out.below hb)
      have PGm4 := Lib.hid (PGm3.out.below hb)
      have Bm4 := Lib.hid (Bm3.out.trans (Below.mono hb Bm3.out.size))
      have CEm4 := Lib.hid ((Below.cell hb (World.block_lt_of_cell? _ _ CEm3.out)).trans CEm3.out)
      clear hb KKm3 KQm3 PPm3 PGm3 Bm3 CEm3
      have SE := Lib.hid hSe; have TE := Lib.hid hTe
      have SN := Lib.hid hSn; have TN := Lib.hid hTn
      go_upto_region 16 with (fail)
      clear hSe hTe hT0 hSn hTn
      go_wp2_with fail
      go_loopw [13, 133] (fun u i wr => ∃ k c : Nat, k ≤ n ∧ i = .int .i64 k ∧ u = .int .i64 c ∧ Hid (c = if X.length < k then 1 else 0) ∧ Below w.heap.size w wr) (fun _ i _ => n - (intOf i).toNat)
      case atStart => exact ⟨0, 0, Nat.zero_le _, rfl, rfl, Lib.hid (by rw [if_neg (by omega)]), Bm4.out⟩
      case round =>
        obtain ⟨k, c, hk, rfl, rfl, hc, hb⟩ := hrel
        have HB := Lib.hid hb
        clear hb
        have hc1 : c ≤ 1 := by rw [hc.out]; split <;> omega
        by_cases hlt : k < n
        · have hlt' : (k : Int) < (n : Int) := by omega
          have hks : k < S.size := by rw [SN.out]; exact hlt
          have hkt : k < T.size := by rw [TN.out]; omega
          have hks' : (k : Int) < (S.size : Int) := by omega
          have hkt' : (k : Int) < (T.size : Int) := by omega
          have ha := SE.out k
          have hb := TE.out k
          have HD := Lib.hid (show en (tx S) k = en (tx T) k ↔ k ≠ X.length from by
            have h1 := HDF.out k hlt
            rw [HTP.out, HTQ.out]
            exact h1)
          obtain ⟨a1, ha1⟩ : ∃ a1, a1 = en (tx S) k := ⟨_, rfl⟩
          obtain ⟨a2, ha2⟩ : ∃ a2, a2 = en (tx T) k := ⟨_, rfl⟩
          rw [← ha1] at ha HD
          rw [← ha2] at hb HD
          clear ha1 ha2
          by_cases hkx : k = X.length
          · have hne : ¬ a1 = a2 := fun h => (HD.out.1 h) hkx
            have hneb : (a1 == a2) = false := by rw [beq_eq_false_iff_ne]; exact hne
            have hnec : (a1 != a2) = true := by simp [hne]
            have hc0 : c = 0 := by rw [hc.out, if_neg (by omega)]
            subst hc0
            have HKX := Lib.hid hkx
            clear hkx
            go_upto_region 20 with (fail)
            refine wp_region_held_drew (S := (fun _ => True)) (by kernel_rfl) (trivial) (fun hHeld => ?_)
            (try simp only [Act.put, List.getElem_toArray, List.getElem_cons_zero, List.getElem_cons_succ, List.setIfInBounds_toArray, List.set_cons_zero, List.set_cons_succ])
            refine wpAnyH_take (i := 0) (v := ?_) rfl (by kernel_rfl) (by kernel_rfl) (by kernel_rfl) (fun _ _ _ h => h) (Or.inl ⟨by rfl, ?_⟩) (by assumption) ?_
            rotate_left
            · (intro w hSw; (try dsimp only at hSw); go_simp; try with_reducible rfl)
            (try simp only [Act.put, List.getElem_toArray, List.getElem_cons_zero, List.getElem_cons_succ, List.setIfInBounds_toArray, List.set_cons_zero, List.set_cons_succ])
            refine wpAnyH_take (i := 1) (v := ?_) rfl (by kernel_rfl) (by kernel_rfl) (by kernel_rfl) (fun _ _ _ h => h) (Or.inl ⟨by rfl, ?_⟩) (by assumption) ?_
            rotate_left
            · (intro w hSw; (try dsimp only at hSw); go_simp; try with_reducible rfl)
            (try simp only [Act.put, List.getElem_toArray, List.getElem_cons_zero, List.getElem_cons_succ, List.setIfInBounds_toArray, List.set_cons_zero, List.set_cons_succ])
            refine wpAnyH_take (i := 2) (v := ?_) rfl (by kernel_rfl) (by kernel_rfl) (by kernel_rfl) (fun _ _ _ h => h) (Or.inl ⟨by rfl, ?_⟩) (by assumption) ?_
            rotate_left
            · (intro w hSw; (try dsimp only at hSw); go_simp; try with_reducible rfl)
            (try simp only [Act.put, List.getElem_toArray, List.getElem_cons_zero, List.getElem_cons_succ, List.setIfInBounds_toArray, List.set_cons_zero, List.set_cons_succ])
            refine wpAnyH_take (i := 3) (v := ?_) rfl (by kernel_rfl) (by kernel_rfl) (by kernel_rfl) (fun _ _ _ h => h) (Or.inl ⟨by rfl, ?_⟩) (by assumption) ?_
            rotate_left
            · (intro w hSw; (try dsimp only at hSw); go_simp; try with_reducible rfl)
            (try simp only [Act.put, List.getElem_toArray, List.getElem_cons_zero, List.getElem_cons_succ, List.setIfInBounds_toArray, List.set_cons_zero, List.set_cons_succ])
            refine wpAnyH_take (i := 4) (v := ?_) rfl (by kernel_rfl) (by kernel_rfl) (by kernel_rfl) (fun _ _ _ h => h) (Or.inl ⟨by rfl, ?_⟩) (by assumption) ?_
            rotate_left
            · (intro w hSw; (try dsimp only at hSw); go_simp; try with_reducible rfl)
            (try simp only [Act.put, List.getElem_toArray, List.getElem_cons_zero, List.getElem_cons_succ, List.setIfInBounds_toArray, List.set_cons_zero, List.set_cons_succ])
            refine wpAnyH_take (i := 5) (v := ?_) rfl (by kernel_rfl) (by kernel_rfl) (by kernel_rfl) (fun _ _ _ h => h) (Or.inl ⟨by rfl, ?_⟩) (by assumption) ?_
            rotate_left
            · (intro w hSw; (try dsimp only at hSw); go_simp; try with_reducible rfl)
            (try simp only [Act.put, List.getElem_toArray, List.getElem_cons_zero, List.getElem_cons_succ, List.setIfInBounds_toArray, List.set_cons_zero, List.set_cons_succ])
            refine wpAnyH_take (i := 6) (v := ?_) rfl (by kernel_rfl) (by kernel_rfl) (by kernel_rfl) (fun _ _ _ h => h) (Or.inl ⟨by rfl, ?_⟩) (by assumption) ?_
            rotate_left
            · (intro w hSw; (try dsimp only at hSw); go_simp; try with_reducible rfl)
            (try simp only [Act.put, List.getElem_toArray, List.getElem_cons_zero, List.getElem_cons_succ, List.setIfInBounds_toArray, List.set_cons_zero, List.set_cons_succ])
            refine wpAnyH_done (by kernel_rfl) ?_ _
            clear hHeld
            have hb' : Below w.heap.size w wr.drew := HB.out.drew
            go_wp2_with fail
            go_roundw
            case rel => exact ⟨k + 1, 1, by omega, by go_num, by first | rfl | go_num, Lib.hid (by rw [if_pos (by have := HKX.out; omega)]), hb'⟩
            case measure => simp [intOf]; omega
          · have heq : a1 = a2 := HD.out.2 hkx
            subst heq
            have hcn := Lib.hid (show c = if X.length < k + 1 then 1 else 0 by
              rw [hc.out]
              by_cases hx : X.length < k
              · rw [if_pos hx, if_pos (by omega)]
              · rw [if_neg hx, if_neg (by omega)])
            go_upto_region 20 with (fail)
            refine wp_region_held_drew (S := (fun _ => True)) (by kernel_rfl) (trivial) (fun hHeld => ?_)
            (try simp only [Act.put, List.getElem_toArray, List.getElem_cons_zero, List.getElem_cons_succ, List.setIfInBounds_toArray, List.set_cons_zero, List.set_cons_succ])
            refine wpAnyH_take (i := 0) (v := ?_) rfl (by kernel_rfl) (by kernel_rfl) (by kernel_rfl) (fun _ _ _ h => h) (Or.inl ⟨by rfl, ?_⟩) (by assumption) ?_
            rotate_left
            · (intro w hSw; (try dsimp only at hSw); go_simp; try with_reducible rfl)
            (try simp only [Act.put, List.getElem_toArray, List.getElem_cons_zero, List.getElem_cons_succ, List.setIfInBounds_toArray, List.set_cons_zero, List.set_cons_succ])
            refine wpAnyH_take (i := 1) (v := ?_) rfl (by kernel_rfl) (by kernel_rfl) (by kernel_rfl) (fun _ _ _ h => h) (Or.inl ⟨by rfl, ?_⟩) (by assumption) ?_
            rotate_left
            · (intro w hSw; (try dsimp only at hSw); go_simp; try with_reducible rfl)
            (try simp only [Act.put, List.getElem_toArray, List.getElem_cons_zero, List.getElem_cons_succ, List.setIfInBounds_toArray, List.set_cons_zero, List.set_cons_succ])
            refine wpAnyH_take (i := 2) (v := ?_) rfl (by kernel_rfl) (by kernel_rfl) (by kernel_rfl) (fun _ _ _ h => h) (Or.inl ⟨by rfl, ?_⟩) (by assumption) ?_
            rotate_left
            · (intro w hSw; (try dsimp only at hSw); go_simp; try with_reducible rfl)
            (try simp only [Act.put, List.getElem_toArray, List.getElem_cons_zero, List.getElem_cons_succ, List.setIfInBounds_toArray, List.set_cons_zero, List.set_cons_succ])
            refine wpAnyH_take (i := 3) (v := ?_) rfl (by kernel_rfl) (by kernel_rfl) (by kernel_rfl) (fun _ _ _ h => h) (Or.inl ⟨by rfl, ?_⟩) (by assumption) ?_
            rotate_left
            · (intro w hSw; (try dsimp only at hSw); go_simp; try with_reducible rfl)
            (try simp only [Act.put, List.getElem_toArray, List.getElem_cons_zero, List.getElem_cons_succ, List.setIfInBounds_toArray, List.set_cons_zero, List.set_cons_succ])
            refine wpAnyH_take (i := 4) (v := ?_) rfl (by kernel_rfl) (by kernel_rfl) (by kernel_rfl) (fun _ _ _ h => h) (Or.inl ⟨by rfl, ?_⟩) (by assumption) ?_
            rotate_left
            · (intro w hSw; (try dsimp only at hSw); go_simp; try with_reducible rfl)
            (try simp only [Act.put, List.getElem_toArray, List.getElem_cons_zero, List.getElem_cons_succ, List.setIfInBounds_toArray, List.set_cons_zero, List.set_cons_succ])
            refine wpAnyH_take (i := 5) (v := ?_) rfl (by kernel_rfl) (by kernel_rfl) (by kernel_rfl) (fun _ _ _ h => h) (Or.inl ⟨by rfl, ?_⟩) (by assumption) ?_
            rotate_left
            · (intro w hSw; (try dsimp only at hSw); go_simp; try with_reducible rfl)
            (try simp only [Act.put, List.getElem_toArray, List.getElem_cons_zero, List.getElem_cons_succ, List.setIfInBounds_toArray, List.set_cons_zero, List.set_cons_succ])
            refine wpAnyH_take (i := 6) (v := ?_) rfl (by kernel_rfl) (by kernel_rfl) (by kernel_rfl) (fun _ _ _ h => h) (Or.inl ⟨by rfl, ?_⟩) (by assumption) ?_
            rotate_left
            · (intro w hSw; (try dsimp only at hSw); go_simp; try with_reducible rfl)
            (try simp only [Act.put, List.getElem_toArray, List.getElem_cons_zero, List.getElem_cons_succ, List.setIfInBounds_toArray, List.set_cons_zero, List.set_cons_succ])
            refine wpAnyH_done (by kernel_rfl) ?_ _
            clear hHeld
            have hb' : Below w.heap.size w wr.drew := HB.out.drew
            go_wp2_with fail
            go_roundw
            case rel => exact ⟨k + 1, c, by omega, by go_num, rfl, hcn, hb'⟩
            case measure => simp [intOf]; omega
        · have hke : k = n := by omega
          subst hke
          have hc2 : c = 1 := by rw [hc.out, if_pos hXn]
          subst hc2
          go_wp2_with fail
          go_ret
          exact ⟨ret_bool (by first | rfl | simp), HB.out⟩
theorem grows_any (p : Pr) (q : PAt) (w : World) (h : Prg w p q) : Calls Try.prog 7 #[prV p q] w (Says w) := by
  cases hr : rightP (fewP p) with
  | false => exact grows_bad p q w h hr
  | true => exact grows_ok p q w h hr
end Go.Proofs.Ytddkckppmjcclaa
