/- The reference's reader: block. -/
import Derived.Test.YtddkckppmjcclaaX2
namespace Go.Proofs.Ytddkckppmjcclaa
open Go.RowKit
set_option linter.unusedSimpArgs false
set_option linter.unusedVariables false
/-- what a reader comes to that starts with x: nothing more, where something is wrong already -/
def stX {α : Type} (P : Nat → Res α) (x : XS) : Res α := if x.e = 0 then P x.at_ else .no x.e
theorem stX_ok {α : Type} {P : Nat → Res α} {x : XS} (h : x.e = 0) : stX P x = P x.at_ := if_pos h
theorem stX_no {α : Type} {P : Nat → Res α} {x : XS} (h : ¬ x.e = 0) : stX P x = .no x.e := if_neg h
theorem next_link {T : List Int} (x : XS) : ((nextX T x).e = 0 ∧ x.e = 0 ∧ nP T x.at_ = .ok (nextX T x).n (nextX T x).at_) ∨ (¬ (nextX T x).e = 0 ∧ stX (nP T) x = .no (nextX T x).e) := by
  by_cases he : x.e = 0
  · rw [stX_ok he]
    cases hn : nP T x.at_ with
    | no c =>
      have e : nextX T x = ⟨x.at_, 0, c⟩ := by unfold nextX; rw [if_pos he, hn]
      rw [e]; exact .inr ⟨nP_no0 hn, rfl⟩
    | ok n j =>
      have e : nextX T x = ⟨j, n, 0⟩ := by unfold nextX; rw [if_pos he, hn]
      rw [e]; exact .inl ⟨rfl, he, rfl⟩
  · have e : nextX T x = x := by unfold nextX; rw [if_neg he]
    rw [e, stX_no he]; exact .inr ⟨he, rfl⟩
theorem next_idle {T : List Int} {x : XS} (he : ¬ x.e = 0) : nextX T x = x := by unfold nextX; rw [if_neg he]
/-- where next fails, whatever begins with it fails -/
theorem stX_bind {α β : Type} {P : Nat → Res α} {f : α → Nat → Res β} {x : XS} {c : Int} (h : stX P x = .no c) : stX (fun i => (P i).bind f) x = .no c := by
  unfold stX at *
  split at h
  · rename_i he; rw [if_pos he]; show (P x.at_).bind f = _; rw [h]; rfl
  · rename_i he; rw [if_neg he]; cases h; rfl
theorem one_link {T : List Int} (x : XS) : ((oneX T x).2.e = 0 ∧ stX (insP T) x = .ok (oneX T x).1 (oneX T x).2.at_) ∨ (¬ (oneX T x).2.e = 0 ∧ stX (insP T) x = .no (oneX T x).2.e) := by
  have hins : insP T = fun i => (nP T i).bind fun o j => if o = 0 then .ok ⟨0, 0, 0⟩ j else (nP T j).bind fun a j2 => if o = 7 then (nP T j2).bind fun b j3 => .ok ⟨o, a, b⟩ j3 else .ok ⟨o, a, 0⟩ j2 := rfl
  rcases next_link (T := T) x with ⟨h1, hx, h2⟩ | ⟨h1, h2⟩
  · have hst : stX (insP T) x = insP T x.at_ := stX_ok hx
    unfold oneX
    split
    · rename_i h0
      refine .inl ⟨h1, ?_⟩
      rw [hst]; unfold insP; rw [h2]; simp only [Res.bind]; rw [if_pos h0]
    · rename_i h0
      rcases next_link (T := T) (nextX T x) with ⟨k1, ky, k2⟩ | ⟨k1, k2⟩
      · split
        · rename_i h7
          rcases next_link (T := T) (nextX T (nextX T x)) with ⟨l1, lz, l2⟩ | ⟨l1, l2⟩
          · refine .inl ⟨l1, ?_⟩
            rw [hst]; unfold insP; rw [h2]; simp only [Res.bind]; rw [if_neg h0, k2]; simp only []; rw [if_pos h7, l2, h7]
          · refine .inr ⟨l1, ?_⟩
            rw [stX_ok k1] at l2
            rw [hst]; unfold insP; rw [h2]; simp only [Res.bind]; rw [if_neg h0, k2]; simp only []; rw [if_pos h7, l2]
        · rename_i h7
          refine .inl ⟨k1, ?_⟩
          rw [hst]; unfold insP; rw [h2]; simp only [Res.bind]; rw [if_neg h0, k2]; simp only []; rw [if_neg h7]
      · rw [stX_ok h1] at k2
        have e3 := next_idle (T := T) k1
        split
        · refine .inr ⟨by rw [e3]; exact k1, ?_⟩
          rw [hst]; unfold insP; rw [h2]; simp only [Res.bind]; rw [if_neg h0, k2, e3]
        · refine .inr ⟨k1, ?_⟩
          rw [hst]; unfold insP; rw [h2]; simp only [Res.bind]; rw [if_neg h0, k2]
  · have e2 := next_idle (T := T) h1
    have hno : stX (insP T) x = .no (nextX T x).e := by rw [hins]; exact stX_bind h2
    unfold oneX
    split
    · exact .inr ⟨h1, hno⟩
    · split
      · rw [e2, e2]; exact .inr ⟨h1, hno⟩
      · rw [e2]; exact .inr ⟨h1, hno⟩
theorem size_link {T : List Int} (x : XS) (m : Int) : ((manyX T x 1 m).e = 0 ∧ stX (sizeP T m) x = .ok (manyX T x 1 m).n (manyX T x 1 m).at_) ∨ (¬ (manyX T x 1 m).e = 0 ∧ stX (sizeP T m) x = .no (manyX T x 1 m).e) := by
  have hsz : sizeP T m = fun i => (nP T i).bind fun n j => if m < n then .no 2 else .ok n j := rfl
  unfold manyX
  rw [Int.ediv_one]
  rcases next_link (T := T) x with ⟨h1, hx, h2⟩ | ⟨h1, h2⟩
  · have hst : stX (sizeP T m) x = sizeP T m x.at_ := stX_ok hx
    by_cases hb : m < (nextX T x).n
    · rw [if_pos ⟨h1, hb⟩]
      refine .inr ⟨(show ¬ (2 : Int) = 0 by decide), ?_⟩
      rw [hst]; unfold sizeP; rw [h2]; simp only [Res.bind]; rw [if_pos hb]
    · rw [if_neg (fun h => hb h.2)]
      refine .inl ⟨h1, ?_⟩
      rw [hst]; unfold sizeP; rw [h2]; simp only [Res.bind]; rw [if_neg hb]
  · rw [if_neg (fun h => h1 h.1)]
    refine .inr ⟨h1, ?_⟩
    rw [hsz]; exact stX_bind h2
theorem ownR_empty {α : Type} {k : Nat} {enc : α → List Value} (e : Nat) (w : World) (base : Nat) (hb : base ≤ w.heap.size) : OwnR e k enc (w.alloc (.cells #[] e)) base (.slice (some ⟨w.heap.size, 0, none⟩) 0 0) ([] : List α) :=
  ⟨by simp, .inr ⟨w.heap.size, 0, #[], rfl, hb, heap_alloc_new w _, Nat.le_refl _, by decide, by simp, by simp⟩⟩
theorem res_tc {fn : Func} {p u : Tmp} {ty : TypeId} (h : fn.results = #[.tmp u, .cell p ty]) (tmps : Array Value) {W : World} {B : Nat} {v : Value} (hp : tmps.getD p undef = .pointer (some ⟨B, 0, none⟩)) (hg : (loadVar ty ⟨B, 0, none⟩).run Try.prog W = .ok v W) :
    (results fn tmps).run Try.prog W = .ok (.tuple #[tmps.getD u undef, v]) W := by
  have hp' : tmps[p]?.getD undef = .pointer (some ⟨B, 0, none⟩) := by simpa using hp
  simp only [results, h]
  simp [Sem.run_bind, hp', asAddr, Result.andThen, hg]
def GotBlk (s : ByteArray) (w : World) (r : Res (List Ins)) (e : Ending) (w' : World) : Prop := ∃ (b : RBlk) (L : List Ins) (y : XS), e = .returned (.tuple #[.slice b.a b.n b.c, xV s y]) ∧ XOk (tx s) y ∧ OwnR 44 3 encI w' w.heap.size (.slice b.a b.n b.c) L ∧ (∀ z ∈ L, InsOk z) ∧ L.length ≤ 24 ∧
  Below w.heap.size w w' ∧ ((y.e = 0 ∧ r = .ok L y.at_) ∨ (¬ y.e = 0 ∧ r = .no y.e))
set_option maxRecDepth 100000 in
set_option maxHeartbeats 8000000 in
theorem refBlock_any (s : ByteArray) (x : XS) (w : World) (h : XOk (tx s) x) (hs : s.size ≤ 100000) : Calls Try.prog 26 #[xV s x] w (GotBlk s w (stX (blkP (tx s)) x)) := by
  have hT := tx_byt s
  obtain ⟨R, hR⟩ : ∃ zz, zz = stX (blkP (tx s)) x := ⟨_, rfl⟩
  rw [← hR]
  have HST : ((manyX (tx s) x 1 24).e = 0 ∧ R = repP (insP (tx s)) (manyX (tx s) x 1 24).n.toNat (manyX (tx s) x 1 24).at_ ∧ (manyX (tx s) x 1 24).n ≤ 24) ∨ (¬ (manyX (tx s) x 1 24).e = 0 ∧ R = .no (manyX (tx s) x 1 24).e) := by
    have hbk : blkP (tx s) = fun i => (sizeP (tx s) 24 i).bind fun n j => repP (insP (tx s)) n.toNat j := rfl
    rcases size_link (T := tx s) x 24 with ⟨h1, h2⟩ | ⟨h1, h2⟩
    · refine .inl ⟨h1, ?_, ?_⟩
      · rw [hR]
        by_cases he : x.e = 0
        · rw [stX_ok he] at h2 ⊢; unfold blkP; rw [h2]; rfl
        · rw [stX_no he] at h2; cases h2
      · by_cases he : x.e = 0
        · rw [stX_ok he] at h2; exact (sizeP_ok hT h.1 h2).2.2
        · rw [stX_no he] at h2; cases h2
    · refine .inr ⟨h1, ?_⟩
      rw [hR, hbk]; exact stX_bind h2
  have g1 := h.many hT 1 24
  have N1 := Lib.hid (fun W => many_1_24 s x W h hs)
  unfold Gives at N1
  obtain ⟨y0, hy0⟩ : ∃ zz, zz = manyX (tx s) x 1 24 := ⟨_, rfl⟩
  rw [← hy0] at HST g1 N1
  clear hy0 hR h
  obtain ⟨m, hm⟩ : ∃ m : Nat, (m : Int) = y0.n := ⟨y0.n.toNat, by have := g1.2.1; omega⟩
  have HS := Lib.hid (show (y0.e = 0 ∧ R = repP (insP (tx s)) m y0.at_ ∧ m ≤ 24) ∨ (¬ y0.e = 0 ∧ R = .no y0.e) by
    rcases HST with ⟨a, b, c⟩ | h
    · exact .inl ⟨a, by rw [b, ← hm, Int.toNat_natCast], by omega⟩
    · exact .inr h)
  have HG1 := Lib.hid g1
  clear HST g1
  obtain ⟨pa, pn, pe⟩ := y0
  dsimp only at N1 HS HG1 hm
  subst hm
  have KX := Lib.hid ((Bx.new w #[.string s, .int .i64 (x.at_ : Int), .int .i64 x.n, .int .i64 x.e] 58).below (below_alloc _ (.cells #[.string ⟨#[]⟩, .int .i64 0, .int .i64 0, .int .i64 0] 58)))
  have KS := Lib.hid (Bx.new2 w (.cells #[.string s, .int .i64 (x.at_ : Int), .int .i64 x.n, .int .i64 x.e] 58) #[.string ⟨#[]⟩, .int .i64 0, .int .i64 0, .int .i64 0] 58)
  have B0 := Lib.hid ((below_alloc w (.cells #[.string s, .int .i64 (x.at_ : Int), .int .i64 x.n, .int .i64 x.e] 58)).trans (Below.mono (below_alloc (w.alloc (.cells #[.string s, .int .i64 (x.at_ : Int), .int .i64 x.n, .int .i64 x.e] 58)) (.cells #[.string ⟨#[]⟩, .int .i64 0, .int .i64 0, .int .i64 0] 58)) (by simp; try omega)))
  obtain ⟨bx, hbx⟩ : ∃ zz, zz = w.heap.size := ⟨_, rfl⟩
  obtain ⟨bs, hbs⟩ : ∃ zz, zz = w.heap.size + 1 := ⟨_, rfl⟩
  obtain ⟨v0, hv0⟩ : ∃ zz, zz = ((w.alloc (.cells #[.string s, .int .i64 (x.at_ : Int), .int .i64 x.n, .int .i64 x.e] 58)).alloc (.cells #[.string ⟨#[]⟩, .int .i64 0, .int .i64 0, .int .i64 0] 58)) := ⟨_, rfl⟩
  have Hbx := Lib.hid hbx; have Hnbx := Lib.hid (show w.heap.size ≤ bx by omega)
  have Hbs := Lib.hid hbs; have Hnbs := Lib.hid (show w.heap.size ≤ bs by omega)
  have HV0 := Lib.hid hv0
  have nbxbs : bx ≠ bs := by omega
  have nbsbx : bs ≠ bx := by omega
  rw [← hv0] at B0 KX KS
  rw [← hbx] at KX
  rw [← hbs] at KS
  clear hv0 hbx hbs
  go_enter Try.func26, Try.ntmps26
  go_upto_region 1 with (fail)
  rw [← HV0.out, ← Hbs.out, ← Hbx.out]
  obtain ⟨cKX0, cKX1, cKX2, cKX3⟩ := Bx.cells4 KX.out
  go_wp2_with fail
  clear cKX0 cKX1 cKX2 cKX3
  refine (N1.out _).mono ?_
  rintro e u1 ⟨rfl, hb⟩
  have B_1 := Lib.hid (B0.out.trans (Below.mono hb B0.out.size))
  have KX_1 := Lib.hid (Bx.below KX.out hb)
  have KS_1 := Lib.hid (Bx.below KS.out hb)
  clear hb B0 KX KS
  obtain ⟨cKX0, cKX1, cKX2, cKX3⟩ := Bx.cells4 KX_1.out
  have lKX := Bx.lt KX_1.out; have fKX0 := Bx.froz KX_1.out 0; have fKX1 := Bx.froz KX_1.out 1; have fKX2 := Bx.froz KX_1.out 2; have fKX3 := Bx.froz KX_1.out 3
  go_upto_region 2 with (fail)
  clear cKX0 cKX1 cKX2 cKX3 lKX fKX0 fKX1 fKX2 fKX3
  have SG2 := Lib.hid (grown_st4 (World.grownBy.refl u1 (some bx)) (.string s) (.int .i64 (pa : Int)) (.int .i64 (m : Int)) (.int .i64 pe))
  have B_2 := Lib.hid (B_1.out.trans (below_grown SG2.out Hnbx.out B_1.out.size))
  have KX_2 := Lib.hid (Bx.st4 KX_1.out (.string s) (.int .i64 (pa : Int)) (.int .i64 (m : Int)) (.int .i64 pe))
  have KS_2 := Lib.hid (Bx.other KS_1.out SG2.out (some_ne nbsbx))
  obtain ⟨v3, hv3⟩ : ∃ zz, zz = st4 u1 bx (.string s) (.int .i64 (pa : Int)) (.int .i64 (m : Int)) (.int .i64 pe) := ⟨_, rfl⟩
  rw [← hv3] at B_2 KX_2 KS_2
  have gv3 := hv3
  simp only [st4] at gv3
  first | rw [← hv3] | rw [← gv3]
  clear hv3 gv3
  clear SG2 B_1 KX_1 KS_1
  obtain ⟨cKX0, cKX1, cKX2, cKX3⟩ := Bx.cells4 KX_2.out
  have BA := below_alloc v3 (.cells #[] 44)
  have KXl := Lib.hid (Bx.below KX_2.out BA); have KSl := Lib.hid (Bx.below KS_2.out BA); have Bl := Lib.hid (B_2.out.trans (Below.mono BA B_2.out.size))
  have OL := Lib.hid (ownR_empty (k := 3) (enc := encI) 44 v3 w.heap.size B_2.out.size)
  clear BA
  go_wp2_with fail
  clear cKX0 cKX1 cKX2 cKX3
  clear KX_2 KS_2 B_2
  go_loopw [5, 6] (fun v i wr => ∃ (k : Nat) (L : List Ins) (ya : Nat) (yn ye : Int), i = .int .i64 k ∧ k ≤ m ∧ OwnR 44 3 encI wr w.heap.size v L ∧ (∀ z ∈ L, InsOk z) ∧ L.length ≤ 24 ∧ XOk (tx s) ⟨ya, yn, ye⟩ ∧ Bx wr bx #[.string s, .int .i64 (ya : Int), .int .i64 yn, .int .i64 ye] 58 ∧ Bx wr bs #[.string ⟨#[]⟩, .int .i64 0, .int .i64 0, .int .i64 0] 58 ∧ Below w.heap.size w wr ∧ ((ye = 0 ∧ m ≤ 24 ∧ R = repP (insP (tx s)) m pa ∧ repP (insP (tx s)) k pa = .ok L ya) ∨ (¬ ye = 0 ∧ R = .no ye))) (fun _ i _ => m - (intOf i).toNat)
  case atStart =>
    refine ⟨0, [], pa, (m : Int), pe, rfl, Nat.zero_le _, OL.out, fun z hz => by simp at hz, by simp, HG1.out, KXl.out, KSl.out, Bl.out, ?_⟩
    rcases HS.out with ⟨a, b, c⟩ | h
    · exact .inl ⟨a, c, b, rfl⟩
    · exact .inr h
  case round =>
    clear OL KXl KSl Bl
    obtain ⟨k, L, ya, yn, ye, rfl, hk, ho, hok, hl24, hy, hkx, hks, hb, hd⟩ := hrel
    obtain ⟨ra, rc, rfl, _⟩ := OwnR.recs encI_len ho
    have HO := Lib.hid ho; have HOK := Lib.hid hok; have HY := Lib.hid hy; have KX := Lib.hid hkx; have KS := Lib.hid hks; have B := Lib.hid hb
    clear ho hok hy hkx hks hb
    by_cases hgo : k < m ∧ ye = 0
    · obtain ⟨hlt, he⟩ := hgo
      subst he
      have hlt' : (k : Int) < (m : Int) := by omega
      rcases hd with ⟨_, hm24, hR, hrep⟩ | ⟨hne, _⟩
      rotate_left
      · exact absurd rfl hne
      have HLN := Lib.hid (repP_len hrep)
      have HL1 := Lib.hid (show L.length ≤ 100000 by rw [HLN.out]; omega)
      have HR1 := Lib.hid (show ((oneX (tx s) ⟨ya, yn, 0⟩).2.e = 0 ∧ m ≤ 24 ∧ R = repP (insP (tx s)) m pa ∧ repP (insP (tx s)) (k + 1) pa = .ok (L ++ [(oneX (tx s) ⟨ya, yn, 0⟩).1]) (oneX (tx s) ⟨ya, yn, 0⟩).2.at_) ∨ (¬ (oneX (tx s) ⟨ya, yn, 0⟩).2.e = 0 ∧ R = .no (oneX (tx s) ⟨ya, yn, 0⟩).2.e) by
        rcases one_link (T := tx s) ⟨ya, yn, 0⟩ with ⟨h1, h2⟩ | ⟨h1, h2⟩
        · rw [stX_ok rfl] at h2; exact .inl ⟨h1, hm24, hR, repP_ok hrep h2⟩
        · rw [stX_ok rfl] at h2; exact .inr ⟨h1, hR.trans (repP_no hrep h2 hlt)⟩)
      have HY1 := Lib.hid (HY.out.one (tx_byt s))
      have HI1 := Lib.hid (one_insOk (tx_byt s) HY.out)
      have N2 := Lib.hid (fun W => one_any s ⟨ya, yn, 0⟩ W HY.out hs)
      unfold Gives at N2
      obtain ⟨zz, hzz⟩ : ∃ zz, zz = oneX (tx s) ⟨ya, yn, 0⟩ := ⟨_, rfl⟩
      rw [← hzz] at HR1 HY1 HI1 N2
      clear hzz hR hrep
      obtain ⟨⟨io, ia, ib⟩, ⟨qa, qn, qe⟩⟩ := zz
      dsimp only at HR1 HY1 HI1 N2
      obtain ⟨cKX0, cKX1, cKX2, cKX3⟩ := Bx.cells4 KX.out
      go_wp2_with fail
      clear cKX0 cKX1 cKX2 cKX3
      refine (N2.out _).mono ?_
      rintro e u2 ⟨rfl, hb⟩
      have KX_4 := Lib.hid (Bx.below KX.out hb)
      have KS_4 := Lib.hid (Bx.below KS.out hb)
      have B_4 := Lib.hid (B.out.trans (Below.mono hb B.out.size))
      have O_4 := Lib.hid (OwnR.below HO.out hb)
      clear hb KX KS B HO
      have BA5 := (below_alloc u2 (.cells #[.int .i64 io, .int .i64 ia, .int .i64 ib] 44)).trans (Below.mono (below_alloc (u2.alloc (.cells #[.int .i64 io, .int .i64 ia, .int .i64 ib] 44)) (.cells #[.string s, .int .i64 (qa : Int), .int .i64 qn, .int .i64 qe] 58)) (by simp))
      have K7_5 := Lib.hid ((Bx.new u2 #[.int .i64 io, .int .i64 ia, .int .i64 ib] 44).below (below_alloc _ (.cells #[.string s, .int .i64 (qa : Int), .int .i64 qn, .int .i64 qe] 58)))
      have K8_5 := Lib.hid (Bx.new2 u2 (.cells #[.int .i64 io, .int .i64 ia, .int .i64 ib] 44) #[.string s, .int .i64 (qa : Int), .int .i64 qn, .int .i64 qe] 58)
      have ltbx5 : bx < u2.heap.size := Bx.lt KX_4.out
      have ltbs5 : bs < u2.heap.size := Bx.lt KS_4.out
      have hs5 : w.heap.size ≤ u2.heap.size := B_4.out.size
      go_upto_region 8 with (fail)
      obtain ⟨b8, hb8⟩ : ∃ zz, zz = u2.heap.size + 1 := ⟨_, rfl⟩
      obtain ⟨b7, hb7⟩ : ∃ zz, zz = u2.heap.size := ⟨_, rfl⟩
      have Hnb7 := Lib.hid (show w.heap.size ≤ b7 by omega); have Hnb8 := Lib.hid (show w.heap.size ≤ b8 by omega)
      have nbxb7 : bx ≠ b7 := by omega
      have nb7bx : b7 ≠ bx := by omega
      have nbsb7 : bs ≠ b7 := by omega
      have nb7bs : b7 ≠ bs := by omega
      have nbxb8 : bx ≠ b8 := by omega
      have nb8bx : b8 ≠ bx := by omega
      have nbsb8 : bs ≠ b8 := by omega
      have nb8bs : b8 ≠ bs := by omega
      have nb7b8 : b7 ≠ b8 := by omega
      have nb8b7 : b8 ≠ b7 := by omega
      rw [← hb8] at K8_5 ⊢
      rw [← hb7] at K7_5 ⊢
      clear ltbx5 ltbs5 hs5 hb7 hb8
      have KX_6 := Lib.hid (Bx.below KX_4.out BA5)
      have KS_6 := Lib.hid (Bx.below KS_4.out BA5)
      have B_6 := Lib.hid (B_4.out.trans (Below.mono BA5 B_4.out.size))
      have O_6 := Lib.hid (OwnR.below O_4.out BA5)
      clear BA5 KX_4 KS_4 B_4 O_4
      obtain ⟨v7, hv7⟩ : ∃ zz, zz = (u2.alloc (.cells #[.int .i64 io, .int .i64 ia, .int .i64 ib] 44)).alloc (.cells #[.string s, .int .i64 (qa : Int), .int .i64 qn, .int .i64 qe] 58) := ⟨_, rfl⟩
      rw [← hv7] at KX_6 KS_6 B_6 O_6 K7_5 K8_5
      have gv7 := hv7
      first | rw [← hv7] | rw [← gv7]
      clear hv7 gv7
      obtain ⟨cK80, cK81, cK82, cK83⟩ := Bx.cells4 K8_5.out
      obtain ⟨cKX0, cKX1, cKX2, cKX3⟩ := Bx.cells4 KX_6.out
      have lKX := Bx.lt KX_6.out; have fKX0 := Bx.froz KX_6.out 0; have fKX1 := Bx.froz KX_6.out 1; have fKX2 := Bx.froz KX_6.out 2; have fKX3 := Bx.froz KX_6.out 3
      go_upto_region 9 with (fail)
      clear cK80 cK81 cK82 cK83 cKX0 cKX1 cKX2 cKX3 lKX fKX0 fKX1 fKX2 fKX3
      have SG8 := Lib.hid (grown_st4 (World.grownBy.refl v7 (some bx)) (.string s) (.int .i64 (qa : Int)) (.int .i64 qn) (.int .i64 qe))
      have KX_8 := Lib.hid (Bx.st4 KX_6.out (.string s) (.int .i64 (qa : Int)) (.int .i64 qn) (.int .i64 qe))
      have KS_8 := Lib.hid (Bx.other KS_6.out SG8.out (some_ne nbsbx))
      have B_8 := Lib.hid (B_6.out.trans (below_grown SG8.out Hnbx.out B_6.out.size))
      have O_8 := Lib.hid (OwnR.away O_6.out SG8.out (Away.box KX_6.out (by decide)))
      have K7_8 := Lib.hid (Bx.other K7_5.out SG8.out (some_ne nb7bx))
      have K8_8 := Lib.hid (Bx.other K8_5.out SG8.out (some_ne nb8bx))
      obtain ⟨v9, hv9⟩ : ∃ zz, zz = st4 v7 bx (.string s) (.int .i64 (qa : Int)) (.int .i64 qn) (.int .i64 qe) := ⟨_, rfl⟩
      rw [← hv9] at KX_8 KS_8 B_8 O_8 K7_8 K8_8
      have gv9 := hv9
      simp only [st4] at gv9
      first | rw [← hv9] | rw [← gv9]
      clear hv9 gv9
      clear SG8 KX_6 KS_6 B_6 O_6 K7_5 K8_5
      obtain ⟨cK70, cK71, cK72⟩ := Bx.cells3 K7_8.out
      have BZ := below_alloc v9 (.cells #[.int .i64 io, .int .i64 ia, .int .i64 ib] 44)
      have S2 := Lib.hid (recs_oneG (k := 3) (enc := encI) (x := ⟨io, ia, ib⟩) (t := 44) (heap_alloc_new v9 (.cells #[.int .i64 io, .int .i64 ia, .int .i64 ib] 44)))
      have KX_10 := Lib.hid (Bx.below KX_8.out BZ)
      have KS_10 := Lib.hid (Bx.below KS_8.out BZ)
      have B_10 := Lib.hid (B_8.out.trans (Below.mono BZ B_8.out.size))
      have O_10 := Lib.hid (OwnR.below O_8.out BZ)
      have K7_10 := Lib.hid (Bx.below K7_8.out BZ)
      have K8_10 := Lib.hid (Bx.below K8_8.out BZ)
      clear BZ KX_8 KS_8 B_8 O_8 K7_8 K8_8
      have HZ := Lib.hid (B_10.out.size)
      go_wp2_with (at_builtin; refine wpList_appG encI_len (by decide) encI_one 42 44 24 _ Try.underlying42 inf43 rfl (by decide) rfl _ _ rfl w.heap.size _ L rfl O_10.out ⟨v9.heap.size, 0, none⟩ 1 1 [⟨io, ia, ib⟩] rfl S2.out HL1.out (by decide) HZ.out ?_; intro v9 w9 ho9 hg9)
      clear cK70 cK71 cK72
      have KX9 := Lib.hid (Bx.other KX_10.out hg9.out (ownR_apart O_10.out KX_10.out (by decide)))
      have KS9 := Lib.hid (Bx.other KS_10.out hg9.out (ownR_apart O_10.out KS_10.out (by decide)))
      have B9 := Lib.hid (Below.grown B_10.out hg9.out HZ.out (fun r hr => OwnR.lt O_10.out r hr))
      clear hg9
      go_wp2_with fail
      go_roundw
      case rel => exact ⟨k + 1, L ++ [⟨io, ia, ib⟩], qa, qn, qe, by go_num, by omega, ho9.out, fun z hz => by rcases List.mem_append.1 hz with h1 | h1; exact HOK.out z h1; simp at h1; subst h1; exact HI1.out, by rw [List.length_append, HLN.out, List.length_singleton]; omega, HY1.out, KX9.out, KS9.out, B9.out, HR1.out⟩
      case measure => simp [intOf]; omega
    · have HD := Lib.hid (show (ye = 0 ∧ R = .ok L ya ∧ k = m) ∨ (¬ ye = 0 ∧ R = .no ye) by
        rcases hd with ⟨a, b, c, d⟩ | h
        · have hkm : k = m := by
            by_cases hlt : k < m
            · exact absurd ⟨hlt, a⟩ hgo
            · omega
          subst hkm
          exact .inl ⟨a, c.trans d, rfl⟩
        · exact .inr h)
      clear hd
      have hcases : (¬ k < m) ∨ (k < m ∧ ¬ ye = 0) := by
        by_cases hlt : k < m
        · exact .inr ⟨hlt, fun he => hgo ⟨hlt, he⟩⟩
        · exact .inl hlt
      clear hgo
      rcases hcases with hlt | ⟨hlt, hne⟩
      all_goals
        first | (have hlt' : ¬ (k : Int) < (m : Int) := by omega) | (have hlt' : (k : Int) < (m : Int) := by omega)
        try have hneb : (ye == 0) = false := by rw [beq_eq_false_iff_ne]; exact hne
        obtain ⟨cKX0, cKX1, cKX2, cKX3⟩ := Bx.cells4 KX.out
        go_upto_region 10 with (fail)
        clear cKX0 cKX1 cKX2 cKX3
        have HSS := Lib.hid (show ∀ W, Bx W bx #[.string s, .int .i64 (ya : Int), .int .i64 yn, .int .i64 ye] 58 → (fun W => W.cell? ⟨bx, 0, none⟩ = some (.string s) ∧ W.cell? ⟨bx, 1, none⟩ = some (.int .i64 (ya : Int)) ∧ W.cell? ⟨bx, 2, none⟩ = some (.int .i64 yn) ∧ W.cell? ⟨bx, 3, none⟩ = some (.int .i64 ye)) W from fun W h0 => ⟨Bx.cell h0 0 rfl, Bx.cell h0 1 rfl, Bx.cell h0 2 rfl, Bx.cell h0 3 rfl⟩)
        refine wp_region_held_drew (S := (fun W => W.cell? ⟨bx, 0, none⟩ = some (.string s) ∧ W.cell? ⟨bx, 1, none⟩ = some (.int .i64 (ya : Int)) ∧ W.cell? ⟨bx, 2, none⟩ = some (.int .i64 yn) ∧ W.cell? ⟨bx, 3, none⟩ = some (.int .i64 ye))) (by kernel_rfl) (HSS.out _ KX.out) (fun hHeld => ?_)
        (try simp only [Act.put, List.getElem_toArray, List.getElem_cons_zero, List.getElem_cons_succ, List.setIfInBounds_toArray, List.set_cons_zero, List.set_cons_succ])
        have DR : Below wr.heap.size wr wr.drew := (Below.refl _ _).drew
        have KX_11 := Lib.hid (Bx.below KX.out DR)
        have KS_11 := Lib.hid (Bx.below KS.out DR)
        have B_11 := Lib.hid (B.out.trans (Below.mono DR B.out.size))
        have O_11 := Lib.hid (OwnR.below HO.out DR)
        clear DR KX KS B HO
        obtain ⟨v12, hv12⟩ : ∃ zz, zz = wr.drew := ⟨_, rfl⟩
        rw [← hv12] at KX_11 KS_11 B_11 O_11
        have gv12 := hv12
        first | rw [← hv12] | rw [← gv12]
        clear hv12 gv12
        clear hHeld
        have hHeld := HSS.out _ KX_11.out
        dsimp only at hHeld
        refine wpAnyH_take (i := 0) (v := ?_) rfl (by kernel_rfl) (by kernel_rfl) (by kernel_rfl) (fun _ _ _ h => h) (Or.inl ⟨by rfl, ?_⟩) (by assumption) ?_
        rotate_left
        · (intro w hSw; (try dsimp only at hSw); go_simp; try with_reducible rfl)
        (try simp only [Act.put, List.getElem_toArray, List.getElem_cons_zero, List.getElem_cons_succ, List.setIfInBounds_toArray, List.set_cons_zero, List.set_cons_succ])
        refine wpAnyH_take (i := 1) (v := ?_) rfl (by kernel_rfl) (by kernel_rfl) (by kernel_rfl) (fun _ _ _ h => h) (Or.inl ⟨by rfl, ?_⟩) (by assumption) ?_
        rotate_left
        · (intro w hSw; (try dsimp only at hSw); go_simp; try with_reducible rfl)
        (try simp only [Act.put, List.getElem_toArray, List.getElem_cons_zero, List.getElem_cons_succ, List.setIfInBounds_toArray, List.set_cons_zero, List.set_cons_succ])
        refine wpAnyH_take (i := 2) (v := ?_) rfl (by kernel_rfl) (by kernel_rfl) (by kernel_rfl) (fun _ _ _ h => h) (Or.inl ⟨by rfl, ?_⟩) (by assumption) ?_
        rotate_left
        · (intro w hSw; (try dsimp only at hSw); go_simp; try with_reducible rfl)
        (try simp only [Act.put, List.getElem_toArray, List.getElem_cons_zero, List.getElem_cons_succ, List.setIfInBounds_toArray, List.set_cons_zero, List.set_cons_succ])
        have SG13 := Lib.hid (grown_st4 (World.grownBy.refl v12 (some bs)) (.string s) (.int .i64 (ya : Int)) (.int .i64 yn) (.int .i64 ye))
        have KX_13 := Lib.hid (Bx.other KX_11.out SG13.out (some_ne nbxbs))
        have KS_13 := Lib.hid (Bx.st4 KS_11.out (.string s) (.int .i64 (ya : Int)) (.int .i64 yn) (.int .i64 ye))
        have B_13 := Lib.hid (B_11.out.trans (below_grown SG13.out Hnbs.out B_11.out.size))
        have O_13 := Lib.hid (OwnR.away O_11.out SG13.out (Away.box KS_11.out (by decide)))
        obtain ⟨cKS0, cKS1, cKS2, cKS3⟩ := Bx.cells4 KS_11.out
        have lKS := Bx.lt KS_11.out; have fKS0 := Bx.froz KS_11.out 0; have fKS1 := Bx.froz KS_11.out 1; have fKS2 := Bx.froz KS_11.out 2; have fKS3 := Bx.froz KS_11.out 3
        refine wpAnyH_ready (rs := [3]) (by kernel_rfl) (by simp) ?_
        refine AllReadyH.cons (o := _) rfl (fun K hK => ?_) AllReadyH.nil
        go_simp
        clear cKS0 cKS1 cKS2 cKS3 lKS fKS0 fKS1 fKS2 fKS3
        clear hHeld
        refine hK.out _ _ (HSS.out _ KX_13.out) (fun hHeld => ?_)
        clear hK K
        (try simp only [Act.put, List.getElem_toArray, List.getElem_cons_zero, List.getElem_cons_succ, List.setIfInBounds_toArray, List.set_cons_zero, List.set_cons_succ])
        obtain ⟨v14, hv14⟩ : ∃ zz, zz = st4 v12 bs (.string s) (.int .i64 (ya : Int)) (.int .i64 yn) (.int .i64 ye) := ⟨_, rfl⟩
        rw [← hv14] at KX_13 KS_13 B_13 O_13
        have gv14 := hv14
        simp only [st4] at gv14
        first | rw [← hv14] | rw [← gv14]
        clear hv14 gv14
        clear SG13 KX_11 KS_11 B_11 O_11
        refine wpAnyH_done (by kernel_rfl) ?_ _
        clear hHeld HSS
        go_wp2_with fail
        refine bodyPost_ret (v := .tuple #[.slice ra L.length rc, .agg #[.string s, .int .i64 (ya : Int), .int .i64 yn, .int .i64 ye]]) (by first | rw [res_tc Try.results26 _ (by rfl) (Bx.load KS_13.out Try.underlying58 inf58)]; rfl | skip) rfl ?_
        exact ⟨⟨ra, L.length, rc⟩, L, ⟨ya, yn, ye⟩, rfl, HY.out, O_13.out, HOK.out, hl24, B_13.out, by rcases HD.out with ⟨a, b, _⟩ | h; exact .inl ⟨a, b⟩; exact .inr h⟩
end Go.Proofs.Ytddkckppmjcclaa
