/- Decode: the program. -/
import Derived.Test.YtddkckppmjcclaaD8
namespace Go.Proofs.Ytddkckppmjcclaa
open Go.RowKit
set_option linter.unusedSimpArgs false
set_option linter.unusedVariables false
theorem res_c1 {fn : Func} {p u : Tmp} {ty : TypeId} (h : fn.results = #[.cell p ty, .tmp u]) (tmps : Array Value) {W : World} {B : Nat} {v : Value} (hp : tmps.getD p undef = .pointer (some ⟨B, 0, none⟩)) (hg : (loadVar ty ⟨B, 0, none⟩).run Try.prog W = .ok v W) :
    (results fn tmps).run Try.prog W = .ok (.tuple #[v, tmps.getD u undef]) W := by
  rw [results_cell_tmp h, hp]
  simp [asAddr, Result.andThen, hg]
def zeroPr : Pr := ⟨[], 0, 0, 0, [], []⟩
def zeroAt : PAt := ⟨none, 0, 0, none, 0, 0, none, 0, 0⟩
theorem RepQ.box {base : Nat} {w w' : World} {p : Pr} {q : PAt} (h : RepQ base w p q) {b : Nat} {cs : Array Value} (hb : Bx w b cs 26) (hg : w.grownBy w' (some b)) : RepQ base w' p q :=
  ⟨OwnR.away h.1 hg (Away.box hb (by decide)), OSels.away h.2.1 hg (Away.box hb (by decide)) (Away.box hb (by decide)), OBlks.away h.2.2.1 hg (Away.box hb (by decide)) (Away.box hb (by decide)), h.2.2.2⟩
theorem RepQ.below {base : Nat} {w w' : World} {p : Pr} {q : PAt} (h : RepQ base w p q) (hb : Below w.heap.size w w') : RepQ base w' p q :=
  ⟨OwnR.below h.1 hb, OSels.below h.2.1 hb, OBlks.below h.2.2.1 hb, h.2.2.2⟩
theorem Prg.zero (w : World) : Prg w zeroPr zeroAt := by
  unfold zeroPr zeroAt
  exact ⟨Ints.nil w, ⟨by decide, by decide⟩, ⟨by decide, by decide⟩, ⟨by decide, by decide⟩, ⟨[], Recs.nil w, trivial⟩, ⟨[], Recs.nil w, trivial⟩⟩
noncomputable def decZ (T : List Int) : Pr × Int := match prgP T 0 with
  | .no c => (zeroPr, c)
  | .ok p j => if j < T.length then (zeroPr, 10) else if rightP p = true then (p, 0) else (zeroPr, 1)
def GotDec (w : World) (p : Pr) (c : Int) (e : Ending) (w' : World) : Prop := ∃ q, e = .returned (.tuple #[prV p q, .int .i64 c]) ∧ Prg w' p q ∧ Below w.heap.size w w'
theorem below_grown {w w' : World} {B n : Nat} (h : w.grownBy w' (some B)) (hn : n ≤ B) (hw : n ≤ w.heap.size) : Below n w w' := ⟨h.os, h.tape, h.output, h.size, fun k hk => h.block k (by omega) (fun e => by cases e; omega)⟩
theorem nP_no0 {T : List Int} {i : Nat} {c : Int} (h : nP T i = .no c) : c ≠ 0 := by
  unfold nP at h
  split at h
  · cases h
  · rename_i h0; cases h; exact h0
def NoZ {α : Type} (r : Res α) : Prop := ∀ c, r = .no c → c ≠ 0
theorem NoZ.bind {α β : Type} {r : Res α} {f : α → Nat → Res β} (h : NoZ r) (hf : ∀ a j, NoZ (f a j)) : NoZ (r.bind f) := by
  intro c hc
  cases r with
  | no c' => cases hc; exact h c rfl
  | ok a j => exact hf a j c hc
theorem NoZ.ok {α : Type} (a : α) (j : Nat) : NoZ (.ok a j) := fun c h => by cases h
theorem NoZ.n (T : List Int) (i : Nat) : NoZ (nP T i) := fun c h => nP_no0 h
theorem NoZ.two {α : Type} : NoZ (.no 2 : Res α) := fun c h => by cases h; decide
theorem NoZ.pair (T : List Int) (i : Nat) : NoZ (pairP T i) := (NoZ.n T i).bind fun _ _ => NoZ.ok _ _
theorem NoZ.size (T : List Int) (m : Int) (i : Nat) : NoZ (sizeP T m i) := (NoZ.n T i).bind fun n j => by
  split
  · exact NoZ.two
  · exact NoZ.ok _ _
theorem NoZ.rep {α : Type} {f : Nat → Res α} (hf : ∀ i, NoZ (f i)) : ∀ (k i : Nat), NoZ (repP f k i)
  | 0, i => NoZ.ok _ _
  | k + 1, i => (hf i).bind fun a j => (NoZ.rep hf k j).bind fun _ _ => NoZ.ok _ _
theorem NoZ.ins (T : List Int) (i : Nat) : NoZ (insP T i) := (NoZ.n T i).bind fun o j => by
  split
  · exact NoZ.ok _ _
  · refine (NoZ.n T j).bind fun a j2 => ?_
    split
    · exact (NoZ.n T j2).bind fun _ _ => NoZ.ok _ _
    · exact NoZ.ok _ _
theorem NoZ.blk (T : List Int) (i : Nat) : NoZ (blkP T i) := (NoZ.size T 24 i).bind fun n j => NoZ.rep (NoZ.ins T) _ _
theorem NoZ.sel (T : List Int) (i : Nat) : NoZ (selP T i) := (NoZ.pair T i).bind fun p j => by
  split
  · exact NoZ.two
  · exact (NoZ.rep (fun i => (NoZ.pair T i).bind fun _ _ => NoZ.ok _ _) _ _).bind fun _ _ => NoZ.ok _ _
theorem NoZ.prg (T : List Int) (i : Nat) : NoZ (prgP T i) :=
  (NoZ.size T 4 i).bind fun n j0 => (NoZ.rep (fun i => (NoZ.n T i).bind fun _ _ => NoZ.ok _ _) _ _).bind fun caps j1 =>
  (NoZ.n T j1).bind fun mu j2 => (NoZ.n T j2).bind fun on j3 => (NoZ.n T j3).bind fun va j4 => (NoZ.size T 4 j4).bind fun m j5 => (NoZ.rep (NoZ.sel T) _ _).bind fun sels j6 =>
  (NoZ.size T 6 j6).bind fun h j7 => (NoZ.rep (NoZ.blk T) _ _).bind fun blks j8 => NoZ.ok _ _
set_option maxRecDepth 100000 in
set_option maxHeartbeats 8000000 in
theorem dec_no (s : ByteArray) (w : World) (hs : s.size ≤ 100000) {c : Int} (hn : prgP (tx s) 0 = .no c) :
    Calls Try.prog 14 #[.string s] w (GotDec w zeroPr c) := by
  have hcn : ¬ c = 0 := NoZ.prg _ _ _ hn
  have hc0 : (c == 0) = false := by rw [beq_eq_false_iff_ne]; exact hcn
  have hcne : (c != 0) = true := by simp [hcn]
  have N1 := Lib.hid (fun B W (H : Rd W B s 0) => tried_no s B 0 W H (Nat.zero_le _) hs hn)
  unfold Tried at N1
  dsimp only at N1
  clear hn
  have K0 := Lib.hid ((Bx.new w #[.slice none 0 0, .int .i64 0, .int .i64 0, .int .i64 0, .slice none 0 0, .slice none 0 0] 26).below (below_alloc _ (.cells #[.string s, .int .i64 0] 55)))
  have RB := Lib.hid (show Rd ((w.alloc (.cells #[.slice none 0 0, .int .i64 0, .int .i64 0, .int .i64 0, .slice none 0 0, .slice none 0 0] 26)).alloc (.cells #[.string s, .int .i64 0] 55)) (w.heap.size + 1) s 0 from Bx.new2 w (.cells #[.slice none 0 0, .int .i64 0, .int .i64 0, .int .i64 0, .slice none 0 0, .slice none 0 0] 26) #[.string s, .int .i64 0] 55)
  have HBW := Lib.hid ((below_alloc w (.cells #[.slice none 0 0, .int .i64 0, .int .i64 0, .int .i64 0, .slice none 0 0, .slice none 0 0] 26)).trans (Below.mono (below_alloc (w.alloc (.cells #[.slice none 0 0, .int .i64 0, .int .i64 0, .int .i64 0, .slice none 0 0, .slice none 0 0] 26)) (.cells #[.string s, .int .i64 0] 55)) (by simp)))
  obtain ⟨b0, hb0⟩ : ∃ b0, b0 = w.heap.size := ⟨_, rfl⟩
  obtain ⟨B, hB⟩ : ∃ B, B = w.heap.size + 1 := ⟨_, rfl⟩
  obtain ⟨w1, hw1⟩ : ∃ w1, w1 = (w.alloc (.cells #[.slice none 0 0, .int .i64 0, .int .i64 0, .int .i64 0, .slice none 0 0, .slice none 0 0] 26)).alloc (.cells #[.string s, .int .i64 0] 55) := ⟨_, rfl⟩
  have HB0 := Lib.hid hb0; have HBB := Lib.hid hB; have HW1 := Lib.hid hw1
  have h0B : b0 ≠ B := by omega
  have HnB := Lib.hid (show w.heap.size ≤ B by omega); have Hn0 := Lib.hid (show w.heap.size ≤ b0 by omega)
  rw [← hw1] at K0 RB HBW
  rw [← hb0] at K0
  rw [← hB] at RB
  clear hw1 hb0 hB
  go_enter Try.func14, Try.ntmps14
  go_upto_region 2 with (fail)
  rw [← HW1.out, ← HBB.out, ← HB0.out]
  go_wp2_with fail
  refine (N1.out _ _ RB.out).mono ?_
  rintro e w2 ⟨rfl, hg⟩
  have K0_2 := Lib.hid (K0.out.other hg (some_ne h0B))
  have HBW2 := Lib.hid (HBW.out.trans (below_grown hg HnB.out HBW.out.size))
  clear hg K0 HBW RB N1
  have BA := Lib.hid (below_alloc w2 (.cells #[.slice none 0 0, .int .i64 0, .int .i64 0, .int .i64 0, .slice none 0 0, .slice none 0 0] 26))
  have KP := Lib.hid (Bx.new w2 #[.slice none 0 0, .int .i64 0, .int .i64 0, .int .i64 0, .slice none 0 0, .slice none 0 0] 26)
  have K0_3 := Lib.hid (K0_2.out.below BA.out)
  have HBW3 := Lib.hid (HBW2.out.trans (Below.mono BA.out HBW2.out.size))
  have hb0l : b0 < w2.heap.size := Bx.lt K0_2.out
  go_upto_region 3 with (fail)
  obtain ⟨bp, hbp⟩ : ∃ bp, bp = w2.heap.size := ⟨_, rfl⟩
  obtain ⟨w3, hw3⟩ : ∃ w3, w3 = w2.alloc (.cells #[.slice none 0 0, .int .i64 0, .int .i64 0, .int .i64 0, .slice none 0 0, .slice none 0 0] 26) := ⟨_, rfl⟩
  have h0p : b0 ≠ bp := by omega
  have hp0 : bp ≠ b0 := by omega
  rw [← hw3] at KP K0_3 HBW3 ⊢
  rw [← hbp] at KP ⊢
  clear hw3 hbp hb0l BA HBW2 K0_2
  have l0 := Bx.lt K0_3.out
  have f0 := Bx.froz K0_3.out 0; have f1 := Bx.froz K0_3.out 1; have f2 := Bx.froz K0_3.out 2; have f3 := Bx.froz K0_3.out 3; have f4 := Bx.froz K0_3.out 4; have f5 := Bx.froz K0_3.out 5
  obtain ⟨x0, x1, x2, x3, x4, x5⟩ := K0_3.out.cells6
  have HE := Lib.hid (K0_3.out.st6 (.slice none 0 0) (.int .i64 0) (.int .i64 0) (.int .i64 0) (.slice none 0 0) (.slice none 0 0))
  have HBE := Lib.hid (HBW3.out.trans (below_grown (grown_st6 (World.grownBy.refl w3 (some b0)) (.slice none 0 0) (.int .i64 0) (.int .i64 0) (.int .i64 0) (.slice none 0 0) (.slice none 0 0)) Hn0.out HBW3.out.size))
  have HPE := Lib.hid (Prg.zero (st6 w3 b0 (.slice none 0 0) (.int .i64 0) (.int .i64 0) (.int .i64 0) (.slice none 0 0) (.slice none 0 0)))
  go_wp2_with fail
  refine bodyPost_ret (v := .tuple #[.agg #[.slice none 0 0, .int .i64 0, .int .i64 0, .int .i64 0, .slice none 0 0, .slice none 0 0], .int .i64 c]) (by first | rw [res_c1 Try.results14 _ (by rfl) (Bx.load HE.out Try.underlying26 inf26)]; rfl | skip) rfl ?_
  exact ⟨zeroAt, rfl, HPE.out, HBE.out⟩
set_option maxRecDepth 100000 in
set_option maxHeartbeats 8000000 in
theorem dec_long (s : ByteArray) (w : World) (hs : s.size ≤ 100000) {p : Pr} {j : Nat} (hn : prgP (tx s) 0 = .ok p j) (hj : j < s.size) :
    Calls Try.prog 14 #[.string s] w (GotDec w zeroPr 10) := by
  have hj' : (j : Int) < (s.size : Int) := by omega
  have N1 := Lib.hid (fun B W (H : Rd W B s 0) => tried_ok s B 0 W H (Nat.zero_le _) hs hn)
  unfold Tried at N1
  dsimp only at N1
  clear hn
  have K0 := Lib.hid ((Bx.new w #[.slice none 0 0, .int .i64 0, .int .i64 0, .int .i64 0, .slice none 0 0, .slice none 0 0] 26).below (below_alloc _ (.cells #[.string s, .int .i64 0] 55)))
  have RB := Lib.hid (show Rd ((w.alloc (.cells #[.slice none 0 0, .int .i64 0, .int .i64 0, .int .i64 0, .slice none 0 0, .slice none 0 0] 26)).alloc (.cells #[.string s, .int .i64 0] 55)) (w.heap.size + 1) s 0 from Bx.new2 w (.cells #[.slice none 0 0, .int .i64 0, .int .i64 0, .int .i64 0, .slice none 0 0, .slice none 0 0] 26) #[.string s, .int .i64 0] 55)
  have HBW := Lib.hid ((below_alloc w (.cells #[.slice none 0 0, .int .i64 0, .int .i64 0, .int .i64 0, .slice none 0 0, .slice none 0 0] 26)).trans (Below.mono (below_alloc (w.alloc (.cells #[.slice none 0 0, .int .i64 0, .int .i64 0, .int .i64 0, .slice none 0 0, .slice none 0 0] 26)) (.cells #[.string s, .int .i64 0] 55)) (by simp)))
  obtain ⟨b0, hb0⟩ : ∃ b0, b0 = w.heap.size := ⟨_, rfl⟩
  obtain ⟨B, hB⟩ : ∃ B, B = w.heap.size + 1 := ⟨_, rfl⟩
  obtain ⟨w1, hw1⟩ : ∃ w1, w1 = (w.alloc (.cells #[.slice none 0 0, .int .i64 0, .int .i64 0, .int .i64 0, .slice none 0 0, .slice none 0 0] 26)).alloc (.cells #[.string s, .int .i64 0] 55) := ⟨_, rfl⟩
  have HB0 := Lib.hid hb0; have HBB := Lib.hid hB; have HW1 := Lib.hid hw1
  have h0B : b0 ≠ B := by omega
  have HnB := Lib.hid (show w.heap.size ≤ B by omega); have Hn0 := Lib.hid (show w.heap.size ≤ b0 by omega)
  rw [← hw1] at K0 RB HBW
  rw [← hb0] at K0
  rw [← hB] at RB
  clear hw1 hb0 hB
  go_enter Try.func14, Try.ntmps14
  go_upto_region 2 with (fail)
  rw [← HW1.out, ← HBB.out, ← HB0.out]
  go_wp2_with fail
  refine (N1.out _ _ RB.out).mono ?_
  rintro e w2 ⟨q, rfl, hq, hr2, hg⟩
  have HQ0 := Lib.hid hq
  have hRd := hr2
  have K0_2 := Lib.hid (K0.out.other hg (some_ne h0B))
  have HBW2 := Lib.hid (HBW.out.trans (below_grown hg HnB.out HBW.out.size))
  clear hg K0 HBW RB N1
  have BA := Lib.hid (below_alloc w2 (.cells (prC p q) 26))
  have KP := Lib.hid (Bx.new w2 (prC p q) 26)
  have K0_3 := Lib.hid (K0_2.out.below BA.out)
  have HBW3 := Lib.hid (HBW2.out.trans (Below.mono BA.out HBW2.out.size))
  have R3 := Lib.hid (hRd.below BA.out)
  have PQ := Lib.hid (HQ0.out.below BA.out)
  clear hRd hr2 hq HQ0
  have hb0l : b0 < w2.heap.size := Bx.lt K0_2.out
  go_upto_region 3 with (fail)
  obtain ⟨bp, hbp⟩ : ∃ bp, bp = w2.heap.size := ⟨_, rfl⟩
  obtain ⟨w3, hw3⟩ : ∃ w3, w3 = w2.alloc (.cells (prC p q) 26) := ⟨_, rfl⟩
  have h0p : b0 ≠ bp := by omega
  have hp0 : bp ≠ b0 := by omega
  rw [← hw3] at KP K0_3 HBW3 R3 PQ ⊢
  rw [← hbp] at KP ⊢
  clear hw3 hbp hb0l BA HBW2 K0_2
  obtain ⟨c0, c1⟩ := R3.out.cells
  have l0 := Bx.lt K0_3.out
  have f0 := Bx.froz K0_3.out 0; have f1 := Bx.froz K0_3.out 1; have f2 := Bx.froz K0_3.out 2; have f3 := Bx.froz K0_3.out 3; have f4 := Bx.froz K0_3.out 4; have f5 := Bx.froz K0_3.out 5
  obtain ⟨x0, x1, x2, x3, x4, x5⟩ := K0_3.out.cells6
  have HE := Lib.hid (K0_3.out.st6 (.slice none 0 0) (.int .i64 0) (.int .i64 0) (.int .i64 0) (.slice none 0 0) (.slice none 0 0))
  have HBE := Lib.hid (HBW3.out.trans (below_grown (grown_st6 (World.grownBy.refl w3 (some b0)) (.slice none 0 0) (.int .i64 0) (.int .i64 0) (.int .i64 0) (.slice none 0 0) (.slice none 0 0)) Hn0.out HBW3.out.size))
  have HPE := Lib.hid (Prg.zero (st6 w3 b0 (.slice none 0 0) (.int .i64 0) (.int .i64 0) (.int .i64 0) (.slice none 0 0) (.slice none 0 0)))
  go_wp2_with fail
  refine bodyPost_ret (v := .tuple #[.agg #[.slice none 0 0, .int .i64 0, .int .i64 0, .int .i64 0, .slice none 0 0, .slice none 0 0], .int .i64 10]) (by first | rw [res_c1 Try.results14 _ (by rfl) (Bx.load HE.out Try.underlying26 inf26)]; rfl | skip) rfl ?_
  exact ⟨zeroAt, rfl, HPE.out, HBE.out⟩
set_option maxRecDepth 100000 in
set_option maxHeartbeats 8000000 in
theorem dec_wrong (s : ByteArray) (w : World) (hs : s.size ≤ 100000) {p : Pr} {j : Nat} (hn : prgP (tx s) 0 = .ok p j) (hj : ¬ j < s.size) (hr : rightP p = false) :
    Calls Try.prog 14 #[.string s] w (GotDec w zeroPr 1) := by
  have hj' : ¬ (j : Int) < (s.size : Int) := by omega
  have N1 := Lib.hid (fun B W (H : Rd W B s 0) => tried_ok s B 0 W H (Nat.zero_le _) hs hn)
  unfold Tried at N1
  dsimp only at N1
  clear hn
  have K0 := Lib.hid ((Bx.new w #[.slice none 0 0, .int .i64 0, .int .i64 0, .int .i64 0, .slice none 0 0, .slice none 0 0] 26).below (below_alloc _ (.cells #[.string s, .int .i64 0] 55)))
  have RB := Lib.hid (show Rd ((w.alloc (.cells #[.slice none 0 0, .int .i64 0, .int .i64 0, .int .i64 0, .slice none 0 0, .slice none 0 0] 26)).alloc (.cells #[.string s, .int .i64 0] 55)) (w.heap.size + 1) s 0 from Bx.new2 w (.cells #[.slice none 0 0, .int .i64 0, .int .i64 0, .int .i64 0, .slice none 0 0, .slice none 0 0] 26) #[.string s, .int .i64 0] 55)
  have HBW := Lib.hid ((below_alloc w (.cells #[.slice none 0 0, .int .i64 0, .int .i64 0, .int .i64 0, .slice none 0 0, .slice none 0 0] 26)).trans (Below.mono (below_alloc (w.alloc (.cells #[.slice none 0 0, .int .i64 0, .int .i64 0, .int .i64 0, .slice none 0 0, .slice none 0 0] 26)) (.cells #[.string s, .int .i64 0] 55)) (by simp)))
  obtain ⟨b0, hb0⟩ : ∃ b0, b0 = w.heap.size := ⟨_, rfl⟩
  obtain ⟨B, hB⟩ : ∃ B, B = w.heap.size + 1 := ⟨_, rfl⟩
  obtain ⟨w1, hw1⟩ : ∃ w1, w1 = (w.alloc (.cells #[.slice none 0 0, .int .i64 0, .int .i64 0, .int .i64 0, .slice none 0 0, .slice none 0 0] 26)).alloc (.cells #[.string s, .int .i64 0] 55) := ⟨_, rfl⟩
  have HB0 := Lib.hid hb0; have HBB := Lib.hid hB; have HW1 := Lib.hid hw1
  have h0B : b0 ≠ B := by omega
  have HnB := Lib.hid (show w.heap.size ≤ B by omega); have Hn0 := Lib.hid (show w.heap.size ≤ b0 by omega)
  rw [← hw1] at K0 RB HBW
  rw [← hb0] at K0
  rw [← hB] at RB
  clear hw1 hb0 hB
  go_enter Try.func14, Try.ntmps14
  go_upto_region 2 with (fail)
  rw [← HW1.out, ← HBB.out, ← HB0.out]
  go_wp2_with fail
  refine (N1.out _ _ RB.out).mono ?_
  rintro e w2 ⟨q, rfl, hq, hr2, hg⟩
  have HQ0 := Lib.hid hq
  have hRd := hr2
  have K0_2 := Lib.hid (K0.out.other hg (some_ne h0B))
  have HBW2 := Lib.hid (HBW.out.trans (below_grown hg HnB.out HBW.out.size))
  clear hg K0 HBW RB N1
  have BA := Lib.hid (below_alloc w2 (.cells (prC p q) 26))
  have KP := Lib.hid (Bx.new w2 (prC p q) 26)
  have K0_3 := Lib.hid (K0_2.out.below BA.out)
  have HBW3 := Lib.hid (HBW2.out.trans (Below.mono BA.out HBW2.out.size))
  have R3 := Lib.hid (hRd.below BA.out)
  have PQ := Lib.hid (HQ0.out.below BA.out)
  clear hRd hr2 hq HQ0
  have hb0l : b0 < w2.heap.size := Bx.lt K0_2.out
  go_upto_region 3 with (fail)
  obtain ⟨bp, hbp⟩ : ∃ bp, bp = w2.heap.size := ⟨_, rfl⟩
  obtain ⟨w3, hw3⟩ : ∃ w3, w3 = w2.alloc (.cells (prC p q) 26) := ⟨_, rfl⟩
  have h0p : b0 ≠ bp := by omega
  have hp0 : bp ≠ b0 := by omega
  rw [← hw3] at KP K0_3 HBW3 R3 PQ ⊢
  rw [← hbp] at KP ⊢
  clear hw3 hbp hb0l BA HBW2 K0_2
  obtain ⟨c0, c1⟩ := R3.out.cells
  obtain ⟨y0, y1, y2, y3, y4, y5⟩ := KP.out.cells6
  have N2 := Lib.hid (Right_any p q w3 PQ.out.prg)
  rw [hr] at N2
  clear hr
  go_wp2_with fail
  refine N2.out.mono ?_
  rintro e w4 ⟨rfl, hb⟩
  have K0_4 := Lib.hid (K0_3.out.below hb); have KP_4 := Lib.hid (KP.out.below hb); have HBW4 := Lib.hid (HBW3.out.trans (Below.mono hb HBW3.out.size)); have PQ4 := Lib.hid (PQ.out.below hb)
  clear hb K0_3 KP HBW3 PQ N2 c0 c1 y0 y1 y2 y3 y4 y5 R3
  have l0 := Bx.lt K0_4.out
  have f0 := Bx.froz K0_4.out 0; have f1 := Bx.froz K0_4.out 1; have f2 := Bx.froz K0_4.out 2; have f3 := Bx.froz K0_4.out 3; have f4 := Bx.froz K0_4.out 4; have f5 := Bx.froz K0_4.out 5
  obtain ⟨x0, x1, x2, x3, x4, x5⟩ := K0_4.out.cells6
  have HE := Lib.hid (K0_4.out.st6 (.slice none 0 0) (.int .i64 0) (.int .i64 0) (.int .i64 0) (.slice none 0 0) (.slice none 0 0))
  have HBE := Lib.hid (HBW4.out.trans (below_grown (grown_st6 (World.grownBy.refl w4 (some b0)) (.slice none 0 0) (.int .i64 0) (.int .i64 0) (.int .i64 0) (.slice none 0 0) (.slice none 0 0)) Hn0.out HBW4.out.size))
  have HPE := Lib.hid (Prg.zero (st6 w4 b0 (.slice none 0 0) (.int .i64 0) (.int .i64 0) (.int .i64 0) (.slice none 0 0) (.slice none 0 0)))
  go_wp2_with fail
  refine bodyPost_ret (v := .tuple #[.agg #[.slice none 0 0, .int .i64 0, .int .i64 0, .int .i64 0, .slice none 0 0, .slice none 0 0], .int .i64 1]) (by first | rw [res_c1 Try.results14 _ (by rfl) (Bx.load HE.out Try.underlying26 inf26)]; rfl | skip) rfl ?_
  exact ⟨zeroAt, rfl, HPE.out, HBE.out⟩
set_option maxRecDepth 100000 in
set_option maxHeartbeats 8000000 in
theorem dec_right (s : ByteArray) (w : World) (hs : s.size ≤ 100000) {p : Pr} {j : Nat} (hn : prgP (tx s) 0 = .ok p j) (hj : ¬ j < s.size) (hr : rightP p = true) :
    Calls Try.prog 14 #[.string s] w (GotDec w p 0) := by
  have hj' : ¬ (j : Int) < (s.size : Int) := by omega
  have N1 := Lib.hid (fun B W (H : Rd W B s 0) => tried_ok s B 0 W H (Nat.zero_le _) hs hn)
  unfold Tried at N1
  dsimp only at N1
  clear hn
  have K0 := Lib.hid ((Bx.new w #[.slice none 0 0, .int .i64 0, .int .i64 0, .int .i64 0, .slice none 0 0, .slice none 0 0] 26).below (below_alloc _ (.cells #[.string s, .int .i64 0] 55)))
  have RB := Lib.hid (show Rd ((w.alloc (.cells #[.slice none 0 0, .int .i64 0, .int .i64 0, .int .i64 0, .slice none 0 0, .slice none 0 0] 26)).alloc (.cells #[.string s, .int .i64 0] 55)) (w.heap.size + 1) s 0 from Bx.new2 w (.cells #[.slice none 0 0, .int .i64 0, .int .i64 0, .int .i64 0, .slice none 0 0, .slice none 0 0] 26) #[.string s, .int .i64 0] 55)
  have HBW := Lib.hid ((below_alloc w (.cells #[.slice none 0 0, .int .i64 0, .int .i64 0, .int .i64 0, .slice none 0 0, .slice none 0 0] 26)).trans (Below.mono (below_alloc (w.alloc (.cells #[.slice none 0 0, .int .i64 0, .int .i64 0, .int .i64 0, .slice none 0 0, .slice none 0 0] 26)) (.cells #[.string s, .int .i64 0] 55)) (by simp)))
  obtain ⟨b0, hb0⟩ : ∃ b0, b0 = w.heap.size := ⟨_, rfl⟩
  obtain ⟨B, hB⟩ : ∃ B, B = w.heap.size + 1 := ⟨_, rfl⟩
  obtain ⟨w1, hw1⟩ : ∃ w1, w1 = (w.alloc (.cells #[.slice none 0 0, .int .i64 0, .int .i64 0, .int .i64 0, .slice none 0 0, .slice none 0 0] 26)).alloc (.cells #[.string s, .int .i64 0] 55) := ⟨_, rfl⟩
  have HB0 := Lib.hid hb0; have HBB := Lib.hid hB; have HW1 := Lib.hid hw1
  have h0B : b0 ≠ B := by omega
  have HnB := Lib.hid (show w.heap.size ≤ B by omega); have Hn0 := Lib.hid (show w.heap.size ≤ b0 by omega)
  rw [← hw1] at K0 RB HBW
  rw [← hb0] at K0
  rw [← hB] at RB
  clear hw1 hb0 hB
  go_enter Try.func14, Try.ntmps14
  go_upto_region 2 with (fail)
  rw [← HW1.out, ← HBB.out, ← HB0.out]
  go_wp2_with fail
  refine (N1.out _ _ RB.out).mono ?_
  rintro e w2 ⟨q, rfl, hq, hr2, hg⟩
  have HQ0 := Lib.hid hq
  have hRd := hr2
  have K0_2 := Lib.hid (K0.out.other hg (some_ne h0B))
  have HBW2 := Lib.hid (HBW.out.trans (below_grown hg HnB.out HBW.out.size))
  clear hg K0 HBW RB N1
  have BA := Lib.hid (below_alloc w2 (.cells (prC p q) 26))
  have KP := Lib.hid (Bx.new w2 (prC p q) 26)
  have K0_3 := Lib.hid (K0_2.out.below BA.out)
  have HBW3 := Lib.hid (HBW2.out.trans (Below.mono BA.out HBW2.out.size))
  have R3 := Lib.hid (hRd.below BA.out)
  have PQ := Lib.hid (HQ0.out.below BA.out)
  clear hRd hr2 hq HQ0
  have hb0l : b0 < w2.heap.size := Bx.lt K0_2.out
  go_upto_region 3 with (fail)
  obtain ⟨bp, hbp⟩ : ∃ bp, bp = w2.heap.size := ⟨_, rfl⟩
  obtain ⟨w3, hw3⟩ : ∃ w3, w3 = w2.alloc (.cells (prC p q) 26) := ⟨_, rfl⟩
  have h0p : b0 ≠ bp := by omega
  have hp0 : bp ≠ b0 := by omega
  rw [← hw3] at KP K0_3 HBW3 R3 PQ ⊢
  rw [← hbp] at KP ⊢
  clear hw3 hbp hb0l BA HBW2 K0_2
  obtain ⟨c0, c1⟩ := R3.out.cells
  obtain ⟨y0, y1, y2, y3, y4, y5⟩ := KP.out.cells6
  have N2 := Lib.hid (Right_any p q w3 PQ.out.prg)
  rw [hr] at N2
  clear hr
  go_wp2_with fail
  refine N2.out.mono ?_
  rintro e w4 ⟨rfl, hb⟩
  have K0_4 := Lib.hid (K0_3.out.below hb); have KP_4 := Lib.hid (KP.out.below hb); have HBW4 := Lib.hid (HBW3.out.trans (Below.mono hb HBW3.out.size)); have PQ4 := Lib.hid (PQ.out.below hb)
  clear hb K0_3 KP HBW3 PQ N2 c0 c1 y0 y1 y2 y3 y4 y5 R3
  obtain ⟨y0, y1, y2, y3, y4, y5⟩ := KP_4.out.cells6
  have l0 := Bx.lt K0_4.out
  have f0 := Bx.froz K0_4.out 0; have f1 := Bx.froz K0_4.out 1; have f2 := Bx.froz K0_4.out 2; have f3 := Bx.froz K0_4.out 3; have f4 := Bx.froz K0_4.out 4; have f5 := Bx.froz K0_4.out 5
  obtain ⟨x0, x1, x2, x3, x4, x5⟩ := K0_4.out.cells6
  have HE := Lib.hid (K0_4.out.st6 (.slice q.ca q.cn q.cc) (.int .i64 p.mu) (.int .i64 p.on) (.int .i64 p.va) (.slice q.sa q.sn q.sc) (.slice q.ba q.bn q.bc))
  have HBE := Lib.hid (HBW4.out.trans (below_grown (grown_st6 (World.grownBy.refl w4 (some b0)) (.slice q.ca q.cn q.cc) (.int .i64 p.mu) (.int .i64 p.on) (.int .i64 p.va) (.slice q.sa q.sn q.sc) (.slice q.ba q.bn q.bc)) Hn0.out HBW4.out.size))
  have HPE := Lib.hid ((PQ4.out.box K0_4.out (grown_st6 (World.grownBy.refl w4 (some b0)) (.slice q.ca q.cn q.cc) (.int .i64 p.mu) (.int .i64 p.on) (.int .i64 p.va) (.slice q.sa q.sn q.sc) (.slice q.ba q.bn q.bc))).prg)
  go_wp2_with fail
  refine bodyPost_ret (v := .tuple #[prV p q, .int .i64 0]) (by first | rw [res_c1 Try.results14 _ (by rfl) (Bx.load HE.out Try.underlying26 inf26)]; rfl | skip) rfl ?_
  exact ⟨q, rfl, HPE.out, HBE.out⟩
theorem Decode_any (s : ByteArray) (w : World) (hs : s.size ≤ 100000) : Calls Try.prog 14 #[.string s] w (GotDec w (decZ (tx s)).1 (decZ (tx s)).2) := by
  unfold decZ
  cases hn : prgP (tx s) 0 with
  | no c => exact dec_no s w hs hn
  | ok p j =>
    dsimp only
    rw [tx_len]
    by_cases hj : j < s.size
    · rw [if_pos hj]; exact dec_long s w hs hn hj
    · rw [if_neg hj]
      cases hr : rightP p with
      | false => exact dec_wrong s w hs hn hj hr
      | true => exact dec_right s w hs hn hj hr
end Go.Proofs.Ytddkckppmjcclaa
