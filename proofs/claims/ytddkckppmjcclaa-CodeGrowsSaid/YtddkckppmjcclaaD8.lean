/- Trying to read: the program. -/
import Derived.Test.YtddkckppmjcclaaD7
namespace Go.Proofs.Ytddkckppmjcclaa
open Go.RowKit
set_option linter.unusedSimpArgs false
set_option linter.unusedVariables false
theorem load28 {W : World} {B : Nat} {c : Int} (h : Bx W B #[.int .i64 c] 28) : (loadVar 28 ⟨B, 0, none⟩).run Try.prog W = .ok (.int .i64 c) W := by
  have h0 : W.cell? ⟨B, 0, none⟩ = some (.int .i64 c) := Bx.cell h 0 rfl
  have hi : (Try.prog.info? 28).map (·.size) = some 1 := by kernel_rfl
  simp [go_sem, h0]
def RepQ (base : Nat) (w : World) (p : Pr) (q : PAt) : Prop := OwnN w base (.slice q.ca q.cn q.cc) p.caps ∧ OSels w base (.slice q.sa q.sn q.sc) p.sels ∧ OBlks w base (.slice q.ba q.bn q.bc) p.blks ∧
  p.caps.length ≤ 4 ∧ p.sels.length ≤ 4 ∧ p.blks.length ≤ 6 ∧ (∀ n ∈ p.caps, I64 n) ∧ I64 p.mu ∧ I64 p.on ∧ I64 p.va
theorem slice_parts {a a' : Option Addr} {n n' c c' : Nat} (h : Value.slice a n c = Value.slice a' n' c') : a = a' ∧ n = n' ∧ c = c' := by injection h with h1 h2 h3; exact ⟨h1, h2, h3⟩
theorem RepQ.prg {base : Nat} {w : World} {p : Pr} {q : PAt} (h : RepQ base w p q) : Prg w p q := by
  obtain ⟨hc, hs, hb, _, _, _, hi, hm, ho, hv⟩ := h
  refine ⟨?_, hm, ho, hv, ?_, ?_⟩
  · obtain ⟨a, c, he, h2⟩ := OwnN.ints hc (i64_list hi)
    obtain ⟨e1, e2, e3⟩ := slice_parts he; rw [e1, e2, e3]; exact h2
  · obtain ⟨R, h1, h2⟩ := hs
    obtain ⟨a, c, he, h3⟩ := OwnR.recs encS_len h1
    obtain ⟨e1, e2, e3⟩ := slice_parts he; rw [e1, e2, e3]
    refine ⟨R, h3, h2.mono fun r x hx => ⟨hx.1, ?_, hx.2.2.2⟩⟩
    obtain ⟨a2, c2, he2, h4⟩ := OwnR.recs encC_len hx.2.1
    obtain ⟨e4, e5, e6⟩ := slice_parts he2; rw [e4, e5, e6]; exact h4
  · obtain ⟨R, h1, h2⟩ := hb
    obtain ⟨a, c, he, h3⟩ := OwnR.recs encB_len h1
    obtain ⟨e1, e2, e3⟩ := slice_parts he; rw [e1, e2, e3]
    refine ⟨R, h3, h2.mono fun r x hx => ⟨?_, hx.2.2⟩⟩
    obtain ⟨a2, c2, he2, h4⟩ := OwnR.recs encI_len hx.1
    obtain ⟨e4, e5, e6⟩ := slice_parts he2; rw [e4, e5, e6]; exact h4
theorem All2.mono' {α β : Type} {R S : α → β → Prop} (hRS : ∀ a b, R a b → S a b) {A : List α} {B : List β} (h : All2 R A B) : All2 S A B := h.mono hRS
theorem OSels.mono {w : World} {b b' : Nat} {v : Value} {L : List Sel} (h : OSels w b v L) (hb : b' ≤ b) : OSels w b' v L := by
  obtain ⟨R, h1, h2⟩ := h
  exact ⟨R, World.ownsRow.mono' h1 hb, h2.mono fun _ _ h => OSel.mono h hb⟩
theorem OBlks.mono {w : World} {b b' : Nat} {v : Value} {L : List (List Ins)} (h : OBlks w b v L) (hb : b' ≤ b) : OBlks w b' v L := by
  obtain ⟨R, h1, h2⟩ := h
  exact ⟨R, World.ownsRow.mono' h1 hb, h2.mono fun _ _ h => OBlk.mono h hb⟩
def Tried (w : World) (B : Nat) (s : ByteArray) (r : Res Pr) (e : Ending) (w' : World) : Prop :=
  match r with
  | .ok p j => ∃ q, e = .returned (.tuple #[prV p q, .int .i64 0]) ∧ RepQ w.heap.size w' p q ∧ Rd w' B s j ∧ w.grownBy w' (some B)
  | .no c => e = .returned (.tuple #[.agg #[.slice none 0 0, .int .i64 0, .int .i64 0, .int .i64 0, .slice none 0 0, .slice none 0 0], .int .i64 c]) ∧ w.grownBy w' (some B)
set_option maxRecDepth 100000 in
set_option maxHeartbeats 8000000 in
theorem tried_no (s : ByteArray) (B i : Nat) (w : World) (h : Rd w B s i) (hi : i ≤ (tx s).length) (hs : s.size ≤ 100000) {c : Int} (hn : prgP (tx s) i = .no c) :
    Calls Try.prog 23 #[.pointer (some ⟨B, 0, none⟩)] w (Tried w B s (.no c)) := by
  have hmf : ∀ (fn : Fn) (first cap : Array Value) (w : World), (Instr.makeFunc fn first cap).run Try.prog w = .ok (.func fn first cap) w := fun _ _ _ _ => rfl
  have HBL := Lib.hid (Rd.lt h)
  have hB0 : w.heap.size ≠ B := by have := HBL.out; omega
  have hB1 : w.heap.size + 1 ≠ B := by have := HBL.out; omega
  have K0 := Lib.hid ((Bx.new w #[.slice none 0 0, .int .i64 0, .int .i64 0, .int .i64 0, .slice none 0 0, .slice none 0 0] 26).below (below_alloc _ (.cells #[.int .i64 0] 28)))
  have K1 := Lib.hid (Bx.new2 w (.cells #[.slice none 0 0, .int .i64 0, .int .i64 0, .int .i64 0, .slice none 0 0, .slice none 0 0] 26) #[.int .i64 0] 28)
  have RB := Lib.hid ((Rd.below h (below_alloc w (.cells #[.slice none 0 0, .int .i64 0, .int .i64 0, .int .i64 0, .slice none 0 0, .slice none 0 0] 26))).below (below_alloc _ (.cells #[.int .i64 0] 28)))
  have GB := Lib.hid (grow_alloc (World.grownBy_alloc w (.cells #[.slice none 0 0, .int .i64 0, .int .i64 0, .int .i64 0, .slice none 0 0, .slice none 0 0] 26) (some B)) (.cells #[.int .i64 0] 28))
  have N1 := Lib.hid (fun W H => program_any s B i W H hi hs)
  rw [hn] at N1
  unfold Post at N1
  dsimp only at N1
  clear h hi hn
  obtain ⟨b0, hb0⟩ : ∃ b0, b0 = w.heap.size := ⟨_, rfl⟩
  obtain ⟨b1, hb1⟩ : ∃ b1, b1 = w.heap.size + 1 := ⟨_, rfl⟩
  obtain ⟨w1, hw1⟩ : ∃ w1, w1 = (w.alloc (.cells #[.slice none 0 0, .int .i64 0, .int .i64 0, .int .i64 0, .slice none 0 0, .slice none 0 0] 26)).alloc (.cells #[.int .i64 0] 28) := ⟨_, rfl⟩
  have HB0 := Lib.hid hb0; have HBB := Lib.hid hb1; have HW1 := Lib.hid hw1
  have HZ0 := Lib.hid (show w.heap.size ≤ b0 by omega)
  have HZ1 := Lib.hid (show w.heap.size ≤ b1 by omega)
  have h01 : b0 ≠ b1 := by omega
  have h10 : b1 ≠ b0 := by omega
  rw [← hw1] at K0 K1 RB GB
  rw [← hb0] at K0 hB0
  rw [← hb1] at K1 hB1
  clear hw1 hb0 hb1
  go_enter_defers Try.func23, Try.ntmps23
  go_upto_region 2 with (fail)
  rw [← HW1.out, ← HBB.out, ← HB0.out]
  go_wp2_with fail
  refine (N1.out _ RB.out).mono ?_
  unfold gaveUp
  rintro e w2 ⟨rfl, hg⟩
  have K0_2 := Lib.hid (K0.out.other hg (some_ne hB0)); have K1_2 := Lib.hid (K1.out.other hg (some_ne hB1)); have G2 := Lib.hid (GB.out.trans hg)
  clear hg K0 K1 GB RB N1
  refine leaves_cons (f := 39) (args := #[.pointer (some ⟨b0, 0, none⟩), .pointer (some ⟨b1, 0, none⟩)]) (by simp) (by simp [go_sem]) ?_
  refine (catch_panicking b0 b1 c _ K0_2.out K1_2.out h01).mono ?_
  rintro e u' w3 ⟨rfl, rfl, hw3⟩
  have K0_3 := Lib.hid (K0_2.out.st6 (.slice none 0 0) (.int .i64 0) (.int .i64 0) (.int .i64 0) (.slice none 0 0) (.slice none 0 0))
  have K1_3 := Lib.hid (K1_2.out.other (grown_st6 (World.grownBy.refl w2 (some b0)) (.slice none 0 0) (.int .i64 0) (.int .i64 0) (.int .i64 0) (.slice none 0 0) (.slice none 0 0)) (some_ne h10))
  have G3 := Lib.hid (grow_local G2.out (grown_st6 (World.grownBy.refl w2 (some b0)) (.slice none 0 0) (.int .i64 0) (.int .i64 0) (.int .i64 0) (.slice none 0 0) (.slice none 0 0)) HZ0.out)
  have K0_4 := Lib.hid (K0_3.out.other (grow_setCell _ b1 0 (.int .i64 c)) (some_ne h01))
  have K1_4 := Lib.hid (show Bx _ b1 #[.int .i64 c] 28 from K1_3.out.set 0 (.int .i64 c))
  have G4 := Lib.hid (grow_local G3.out (grow_setCell _ b1 0 (.int .i64 c)) HZ1.out)
  rw [← hw3] at K0_4 K1_4 G4
  have L0 := Bx.load K0_4.out Try.underlying26 inf26
  have L1 := load28 K1_4.out
  simp [Leaves, settle, results, Try.results23, asAddr, Sem.run_bind, Result.andThen, L0, L1]
  exact ⟨rfl, G4.out⟩
set_option maxRecDepth 100000 in
set_option maxHeartbeats 8000000 in
theorem tried_ok (s : ByteArray) (B i : Nat) (w : World) (h : Rd w B s i) (hi : i ≤ (tx s).length) (hs : s.size ≤ 100000) {p : Pr} {j : Nat} (hn : prgP (tx s) i = .ok p j) :
    Calls Try.prog 23 #[.pointer (some ⟨B, 0, none⟩)] w (Tried w B s (.ok p j)) := by
  have hmf : ∀ (fn : Fn) (first cap : Array Value) (w : World), (Instr.makeFunc fn first cap).run Try.prog w = .ok (.func fn first cap) w := fun _ _ _ _ => rfl
  have HBL := Lib.hid (Rd.lt h)
  have hB0 : w.heap.size ≠ B := by have := HBL.out; omega
  have hB1 : w.heap.size + 1 ≠ B := by have := HBL.out; omega
  have K0 := Lib.hid ((Bx.new w #[.slice none 0 0, .int .i64 0, .int .i64 0, .int .i64 0, .slice none 0 0, .slice none 0 0] 26).below (below_alloc _ (.cells #[.int .i64 0] 28)))
  have K1 := Lib.hid (Bx.new2 w (.cells #[.slice none 0 0, .int .i64 0, .int .i64 0, .int .i64 0, .slice none 0 0, .slice none 0 0] 26) #[.int .i64 0] 28)
  have RB := Lib.hid ((Rd.below h (below_alloc w (.cells #[.slice none 0 0, .int .i64 0, .int .i64 0, .int .i64 0, .slice none 0 0, .slice none 0 0] 26))).below (below_alloc _ (.cells #[.int .i64 0] 28)))
  have GB := Lib.hid (grow_alloc (World.grownBy_alloc w (.cells #[.slice none 0 0, .int .i64 0, .int .i64 0, .int .i64 0, .slice none 0 0, .slice none 0 0] 26) (some B)) (.cells #[.int .i64 0] 28))
  have N1 := Lib.hid (fun W H => program_any s B i W H hi hs)
  rw [hn] at N1
  unfold Post at N1
  dsimp only at N1
  clear h hi hn
  obtain ⟨b0, hb0⟩ : ∃ b0, b0 = w.heap.size := ⟨_, rfl⟩
  obtain ⟨b1, hb1⟩ : ∃ b1, b1 = w.heap.size + 1 := ⟨_, rfl⟩
  obtain ⟨w1, hw1⟩ : ∃ w1, w1 = (w.alloc (.cells #[.slice none 0 0, .int .i64 0, .int .i64 0, .int .i64 0, .slice none 0 0, .slice none 0 0] 26)).alloc (.cells #[.int .i64 0] 28) := ⟨_, rfl⟩
  have HB0 := Lib.hid hb0; have HBB := Lib.hid hb1; have HW1 := Lib.hid hw1
  have HZ0 := Lib.hid (show w.heap.size ≤ b0 by omega)
  have HZ1 := Lib.hid (show w.heap.size ≤ b1 by omega)
  have h01 : b0 ≠ b1 := by omega
  have h10 : b1 ≠ b0 := by omega
  rw [← hw1] at K0 K1 RB GB
  rw [← hb0] at K0 hB0
  rw [← hb1] at K1 hB1
  clear hw1 hb0 hb1
  go_enter_defers Try.func23, Try.ntmps23
  go_upto_region 2 with (fail)
  rw [← HW1.out, ← HBB.out, ← HB0.out]
  go_wp2_with fail
  refine (N1.out _ RB.out).mono ?_
  rintro e w2 ⟨v, rfl, hrp, hr, hg⟩
  obtain ⟨q, rfl, hc, hsl, hbk, hrest⟩ := hrp
  have HW1b := Lib.hid (show w.heap.size ≤ w1.heap.size from GB.out.size)
  have HC := Lib.hid hc; have HS := Lib.hid hsl; have HK := Lib.hid hbk; have HRS := Lib.hid hrest
  have R2 := Lib.hid hr
  have K0_2 := Lib.hid (K0.out.other hg (some_ne hB0)); have K1_2 := Lib.hid (K1.out.other hg (some_ne hB1)); have G2 := Lib.hid (GB.out.trans hg)
  clear hg hr hc hsl hbk hrest K0 K1 GB RB N1
  have l0 := Bx.lt K0_2.out; have l1 := Bx.lt K1_2.out
  have f0 := Bx.froz K0_2.out 0; have f1 := Bx.froz K0_2.out 1; have f2 := Bx.froz K0_2.out 2; have f3 := Bx.froz K0_2.out 3; have f4 := Bx.froz K0_2.out 4; have f5 := Bx.froz K0_2.out 5
  obtain ⟨x0, x1, x2, x3, x4, x5⟩ := K0_2.out.cells6
  have y0 : w2.cell? ⟨b1, 0, none⟩ = some (.int .i64 0) := Bx.cell K1_2.out 0 rfl
  have g0 := Bx.froz K1_2.out 0
  have SG := Lib.hid (grown_st6 (World.grownBy.refl w2 (some b0)) (.slice q.ca q.cn q.cc) (.int .i64 p.mu) (.int .i64 p.on) (.int .i64 p.va) (.slice q.sa q.sn q.sc) (.slice q.ba q.bn q.bc))
  have K0_3 := Lib.hid (K0_2.out.st6 (.slice q.ca q.cn q.cc) (.int .i64 p.mu) (.int .i64 p.on) (.int .i64 p.va) (.slice q.sa q.sn q.sc) (.slice q.ba q.bn q.bc))
  have K1_3 := Lib.hid (K1_2.out.other SG.out (some_ne h10))
  have G3 := Lib.hid (grow_local G2.out SG.out HZ0.out)
  have R3 := Lib.hid (R2.out.other SG.out (some_ne hB0.symm))
  have HC3 := Lib.hid (OwnR.away HC.out SG.out (Away.box K0_2.out (by decide)))
  have HS3 := Lib.hid (OSels.away HS.out SG.out (Away.box K0_2.out (by decide)) (Away.box K0_2.out (by decide)))
  have HK3 := Lib.hid (OBlks.away HK.out SG.out (Away.box K0_2.out (by decide)) (Away.box K0_2.out (by decide)))
  obtain ⟨w3, hw3⟩ : ∃ w3, w3 = st6 w2 b0 (.slice q.ca q.cn q.cc) (.int .i64 p.mu) (.int .i64 p.on) (.int .i64 p.va) (.slice q.sa q.sn q.sc) (.slice q.ba q.bn q.bc) := ⟨_, rfl⟩
  rw [← hw3] at K0_3 K1_3 G3 R3 HC3 HS3 HK3
  have HW3 := Lib.hid hw3
  have CG := Lib.hid (grow_setCell w3 b1 0 (.int .i64 0))
  have K0_4 := Lib.hid (K0_3.out.other CG.out (some_ne h01))
  have K1_4 := Lib.hid (show Bx (w3.setCell ⟨b1, 0, none⟩ (.int .i64 0)) b1 #[.int .i64 0] 28 from K1_3.out.set 0 (.int .i64 0))
  have G4 := Lib.hid (grow_local G3.out CG.out HZ1.out)
  have R4 := Lib.hid (R3.out.other CG.out (some_ne hB1.symm))
  have HC4 := Lib.hid (OwnR.away HC3.out CG.out (Away.box K1_3.out (by decide)))
  have HS4 := Lib.hid (OSels.away HS3.out CG.out (Away.box K1_3.out (by decide)) (Away.box K1_3.out (by decide)))
  have HK4 := Lib.hid (OBlks.away HK3.out CG.out (Away.box K1_3.out (by decide)) (Away.box K1_3.out (by decide)))
  clear hw3
  rw [HW3.out] at K0_4 K1_4 G4 R4 HC4 HS4 HK4
  go_wp2_with fail
  refine leaves_cons (f := 39) (args := #[.pointer (some ⟨b0, 0, none⟩), .pointer (some ⟨b1, 0, none⟩)]) (by simp) (by simp [go_sem]) ?_
  refine (catch_idle b0 b1 _).mono ?_
  rintro e u' w4 ⟨rfl, rfl, rfl⟩
  have L0 := Bx.load K0_4.out Try.underlying26 inf26
  have L1 := load28 K1_4.out
  dsimp only [st6] at L0 L1
  simp [Leaves, settle, results, Try.results23, asAddr, Sem.run_bind, Result.andThen, L0, L1]
  exact ⟨q, rfl, ⟨World.ownsRow.mono' HC4.out HW1b.out, OSels.mono HS4.out HW1b.out, OBlks.mono HK4.out HW1b.out, HRS.out⟩, R4.out, G4.out⟩
end Go.Proofs.Ytddkckppmjcclaa
