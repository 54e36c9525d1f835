/- Reading a program: the program. -/
import Derived.Test.YtddkckppmjcclaaD4
namespace Go.Proofs.Ytddkckppmjcclaa
open Go.RowKit
set_option linter.unusedSimpArgs false
set_option linter.unusedVariables false
def prg4 (T : List Int) (caps : List Int) (mu on va : Int) (sels : List Sel) (j6 : Nat) : Res Pr := (sizeP T 6 j6).bind fun h j7 => (repP (blkP T) h.toNat j7).bind fun blks j8 => .ok ⟨caps, mu, on, va, sels, blks⟩ j8
def prg3 (T : List Int) (caps : List Int) (mu on va : Int) (j4 : Nat) : Res Pr := (sizeP T 4 j4).bind fun m j5 => (repP (selP T) m.toNat j5).bind fun sels j6 => prg4 T caps mu on va sels j6
def prg2 (T : List Int) (caps : List Int) (j1 : Nat) : Res Pr := (nP T j1).bind fun mu j2 => (nP T j2).bind fun on j3 => (nP T j3).bind fun va j4 => prg3 T caps mu on va j4
theorem prgP_eq (T : List Int) (i : Nat) : prgP T i = (sizeP T 4 i).bind fun n j0 => (repP (capP T) n.toNat j0).bind fun caps j1 => prg2 T caps j1 := rfl
theorem capP_ok {T : List Int} (hT : Byt T) {i : Nat} (hi : i ≤ T.length) {x : Int} {j : Nat} (h : capP T i = .ok x j) : nP T i = .ok (x + 1) j ∧ j ≤ T.length ∧ -1 ≤ x ∧ x ≤ 2147483646 := by
  unfold capP at h
  cases h1 : nP T i with
  | no c => rw [h1] at h; cases h
  | ok o j1 =>
    rw [h1] at h; simp only [Res.bind] at h
    obtain ⟨_, hj, ho, ho2⟩ := nP_ok hT hi h1
    cases h
    exact ⟨by rw [show o - 1 + 1 = o by omega], hj, by omega, by omega⟩
theorem capP_no {T : List Int} {i : Nat} {c : Int} (h : capP T i = .no c) : nP T i = .no c := by
  unfold capP at h
  cases h1 : nP T i with
  | no c => rw [h1] at h; cases h; rfl
  | ok o j1 => rw [h1] at h; cases h
theorem repP_all {α : Type} {T : List Int} {f : Nat → Res α} {R : α → Prop} (hf : ∀ i a j, i ≤ T.length → f i = .ok a j → j ≤ T.length ∧ R a) : ∀ {k i : Nat} {l : List α} {j : Nat}, i ≤ T.length → repP f k i = .ok l j → j ≤ T.length ∧ ∀ a ∈ l, R a
  | 0, i, l, j, hi, h => by simp only [repP] at h; cases h; exact ⟨hi, fun a ha => by simp at ha⟩
  | k + 1, i, l, j, hi, h => by
    simp only [repP] at h
    cases h1 : f i with
    | no c => rw [h1] at h; cases h
    | ok a j1 =>
      rw [h1] at h; simp only [Res.bind] at h
      obtain ⟨hj1, ha⟩ := hf i a j1 hi h1
      cases hr : repP f k j1 with
      | no c => rw [hr] at h; cases h
      | ok l2 j2 =>
        rw [hr] at h; simp only [Res.bind] at h
        cases h
        obtain ⟨h2, h3⟩ := repP_all hf hj1 hr
        exact ⟨h2, fun b hb => by rcases List.mem_cons.1 hb with rfl | hm; exact ha; exact h3 b hm⟩
theorem blkP_ok {T : List Int} (hT : Byt T) {i : Nat} (hi : i ≤ T.length) {x : List Ins} {j : Nat} (h : blkP T i = .ok x j) : j ≤ T.length := by
  unfold blkP at h
  cases h1 : sizeP T 24 i with
  | no c => rw [h1] at h; cases h
  | ok n j1 =>
    rw [h1] at h; simp only [Res.bind] at h
    exact (repP_all (R := fun _ => True) (fun i a j hi h => ⟨(insP_ok hT hi h).1, trivial⟩) (sizeP_ok hT hi h1).1 h).1
theorem selP_ok {T : List Int} (hT : Byt T) {i : Nat} (hi : i ≤ T.length) {x : Sel} {j : Nat} (h : selP T i = .ok x j) : j ≤ T.length := by
  unfold selP at h
  cases h1 : pairP T i with
  | no c => rw [h1] at h; cases h
  | ok p j1 =>
    rw [h1] at h; simp only [Res.bind] at h
    split at h
    · cases h
    · cases h2 : repP (casP T) p.1.toNat j1 with
      | no c => rw [h2] at h; cases h
      | ok l j2 =>
        rw [h2] at h; simp only [Res.bind] at h
        cases h
        exact (repP_all (R := fun _ => True) (fun i a j hi h => by obtain ⟨p, hp, _⟩ := casP_eq h; exact ⟨(pairP_ok hT hi hp).1, trivial⟩) (pairP_ok hT hi h1).1 h2).1
/-- a row that lies elsewhere than what is of type e, from base on -/
def Away (w : World) (base : Nat) (row : Option Nat) (e : TypeId) : Prop := ∀ g, row = some g → g < base ∨ ∃ cur t, t ≠ e ∧ w.heap[g]? = some (.cells cur t (0, 0))
theorem Away.low {w : World} {base B : Nat} {e : TypeId} (h : B < base) : Away w base (some B) e := fun g hg => by cases hg; exact .inl h
theorem Away.box {w : World} {base b : Nat} {cs : Array Value} {t e : TypeId} (h : Bx w b cs t) (ht : t ≠ e) : Away w base (some b) e := fun g hg => by cases hg; exact .inr ⟨cs, t, ht, h⟩
theorem Away.own {α : Type} {k t e : Nat} {enc : α → List Value} {w : World} {base b : Nat} {v : Value} {L : List α} (h : OwnR t k enc w b v L) (ht : t ≠ e) : Away w base v.ownBlock e := fun g hg => by
  rcases h.2 with ⟨hv, _⟩ | ⟨g', cap, cur, hv, _, hh, _⟩
  · rw [hv] at hg; cases hg
  · rw [hv] at hg; cases hg; exact .inr ⟨cur, t, ht, hh⟩
theorem OwnR.away {α : Type} {k e : Nat} {enc : α → List Value} {w w' : World} {base : Nat} {v : Value} {L : List α} (h : OwnR e k enc w base v L) {row : Option Nat} (hg : w.grownBy w' row) (ha : Away w base row e) : OwnR e k enc w' base v L := by
  refine h.other hg (fun r hr hrow => ?_)
  rcases ha r hrow.symm with h1 | ⟨cur, t, ht, hh⟩
  · have := OwnR.lt h r hr; omega
  · exact ownR_apart h (show Bx w r cur t from hh) ht hr.symm
def OSel (w : World) (base : Nat) (r : RSel) (x : Sel) : Prop := r.d = x.d ∧ OwnR 71 2 encC w base (.slice r.a r.n r.c) x.cs ∧ x.cs.length ≤ 4 ∧ ∀ c ∈ x.cs, CasOk c
def OBlk (w : World) (base : Nat) (r : RBlk) (x : List Ins) : Prop := OwnR 44 3 encI w base (.slice r.a r.n r.c) x ∧ x.length ≤ 24 ∧ ∀ y ∈ x, InsOk y
def OSels (w : World) (base : Nat) (v : Value) (L : List Sel) : Prop := ∃ R, OwnR 47 2 encS w base v R ∧ All2 (OSel w base) R L
def OBlks (w : World) (base : Nat) (v : Value) (L : List (List Ins)) : Prop := ∃ R, OwnR 42 1 encB w base v R ∧ All2 (OBlk w base) R L
theorem OSel.away {w w' : World} {base : Nat} {r : RSel} {x : Sel} (h : OSel w base r x) {row : Option Nat} (hg : w.grownBy w' row) (ha : Away w base row 71) : OSel w' base r x := ⟨h.1, h.2.1.away hg ha, h.2.2⟩
theorem OBlk.away {w w' : World} {base : Nat} {r : RBlk} {x : List Ins} (h : OBlk w base r x) {row : Option Nat} (hg : w.grownBy w' row) (ha : Away w base row 44) : OBlk w' base r x := ⟨h.1.away hg ha, h.2⟩
theorem OSels.away {w w' : World} {base : Nat} {v : Value} {L : List Sel} (h : OSels w base v L) {row : Option Nat} (hg : w.grownBy w' row) (ha : Away w base row 71) (hb : Away w base row 47) : OSels w' base v L := by
  obtain ⟨R, h1, h2⟩ := h
  exact ⟨R, h1.away hg hb, h2.mono fun _ _ h => h.away hg ha⟩
theorem OBlks.away {w w' : World} {base : Nat} {v : Value} {L : List (List Ins)} (h : OBlks w base v L) {row : Option Nat} (hg : w.grownBy w' row) (ha : Away w base row 44) (hb : Away w base row 42) : OBlks w' base v L := by
  obtain ⟨R, h1, h2⟩ := h
  exact ⟨R, h1.away hg hb, h2.mono fun _ _ h => h.away hg ha⟩
theorem grow_of_below {w w' : World} (h : Below w.heap.size w w') : w.grownBy w' none := ⟨h.os, h.tape, h.output, h.size, fun k hk _ => h.block k hk⟩
theorem Away.none {w : World} {base : Nat} {e : TypeId} : Away w base none e := fun g hg => by cases hg
theorem OSels.below {w w' : World} {base : Nat} {v : Value} {L : List Sel} (h : OSels w base v L) (hb : Below w.heap.size w w') : OSels w' base v L := h.away (grow_of_below hb) Away.none Away.none
theorem OBlks.below {w w' : World} {base : Nat} {v : Value} {L : List (List Ins)} (h : OBlks w base v L) (hb : Below w.heap.size w w') : OBlks w' base v L := h.away (grow_of_below hb) Away.none Away.none
theorem OSels.parts {w : World} {base : Nat} {v : Value} {L : List Sel} (h : OSels w base v L) : ∃ a c, v = .slice a L.length c := by
  obtain ⟨R, h1, h2⟩ := h
  obtain ⟨a, c, rfl, _⟩ := OwnR.recs encS_len h1
  exact ⟨a, c, by rw [h2.len]⟩
theorem OBlks.parts {w : World} {base : Nat} {v : Value} {L : List (List Ins)} (h : OBlks w base v L) : ∃ a c, v = .slice a L.length c := by
  obtain ⟨R, h1, h2⟩ := h
  obtain ⟨a, c, rfl, _⟩ := OwnR.recs encB_len h1
  exact ⟨a, c, by rw [h2.len]⟩
theorem OSels.nil (w : World) (base : Nat) : OSels w base (.slice none 0 0) [] := ⟨[], ownG_nil _ _ _, trivial⟩
theorem OBlks.nil (w : World) (base : Nat) : OBlks w base (.slice none 0 0) [] := ⟨[], ownG_nil _ _ _, trivial⟩
theorem OSels.apart {w : World} {base : Nat} {v : Value} {L : List Sel} (h : OSels w base v L) {b : Nat} {cs : Array Value} {t : TypeId} (hb : Bx w b cs t) (ht : t ≠ 47) : some b ≠ v.ownBlock := by
  obtain ⟨R, h1, _⟩ := h; exact ownR_apart h1 hb ht
theorem OBlks.apart {w : World} {base : Nat} {v : Value} {L : List (List Ins)} (h : OBlks w base v L) {b : Nat} {cs : Array Value} {t : TypeId} (hb : Bx w b cs t) (ht : t ≠ 42) : some b ≠ v.ownBlock := by
  obtain ⟨R, h1, _⟩ := h; exact ownR_apart h1 hb ht
theorem Away.sels {w : World} {base b : Nat} {v : Value} {L : List Sel} (h : OSels w b v L) {e : TypeId} (ht : 47 ≠ e) : Away w base v.ownBlock e := by
  obtain ⟨R, h1, _⟩ := h; exact Away.own h1 ht
theorem Away.blks {w : World} {base b : Nat} {v : Value} {L : List (List Ins)} (h : OBlks w b v L) {e : TypeId} (ht : 42 ≠ e) : Away w base v.ownBlock e := by
  obtain ⟨R, h1, _⟩ := h; exact Away.own h1 ht
theorem OSels.lt {w : World} {base : Nat} {v : Value} {L : List Sel} (h : OSels w base v L) : ∀ r, v.ownBlock = some r → base ≤ r := by
  obtain ⟨R, h1, _⟩ := h; exact OwnR.lt h1
theorem OBlks.lt {w : World} {base : Nat} {v : Value} {L : List (List Ins)} (h : OBlks w base v L) : ∀ r, v.ownBlock = some r → base ≤ r := by
  obtain ⟨R, h1, _⟩ := h; exact OwnR.lt h1
theorem grow_ownV {a w w' : World} {base : Nat} {v : Value} (h : ∀ r, v.ownBlock = some r → base ≤ r) {B : Nat} (ha : a.grownBy w (some B)) (hg : w.grownBy w' v.ownBlock) (hb : a.heap.size ≤ base) : a.grownBy w' (some B) :=
  ha.andThen hg (fun j hj => .inl (by have := h j hj; omega))
/-- the append as one operation of a drawn region -/
theorem step_appG {α : Type} {k : Nat} {enc : α → List Value} (hk : ∀ x, (enc x).length = k) (hk0 : 0 < k) (h1 : ∀ x, ∀ u ∈ enc x, u.oneCell' = true) (st e bytes : Nat) (z : Value) (hst : Try.prog.underlying st = some (.slice e)) (hinf : (Try.prog.info? e).map (fun i => (i.zero, i.size, i.bytes)) = some (some z, k, bytes)) (hzc : z.cells.size = k) (hby : bytes ≤ 64)
    {ops : Array Oper} {o : Oper} {a : Act} {w : World} {K : Act → World → Prop} {Q : Exit → Act → World → Prop} {E : Prop} (hgd : Region.wanted o (yielded ops a.tmps) = true) (s x : Operand)
    (ho : o.op = .call { callee := .builtin .append, args := #[s, x], argTypes := #[st, st] }) (base : Nat) (v : Value) (L : List α) (hs : a.eval s = v) (hown : OwnR e k enc w base v L)
    (ad : Addr) (m cx : Nat) (M : List α) (hx : a.eval x = .slice (some ad) m cx) (hsrc : Recs k enc w (some ad) m cx M) (hlen : L.length ≤ 100000) (hlen2 : m ≤ 100000) (hbase : base ≤ w.heap.size)
    (h : ∀ v' w', Hid (OwnR e k enc w' base v' (L ++ M)) → Hid (w.grownBy w' v.ownBlock) → K (a.put o.dst v') w') :
    if Region.wanted o (yielded ops a.tmps) = true then Oper.wp Try.prog o a w K Q else E := by
  rw [if_pos hgd]
  obtain ⟨v', w', hrun, r1, r2⟩ := run_appG hk hk0 h1 st e bytes z hst hinf hzc hby w o.type base v L hown ad m cx M hsrc hlen hlen2 hbase
  unfold Oper.wp
  simp [execOp, ho, resolve, invoke, builtin, hs, hx, hrun, Result.andThen]
  exact h v' w' r1 r2
/-- a program that is read, of the call's own -/
def RepPr (base : Nat) (w : World) (v : Value) (p : Pr) : Prop := ∃ q, v = prV p q ∧ OwnN w base (.slice q.ca q.cn q.cc) p.caps ∧ OSels w base (.slice q.sa q.sn q.sc) p.sels ∧ OBlks w base (.slice q.ba q.bn q.bc) p.blks ∧
  p.caps.length ≤ 4 ∧ p.sels.length ≤ 4 ∧ p.blks.length ≤ 6 ∧ (∀ n ∈ p.caps, I64 n) ∧ I64 p.mu ∧ I64 p.on ∧ I64 p.va
end Go.Proofs.Ytddkckppmjcclaa
