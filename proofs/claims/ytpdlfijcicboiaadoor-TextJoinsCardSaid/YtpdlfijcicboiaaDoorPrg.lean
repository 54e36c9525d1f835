/- Programs as plain data: slices of selects and of blocks, by what their cells hold. -/
import Derived.Test.YtpdlfijcicboiaaDoorOwn
import Derived.Laws.ResultCell
import Derived.Deep.RegionLaw
import Derived.Laws.AppendOwnNone
namespace Go.Proofs.YtpdlfijcicboiaaDoor
open Go.RowKit
set_option linter.unusedSimpArgs false
set_option linter.unusedVariables false

structure Ins where
  op : Int
  a : Int
  b : Int
  deriving DecidableEq
structure Cas where
  send : Bool
  chan : Int
  deriving DecidableEq
/-- what a select's cells, and a block's, hold -/
structure RSel where
  a : Option Addr
  n : Nat
  c : Nat
  d : Bool
structure RBlk where
  a : Option Addr
  n : Nat
  c : Nat
def encI (x : Ins) : List Value := [.int .i64 x.op, .int .i64 x.a, .int .i64 x.b]
def encC (x : Cas) : List Value := [.bool x.send, .int .i64 x.chan]
def encS (x : RSel) : List Value := [.slice x.a x.n x.c, .bool x.d]
def encB (x : RBlk) : List Value := [.slice x.a x.n x.c]
theorem encI_len (x : Ins) : (encI x).length = 3 := rfl
theorem encC_len (x : Cas) : (encC x).length = 2 := rfl
theorem encS_len (x : RSel) : (encS x).length = 2 := rfl
theorem encB_len (x : RBlk) : (encB x).length = 1 := rfl
structure Sel where
  cs : List Cas
  d : Bool
  deriving DecidableEq
def InsOk (x : Ins) : Prop := I64 x.op ∧ I64 x.a ∧ I64 x.b
def CasOk (x : Cas) : Prop := I64 x.chan
/-- a block, a row of cases, rows of both -/
structure Blk (w : World) (a : Option Addr) (len cap : Nat) (L : List Ins) : Prop where
  recs : Recs 3 encI w a len cap L
  ok : ∀ x ∈ L, InsOk x
structure Css (w : World) (a : Option Addr) (len cap : Nat) (L : List Cas) : Prop where
  recs : Recs 2 encC w a len cap L
  ok : ∀ x ∈ L, CasOk x
def SelOf (w : World) (r : RSel) (x : Sel) : Prop := r.d = x.d ∧ Css w r.a r.n r.c x.cs
def BlkOf (w : World) (r : RBlk) (x : List Ins) : Prop := Blk w r.a r.n r.c x
/-- two rows agree, place by place -/
def All2 {α β : Type} (R : α → β → Prop) : List α → List β → Prop
  | [], [] => True
  | x :: xs, y :: ys => R x y ∧ All2 R xs ys
  | _, _ => False
theorem All2.len {α β : Type} {R : α → β → Prop} : ∀ {A : List α} {B : List β}, All2 R A B → A.length = B.length
  | [], [], _ => rfl
  | _ :: _, _ :: _, h => by simp [All2.len h.2]
  | [], _ :: _, h => h.elim
  | _ :: _, [], h => h.elim
theorem All2.mono {α β : Type} {R S : α → β → Prop} (hRS : ∀ a b, R a b → S a b) : ∀ {A : List α} {B : List β}, All2 R A B → All2 S A B
  | [], [], _ => trivial
  | _ :: _, _ :: _, h => ⟨hRS _ _ h.1, All2.mono hRS h.2⟩
  | [], _ :: _, h => h.elim
  | _ :: _, [], h => h.elim
theorem All2.at {α β : Type} {R : α → β → Prop} : ∀ {A : List α} {B : List β}, All2 R A B → ∀ (i : Nat) (hi : i < B.length), ∃ x, A[i]? = some x ∧ R x B[i]
  | [], [], _, i, hi => by simp at hi
  | a :: _, b :: _, h, 0, _ => ⟨a, rfl, h.1⟩
  | _ :: A, _ :: B, h, i + 1, hi => by
    obtain ⟨x, hx, hr⟩ := All2.at h.2 i (by simpa using hi)
    exact ⟨x, by simpa using hx, by simpa using hr⟩
  | [], _ :: _, h, _, _ => h.elim
  | _ :: _, [], h, _, _ => h.elim
theorem All2.snoc {α β : Type} {R : α → β → Prop} {x : α} {y : β} : ∀ {A : List α} {B : List β}, All2 R A B → R x y → All2 R (A ++ [x]) (B ++ [y])
  | [], [], _, h => ⟨h, trivial⟩
  | _ :: _, _ :: _, h, hx => ⟨h.1, All2.snoc h.2 hx⟩
  | [], _ :: _, h, _ => h.elim
  | _ :: _, [], h, _ => h.elim
theorem All2.take {α β : Type} {R : α → β → Prop} : ∀ {A : List α} {B : List β}, All2 R A B → ∀ n, All2 R (A.take n) (B.take n)
  | [], [], _, n => by simp [All2]
  | _ :: _, _ :: _, _, 0 => by simp [All2]
  | _ :: _, _ :: _, h, n + 1 => by
    simp only [List.take_succ_cons]
    exact ⟨h.1, All2.take h.2 n⟩
  | [], _ :: _, h, _ => h.elim
  | _ :: _, [], h, _ => h.elim
theorem Blk.below {w w' : World} {a : Option Addr} {len cap : Nat} {L : List Ins} (h : Blk w a len cap L) (hb : Below w.heap.size w w') : Blk w' a len cap L := ⟨h.recs.below hb, h.ok⟩
theorem Css.below {w w' : World} {a : Option Addr} {len cap : Nat} {L : List Cas} (h : Css w a len cap L) (hb : Below w.heap.size w w') : Css w' a len cap L := ⟨h.recs.below hb, h.ok⟩
theorem Blk.take {w : World} {a : Option Addr} {len cap : Nat} {L : List Ins} (h : Blk w a len cap L) (n : Nat) : Blk w a (min len n) cap (L.take n) := ⟨h.recs.take n, fun x hx => h.ok x (List.mem_of_mem_take hx)⟩
theorem Css.take {w : World} {a : Option Addr} {len cap : Nat} {L : List Cas} (h : Css w a len cap L) (n : Nat) : Css w a (min len n) cap (L.take n) := ⟨h.recs.take n, fun x hx => h.ok x (List.mem_of_mem_take hx)⟩
theorem Blk.nil (w : World) : Blk w none 0 0 [] := ⟨Recs.nil w, fun x h => by simp at h⟩
theorem Css.nil (w : World) : Css w none 0 0 [] := ⟨Recs.nil w, fun x h => by simp at h⟩
/-- THE SELECTS, AND THE BLOCKS, OF A PROGRAM -/
def Sels (w : World) (a : Option Addr) (len cap : Nat) (L : List Sel) : Prop := ∃ R, Recs 2 encS w a len cap R ∧ All2 (SelOf w) R L
def Blks (w : World) (a : Option Addr) (len cap : Nat) (L : List (List Ins)) : Prop := ∃ R, Recs 1 encB w a len cap R ∧ All2 (BlkOf w) R L
theorem Sels.below {w w' : World} {a : Option Addr} {len cap : Nat} {L : List Sel} (h : Sels w a len cap L) (hb : Below w.heap.size w w') : Sels w' a len cap L := by
  obtain ⟨R, h1, h2⟩ := h
  exact ⟨R, h1.below hb, h2.mono fun r x h => ⟨h.1, h.2.below hb⟩⟩
theorem Blks.below {w w' : World} {a : Option Addr} {len cap : Nat} {L : List (List Ins)} (h : Blks w a len cap L) (hb : Below w.heap.size w w') : Blks w' a len cap L := by
  obtain ⟨R, h1, h2⟩ := h
  exact ⟨R, h1.below hb, h2.mono fun r x h => Blk.below h hb⟩
theorem Sels.len {w : World} {a : Option Addr} {len cap : Nat} {L : List Sel} (h : Sels w a len cap L) : L.length = len := by
  obtain ⟨R, h1, h2⟩ := h
  rw [← h2.len]; exact h1.len_eq
theorem Blks.len {w : World} {a : Option Addr} {len cap : Nat} {L : List (List Ins)} (h : Blks w a len cap L) : L.length = len := by
  obtain ⟨R, h1, h2⟩ := h
  rw [← h2.len]; exact h1.len_eq
theorem Sels.caps {w : World} {a : Option Addr} {len cap : Nat} {L : List Sel} (h : Sels w a len cap L) : len ≤ cap ∧ cap ≤ maxLen := by
  obtain ⟨R, h1, h2⟩ := h
  exact ⟨h1.le_cap, h1.cap_le⟩
theorem Blks.caps {w : World} {a : Option Addr} {len cap : Nat} {L : List (List Ins)} (h : Blks w a len cap L) : len ≤ cap ∧ cap ≤ maxLen := by
  obtain ⟨R, h1, h2⟩ := h
  exact ⟨h1.le_cap, h1.cap_le⟩
theorem Sels.take {w : World} {a : Option Addr} {len cap : Nat} {L : List Sel} (h : Sels w a len cap L) (n : Nat) : Sels w a (min len n) cap (L.take n) := by
  obtain ⟨R, h1, h2⟩ := h
  exact ⟨R.take n, h1.take n, h2.take n⟩
theorem Blks.take {w : World} {a : Option Addr} {len cap : Nat} {L : List (List Ins)} (h : Blks w a len cap L) (n : Nat) : Blks w a (min len n) cap (L.take n) := by
  obtain ⟨R, h1, h2⟩ := h
  exact ⟨R.take n, h1.take n, h2.take n⟩
/-- the cells of one -/
theorem Sels.at {w : World} {a : Option Addr} {len cap : Nat} {L : List Sel} (h : Sels w a len cap L) (i : Nat) (hi : i < len) :
    ∃ x b off ca cn cc, L[i]? = some x ∧ a = some ⟨b, off, none⟩ ∧ w.cell? ⟨b, off + i * 2, none⟩ = some (.slice ca cn cc) ∧ w.cell? ⟨b, off + i * 2 + 1, none⟩ = some (.bool x.d) ∧ Css w ca cn cc x.cs := by
  have hl := h.len
  obtain ⟨R, h1, h2⟩ := h
  obtain ⟨r, hr, e, hc⟩ := h2.at i (by omega)
  obtain ⟨b, off, ha, hcell⟩ := h1.cell i r hr
  refine ⟨_, b, off, r.a, r.n, r.c, List.getElem?_eq_getElem (by omega), ha, hcell 0 _ rfl, ?_, hc⟩
  rw [← e]; exact hcell 1 _ rfl
theorem Blks.at {w : World} {a : Option Addr} {len cap : Nat} {L : List (List Ins)} (h : Blks w a len cap L) (i : Nat) (hi : i < len) :
    ∃ x b off ca cn cc, L[i]? = some x ∧ a = some ⟨b, off, none⟩ ∧ w.cell? ⟨b, off + i, none⟩ = some (.slice ca cn cc) ∧ Blk w ca cn cc x := by
  have hl := h.len
  obtain ⟨R, h1, h2⟩ := h
  obtain ⟨r, hr, hc⟩ := h2.at i (by omega)
  obtain ⟨b, off, ha, hcell⟩ := h1.cell i r hr
  have := hcell 0 _ rfl
  rw [Nat.mul_one, Nat.add_zero] at this
  exact ⟨_, b, off, r.a, r.n, r.c, List.getElem?_eq_getElem (by omega), ha, this, hc⟩
theorem Css.at {w : World} {a : Option Addr} {len cap : Nat} {L : List Cas} (h : Css w a len cap L) (i : Nat) (hi : i < len) :
    ∃ x b off, L[i]? = some x ∧ CasOk x ∧ a = some ⟨b, off, none⟩ ∧ w.cell? ⟨b, off + i * 2, none⟩ = some (.bool x.send) ∧ w.cell? ⟨b, off + i * 2 + 1, none⟩ = some (.int .i64 x.chan) := by
  obtain ⟨x, b, off, hx, ha, hc⟩ := h.recs.at i hi
  exact ⟨x, b, off, hx, h.ok x (List.mem_of_getElem? hx), ha, hc 0 _ rfl, hc 1 _ rfl⟩
theorem Blk.at {w : World} {a : Option Addr} {len cap : Nat} {L : List Ins} (h : Blk w a len cap L) (i : Nat) (hi : i < len) :
    ∃ x b off, L[i]? = some x ∧ InsOk x ∧ a = some ⟨b, off, none⟩ ∧ w.cell? ⟨b, off + i * 3, none⟩ = some (.int .i64 x.op) ∧ w.cell? ⟨b, off + i * 3 + 1, none⟩ = some (.int .i64 x.a) ∧ w.cell? ⟨b, off + i * 3 + 2, none⟩ = some (.int .i64 x.b) := by
  obtain ⟨x, b, off, hx, ha, hc⟩ := h.recs.at i hi
  exact ⟨x, b, off, hx, h.ok x (List.mem_of_getElem? hx), ha, hc 0 _ rfl, hc 1 _ rfl, hc 2 _ rfl⟩
/-- A PROGRAM, and the value that it is -/
structure Pr where
  caps : List Int
  mu : Int
  on : Int
  va : Int
  sels : List Sel
  blks : List (List Ins)
/-- where its parts lie -/
structure PAt where
  ca : Option Addr
  cn : Nat
  cc : Nat
  sa : Option Addr
  sn : Nat
  sc : Nat
  ba : Option Addr
  bn : Nat
  bc : Nat
abbrev prC (p : Pr) (q : PAt) : Array Value := #[.slice q.ca q.cn q.cc, .int .i64 p.mu, .int .i64 p.on, .int .i64 p.va, .slice q.sa q.sn q.sc, .slice q.ba q.bn q.bc]
abbrev prV (p : Pr) (q : PAt) : Value := .agg (prC p q)
structure Prg (w : World) (p : Pr) (q : PAt) : Prop where
  caps : Ints w q.ca q.cn q.cc p.caps
  mu : I64 p.mu
  on : I64 p.on
  va : I64 p.va
  sels : Sels w q.sa q.sn q.sc p.sels
  blks : Blks w q.ba q.bn q.bc p.blks
theorem Prg.below {w w' : World} {p : Pr} {q : PAt} (h : Prg w p q) (hb : Below w.heap.size w w') : Prg w' p q := ⟨h.caps.below hb, h.mu, h.on, h.va, h.sels.below hb, h.blks.below hb⟩
end Go.Proofs.YtpdlfijcicboiaaDoor
