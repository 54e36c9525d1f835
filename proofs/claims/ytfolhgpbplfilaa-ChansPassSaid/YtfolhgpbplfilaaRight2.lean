/- Right. -/
import Derived.Test.YtfolhgpbplfilaaRec
import Derived.Maps.OwnOps
import Derived.Maps.OwnSet
import Derived.Maps.Views
import Derived.DeepKeys5
import Derived.MapViews
import Derived.Laws.ResultCell
namespace Go.Proofs.Ytfolhgpbplfilaa
open Go.RowKit Go.Maps

theorem Try.laidOut' : laidOutB Try.prog = true := by kernel_rfl
theorem whoWide : (match Try.prog.underlying 92 with | some (.array _ _) | some (.struct _) => true | _ => false) = true := by kernel_rfl
set_option maxRecDepth 100000 in
theorem whoLaw : Keyed Try.prog 92 := Keyed.of_law (deep_law_gate Try.laidOut' (of_decide_eq_true (by kernel_rfl)) (of_decide_eq_true (by kernel_rfl)) (by kernel_rfl) whoWide)
theorem zeroBool (w : World) : (zeroValue 4).run Try.prog w = .ok (.bool false) w := by kernel_rfl
abbrev whoV (g c : Int) : Value := .agg #[.int .i64 g, .int .i64 c]
theorem cells48 : Try.prog.cellsOf 92 = 2 := by kernel_rfl
theorem cells3 : Try.prog.cellsOf 3 = 1 := by kernel_rfl
set_option maxRecDepth 100000 in
theorem who_key (g c : Int) (hg : I64 g) (hc : I64 c) : ∃ l, keyOf Try.prog 92 (whoV g c) = some l := by
  have hwf : ∀ n : Int, I64 n → (Lit.int .i64 n).wf = true := fun n h => WalkArith.wf_i64 h
  have h1 : ∀ d n, I64 n → Try.prog.keyLits (d + 1) 3 [.int .i64 n] = some [.int .i64 n] := fun d n h => by
    unfold Program.keyLits
    rw [Try.underlying3]
    simp [hwf n h]
  have h2 : ∀ d, (Try.prog.keyLits (d + 2) 92 [.int .i64 g, .int .i64 c]).isSome = true := fun d => by
    unfold Program.keyLits
    rw [Try.underlying92]
    simp [cells48, cells3, h1 d g hg, h1 d c hc]
  obtain ⟨n, hn⟩ : ∃ n, Try.prog.types.size = n + 1 := ⟨Try.prog.types.size - 1, by kernel_rfl⟩
  have h3 := h2 n
  obtain ⟨ls, hls⟩ := Option.isSome_iff_exists.1 h3
  unfold keyOf
  rw [hn, Try.underlying92]
  have hf : (whoV g c).formed Try.prog 92 = true := by simp [Value.formed, Try.underlying92, cells48]
  have hk : Try.prog.keyType 92 = true := by kernel_rfl
  simp [hf, hk, Value.cells, hls]

def SeenD (D : DataW Unit) (S : Int → Int → Bool) : Prop := ∀ g c l, I64 g → I64 c → keyOf Try.prog 92 (whoV g c) = some l → D.atKey l (.lit (.bool false)) = .lit (.bool (S g c))
/-- the map in block B has true at just what S says -/
def Seen (w : World) (B n : Nat) (S : Int → Int → Bool) : Prop := ∃ D : DataW Unit, w.ownsMap Try.prog 92 (plainElem Try.prog 4) B n D ∧ SeenD D S
theorem seen_made (w : World) : Seen (w.alloc (.map #[] 0)) w.heap.size 0 (fun _ _ => false) :=
  ⟨_, World.ownsMap_made _ _ _ _, fun _g _c _l _ _ _ => rfl⟩
theorem Seen.kept {w w' : World} {B n : Nat} {S : Int → Int → Bool} {row : Option Nat} (h : Seen w B n S) (hg : w.grownBy w' row) (hne : some B ≠ row) : Seen w' B n S := by
  obtain ⟨D, h1, h2⟩ := h
  exact ⟨D, h1.kept hg hne, h2⟩
theorem Seen.lt {w : World} {B n : Nat} {S : Int → Int → Bool} (h : Seen w B n S) : B < w.heap.size := by obtain ⟨D, h1, _⟩ := h; exact h1.lt
theorem Seen.below {w w' : World} {B n : Nat} {S : Int → Int → Bool} (h : Seen w B n S) (hb : Below w.heap.size w w') : Seen w' B n S :=
  h.kept (row := none) ⟨hb.os, hb.tape, hb.output, hb.size, fun k hk _ => hb.block k hk⟩ (by simp)
set_option maxRecDepth 100000 in
theorem Seen.look {w : World} {B n : Nat} {S : Int → Int → Bool} (h : Seen w B n S) (g c : Int) (hg : I64 g) (hc : I64 c) :
    (Instr.lookup 90 (.map (some B)) (whoV g c) false).run Try.prog w = .ok (.bool (S g c)) w := by
  obtain ⟨D, h1, h2⟩ := h
  obtain ⟨l, hl⟩ := who_key g c hg hc
  obtain ⟨v, ps, hrun, hv⟩ := h1.lookup whoLaw Try.underlying90 (zeroBool w) (plainElem_bool Try.underlying4 false) hl
  rw [h2 g c l hg hc hl] at hv
  rw [hrun]
  have : v = .bool (S g c) := by
    unfold plainElem at hv
    rw [Try.underlying4] at hv
    cases v <;> simp at hv
    rw [hv.1]
  rw [this]
set_option maxRecDepth 100000 in
theorem Seen.store {w : World} {B n : Nat} {S : Int → Int → Bool} (h : Seen w B n S) (hn : n < maxLen) (g c : Int) (hg : I64 g) (hc : I64 c) :
    ∃ w', (Instr.mapUpdate 90 (.map (some B)) (whoV g c) (.bool true)).run Try.prog w = .ok () w' ∧ Seen w' B (n + 1) (fun g' c' => S g' c' || (g' == g && c' == c)) ∧ w.grownBy w' (some B) := by
  obtain ⟨D, h1, h2⟩ := h
  obtain ⟨l, hl⟩ := who_key g c hg hc
  obtain ⟨w', hrun, h3, h4⟩ := h1.update whoLaw Try.underlying90 hn hl (plainElem_bool Try.underlying4 true)
  refine ⟨w', hrun, ⟨_, h3, fun g' c' l' hg' hc' hl' => ?_⟩, h4⟩
  by_cases e : l' = l
  · subst e
    have hv := whoLaw.inj hl hl'
    simp at hv
    obtain ⟨rfl, rfl⟩ := hv
    rw [atKey_put_same h1.isMap (whoLaw.key hl)]; simp
  · rw [atKey_put_other e, h2 g' c' l' hg' hc' hl']
    have : (g' == g && c' == c) = false := by
      by_cases e1 : g' = g
      · by_cases e2 : c' = c
        · subst e1; subst e2
          rw [hl] at hl'; exact absurd (Option.some.inj hl').symm e
        · simp [e2]
      · simp [e1]
    show DataW.lit (Lit.bool (S g' c')) = DataW.lit (Lit.bool (S g' c' || (g' == g && c' == c)))
    rw [this, Bool.or_false]
theorem wpList_seen_store {ops : Array Oper} {rest : List Oper} {o : Oper} {a : Act} {w : World} {Q : Exit → Act → World → Prop} (hgd : o.guard = none) (m x v : Operand) (ho : o.op = Op.mapUpdate 90 m x v)
    (B n : Nat) (S : Int → Int → Bool) (hm : a.eval m = .map (some B)) (h : Seen w B n S) (hn : n ≤ 1000000) (g c : Int) (hx : a.eval x = whoV g c) (hv : a.eval v = .bool true) (hg : I64 g) (hc : I64 c)
    (hK : ∀ w', Hid (Seen w' B (n + 1) (fun g' c' => S g' c' || (g' == g && c' == c))) → Hid (w.grownBy w' (some B)) → wpList Try.prog ops Q rest (a.put o.dst undef) w') :
    wpList Try.prog ops Q (o :: rest) a w := by
  refine wpList_plain hgd fun K' hK' => ?_
  obtain ⟨w', hrun, r1, r2⟩ := h.store (by unfold maxLen; omega) g c hg hc
  unfold Oper.wp
  simp [execOp, ho, hm, hx, hv, hrun, Result.andThen]
  exact hK' _ _ (hK w' r1 r2)
end Go.Proofs.Ytfolhgpbplfilaa
namespace Go.Proofs.Ytfolhgpbplfilaa
open Go.RowKit

structure Wt where
  g : Int
  c : Int
  s : Int
  deriving DecidableEq
def wcells (x : Wt) : List Value := [.int .i64 x.g, .int .i64 x.c, .int .i64 x.s]
theorem wcells_len (x : Wt) : (wcells x).length = 3 := rfl
abbrev wV (x : Wt) : Value := .agg #[.int .i64 x.g, .int .i64 x.c, .int .i64 x.s]
def WtOk (x : Wt) : Prop := I64 x.g ∧ I64 x.c ∧ I64 x.s
/-- A SLICE OF WAITS -/
structure Wts (w : World) (a : Option Addr) (len cap : Nat) (L : List Wt) : Prop where
  recs : Recs 3 wcells w a len cap L
  ok : ∀ x ∈ L, WtOk x
theorem Wts.below {w w' : World} {a : Option Addr} {len cap : Nat} {L : List Wt} (h : Wts w a len cap L) (hb : Below w.heap.size w w') : Wts w' a len cap L := ⟨h.recs.below hb, h.ok⟩
theorem Wts.take {w : World} {a : Option Addr} {len cap : Nat} {L : List Wt} (h : Wts w a len cap L) (n : Nat) : Wts w a (min len n) cap (L.take n) := ⟨h.recs.take n, fun x hx => h.ok x (List.mem_of_mem_take hx)⟩
theorem Wts.nil (w : World) : Wts w none 0 0 [] := ⟨Recs.nil w, fun x h => by simp at h⟩
/-- the cells of one -/
theorem Wts.at {w : World} {a : Option Addr} {len cap : Nat} {L : List Wt} (h : Wts w a len cap L) (i : Nat) (hi : i < len) :
    ∃ x b off, L[i]? = some x ∧ WtOk x ∧ a = some ⟨b, off, none⟩ ∧ w.cell? ⟨b, off + i * 3, none⟩ = some (.int .i64 x.g) ∧ w.cell? ⟨b, off + i * 3 + 1, none⟩ = some (.int .i64 x.c) ∧ w.cell? ⟨b, off + i * 3 + 2, none⟩ = some (.int .i64 x.s) := by
  obtain ⟨x, b, off, hx, ha, hc⟩ := h.recs.at i hi
  exact ⟨x, b, off, hx, h.ok x (List.mem_of_getElem? hx), ha, hc 0 _ rfl, hc 1 _ rfl, hc 2 _ rfl⟩

def mayW (x : Wt) : Bool := decide (0 ≤ x.g ∧ 0 ≤ x.c ∧ 0 ≤ x.s)
def hasW (L : List Wt) (g c : Int) : Bool := L.any fun x => x.g == g && x.c == c
theorem hasW_snoc (L : List Wt) (x : Wt) (g c : Int) : hasW (L ++ [x]) g c = (hasW L g c || (x.g == g && x.c == c)) := by simp [hasW]
/-- up to the k-th one all may be, and no two are of one goroutine and case -/
def GoodUpto (L : List Wt) (k : Nat) : Prop := ∀ i x, i < k → L[i]? = some x → mayW x = true ∧ hasW (L.take i) x.g x.c = false
open Classical in
noncomputable def rightW (L : List Wt) : Bool := decide (L.length ≤ 64 ∧ GoodUpto L L.length)
open Classical in
theorem rightW_long {L : List Wt} (h : 64 < L.length) : rightW L = false := by simp [rightW]; omega
open Classical in
theorem rightW_bad {L : List Wt} {i : Nat} {x : Wt} (hx : L[i]? = some x) (h : ¬ (mayW x = true ∧ hasW (L.take i) x.g x.c = false)) : rightW L = false := by
  rw [rightW, decide_eq_false_iff_not]
  exact fun hg => h (hg.2 i x (List.getElem?_eq_some_iff.1 hx).1 hx)
open Classical in
theorem rightW_good {L : List Wt} (hl : L.length ≤ 64) (h : GoodUpto L L.length) : rightW L = true := by
  rw [rightW, decide_eq_true_eq]; exact ⟨hl, h⟩
open Classical in
theorem rightW_iff {L : List Wt} : rightW L = true ↔ L.length ≤ 64 ∧ GoodUpto L L.length := by rw [rightW, decide_eq_true_eq]
theorem good_succ {L : List Wt} {k : Nat} {x : Wt} (h : GoodUpto L k) (hx : L[k]? = some x) (h1 : mayW x = true) (h2 : hasW (L.take k) x.g x.c = false) : GoodUpto L (k + 1) := by
  intro i y hi hy
  by_cases e : i = k
  · subst e; rw [hx] at hy; cases hy; exact ⟨h1, h2⟩
  · exact h i y (by omega) hy
theorem take_snoc' {α : Type} {L : List α} {k : Nat} {x : α} (hx : L[k]? = some x) : L.take (k + 1) = L.take k ++ [x] := by
  rw [List.take_add_one, hx]; rfl
/-- a wait in a block of its own -/
def Box3 (W : World) (B : Nat) (x : Wt) : Prop := W.heap[B]? = some (.cells #[.int .i64 x.g, .int .i64 x.c, .int .i64 x.s] 48 (0, 0))
theorem Box3.below {W W' : World} {B : Nat} {x : Wt} (h : Box3 W B x) (hb : Below W.heap.size W W') : Box3 W' B x := (hb.block _ (Array.getElem?_eq_some_iff.1 h).1).trans h
theorem Box3.lt {W : World} {B : Nat} {x : Wt} (h : Box3 W B x) : B < W.heap.size := (Array.getElem?_eq_some_iff.1 h).1
theorem Box3.cells {W : World} {B : Nat} {x : Wt} (h : Box3 W B x) : W.cell? ⟨B, 0, none⟩ = some (.int .i64 x.g) ∧ W.cell? ⟨B, 1, none⟩ = some (.int .i64 x.c) ∧ W.cell? ⟨B, 2, none⟩ = some (.int .i64 x.s) :=
  ⟨(cell_of_row W B 0 _ 48 (0, 0) h).trans rfl, (cell_of_row W B 1 _ 48 (0, 0) h).trans rfl, (cell_of_row W B 2 _ 48 (0, 0) h).trans rfl⟩
theorem Box3.froz {W : World} {B : Nat} {x : Wt} (h : Box3 W B x) : W.frozen? ⟨B, 0, none⟩ = false ∧ W.frozen? ⟨B, 1, none⟩ = false ∧ W.frozen? ⟨B, 2, none⟩ = false := by
  unfold Box3 at h
  refine ⟨?_, ?_, ?_⟩ <;> simp [World.frozen?, h]
theorem Box3.new (W : World) (x : Wt) : Box3 (W.alloc (.cells #[.int .i64 x.g, .int .i64 x.c, .int .i64 x.s] 48)) W.heap.size x := heap_alloc_new W _
end Go.Proofs.Ytfolhgpbplfilaa
namespace Go.Proofs.Ytfolhgpbplfilaa
open Go.RowKit

set_option maxRecDepth 100000 in
theorem may_any (x : Wt) (w : World) (hx : WtOk x) : Calls Try.prog 59 #[wV x] w fun e w' => e = .returned (.bool (mayW x)) ∧ Below w.heap.size w w' := by
  obtain ⟨g, c, s⟩ := x
  obtain ⟨h1, h2, h3⟩ := hx
  unfold I64 at h1 h2 h3
  simp only at h1 h2 h3
  have DONE := Lib.hid (fun (b : Bool) (hb : b = mayW ⟨g, c, s⟩) (o : Obj) => (⟨by rw [hb], below_alloc w o⟩ : Ending.returned (.bool b) = .returned (.bool (mayW ⟨g, c, s⟩)) ∧ Below w.heap.size w (w.alloc o)))
  by_cases c1 : 0 ≤ g
  · by_cases c2 : 0 ≤ c
    · by_cases c3 : 0 ≤ s
      all_goals
        have R := Lib.hid (show decide (0 ≤ s) = mayW ⟨g, c, s⟩ by simp [mayW, c1, c2])
        go_enter Try.func59, Try.ntmps59
        go_wp2
        go_ret
        exact DONE.out _ (by rw [← R.out]; simp [c3]) _
    · have R := Lib.hid (show false = mayW ⟨g, c, s⟩ by simp [mayW, c2])
      go_enter Try.func59, Try.ntmps59
      go_wp2
      go_ret
      exact DONE.out _ R.out _
  · have R := Lib.hid (show false = mayW ⟨g, c, s⟩ by simp [mayW, c1])
    go_enter Try.func59, Try.ntmps59
    go_wp2
    go_ret
    exact DONE.out _ R.out _

set_option maxRecDepth 100000 in
theorem of_any (x : Wt) (w : World) : Calls Try.prog 60 #[wV x] w fun e w' => e = .returned (whoV x.g x.c) ∧ Below w.heap.size w w' := by
  go_enter Try.func60, Try.ntmps60
  go_wp2
  refine bodyPost_ret (v := whoV x.g x.c) (by simp [results, Try.results60, go_sem]) rfl ⟨rfl, ?_⟩
  exact (below_alloc w _).alloc (by simp) _
end Go.Proofs.Ytfolhgpbplfilaa
namespace Go.Proofs.Ytfolhgpbplfilaa
open Go.RowKit Go.Maps

theorem beq_comm' (a b : Int) : (a == b) = (b == a) := by rw [Bool.eq_iff_iff, beq_iff_eq, beq_iff_eq]; exact eq_comm
theorem run_makeMap_hint (n : Int) (w : World) : (Instr.makeMap 90 (some (.int .i64 n))).run Try.prog w = .ok (.map (some w.heap.size)) (w.alloc (.map #[] 0)) := by
  simp [Instr.makeMap, run_underlying Try.underlying90, asInt, asIntOf]
set_option maxRecDepth 100000 in
set_option maxHeartbeats 2000000 in
theorem Right_any (a : Option Addr) (len cap : Nat) (L : List Wt) (w : World) (hL : Wts w a len cap L) :
    Calls Try.prog 36 #[.slice a len cap] w fun e w' => e = .returned (.bool (rightW L)) ∧ Below w.heap.size w w' := by
  have hll := hL.recs.len_eq
  have hcm := hL.recs.len_le
  have HL := Lib.hid hL; clear hL
  by_cases h64 : 64 < len
  · have h64' : (64 : Int) < (len : Int) := by omega
    have R := Lib.hid (rightW_long (L := L) (by omega))
    clear hll
    go_enter Try.func36, Try.ntmps36
    go_wp2
    go_ret
    exact ⟨ret_bool R.out.symm, Below.refl _ _⟩
  · have h64' : (len : Int) ≤ 64 := by omega
    have HLL := Lib.hid hll; clear hll
    have hmm := run_makeMap_hint
    go_enter Try.func36, Try.ntmps36
    go_wp2_with fail
    go_loopw [14] (fun i wr => ∃ k : Nat, k ≤ len ∧ i = .int .i64 k ∧ Seen wr w.heap.size k (hasW (L.take k)) ∧ GoodUpto L k ∧ Below w.heap.size w wr) (fun i _ => len - (intOf i).toNat)
    case atStart =>
      refine ⟨0, Nat.zero_le _, rfl, ?_, fun i x hi => absurd hi (by omega), below_alloc _ _⟩
      exact seen_made w
    case round =>
      obtain ⟨k, hk, rfl, hseen, hgood, hb⟩ := hrel
      have HS := Lib.hid hseen; have HG := Lib.hid hgood; have HB := Lib.hid hb
      clear hseen hgood hb
      by_cases hlt : k < len
      · have hlt' : (k : Int) < (len : Int) := by omega
        obtain ⟨x, b, off, hx, hok, rfl, c0, c1, c2⟩ := (HL.out.below HB.out).at k hlt
        have HX := Lib.hid hx; clear hx
        go_wp2_with fail
        have HBX := Lib.hid (Box3.new wr x)
        have HB0 := Lib.hid (HB.out.alloc HB.out.size (.cells #[.int .i64 x.g, .int .i64 x.c, .int .i64 x.s] 48))
        have HS0 := Lib.hid (HS.out.below (below_alloc wr (.cells #[.int .i64 x.g, .int .i64 x.c, .int .i64 x.s] 48)))
        clear c0 c1 c2
        refine (may_any x _ hok).mono ?_
        rintro e w1 ⟨rfl, hb1⟩
        have HBX1 := Lib.hid (HBX.out.below hb1)
        have HB1 := Lib.hid (HB0.out.trans (hb1.mono HB0.out.size))
        have HS1 := Lib.hid (HS0.out.below hb1)
        obtain ⟨B, hBB⟩ : ∃ B, B = wr.heap.size := ⟨_, rfl⟩
        rw [← hBB] at HBX1 ⊢
        have HBB := Lib.hid hBB
        clear hb1 hBB HBX HB0 HS0
        obtain ⟨c0, c1, c2⟩ := HBX1.out.cells
        cases hm : mayW x with
        | false =>
          have R := Lib.hid (rightW_bad HX.out (fun h => by rw [hm] at h; simp at h))
          clear hm
          go_wp2_with fail
          go_ret
          exact ⟨ret_bool R.out.symm, HB1.out⟩
        | true =>
          have HM := Lib.hid hm; clear hm
          go_wp2_with fail
          refine (of_any x _).mono ?_
          rintro e w2 ⟨rfl, hb2⟩
          have HBX2 := Lib.hid (HBX1.out.below hb2)
          have HB2 := Lib.hid (HB1.out.trans (hb2.mono HB1.out.size))
          have HS2 := Lib.hid (HS1.out.below hb2)
          have hlook := HS2.out.look x.g x.c hok.1 hok.2.1
          clear hb2 c0 c1 c2 HBX1 HS1
          obtain ⟨c0, c1, c2⟩ := HBX2.out.cells
          cases hh : hasW (L.take k) x.g x.c with
          | true =>
            have R := Lib.hid (rightW_bad HX.out (fun h => by rw [hh] at h; simp at h))
            rw [hh] at hlook
            clear hh
            go_wp2_with fail
            go_ret
            exact ⟨ret_bool R.out.symm, HB2.out⟩
          | false =>
            rw [hh] at hlook
            have HH := Lib.hid hh; clear hh
            go_wp2_with fail
            clear hlook c0 c1 c2
            refine (of_any x _).mono ?_
            rintro e w3 ⟨rfl, hb3⟩
            have HB3 := Lib.hid (HB2.out.trans (hb3.mono HB2.out.size))
            have HS3 := Lib.hid (HS2.out.below hb3)
            clear hb3
            go_wp2_with (at_mapUpdate; refine wpList_seen_store rfl _ _ _ rfl w.heap.size k _ rfl HS3.out (by omega) x.g x.c rfl rfl hok.1 hok.2.1 ?_; intro w4 hs4 hg4)
            have HB4 := Lib.hid (HB3.out.grown hg4.out HB3.out.size (fun r hr => by cases hr; exact Nat.le_refl _))
            go_roundw
            case rel =>
              refine ⟨k + 1, by omega, by go_num, ?_, good_succ HG.out HX.out HM.out HH.out, HB4.out⟩
              have := hs4.out
              rw [take_snoc' HX.out]
              have e : hasW (L.take k ++ [x]) = fun g' c' => hasW (L.take k) g' c' || (g' == x.g && c' == x.c) := by
                funext g' c'
                rw [hasW_snoc, beq_comm' x.g g', beq_comm' x.c c']
              rw [e]; exact this
            case measure => simp [intOf]; omega
      · have hkn : k = len := by omega
        subst hkn
        have R := Lib.hid (rightW_good (L := L) (by rw [HLL.out]; omega) (by rw [HLL.out]; exact HG.out))
        go_wp2_with fail
        go_ret
        exact ⟨ret_bool R.out.symm, HB.out⟩
end Go.Proofs.Ytfolhgpbplfilaa
