/- Blocks of structs; onces as plain data; what may be a once. -/
import Derived.Test.YtnmopfimmindnaaFr
import Derived.Laws.ResultCell
namespace Go.Proofs.Ytnmopfimmindnaa
open Go.RowKit

/-- a block that holds just these cells -/
def Bx (W : World) (B : Nat) (cs : Array Value) (t : TypeId) : Prop := W.heap[B]? = some (.cells cs t (0, 0))
theorem Bx.below {W W' : World} {B : Nat} {cs : Array Value} {t : TypeId} (h : Bx W B cs t) (hb : Below W.heap.size W W') : Bx W' B cs t := (hb.block _ (Array.getElem?_eq_some_iff.1 h).1).trans h
theorem Bx.lt {W : World} {B : Nat} {cs : Array Value} {t : TypeId} (h : Bx W B cs t) : B < W.heap.size := (Array.getElem?_eq_some_iff.1 h).1
theorem Bx.new (W : World) (cs : Array Value) (t : TypeId) : Bx (W.alloc (.cells cs t)) W.heap.size cs t := heap_alloc_new W _
theorem Bx.cell {W : World} {B : Nat} {cs : Array Value} {t : TypeId} (h : Bx W B cs t) (j : Nat) {v : Value} (hv : cs[j]? = some v) : W.cell? ⟨B, j, none⟩ = some v := (cell_of_row W B j cs t (0, 0) h).trans hv
theorem Bx.froz {W : World} {B : Nat} {cs : Array Value} {t : TypeId} (h : Bx W B cs t) (j : Nat) : W.frozen? ⟨B, j, none⟩ = false := by unfold Bx at h; simp [World.frozen?, h]
theorem Bx.load {W : World} {B : Nat} {cs : Array Value} {t ty : TypeId} {fs : _} (h : Bx W B cs t) (hu : Try.prog.underlying ty = some (.struct fs)) (hi : (Try.prog.info? ty).map (·.size) = some cs.size) : (loadVar ty ⟨B, 0, none⟩).run Try.prog W = .ok (.agg cs) W :=
  run_loadVar_row W B t ty cs (0, 0) _ h hu rfl hi
theorem Bx.cells2 {W : World} {B : Nat} {a b : Value} {t : TypeId} (h : Bx W B #[a, b] t) : W.cell? ⟨B, 0, none⟩ = some a ∧ W.cell? ⟨B, 1, none⟩ = some b := ⟨h.cell 0 rfl, h.cell 1 rfl⟩
theorem Bx.cells3 {W : World} {B : Nat} {a b c : Value} {t : TypeId} (h : Bx W B #[a, b, c] t) : W.cell? ⟨B, 0, none⟩ = some a ∧ W.cell? ⟨B, 1, none⟩ = some b ∧ W.cell? ⟨B, 2, none⟩ = some c := ⟨h.cell 0 rfl, h.cell 1 rfl, h.cell 2 rfl⟩
theorem Bx.cells5 {W : World} {B : Nat} {a b c d e : Value} {t : TypeId} (h : Bx W B #[a, b, c, d, e] t) : W.cell? ⟨B, 0, none⟩ = some a ∧ W.cell? ⟨B, 1, none⟩ = some b ∧ W.cell? ⟨B, 2, none⟩ = some c ∧ W.cell? ⟨B, 3, none⟩ = some d ∧ W.cell? ⟨B, 4, none⟩ = some e := ⟨h.cell 0 rfl, h.cell 1 rfl, h.cell 2 rfl, h.cell 3 rfl, h.cell 4 rfl⟩
theorem Bx.cells7 {W : World} {B : Nat} {a b c d e f g : Value} {t : TypeId} (h : Bx W B #[a, b, c, d, e, f, g] t) : W.cell? ⟨B, 0, none⟩ = some a ∧ W.cell? ⟨B, 1, none⟩ = some b ∧ W.cell? ⟨B, 2, none⟩ = some c ∧ W.cell? ⟨B, 3, none⟩ = some d ∧ W.cell? ⟨B, 4, none⟩ = some e ∧ W.cell? ⟨B, 5, none⟩ = some f ∧ W.cell? ⟨B, 6, none⟩ = some g := ⟨h.cell 0 rfl, h.cell 1 rfl, h.cell 2 rfl, h.cell 3 rfl, h.cell 4 rfl, h.cell 5 rfl, h.cell 6 rfl⟩
theorem Bx.set {W : World} {B : Nat} {cs : Array Value} {t : TypeId} (h : Bx W B cs t) (j : Nat) (v : Value) : Bx (W.setCell ⟨B, j, none⟩ v) B (cs.setIfInBounds j v) t := set_at h v
abbrev set2c (W : World) (B : Nat) (a b : Value) : World := (W.setCell ⟨B, 0, none⟩ a).setCell ⟨B, 1, none⟩ b
abbrev set3c (W : World) (B : Nat) (a b c : Value) : World := (set2c W B a b).setCell ⟨B, 2, none⟩ c
abbrev set7c (W : World) (B : Nat) (a b c d e f g : Value) : World := ((((set3c W B a b c).setCell ⟨B, 3, none⟩ d).setCell ⟨B, 4, none⟩ e).setCell ⟨B, 5, none⟩ f).setCell ⟨B, 6, none⟩ g
theorem Bx.set2 {W : World} {B : Nat} {x y : Value} {t : TypeId} (h : Bx W B #[x, y] t) (a b : Value) : Bx (set2c W B a b) B #[a, b] t := (h.set 0 a).set 1 b
theorem Bx.set3 {W : World} {B : Nat} {x y z : Value} {t : TypeId} (h : Bx W B #[x, y, z] t) (a b c : Value) : Bx (set3c W B a b c) B #[a, b, c] t := ((h.set 0 a).set 1 b).set 2 c
theorem Bx.set7 {W : World} {B : Nat} {x0 x1 x2 x3 x4 x5 x6 : Value} {t : TypeId} (h : Bx W B #[x0, x1, x2, x3, x4, x5, x6] t) (a b c d e f g : Value) : Bx (set7c W B a b c d e f g) B #[a, b, c, d, e, f, g] t := by
  have h0 : Bx (W.setCell ⟨B, 0, none⟩ a) B #[a, x1, x2, x3, x4, x5, x6] t := h.set 0 a
  unfold set7c set3c set2c
  generalize W.setCell ⟨B, 0, none⟩ a = W0 at h0 ⊢
  have h1 : Bx (W0.setCell ⟨B, 1, none⟩ b) B #[a, b, x2, x3, x4, x5, x6] t := h0.set 1 b
  generalize W0.setCell ⟨B, 1, none⟩ b = W1 at h1 ⊢
  have h2 : Bx (W1.setCell ⟨B, 2, none⟩ c) B #[a, b, c, x3, x4, x5, x6] t := h1.set 2 c
  generalize W1.setCell ⟨B, 2, none⟩ c = W2 at h2 ⊢
  have h3 : Bx (W2.setCell ⟨B, 3, none⟩ d) B #[a, b, c, d, x4, x5, x6] t := h2.set 3 d
  generalize W2.setCell ⟨B, 3, none⟩ d = W3 at h3 ⊢
  have h4 : Bx (W3.setCell ⟨B, 4, none⟩ e) B #[a, b, c, d, e, x5, x6] t := h3.set 4 e
  generalize W3.setCell ⟨B, 4, none⟩ e = W4 at h4 ⊢
  have h5 : Bx (W4.setCell ⟨B, 5, none⟩ f) B #[a, b, c, d, e, f, x6] t := h4.set 5 f
  generalize W4.setCell ⟨B, 5, none⟩ f = W5 at h5 ⊢
  exact h5.set 6 g
theorem below_set2 {w W : World} {n₀ B : Nat} (h : Below n₀ w W) (hB : n₀ ≤ B) (a b : Value) : Below n₀ w (set2c W B a b) := (h.setCell (p := ⟨B, 0, none⟩) hB _).setCell (p := ⟨B, 1, none⟩) hB _
theorem below_set3 {w W : World} {n₀ B : Nat} (h : Below n₀ w W) (hB : n₀ ≤ B) (a b c : Value) : Below n₀ w (set3c W B a b c) := (below_set2 h hB a b).setCell (p := ⟨B, 2, none⟩) hB _
theorem below_set7 {w W : World} {n₀ B : Nat} (h : Below n₀ w W) (hB : n₀ ≤ B) (a b c d e f g : Value) : Below n₀ w (set7c W B a b c d e f g) :=
  ((((below_set3 h hB a b c).setCell (p := ⟨B, 3, none⟩) hB _).setCell (p := ⟨B, 4, none⟩) hB _).setCell (p := ⟨B, 5, none⟩) hB _).setCell (p := ⟨B, 6, none⟩) hB _
theorem res_c1 {fn : Func} {p u : Tmp} {ty : TypeId} (h : fn.results = #[.cell p ty, .tmp u]) (tmps : Array Value) {W : World} {B : Nat} {v : Value} (hp : tmps.getD p undef = .pointer (some ⟨B, 0, none⟩)) (hg : (loadVar ty ⟨B, 0, none⟩).run Try.prog W = .ok v W) :
    (results fn tmps).run Try.prog W = .ok (.tuple #[v, tmps.getD u undef]) W := by
  rw [results_cell_tmp h, hp]
  simp [asAddr, Result.andThen, hg]
theorem res_c2' {fn : Func} {p u u2 : Tmp} {ty : TypeId} (h : fn.results = #[.cell p ty, .tmp u, .tmp u2]) (tmps : Array Value) (w : World) :
    (results fn tmps).run Try.prog w = ((asAddr (tmps.getD p undef)).run Try.prog w).andThen fun a w₁ => ((loadVar ty a).run Try.prog w₁).andThen fun v w₂ => .ok (.tuple #[v, tmps.getD u undef, tmps.getD u2 undef]) w₂ := by
  simp only [results, h]
  simp [Sem.run_bind, Result.andThen]
theorem res_c2 {fn : Func} {p u u2 : Tmp} {ty : TypeId} (h : fn.results = #[.cell p ty, .tmp u, .tmp u2]) (tmps : Array Value) {W : World} {B : Nat} {v : Value} (hp : tmps.getD p undef = .pointer (some ⟨B, 0, none⟩)) (hg : (loadVar ty ⟨B, 0, none⟩).run Try.prog W = .ok v W) :
    (results fn tmps).run Try.prog W = .ok (.tuple #[v, tmps.getD u undef, tmps.getD u2 undef]) W := by
  rw [res_c2' h, hp]
  simp [asAddr, Result.andThen, hg]
theorem res_cc2' {fn : Func} {p q u u2 : Tmp} {ty ty2 : TypeId} (h : fn.results = #[.cell p ty, .cell q ty2, .tmp u, .tmp u2]) (tmps : Array Value) (w : World) :
    (results fn tmps).run Try.prog w = ((asAddr (tmps.getD p undef)).run Try.prog w).andThen fun a w₁ => ((loadVar ty a).run Try.prog w₁).andThen fun v w₂ => ((asAddr (tmps.getD q undef)).run Try.prog w₂).andThen fun a2 w₃ => ((loadVar ty2 a2).run Try.prog w₃).andThen fun v2 w₄ => .ok (.tuple #[v, v2, tmps.getD u undef, tmps.getD u2 undef]) w₄ := by
  simp only [results, h]
  simp [Sem.run_bind, Result.andThen]
theorem res_cc2 {fn : Func} {p q u u2 : Tmp} {ty ty2 : TypeId} (h : fn.results = #[.cell p ty, .cell q ty2, .tmp u, .tmp u2]) (tmps : Array Value) {W : World} {B C : Nat} {v v2 : Value} (hp : tmps.getD p undef = .pointer (some ⟨B, 0, none⟩)) (hg : (loadVar ty ⟨B, 0, none⟩).run Try.prog W = .ok v W) (hq : tmps.getD q undef = .pointer (some ⟨C, 0, none⟩)) (hg2 : (loadVar ty2 ⟨C, 0, none⟩).run Try.prog W = .ok v2 W) :
    (results fn tmps).run Try.prog W = .ok (.tuple #[v, v2, tmps.getD u undef, tmps.getD u2 undef]) W := by
  rw [res_cc2' h, hp, hq]
  simp [asAddr, Result.andThen, hg, hg2]

theorem Bx.new2 (w : World) (A : Obj) (cs : Array Value) (t : TypeId) : Bx ((w.alloc A).alloc (.cells cs t)) (w.heap.size + 1) cs t := heap_two w A _
theorem Wts.other {w w' : World} {a : Option Addr} {len cap : Nat} {L : List Wt} (h : Wts w a len cap L) (B : Nat) (hne : ∀ x, a = some x → x.block ≠ B) (hk : ∀ g, g ≠ B → w'.heap[g]? = w.heap[g]?) : Wts w' a len cap L := by
  refine ⟨⟨h.recs.len_eq, h.recs.le_cap, h.recs.cap_le, h.recs.none_, fun i x hx => ?_⟩, h.ok⟩
  obtain ⟨b, off, e, hc⟩ := h.recs.cell i x hx
  refine ⟨b, off, e, fun j v hv => ?_⟩
  have h1 := hc j v hv
  rw [← h1]
  simp [World.cell?, hk b (hne _ e)]
theorem set3_other (W : World) (B : Nat) (a b c : Value) (x : Nat) (hx : x ≠ B) : (set3c W B a b c).heap[x]? = W.heap[x]? := by
  unfold set3c set2c
  iterate 3 rw [Below.heap_setCell _ _ _ _ (by exact hx)]
theorem set2_other (W : World) (B : Nat) (a b : Value) (x : Nat) (hx : x ≠ B) : (set2c W B a b).heap[x]? = W.heap[x]? := by
  unfold set2c
  iterate 2 rw [Below.heap_setCell _ _ _ _ (by exact hx)]
theorem Wts.drew {w : World} {a : Option Addr} {len cap : Nat} {L : List Wt} (h : Wts w a len cap L) : Wts w.drew a len cap L := h.below (Below.refl _ _).drew
theorem Bx.new3 (w : World) (A B : Obj) (cs : Array Value) (t : TypeId) : Bx (((w.alloc A).alloc B).alloc (.cells cs t)) (w.heap.size + 2) cs t := by
  have h := heap_alloc_new ((w.alloc A).alloc B) (.cells cs t)
  rw [World.size_alloc, World.size_alloc] at h
  exact h
theorem own_wts {w : World} {base : Nat} {v : Value} {L : List Wt} (h : OwnW w base v L) (hok : ∀ x ∈ L, WtOk x) : ∃ a n c, v = .slice a n c ∧ Wts w a n c L := by
  obtain ⟨a, c, e, hr⟩ := OwnR.recs wcells_len h
  exact ⟨a, _, c, e, hr, hok⟩
theorem Wts.other' {w w' : World} {a : Option Addr} {len cap : Nat} {L : List Wt} (h : Wts w a len cap L) (B : Nat) (hne : ∀ x, a = some x → 0 < len → x.block ≠ B) (hk : ∀ g, g ≠ B → w'.heap[g]? = w.heap[g]?) : Wts w' a len cap L := by
  refine ⟨⟨h.recs.len_eq, h.recs.le_cap, h.recs.cap_le, h.recs.none_, fun i x hx => ?_⟩, h.ok⟩
  obtain ⟨b, off, e, hc⟩ := h.recs.cell i x hx
  refine ⟨b, off, e, fun j v hv => ?_⟩
  have h1 := hc j v hv
  have hp : 0 < len := by have := (List.getElem?_eq_some_iff.1 hx).1; rw [h.recs.len_eq] at this; omega
  rw [← h1]
  simp [World.cell?, hk b (hne _ e hp)]
theorem res_c0' {fn : Func} {p : Tmp} {ty : TypeId} (h : fn.results = #[.cell p ty]) (tmps : Array Value) (w : World) :
    (results fn tmps).run Try.prog w = ((asAddr (tmps.getD p undef)).run Try.prog w).andThen fun a w₁ => ((loadVar ty a).run Try.prog w₁).andThen fun v w₂ => .ok v w₂ := by
  simp only [results, h]
  simp [Sem.run_bind, Result.andThen]
  cases Sem.run Try.prog (asAddr (tmps[p]?.getD undef)) w with
  | ok a w1 => simp only []; cases Sem.run Try.prog (loadVar ty a) w1 <;> rfl
  | halt h w1 => rfl
theorem res_c0 {fn : Func} {p : Tmp} {ty : TypeId} (h : fn.results = #[.cell p ty]) (tmps : Array Value) {W : World} {B : Nat} {v : Value} (hp : tmps.getD p undef = .pointer (some ⟨B, 0, none⟩)) (hg : (loadVar ty ⟨B, 0, none⟩).run Try.prog W = .ok v W) :
    (results fn tmps).run Try.prog W = .ok v W := by
  rw [res_c0' h, hp]
  simp [asAddr, Result.andThen, hg]

def metW (L : List Wt) (g : Int) : Bool := L.any fun x => x.g == g
theorem metW_snoc (L : List Wt) (x : Wt) (g : Int) : metW (L ++ [x]) g = (metW L g || x.g == g) := by simp [metW]
/-- what may be a once -/
noncomputable def rightO (st by_ : Int) (L : List Wt) : Bool := decide (0 ≤ st ∧ st ≤ 2 ∧ 0 ≤ by_) && rightW L && (if st = 1 then !metW L by_ else decide (by_ = 0) && L.isEmpty)
abbrev onV (st by_ : Int) (a : Option Addr) (len cap : Nat) : Value := .agg #[.int .i64 st, .int .i64 by_, .slice a len cap]
abbrev onC (st by_ : Int) (a : Option Addr) (len cap : Nat) : Array Value := #[.int .i64 st, .int .i64 by_, .slice a len cap]
theorem inf24 : (Try.prog.info? 24).map (·.size) = some 3 := by kernel_rfl
theorem inf26 : (Try.prog.info? 26).map (·.size) = some 3 := by kernel_rfl
set_option maxRecDepth 100000 in
set_option maxHeartbeats 4000000 in
theorem met_cmp (x : Wt) (st by_ : Int) (q : Value) (B : Nat) (w : World) (hB : Bx w B #[.int .i64 st, .int .i64 by_, q] 24) :
    Calls Try.prog 22 #[wV x, .pointer (some ⟨B, 0, none⟩)] w fun e w' => e = .returned (.bool (x.g == by_)) ∧ Below w.heap.size w w' := by
  have hl := hB.lt
  obtain ⟨c0, c1, c2⟩ := hB.cells3
  clear hB
  go_enter Try.func22, Try.ntmps22
  go_wp2_with fail
  go_ret
  exact ⟨rfl, below_alloc w _⟩
set_option maxRecDepth 100000 in
set_option maxHeartbeats 4000000 in
theorem IndexFunc_met (a : Option Addr) (len cap : Nat) (L : List Wt) (st by_ : Int) (q : Value) (B : Nat) (w : World) (hL : Wts w a len cap L) (hB : Bx w B #[.int .i64 st, .int .i64 by_, q] 24) :
    Calls Try.prog 29 #[.slice a len cap, .func (.func 22) #[] #[.pointer (some ⟨B, 0, none⟩)]] w fun e w' => (∃ i : Int, e = .returned (.int .i64 i) ∧ decide (0 ≤ i) = metW L by_) ∧ Below w.heap.size w w' := by
  have hcm := hL.recs.len_le
  have HLL := Lib.hid hL.recs.len_eq
  have HL := Lib.hid hL; clear hL
  have HB := Lib.hid hB; clear hB
  go_enter Try.func29, Try.ntmps29
  go_wp2_with fail
  go_loopw [8] (fun i wr => ∃ k : Nat, k ≤ len ∧ i = .int .i64 k ∧ metW (L.take k) by_ = false ∧ Below w.heap.size w wr) (fun i _ => len - (intOf i).toNat)
  case atStart => exact ⟨0, Nat.zero_le _, rfl, rfl, Below.refl _ _⟩
  case round =>
    obtain ⟨k, hk, rfl, hno, hb⟩ := hrel
    have HN := Lib.hid hno; have HBW := Lib.hid hb
    clear hno hb
    by_cases hlt : k < len
    · have hlt' : (k : Int) < (len : Int) := by omega
      obtain ⟨x, b, off, hx, hok, rfl, c0, c1, c2⟩ := (HL.out.below HBW.out).at k hlt
      have HX := Lib.hid hx; clear hx
      have HC := Lib.hid (met_cmp x st by_ q B wr (HB.out.below HBW.out))
      have HN1 := Lib.hid (metW_snoc (L.take k) x by_)
      go_wp2_with fail
      refine HC.out.mono ?_
      rintro e w1 ⟨rfl, hb1⟩
      have HBW1 := Lib.hid (HBW.out.trans (hb1.mono HBW.out.size))
      clear hb1 c0 c1 c2
      cases hs : (x.g == by_) with
      | true =>
        have R := Lib.hid (show metW L by_ = true from List.any_eq_true.2 ⟨x, List.mem_of_getElem? HX.out, hs⟩)
        clear hs
        go_wp2_with fail
        go_ret
        exact ⟨⟨_, rfl, by rw [R.out]; simp⟩, HBW1.out⟩
      | false =>
        have HS := Lib.hid hs; clear hs
        go_wp2_with fail
        go_roundw
        case rel => exact ⟨k + 1, by omega, by go_num, by rw [take_snoc' HX.out, HN1.out, HN.out]; exact HS.out, HBW1.out⟩
        case measure => simp [intOf]; omega
    · have hkn : k = len := by omega
      subst hkn
      have R := Lib.hid (show metW L by_ = false by have := HN.out; rwa [List.take_of_length_le (by rw [HLL.out]; exact Nat.le_refl _)] at this)
      go_wp2_with fail
      go_ret
      exact ⟨⟨-1, rfl, by rw [R.out]; rfl⟩, HBW.out⟩
set_option maxRecDepth 100000 in
set_option maxHeartbeats 4000000 in
theorem ContainsFunc_met (a : Option Addr) (len cap : Nat) (L : List Wt) (st by_ : Int) (q : Value) (B : Nat) (w : World) (hL : Wts w a len cap L) (hB : Bx w B #[.int .i64 st, .int .i64 by_, q] 24) :
    Calls Try.prog 21 #[.slice a len cap, .func (.func 22) #[] #[.pointer (some ⟨B, 0, none⟩)]] w fun e w' => e = .returned (.bool (metW L by_)) ∧ Below w.heap.size w w' := by
  have HC := Lib.hid (IndexFunc_met a len cap L st by_ q B w hL hB)
  clear hL hB
  go_enter Try.func21, Try.ntmps21
  go_wp2_with fail
  refine HC.out.mono ?_
  rintro e w1 ⟨⟨i, rfl, hi⟩, hb1⟩
  have HI := Lib.hid hi; have HB := Lib.hid hb1
  clear hi hb1
  by_cases h0 : 0 ≤ i
  all_goals
    go_wp2_with fail
    go_ret
    exact ⟨ret_bool (by rw [← HI.out]; try simp [h0]), HB.out⟩
set_option maxRecDepth 100000 in
set_option maxHeartbeats 4000000 in
theorem ORight_any (st by_ : Int) (a : Option Addr) (len cap : Nat) (L : List Wt) (w : World) (hL : Wts w a len cap L) (hs : I64 st) (hb : I64 by_) :
    Calls Try.prog 9 #[onV st by_ a len cap] w fun e w' => e = .returned (.bool (rightO st by_ L)) ∧ Below w.heap.size w w' := by
  have hcm := hL.recs.len_le
  have HLE : Hid (L.isEmpty = decide (len = 0)) := Lib.hid (by rw [← hL.recs.len_eq]; cases L <;> simp)
  have HR := Lib.hid (fun W (h : Wts W a len cap L) => Right_any a len cap L W h)
  have L_0 := Lib.hid (hL.below (below_alloc w (.cells (onC st by_ a len cap) 24)))
  have X_0 := Lib.hid (Bx.new w (onC st by_ a len cap) 24)
  have BEL_0 := Lib.hid (below_alloc w (.cells (onC st by_ a len cap) 24))
  clear hL
  unfold I64 at hs hb
  have hcases : (st < 0 ∨ (0 ≤ st ∧ 2 < st) ∨ (0 ≤ st ∧ st ≤ 2 ∧ by_ < 0)) ∨ (0 ≤ st ∧ st ≤ 2 ∧ 0 ≤ by_) := by omega
  rcases hcases with hbad | ⟨h1, h2, h3⟩
  · have R := Lib.hid (show rightO st by_ L = false by unfold rightO; rw [decide_eq_false (by omega)]; rfl)
    rw [R.out]
    rcases hbad with h | ⟨h, h'⟩ | ⟨h, h', h''⟩
    all_goals
      try have hge : 3 ≤ st := by omega
      go_enter Try.func9, Try.ntmps9
      go_wp2_with fail
      go_ret
      exact ⟨rfl, BEL_0.out⟩
  · have R0 := Lib.hid (show rightO st by_ L = (rightW L && (if st = 1 then !metW L by_ else decide (by_ = 0) && L.isEmpty)) by unfold rightO; rw [decide_eq_true (by omega)]; simp)
    have hlt3 : st < 3 := by omega
    cases hr : rightW L with
    | false =>
      have R := Lib.hid (show rightO st by_ L = false by rw [R0.out, hr]; rfl)
      rw [hr] at HR
      rw [R.out]
      clear hr
      go_enter Try.func9, Try.ntmps9
      go_wp2_with fail
      refine (HR.out _ L_0.out).mono ?_
      rintro e w1 ⟨rfl, hb⟩
      have BEL_1 := Lib.hid (BEL_0.out.trans (Below.mono hb BEL_0.out.size))
      clear hb
      go_wp2_with fail
      go_ret
      exact ⟨rfl, BEL_1.out⟩
    | true =>
      rw [hr] at HR
      by_cases h1s : st = 1
      · subst h1s
        have R := Lib.hid (show rightO 1 by_ L = !metW L by_ by rw [R0.out, hr]; simp)
        rw [R.out]
        clear hr
        go_enter Try.func9, Try.ntmps9
        go_wp2_with fail
        refine (HR.out _ L_0.out).mono ?_
        rintro e w1 ⟨rfl, hb⟩
        have BEL_1 := Lib.hid (BEL_0.out.trans (Below.mono hb BEL_0.out.size))
        have X_1 := Lib.hid (X_0.out.below hb); have L_1 := Lib.hid (L_0.out.below hb)
        clear hb
        obtain ⟨c0, c1, c2⟩ := X_1.out.cells3
        go_wp2_with fail
        refine (ContainsFunc_met a len cap L 1 by_ _ _ w1 L_1.out X_1.out).mono ?_
        rintro e w2 ⟨rfl, hb⟩
        have BEL_2 := Lib.hid (BEL_1.out.trans (Below.mono hb BEL_1.out.size))
        clear hb
        go_wp2_with fail
        go_ret
        exact ⟨rfl, BEL_2.out⟩
      · have hn1 : (st != 1) = true := by rw [bne_iff_ne]; exact h1s
        have hn2 : (st == 1) = false := by rw [beq_eq_false_iff_ne]; exact h1s
        have R := Lib.hid (show rightO st by_ L = (decide (by_ = 0) && decide (len = 0)) by rw [R0.out, hr, if_neg h1s, HLE.out]; rfl)
        rw [R.out]
        clear hr h1s
        by_cases hb0 : by_ = 0 <;> by_cases hl0 : len = 0
        all_goals
          have HB0 := Lib.hid hb0; have HL0 := Lib.hid hl0
          first | (have hz : (by_ == 0) = true := by rw [beq_iff_eq]; exact hb0) | (have hz : (by_ == 0) = false := by rw [beq_eq_false_iff_ne]; exact hb0)
          first | (have hz2 : ((len : Int) == 0) = true := by rw [beq_iff_eq]; omega) | (have hz2 : ((len : Int) == 0) = false := by rw [beq_eq_false_iff_ne]; omega)
          clear hb0 hl0
          go_enter Try.func9, Try.ntmps9
          go_wp2_with fail
          refine (HR.out _ L_0.out).mono ?_
          rintro e w1 ⟨rfl, hb⟩
          have BEL_1 := Lib.hid (BEL_0.out.trans (Below.mono hb BEL_0.out.size))
          have X_1 := Lib.hid (X_0.out.below hb)
          clear hb
          obtain ⟨c0, c1, c2⟩ := X_1.out.cells3
          go_wp2_with fail
          go_ret
          exact ⟨ret_bool (by simp [HB0.out, HL0.out]), BEL_1.out⟩
end Go.Proofs.Ytnmopfimmindnaa
