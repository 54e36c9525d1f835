/- New, and what a struct in a cell is. -/
import Derived.Test.YtfolhgpbplfilaaRGath
import Derived.Laws.ResultCell
namespace Go.Proofs.Ytfolhgpbplfilaa
open Go.RowKit

def rightZ (cap first : Int) (len : Nat) (count : Int) : Bool := decide (0 ≤ cap ∧ cap ≤ 8 ∧ (len : Int) = cap ∧ 0 ≤ first ∧ first < max cap 1 ∧ 0 ≤ count ∧ count ≤ cap)

set_option maxRecDepth 100000 in
set_option maxHeartbeats 1000000 in
theorem r_Right_any (cap first count : Int) (a : Option Addr) (len cp : Nat) (w : World) (hc : I64 cap) (hf : I64 first) (hk : I64 count) (_hl : (len : Int) ≤ 9223372036854775807) :
    Calls Try.prog 56 #[ringV cap first (.slice a len cp) count] w fun e w' => e = .returned (.bool (rightZ cap first len count)) ∧ Below w.heap.size w w' := by
  unfold I64 at hc hf hk
  unfold ringV
  by_cases h1 : cap < 0
  · have R := Lib.hid (show rightZ cap first len count = false by rw [rightZ, decide_eq_false_iff_not]; omega)
    go_enter Try.func56, Try.ntmps56
    go_wp2
    go_ret
    exact ⟨ret_bool R.out.symm, below_alloc _ _⟩
  by_cases h2 : 8 < cap
  · have R := Lib.hid (show rightZ cap first len count = false by rw [rightZ, decide_eq_false_iff_not]; omega)
    go_enter Try.func56, Try.ntmps56
    go_wp2
    go_ret
    exact ⟨ret_bool R.out.symm, below_alloc _ _⟩
  by_cases h3 : (len : Int) = cap
  · have h3b : ((len : Int) != cap) = false := by rw [bne_eq_false_iff_eq]; exact h3
    have H3 := Lib.hid h3; clear h3
    by_cases h4 : first < 0
    · have R := Lib.hid (show rightZ cap first len count = false by rw [rightZ, decide_eq_false_iff_not]; omega)
      go_enter Try.func56, Try.ntmps56
      go_wp2
      go_ret
      exact ⟨ret_bool R.out.symm, below_alloc _ _⟩
    by_cases h5 : first < max cap 1
    · by_cases h6 : count < 0
      · have R := Lib.hid (show rightZ cap first len count = false by rw [rightZ, decide_eq_false_iff_not]; omega)
        by_cases hc1 : cap < 1
        all_goals
          go_enter Try.func56, Try.ntmps56
          go_wp2
          go_ret
          exact ⟨ret_bool R.out.symm, below_alloc _ _⟩
      by_cases h7 : count ≤ cap
      · have R := Lib.hid (show rightZ cap first len count = true by rw [rightZ, decide_eq_true_eq]; exact ⟨by omega, by omega, H3.out, by omega, h5, by omega, h7⟩)
        by_cases hc1 : cap < 1
        all_goals
          go_enter Try.func56, Try.ntmps56
          go_wp2
          go_ret
          exact ⟨ret_bool R.out.symm, below_alloc _ _⟩
      · have R := Lib.hid (show rightZ cap first len count = false by rw [rightZ, decide_eq_false_iff_not]; omega)
        by_cases hc1 : cap < 1
        all_goals
          go_enter Try.func56, Try.ntmps56
          go_wp2
          go_ret
          exact ⟨ret_bool R.out.symm, below_alloc _ _⟩
    · have R := Lib.hid (show rightZ cap first len count = false by rw [rightZ, decide_eq_false_iff_not]; omega)
      by_cases hc1 : cap < 1
      all_goals
        go_enter Try.func56, Try.ntmps56
        go_wp2
        go_ret
        exact ⟨ret_bool R.out.symm, below_alloc _ _⟩
  · have h3b : ((len : Int) != cap) = true := by rw [bne_iff_ne]; exact h3
    have R := Lib.hid (show rightZ cap first len count = false by rw [rightZ, decide_eq_false_iff_not]; omega)
    clear h3
    go_enter Try.func56, Try.ntmps56
    go_wp2
    go_ret
    exact ⟨ret_bool R.out.symm, below_alloc _ _⟩
end Go.Proofs.Ytfolhgpbplfilaa
namespace Go.Proofs.Ytfolhgpbplfilaa
open Go.RowKit
theorem new_facts (w w1 : World) (hg : (w.alloc (.cells #[.int .i64 0, .int .i64 0, .slice none 0 0, .int .i64 0] 24)).grownBy w1 none) :
    w1.heap[w.heap.size]? = some (.cells #[.int .i64 0, .int .i64 0, .slice none 0 0, .int .i64 0] 24 (0, 0)) ∧ Below w.heap.size w w1 := by
  have h1 : w1.heap[w.heap.size]? = some (.cells #[.int .i64 0, .int .i64 0, .slice none 0 0, .int .i64 0] 24 (0, 0)) := by
    rw [hg.block w.heap.size (by simp) (by simp)]; exact heap_alloc_new w _
  exact ⟨h1, (below_alloc w _).grown hg (by simp) (fun k hk => by cases hk)⟩
theorem froz_of_block {W : World} {B j : Nat} {xs : Array Value} {t : TypeId} (h : W.heap[B]? = some (.cells xs t (0, 0))) : W.frozen? ⟨B, j, none⟩ = false := by
  simp [World.frozen?, h]
abbrev set4 (W : World) (B : Nat) (v0 v1 v2 v3 : Value) : World := (((W.setCell ⟨B, 0, none⟩ v0).setCell ⟨B, 1, none⟩ v1).setCell ⟨B, 2, none⟩ v2).setCell ⟨B, 3, none⟩ v3
theorem set4_below {w W : World} {n₀ B : Nat} (h : Below n₀ w W) (hB : n₀ ≤ B) (v0 v1 v2 v3 : Value) : Below n₀ w (set4 W B v0 v1 v2 v3) :=
  (((h.setCell (p := ⟨B, 0, none⟩) hB _).setCell (p := ⟨B, 1, none⟩) hB _).setCell (p := ⟨B, 2, none⟩) hB _).setCell (p := ⟨B, 3, none⟩) hB _
theorem set4_other (W : World) (B k : Nat) (v0 v1 v2 v3 : Value) (h : k ≠ B) : (set4 W B v0 v1 v2 v3).heap[k]? = W.heap[k]? := by
  unfold set4
  rw [Below.heap_setCell _ _ _ _ h, Below.heap_setCell _ _ _ _ h, Below.heap_setCell _ _ _ _ h, Below.heap_setCell _ _ _ _ h]
theorem r_set_at {W : World} {B j : Nat} {cs : Array Value} {t : TypeId} (h : W.heap[B]? = some (.cells cs t (0, 0))) (v : Value) : (W.setCell ⟨B, j, none⟩ v).heap[B]? = some (.cells (cs.setIfInBounds j v) t (0, 0)) := by
  obtain ⟨hlt, hk⟩ := Array.getElem?_eq_some_iff.1 h
  show (W.heap.modify B _)[B]? = _
  rw [Array.getElem?_eq_getElem (by rw [Array.size_modify]; exact hlt), Array.getElem_modify_self, hk]
  rfl
theorem set4_at {W : World} {B : Nat} {x0 x1 x2 x3 : Value} {t : TypeId} (h : W.heap[B]? = some (.cells #[x0, x1, x2, x3] t (0, 0))) (v0 v1 v2 v3 : Value) : (set4 W B v0 v1 v2 v3).heap[B]? = some (.cells #[v0, v1, v2, v3] t (0, 0)) := by
  unfold set4
  rw [r_set_at (r_set_at (r_set_at (r_set_at h v0) v1) v2) v3]; rfl
theorem Try.r_inf24 : (Try.prog.info? 24).map (·.size) = some 4 := by kernel_rfl
theorem ring_load {W : World} {B : Nat} {v0 v1 v2 v3 : Value} (hg : W.heap[B]? = some (.cells #[v0, v1, v2, v3] 24 (0, 0))) : (loadVar 24 ⟨B, 0, none⟩).run Try.prog W = .ok (.agg #[v0, v1, v2, v3]) W := by
  exact run_loadVar_row W B 24 24 #[v0, v1, v2, v3] (0, 0) _ hg Try.underlying24 (by kernel_rfl) Try.r_inf24
theorem ring_res {fn : Func} {p u : Tmp} (h : fn.results = #[.cell p 24, .tmp u]) (tmps : Array Value) {W : World} {B : Nat} {v0 v1 v2 v3 : Value} (hp : tmps.getD p undef = .pointer (some ⟨B, 0, none⟩)) (hg : W.heap[B]? = some (.cells #[v0, v1, v2, v3] 24 (0, 0))) :
    (results fn tmps).run Try.prog W = .ok (.tuple #[.agg #[v0, v1, v2, v3], tmps.getD u undef]) W := by
  rw [results_cell_tmp h, hp]
  simp [asAddr, Result.andThen, ring_load hg]
/-- a ring that the call has made: its slots lie in a block of their own -/
def GotRing (w : World) (c first count : Nat) (zs : List Int) (why : Int) (e : Ending) (w' : World) : Prop :=
  ∃ a cap, e = .returned (.tuple #[ringV c first (.slice a c cap) count, .int .i64 why]) ∧ Ints w' a c cap zs ∧ Below w.heap.size w w' ∧ ∀ x, a = some x → w.heap.size ≤ x.block
theorem en_zeros (n i : Nat) : en (List.replicate n 0) i = 0 := by
  by_cases h : i < n
  · rw [en_get _ _ (by simpa using h)]; simp
  · exact en_of_le _ _ (by simp; omega)
set_option maxRecDepth 100000 in
set_option maxHeartbeats 1000000 in
theorem New_ok (n : Nat) (w : World) (h : n ≤ 8) :
    Calls Try.prog 28 #[.int .i64 n] w (GotRing w n 0 0 (List.replicate n 0) 0) := by
  obtain ⟨i0, hi, hz0, hz1, hz2⟩ := info_parts Try.info3
  have h0 : (0 : Int) ≤ n := by omega
  have h8 : (n : Int) ≤ 8 := by omega
  go_enter Try.func28, Try.ntmps28
  go_wp2_with (at_make; refine wpList_make_full _ rfl _ _ 22 rfl w.heap.size 3 i0 (.int .i64 0) 1 Try.underlying22 hi hz0 hz1 .i64 .i64 _ _ n rfl rfl rfl rfl (by rw [hz2]; omega) (by unfold maxLen; omega) (by simp) ?_; intro w1 hown1 hg1; obtain ⟨hb1, hB1⟩ := new_facts w w1 hg1; have HOWN := Lib.hid hown1; have HB1 := Lib.hid hB1; have q0 := cell_of_block (j := 0) hb1; have q1 := cell_of_block (j := 1) hb1; have q2 := cell_of_block (j := 2) hb1; have q3 := cell_of_block (j := 3) hb1; simp at q0 q1 q2 q3; have f0 := froz_of_block (j := 0) hb1; have f1 := froz_of_block (j := 1) hb1; have f2 := froz_of_block (j := 2) hb1; have f3 := froz_of_block (j := 3) hb1; have HB := Lib.hid hb1; clear hb1; clear hown1 hg1 hB1)
  try simp only [Exit.inBlock, Exit.then]
  refine bodyPost_ret (ring_res rfl _ rfl (set4_at HB.out _ _ _ _)) rfl ?_
  have HR := HOWN.out
  rw [World.size_alloc] at HR
  have hrow := row_of_own HR
  refine ⟨_, _, rfl, Ints.of_row (e := 3) ?_ (by simp) (by unfold maxLen; omega) (fun i => by rw [en_zeros]; exact ⟨by omega, by omega⟩), set4_below HB1.out (Nat.le_refl _) _ _ _ _, fun x hx => by cases hx; simp⟩
  rw [set4_other _ _ _ _ _ _ _ (by omega), hrow, Nat.mul_one, show (Value.int IntKind.i64 0).cells = #[.int .i64 0] from rfl, toList_madeCells_one]; simp [ints]

/-- nothing but what a refusal hands back -/
def NoRing (w : World) (why : Int) (e : Ending) (w' : World) : Prop := e = .returned (.tuple #[ringV 0 0 (.slice none 0 0) 0, .int .i64 why]) ∧ Below w.heap.size w w'


theorem cells4 {W : World} {B : Nat} {x0 x1 x2 x3 : Value} {t : TypeId} (h : W.heap[B]? = some (.cells #[x0, x1, x2, x3] t (0, 0))) :
    W.cell? ⟨B, 0, none⟩ = some x0 ∧ W.cell? ⟨B, 1, none⟩ = some x1 ∧ W.cell? ⟨B, 2, none⟩ = some x2 ∧ W.cell? ⟨B, 3, none⟩ = some x3 :=
  ⟨cell_of_block h, cell_of_block h, cell_of_block h, cell_of_block h⟩
theorem froz4 {W : World} {B : Nat} {x0 x1 x2 x3 : Value} {t : TypeId} (h : W.heap[B]? = some (.cells #[x0, x1, x2, x3] t (0, 0))) :
    W.frozen? ⟨B, 0, none⟩ = false ∧ W.frozen? ⟨B, 1, none⟩ = false ∧ W.frozen? ⟨B, 2, none⟩ = false ∧ W.frozen? ⟨B, 3, none⟩ = false :=
  ⟨froz_of_block h, froz_of_block h, froz_of_block h, froz_of_block h⟩
/-- two structs that the call has laid, and what lies behind a call that keeps them -/
theorem boxes (w w1 : World) {x0 x1 x2 x3 y0 y1 y2 y3 : Value} (hb : Below ((w.alloc (.cells #[x0, x1, x2, x3] 24)).alloc (.cells #[y0, y1, y2, y3] 24)).heap.size ((w.alloc (.cells #[x0, x1, x2, x3] 24)).alloc (.cells #[y0, y1, y2, y3] 24)) w1) :
    w1.heap[w.heap.size]? = some (.cells #[x0, x1, x2, x3] 24 (0, 0)) ∧ w1.heap[w.heap.size + 1]? = some (.cells #[y0, y1, y2, y3] 24 (0, 0)) ∧ Below w.heap.size w w1 ∧ w.heap.size + 1 < w1.heap.size := by
  have h2 : w1.heap[w.heap.size + 1]? = some (.cells #[y0, y1, y2, y3] 24 (0, 0)) := by
    rw [hb.block _ (by simp)]
    have := heap_alloc_new (w.alloc (.cells #[x0, x1, x2, x3] 24)) (.cells #[y0, y1, y2, y3] 24)
    rw [World.size_alloc] at this; exact this
  refine ⟨?_, h2, ((below_alloc w _).alloc (by simp) _).trans (hb.mono (by simp; omega)), (Array.getElem?_eq_some_iff.1 h2).1⟩
  rw [hb.block _ (by simp; omega), Below.heap_alloc _ _ _ (by simp)]; exact heap_alloc_new w _
/-- a slice of the call's own that has elements, in its block -/
def OwnAt (W : World) (base g c n : Nat) (zs : List Int) : Prop :=
  base ≤ g ∧ c ≤ n ∧ n ≤ maxLen ∧ zs.length = c ∧ ∃ cur : Array Value, W.heap[g]? = some (.cells cur 3 (0, 0)) ∧ cur.size = n ∧ cur.toList.take c = ints zs
theorem Own.at {W : World} {base : Nat} {v : Value} {zs : List Int} {c : Nat} (h : Own W base v zs) (hl : zs.length = c) (hc : 0 < c) : ∃ g n, v = .slice (some ⟨g, 0, none⟩) c n ∧ OwnAt W base g c n zs := by
  rcases h.2 with ⟨_, hn⟩ | ⟨g, cap, cur, hv, hg, hh, hnc, hcm, hcs, htake⟩
  · omega
  · subst hl
    exact ⟨g, cap, hv, hg, hnc, hcm, rfl, cur, hh, by omega, by rw [Nat.mul_one] at htake; exact htake⟩
theorem OwnAt.ints {W : World} {base g c n : Nat} {zs : List Int} (h : OwnAt W base g c n zs) (hb : ∀ i, I64 (en zs i)) : Ints W (some ⟨g, 0, none⟩) c n zs := by
  obtain ⟨_, h1, h2, h3, cur, hh, _, ht⟩ := h
  refine ⟨h3, h1, h2, fun h => by simp at h, hb, fun i hi => ⟨g, 0, rfl, ?_⟩⟩
  rw [Nat.zero_add, cell_of_row W g i _ 3 (0, 0) hh]
  have e : cur[i]? = (cur.toList.take c)[i]? := by
    rw [List.getElem?_take, if_pos hi]; simp
  rw [e, ht]
  simp [Go.Proofs.Ytfolhgpbplfilaa.ints, en_get zs i (by omega), h3, hi]
theorem OwnAt.later {W W' : World} {base g c n : Nat} {zs : List Int} (h : OwnAt W base g c n zs) (hh : W'.heap[g]? = W.heap[g]?) : OwnAt W' base g c n zs := by
  obtain ⟨h0, h1, h2, h3, cur, hg, r⟩ := h
  exact ⟨h0, h1, h2, h3, cur, hh.trans hg, r⟩
theorem OwnAt.lt {W : World} {base g c n : Nat} {zs : List Int} (h : OwnAt W base g c n zs) : g < W.heap.size := by
  obtain ⟨_, _, _, _, cur, hh, _⟩ := h
  exact (Array.getElem?_eq_some_iff.1 hh).1
theorem OwnAt.froz {W : World} {base g c n : Nat} {zs : List Int} (h : OwnAt W base g c n zs) (q : Nat) : W.frozen? ⟨g, q, none⟩ = false := by
  obtain ⟨_, _, _, _, cur, hh, _⟩ := h
  exact froz_of_block hh
theorem OwnAt.cell {W : World} {base g c n : Nat} {zs : List Int} (h : OwnAt W base g c n zs) (hb : ∀ i, I64 (en zs i)) (q : Nat) (hq : q < c) : W.cell? ⟨g, q, none⟩ = some (.int .i64 (en zs q)) := by
  obtain ⟨b, off, e, hc⟩ := (h.ints hb).cell q hq
  simp only [Option.some.injEq, Addr.mk.injEq, and_true] at e
  obtain ⟨rfl, rfl⟩ := e
  rwa [Nat.zero_add] at hc
theorem OwnAt.set {W : World} {base g c n : Nat} {zs : List Int} (h : OwnAt W base g c n zs) (q : Nat) (v : Int) : OwnAt (W.setCell ⟨g, q, none⟩ (.int .i64 v)) base g c n (zs.set q v) := by
  obtain ⟨h0, h1, h2, h3, cur, hh, hs, ht⟩ := h
  refine ⟨h0, h1, h2, by rw [List.length_set]; exact h3, cur.setIfInBounds q (.int .i64 v), r_set_at hh _, by simpa using hs, ?_⟩
  rw [Array.toList_setIfInBounds, List.take_set, ht]
  simp [Go.Proofs.Ytfolhgpbplfilaa.ints, List.map_set]
theorem gathered_slots2 (c first count : Nat) (a : Option Addr) (cap : Nat) (zs : List Int) (w : World) (hI : Ints w a c cap zs) (hc8 : c ≤ 8) (hc0 : 0 < c) :
    Calls Try.prog 57 #[ringV c first (.slice a c cap) count, .func (.func 72) #[] #[]] w fun e W' => ∃ g n, e = .returned (.slice (some ⟨g, 0, none⟩) c n) ∧ OwnAt W' w.heap.size g c n zs ∧ Below w.heap.size w W' :=
  (gathered_slots c first count a cap zs w hI hc8).mono fun e W' ⟨v, he, ho, hb⟩ => by
    obtain ⟨g, n, hv, ha⟩ := ho.at hI.len_eq hc0
    exact ⟨g, n, by rw [he, hv], ha, hb⟩
end Go.Proofs.Ytfolhgpbplfilaa
