/- First. -/
import Derived.Test.YtfolhgpbplfilaaPush
namespace Go.Proofs.Ytfolhgpbplfilaa
open Go.RowKit

def zeroW : Wt := ⟨0, 0, 0⟩
theorem Try.inf24 : (Try.prog.info? 48).map (·.size) = some 3 := by kernel_rfl
theorem wait_load {W : World} {B : Nat} {x : Wt} (h : Box3 W B x) : (loadVar 48 ⟨B, 0, none⟩).run Try.prog W = .ok (wV x) W :=
  run_loadVar_row W B 48 48 #[.int .i64 x.g, .int .i64 x.c, .int .i64 x.s] (0, 0) _ h Try.underlying48 (by kernel_rfl) Try.inf24
theorem wait_res {fn : Func} {p u : Tmp} (h : fn.results = #[.cell p 48, .tmp u]) (tmps : Array Value) {W : World} {B : Nat} {x : Wt} (hp : tmps.getD p undef = .pointer (some ⟨B, 0, none⟩)) (hg : Box3 W B x) :
    (results fn tmps).run Try.prog W = .ok (.tuple #[wV x, tmps.getD u undef]) W := by
  rw [results_cell_tmp h, hp]
  simp [asAddr, Result.andThen, wait_load hg]
def GotWait (w : World) (x : Wt) (why : Int) (e : Ending) (w' : World) : Prop := e = .returned (.tuple #[wV x, .int .i64 why]) ∧ Below w.heap.size w w'
abbrev set3 (W : World) (B : Nat) (x : Wt) : World := ((W.setCell ⟨B, 0, none⟩ (.int .i64 x.g)).setCell ⟨B, 1, none⟩ (.int .i64 x.c)).setCell ⟨B, 2, none⟩ (.int .i64 x.s)
theorem set_at {W : World} {B j : Nat} {cs : Array Value} {t : TypeId} (h : W.heap[B]? = some (.cells cs t (0, 0))) (v : Value) : (W.setCell ⟨B, j, none⟩ v).heap[B]? = some (.cells (cs.setIfInBounds j v) t (0, 0)) := by
  obtain ⟨hlt, hk⟩ := Array.getElem?_eq_some_iff.1 h
  show (W.heap.modify B _)[B]? = _
  rw [Array.getElem?_eq_getElem (by rw [Array.size_modify]; exact hlt), Array.getElem_modify_self, hk]
  rfl
theorem set3_at {W : World} {B : Nat} {y : Wt} (h : Box3 W B y) (x : Wt) : Box3 (set3 W B x) B x := by
  unfold set3 Box3
  rw [set_at (set_at (set_at h _) _) _]; rfl
theorem set3_below {w W : World} {n₀ B : Nat} (h : Below n₀ w W) (hB : n₀ ≤ B) (x : Wt) : Below n₀ w (set3 W B x) :=
  ((h.setCell (p := ⟨B, 0, none⟩) hB _).setCell (p := ⟨B, 1, none⟩) hB _).setCell (p := ⟨B, 2, none⟩) hB _

theorem zero3_at {W : World} {B : Nat} {y : Wt} (h : Box3 W B y) : Box3 (((W.setCell ⟨B, 0, none⟩ (.int .i64 0)).setCell ⟨B, 1, none⟩ (.int .i64 0)).setCell ⟨B, 2, none⟩ (.int .i64 0)) B zeroW := set3_at h zeroW
theorem zero3_below {w W : World} {n₀ B : Nat} (h : Below n₀ w W) (hB : n₀ ≤ B) : Below n₀ w (((W.setCell ⟨B, 0, none⟩ (.int .i64 0)).setCell ⟨B, 1, none⟩ (.int .i64 0)).setCell ⟨B, 2, none⟩ (.int .i64 0)) := set3_below h hB zeroW
theorem find_no {L : List Wt} {k : Nat} {p : Wt → Bool} (h : ∀ y ∈ L.take k, p y = false) (hk : L.length ≤ k) : L.find? p = none := by
  rw [List.find?_eq_none]
  intro y hy
  have := h y (by rw [List.take_of_length_le hk]; exact hy)
  simp [this]
theorem find_at {L : List Wt} {k : Nat} {x : Wt} {p : Wt → Bool} (h : ∀ y ∈ L.take k, p y = false) (hx : L[k]? = some x) (hp : p x = true) : L.find? p = some x := by
  have hs : L = L.take k ++ (x :: L.drop (k + 1)) := by
    obtain ⟨hlt, he⟩ := List.getElem?_eq_some_iff.1 hx
    rw [← he, ← List.drop_eq_getElem_cons hlt, List.take_append_drop]
  rw [hs, List.find?_append, List.find?_eq_none.2 (fun y hy => by simp [h y hy])]
  simp [hp]
def GotFirst (w : World) (o : Option Wt) (e : Ending) (w' : World) : Prop :=
  match o with
  | some x => GotWait w x 0 e w'
  | none => GotWait w zeroW 4 e w'
def firstW (L : List Wt) (b : Int) : Option Wt := L.find? (fun x => x.g != b)

set_option maxRecDepth 100000 in
set_option maxHeartbeats 2000000 in
theorem First_arg (a : Option Addr) (len cap : Nat) (L : List Wt) (b : Int) (w : World) (hL : Wts w a len cap L) (hbad : rightW L = false ∨ b < 0) :
    Calls Try.prog 51 #[.slice a len cap, .int .i64 b] w (GotWait w zeroW 1) := by
  have hcm := hL.recs.len_le
  have HR := Lib.hid (fun W (h : Wts W a len cap L) => Right_any a len cap L W h)
  have HL := Lib.hid (hL.below (below_alloc w (.cells #[.int .i64 0, .int .i64 0, .int .i64 0] 48))); clear hL
  have HBX := Lib.hid (Box3.new w zeroW)
  have HB := Lib.hid (below_alloc w (.cells #[.int .i64 0, .int .i64 0, .int .i64 0] 48))
  cases hr : rightW L with
  | false =>
    rw [hr] at HR
    clear hbad hr
    go_enter Try.func51, Try.ntmps51
    go_wp2_with fail
    refine (HR.out _ HL.out).mono ?_
    rintro e w1 ⟨rfl, hb1⟩
    have HB1 := Lib.hid (HB.out.trans (Below.mono hb1 HB.out.size))
    have HX1 := Lib.hid (Box3.below HBX.out hb1)
    obtain ⟨c0, c1, c2⟩ := HX1.out.cells
    obtain ⟨f0, f1, f2⟩ := HX1.out.froz
    clear hb1
    simp only [zeroW] at c0 c1 c2
    go_wp2_with fail
    exact bodyPost_ret (wait_res (x := zeroW) rfl _ rfl (zero3_at HX1.out)) rfl ⟨rfl, zero3_below HB1.out (Nat.le_refl _)⟩
  | true =>
    have hb0 : b < 0 := by rcases hbad with h | h; · rw [hr] at h; simp at h
                           · exact h
    rw [hr] at HR
    clear hbad hr
    go_enter Try.func51, Try.ntmps51
    go_wp2_with fail
    refine (HR.out _ HL.out).mono ?_
    rintro e w1 ⟨rfl, hb1⟩
    have HB1 := Lib.hid (HB.out.trans (Below.mono hb1 HB.out.size))
    have HX1 := Lib.hid (Box3.below HBX.out hb1)
    obtain ⟨c0, c1, c2⟩ := HX1.out.cells
    obtain ⟨f0, f1, f2⟩ := HX1.out.froz
    clear hb1
    simp only [zeroW] at c0 c1 c2
    go_wp2_with fail
    exact bodyPost_ret (wait_res (x := zeroW) rfl _ rfl (zero3_at HX1.out)) rfl ⟨rfl, zero3_below HB1.out (Nat.le_refl _)⟩

set_option maxRecDepth 100000 in
set_option maxHeartbeats 2000000 in
theorem First_go (a : Option Addr) (len cap : Nat) (L : List Wt) (b : Int) (w : World) (hL : Wts w a len cap L) (hr : rightW L = true) (hb : 0 ≤ b) (hbI : I64 b) :
    Calls Try.prog 51 #[.slice a len cap, .int .i64 b] w (GotFirst w (firstW L b)) := by
  have hcm := hL.recs.len_le
  unfold I64 at hbI
  have HLL := Lib.hid hL.recs.len_eq
  have HR := Lib.hid (fun W (h : Wts W a len cap L) => Right_any a len cap L W h)
  rw [hr] at HR
  have HL := Lib.hid (hL.below (below_alloc w (.cells #[.int .i64 0, .int .i64 0, .int .i64 0] 48))); clear hL
  have HBX := Lib.hid (Box3.new w zeroW)
  have HB := Lib.hid (below_alloc w (.cells #[.int .i64 0, .int .i64 0, .int .i64 0] 48))
  clear hr
  go_enter Try.func51, Try.ntmps51
  go_wp2_with fail
  refine (HR.out _ HL.out).mono ?_
  rintro e w1 ⟨rfl, hb1⟩
  have HB1 := Lib.hid (HB.out.trans (Below.mono hb1 HB.out.size))
  have HX1 := Lib.hid (Box3.below HBX.out hb1)
  have HL1 := Lib.hid (HL.out.below hb1)
  clear hb1
  go_wp2_with fail
  go_loopw [18] (fun i wr => ∃ k : Nat, k ≤ len ∧ i = .int .i64 k ∧ (∀ y ∈ L.take k, (y.g != b) = false) ∧ Below w1.heap.size w1 wr) (fun i _ => len - (intOf i).toNat)
  case atStart => exact ⟨0, Nat.zero_le _, rfl, fun y hy => by simp at hy, Below.refl _ _⟩
  case round =>
    obtain ⟨k, hk, rfl, hno, hbw⟩ := hrel
    have HN := Lib.hid hno; have HW := Lib.hid hbw
    have HBW := Lib.hid (HB1.out.trans (Below.mono hbw HB1.out.size))
    have HXW := Lib.hid (HX1.out.below hbw)
    clear hno hbw
    by_cases hlt : k < len
    · have hlt' : (k : Int) < (len : Int) := by omega
      obtain ⟨x, bb, off, hx, hok, rfl, c0, c1, c2⟩ := (HL1.out.below HW.out).at k hlt
      have HX := Lib.hid hx; clear hx
      obtain ⟨z0, z1, z2⟩ := HXW.out.cells
      obtain ⟨f0, f1, f2⟩ := HXW.out.froz
      have hl0 := HXW.out.lt
      cases hg : (x.g != b) with
      | true =>
        have HF := Lib.hid (find_at HN.out HX.out hg)
        go_wp2_with fail
        have e1 : firstW L b = some x := HF.out
        rw [e1]
        exact bodyPost_ret (wait_res rfl _ rfl (Box3.below (set3_at HXW.out x) (below_alloc _ _))) rfl ⟨rfl, (set3_below HBW.out (Nat.le_refl _) x).alloc (by first | exact HBW.out.size | (simp; exact HBW.out.size)) _⟩
      | false =>
        have HG := Lib.hid hg
        go_wp2_with fail
        go_roundw
        case rel =>
          refine ⟨k + 1, by omega, by go_num, fun y hy => ?_, HW.out.alloc HW.out.size _⟩
          rw [take_snoc' HX.out] at hy
          rcases List.mem_append.1 hy with h | h
          · exact HN.out y h
          · simp at h; rw [h]; exact HG.out
        case measure => simp [intOf]; omega
    · have hkn : k = len := by omega
      subst hkn
      have HF := Lib.hid (find_no HN.out (by rw [HLL.out]; exact Nat.le_refl _))
      obtain ⟨z0, z1, z2⟩ := HXW.out.cells
      obtain ⟨f0, f1, f2⟩ := HXW.out.froz
      simp only [zeroW] at z0 z1 z2
      go_wp2_with fail
      have e1 : firstW L b = none := HF.out
      rw [e1]
      exact bodyPost_ret (wait_res (x := zeroW) rfl _ rfl (zero3_at HXW.out)) rfl ⟨rfl, zero3_below HBW.out (Nat.le_refl _)⟩
end Go.Proofs.Ytfolhgpbplfilaa
