/- what is asked, by kind; when an event is wrong. -/
import Derived.Test.YtjkbmenmpnidhaaC3
import Derived.Test.YtjkbmenmpnidhaaJ5
namespace Go.Proofs.Ytjkbmenmpnidhaa
open Go.RowKit Go.Maps
set_option linter.unusedSimpArgs false
set_option linter.unusedVariables false
def askB (caps : List Int) (L : List Ev) (k : Nat) (x : Ev) : Bool := match x.kind.toNat with
  | 0 => beginB L x
  | 1 => bareB x && decide (x.obj = cntZ L 0 0 k)
  | 2 => bareB x && inB x (caps.length : Int)
  | 3 => passesB caps L k x 2 && decide (¬ 0 < cntZ L 7 x.obj k) && decide (x.no = cntZ L 3 x.obj k) && decide (x.no ≤ cntZ L 5 x.obj k + capAt caps x.obj)
  | 4 => bareB x && inB x (caps.length : Int)
  | 5 => passesB caps L k x 4 && decide (x.no = cntZ L 5 x.obj k) && decide (x.no ≤ cntZ L 3 x.obj k)
  | 6 => passesB caps L k x 4 && decide (x.no = 0) && decide (¬ cntZ L 7 x.obj k = 0) && decide (cntZ L 5 x.obj k = cntZ L 3 x.obj k)
  | 7 => bareB x && openB caps x && decide (cntZ L 7 x.obj k = 0)
  | 8 => bareB x && inB x 4
  | 9 => decide (x.no = 0) && inB x 4 && endsB L k x 8
  | 10 => bareB x && inB x 2
  | 11 => decide (x.no = 0) && inB x 2 && endsB L k x 10 && decide (cntZ L 12 x.obj k = cntZ L 11 x.obj k)
  | 12 => bareB x && inB x 2 && decide (cntZ L 11 x.obj k = cntZ L 12 x.obj k + 1)
  | 13 => bareB x && inB x 2
  | 14 => bareB x && inB x 2 && decide (¬ 0 < cntZ L 14 x.obj k) && decide (0 < cntZ L 13 x.obj k) && decide ((doerZ L x.obj k).getD 0 = x.g)
  | 15 => decide (x.no = 0) && inB x 2 && endsB L k x 13 && decide (0 < cntZ L 14 x.obj k)
  | _ => bareB x && inB x 4
theorem ask_any (J : Nat) (p : JPlace) (caps : List Int) (L : List Ev) (k : Nat) (x : Ev) (w : World) (h : Jd w J p caps L k) (hok : EvOk x) (hk : k ≤ 1000) (hcap3 : ∀ q, en caps q ≤ 3) (hpl : 0 ≤ x.g ∧ x.g < 8 ∧ x.start < (k : Int)) (q : Nat) (hq : x.kind = (q : Int)) (hq18 : q < 18) : Calls Try.prog (askFn q) #[.pointer (some ⟨J, 0, none⟩), evV x] w (BoolTo w (askB caps L k x)) := by
  unfold askB
  rw [hq, Int.toNat_natCast]
  clear hq
  match q, hq18 with
  | 0, _ => exact begin_any J p caps L k x w h hok hpl
  | 1, _ => exact go_any J p caps L k x w h hok
  | 2, _ => exact come_any J p caps L k x w h hok
  | 3, _ => exact sent_any J p caps L k x w h hok hk hcap3 hpl
  | 4, _ => exact come_any J p caps L k x w h hok
  | 5, _ => exact got_any J p caps L k x w h hok hpl
  | 6, _ => exact none_any J p caps L k x w h hok hpl
  | 7, _ => exact close_any J p caps L k x w h hok
  | 8, _ => exact select_any J p caps L k x w h hok
  | 9, _ => exact default_any J p caps L k x w h hok hpl
  | 10, _ => exact lock_any J p caps L k x w h hok
  | 11, _ => exact locked_any J p caps L k x w h hok hpl
  | 12, _ => exact unlock_any J p caps L k x w h hok hk
  | 13, _ => exact do_any J p caps L k x w h hok
  | 14, _ => exact end_any J p caps L k x w h hok
  | 15, _ => exact skip_any J p caps L k x w h hok hpl
  | 16, _ => exact access_any J p caps L k x w h hok
  | 17, _ => exact access_any J p caps L k x w h hok
  | q + 18, h18 => exact absurd h18 (by omega)
theorem cnt0_eq (caps : List Int) (L : List Ev) : ∀ k, (∀ j, j < k → badZ caps L j = false) → cnt0 L k = cntZ L 0 0 k
  | 0, _ => rfl
  | k + 1, h => by
    have ih := cnt0_eq caps L k (fun j hj => h j (by omega))
    have hb := h k (by omega)
    unfold cnt0 cntZ
    by_cases e : (evAt L k).kind = 0
    · have : (evAt L k).obj = 0 := by
        unfold badZ begunZ at hb
        rw [if_pos e] at hb
        simp only [Bool.or_eq_false_iff, decide_eq_false_iff_not] at hb
        omega
      rw [if_pos e, if_pos ⟨e, this⟩, ih]
    · rw [if_neg e, if_neg (fun h => e h.1), ih]
/-- an event that may be: all that is asked -/
def goodB (caps : List Int) (L : List Ev) (k : Nat) (x : Ev) : Bool := decide (0 ≤ x.kind ∧ x.kind < 18) && placedB L k x && askB caps L k x
set_option maxHeartbeats 4000000 in
theorem bad_good (caps : List Int) (L : List Ev) (k : Nat) (h : ∀ j, j < k → badZ caps L j = false) : badZ caps L k = !goodB caps L k (evAt L k) := by
  have hc := cnt0_eq caps L k h
  clear h
  have hl := lastZ_lt L (evAt L k).g k
  have hdn := doer_none L (evAt L k).obj k
  have hn := fun kd => (cntZ_le L kd (evAt L k).obj k).1
  unfold badZ goodB
  unfold shapeZ begunZ fieldsZ beganZ channelZ syncZ enderZ placedB askB stAt
  unfold beginB bareB inB passesB endsB openB numberedZ beginsZ mostZ originZ
  rw [hc]
  clear hc
  generalize evAt L k = x at *
  obtain ⟨g, kd, ob, no, st⟩ := x
  dsimp only at *
  generalize lastZ L g k = la at *
  obtain ⟨y, hy⟩ : ∃ y, y = evAt L st.toNat := ⟨_, rfl⟩
  rw [← hy]
  clear hy
  obtain ⟨yg, yk, yo, yn, ys⟩ := y
  dsimp only
  generalize capAt caps ob = cp
  generalize (caps.length : Int) = cn
  have n3 := hn 3; have n5 := hn 5; have n7 := hn 7; have n11 := hn 11; have n12 := hn 12; have n13 := hn 13; have n14 := hn 14
  clear hn
  generalize cntZ L 3 ob k = c3 at *
  generalize cntZ L 5 ob k = c5 at *
  generalize cntZ L 7 ob k = c7 at *
  generalize cntZ L 11 ob k = c11 at *
  generalize cntZ L 12 ob k = c12 at *
  generalize cntZ L 13 ob k = c13 at *
  generalize cntZ L 14 ob k = c14 at *
  generalize cntZ L 0 0 k = c0 at *
  generalize doerZ L ob k = dz at *
  generalize (k : Int) = ki at *
  by_cases hr : 0 ≤ kd ∧ kd < 18
  · obtain ⟨q, rfl⟩ : ∃ q : Nat, kd = (q : Int) := ⟨kd.toNat, by omega⟩
    have hq : q < 18 := by omega
    clear hr
    rw [Int.toNat_natCast]
    rw [Bool.eq_iff_iff]
    match q, hq with
    | 0, _ =>
      (simp at *; omega)
    | 1, _ =>
      (simp at *; omega)
    | 2, _ =>
      (simp at *; omega)
    | 3, _ =>
      (simp at *; omega)
    | 4, _ =>
      (simp at *; omega)
    | 5, _ =>
      (simp at *; omega)
    | 6, _ =>
      (simp at *; omega)
    | 7, _ =>
      (simp at *; omega)
    | 8, _ =>
      (simp at *; omega)
    | 9, _ =>
      (simp at *; omega)
    | 10, _ =>
      (simp at *; omega)
    | 11, _ =>
      (simp at *; omega)
    | 12, _ =>
      (simp at *; omega)
    | 13, _ =>
      (simp at *; omega)
    | 14, _ =>
      cases dz <;> (simp at *; omega)
    | 15, _ =>
      cases dz <;> (simp at *; omega)
    | 16, _ =>
      (simp at *; omega)
    | 17, _ =>
      (simp at *; omega)
    | q + 18, h18 => exact absurd h18 (by omega)
  · rw [decide_eq_false hr]
    rw [decide_eq_true (by omega)]
    simp
end Go.Proofs.Ytjkbmenmpnidhaa
