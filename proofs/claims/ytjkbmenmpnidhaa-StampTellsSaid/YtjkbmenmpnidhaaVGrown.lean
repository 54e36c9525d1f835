/- grown: the rows together, trim. -/
import Derived.Test.YtjkbmenmpnidhaaVMake
namespace Go.Proofs.Ytjkbmenmpnidhaa
open Go.RowKit

def GotInts (w : World) (L : List Int) (e : Ending) (w' : World) : Prop := ∃ a n cap, e = .returned (.slice a n cap) ∧ Ints w' a n cap L ∧ Below w.heap.size w w'

/-- a row of slices that lies at b -/
def RowsAt (w : World) (b m : Nat) (Ls : List (List Int)) : Prop :=
  Ls.length = m ∧ ∀ j, j < m → ∃ a len cap, w.cell? ⟨b, j, none⟩ = some (.slice a len cap) ∧ Ints w a len cap (Ls.getD j []) ∧ len ≤ 1000

theorem RowsAt.below {w w' : World} {b m : Nat} {Ls : List (List Int)} (h : RowsAt w b m Ls) (hb : Below w.heap.size w w') : RowsAt w' b m Ls := by
  refine ⟨h.1, fun j hj => ?_⟩
  obtain ⟨a, len, cap, hc, hi, hl⟩ := h.2 j hj
  exact ⟨a, len, cap, (hb.cell (World.block_lt_of_cell? w _ hc)).trans hc, hi.below hb, hl⟩

theorem fold_len (Ls : List (List Int)) (acc : List Int) (ha : acc.length ≤ 1000) (h : ∀ l ∈ Ls, l.length ≤ 1000) : (Ls.foldl gr acc).length ≤ 1000 := by
  induction Ls generalizing acc with
  | nil => exact ha
  | cons l ls ih =>
    rw [List.foldl_cons]
    refine ih _ ?_ fun x hx => h x (List.mem_cons_of_mem _ hx)
    rw [gr_len]; have := h l List.mem_cons_self; omega
theorem fold_succ (Ls : List (List Int)) (k : Nat) (hk : k < Ls.length) : (Ls.take (k + 1)).foldl gr [] = gr ((Ls.take k).foldl gr []) (Ls.getD k []) := by
  rw [List.take_add_one, List.getElem?_eq_getElem hk, List.getD_eq_getElem?_getD, List.getElem?_eq_getElem hk, List.foldl_append]
  rfl

set_option maxRecDepth 100000 in
theorem grown_any (b m cap : Nat) (Ls : List (List Int)) (w : World) (h : RowsAt w b m Ls) (hm : m ≤ 1000) :
    Calls Try.prog 55 #[.slice (some ⟨b, 0, none⟩) m cap] w (GotInts w (grownL Ls)) := by
  have hLs : ∀ l ∈ Ls, l.length ≤ 1000 := by
    intro l hl
    obtain ⟨j, hj, rfl⟩ := List.getElem_of_mem hl
    obtain ⟨a, len, c, _, hi, hl⟩ := h.2 j (by rw [← h.1]; exact hj)
    have := hi.len_eq
    rw [List.getD_eq_getElem?_getD, List.getElem?_eq_getElem hj] at this
    simp at this; omega
  have HL := Lib.hid hLs; have H := Lib.hid h; clear hLs h
  go_enter Try.func55, Try.ntmps55
  go_wp2_with fail
  go_loopw [3, 9] (fun v i wr => ∃ (k : Nat) (a : Option Addr) (n : Nat), k ≤ m ∧ i = .int .i64 k ∧ v = .slice a n n ∧ Ints wr a n n ((Ls.take k).foldl gr []) ∧ Below w.heap.size w wr) (fun _ i _ => m - (intOf i).toNat)
  case atStart => exact ⟨0, none, 0, Nat.zero_le _, rfl, rfl, Ints.nil _, Below.refl _ _⟩
  case round =>
    obtain ⟨k, a, n, hk, rfl, rfl, hi, hb⟩ := hrel
    have HI := Lib.hid hi; have HB := Lib.hid hb; clear hi hb
    by_cases hlt : k < m
    · obtain ⟨a2, len2, cap2, hc, hi2, hl2⟩ := (H.out.below HB.out).2 k hlt
      have HI2 := Lib.hid hi2; clear hi2
      have hf := fold_len (Ls.take k) [] (by simp) (fun l hl => HL.out l (List.mem_of_mem_take hl))
      rw [HI.out.len_eq] at hf
      go_wp2_with fail
      refine (greater_any _ _ _ _ _ _ _ _ _ HI.out HI2.out hf hl2).mono ?_
      rintro e w1 ⟨g, n1, rfl, hi1, hb1⟩
      have hb2 := HB.out.trans (hb1.mono HB.out.size)
      rw [← fold_succ Ls k (by rw [H.out.1]; exact hlt)] at hi1
      have HI1 := Lib.hid hi1; have HB2 := Lib.hid hb2; clear hi1 hb1 hb2
      go_wp2_with fail
      go_roundw
      case rel => exact ⟨k + 1, _, _, by omega, by go_num, rfl, HI1.out, HB2.out⟩
      case measure => simp [intOf]; omega
    · have hkm : Ls.take k = Ls := List.take_of_length_le (by rw [H.out.1]; omega)
      have hi := HI.out
      rw [hkm] at hi
      have HI' := Lib.hid hi; clear hkm HI hi
      have hnl := HI'.out.len_le
      go_wp2_with fail
      go_loop [6] (fun t => ∃ j : Nat, j ≤ n ∧ t = .int .i64 j ∧ ∀ x, j ≤ x → en (Ls.foldl gr []) x = 0) (fun t => (intOf t).toNat)
      case atStart => exact ⟨n, Nat.le_refl _, rfl, fun x hx => en_of_le _ _ (by rw [HI'.out.len_eq]; exact hx)⟩
      case round =>
        obtain ⟨j, hj, rfl, h0⟩ := hrel
        have H0 := Lib.hid h0; clear h0
        have fin : (j = 0 ∨ en (Ls.foldl gr []) (j - 1) ≠ 0) → grownL Ls = (Ls.foldl gr []).take j := fun h1 => (trim_of_cut _ _ (by rw [HI'.out.len_eq]; exact hj) H0.out h1).symm
        have FIN := Lib.hid fin; clear fin
        by_cases hj0 : j = 0
        · subst hj0
          go_wp2_with fail
          go_ret
          refine ⟨a, 0, n, rfl, ?_, HB.out⟩
          rw [FIN.out (.inl trivial)]
          simpa using HI'.out.take 0
        · obtain ⟨i, rfl⟩ : ∃ i, j = i + 1 := ⟨j - 1, by omega⟩
          obtain ⟨b3, off3, rfl, hc3⟩ := HI'.out.cell i (by omega)
          obtain ⟨x, hx⟩ : ∃ x, x = en (Ls.foldl gr []) i := ⟨_, rfl⟩
          rw [← hx] at hc3
          have Hx := Lib.hid hx; clear hx
          have hpos : (0 : Int) < (i : Int) + 1 := by omega
          have hin : (i : Int) < (n : Int) := by omega
          by_cases hz : x = 0
          · subst hz
            go_wp2_with fail
            go_round
            case rel =>
              refine ⟨i, by omega, rfl, fun x hx => ?_⟩
              by_cases hxi : x = i
              · rw [hxi, ← Hx.out]
              · exact H0.out x (by omega)
            case measure => simp [intOf]
          · go_wp2_with fail
            go_ret
            refine ⟨_, i + 1, n, rfl, ?_, HB.out⟩
            rw [FIN.out (.inr (by rw [Nat.add_sub_cancel, ← Hx.out]; exact hz))]
            have ht := HI'.out.take (i + 1)
            rwa [Nat.min_eq_right (by omega)] at ht
end Go.Proofs.Ytjkbmenmpnidhaa
