/- alive; what the laws need. -/
import Derived.Test.YtipjdkaibkmciaaRefs2
namespace Go.Proofs.Ytipjdkaibkmciaa
open Go.RowKit
theorem Wts.other' {w w' : World} {a : Option Addr} {len cap : Nat} {L : List Wt} (h : Wts w a len cap L) (B : Nat) (hne : ∀ x, a = some x → 0 < len → x.block ≠ B) (hk : ∀ g, g ≠ B → w'.heap[g]? = w.heap[g]?) : Wts w' a len cap L := by
  refine ⟨⟨h.recs.len_eq, h.recs.le_cap, h.recs.cap_le, h.recs.none_, fun i x hx => ?_⟩, h.ok⟩
  obtain ⟨b, off, e, hc⟩ := h.recs.cell i x hx
  refine ⟨b, off, e, fun j v hv => ?_⟩
  have h1 := hc j v hv
  have hp : 0 < len := by have := (List.getElem?_eq_some_iff.1 hx).1; rw [h.recs.len_eq] at this; omega
  rw [← h1]
  simp [World.cell?, hk b (hne _ e hp)]
theorem refTake_any (h : Bool) (a : Option Addr) (len cap : Nat) (L : List Wt) (x : Wt) (w : World) (hL : Wts w a len cap L) (hx : WtOk x) (hl : len ≤ 1000) :
    Calls Try.prog 15 #[lkV h a len cap, wV x] w (GotL w (takeZ h L x).1 (takeZ h L x).2.1 (takeZ h L x).2.2.1 (takeZ h L x).2.2.2) := by
  have hlen := hL.recs.len_eq
  cases h with
  | false => exact refTake_free a len cap L x w hL
  | true =>
    cases hh : hasW L x.g x.c with
    | true =>
      have e : takeZ true L x = (false, [], false, 7) := by simp [takeZ, hh]
      rw [e]
      exact refTake_twice a len cap L x w hL hh
    | false =>
      by_cases hf : len = 64
      · have e : takeZ true L x = (false, [], false, 5) := by simp [takeZ, hh, hlen, hf]
        rw [e]
        exact refTake_full a len cap L x w hL hh hf
      · have e : takeZ true L x = (true, L ++ [x], false, 0) := by simp [takeZ, hh, hlen, hf]
        rw [e]
        exact refTake_ok a len cap L x w hL hx hh hf hl
def oneW : Wt := ⟨1, 0, 0⟩
def twoW : Wt := ⟨2, 0, 0⟩
theorem one_ok : WtOk oneW := ⟨⟨by decide, by decide⟩, ⟨by decide, by decide⟩, ⟨by decide, by decide⟩⟩
theorem two_ok : WtOk twoW := ⟨⟨by decide, by decide⟩, ⟨by decide, by decide⟩, ⟨by decide, by decide⟩⟩
theorem rk_nil (h : Bool) : rightK h [] = true := by simp [rightK, right_nil]
theorem rk_two : rightK true [twoW] = true := by
  have := right_snoc (x := twoW) right_nil (by decide) (by decide) (by decide)
  simp [rightK]; exact this
set_option maxRecDepth 100000 in
set_option maxHeartbeats 4000000 in
theorem alive_any (w : World) : Calls Try.prog 11 #[] w fun e w' => e = .returned (.bool true) ∧ Below w.heap.size w w' := by
  have hT1 := Lib.hid (fun (W : World) => Take_any false none 0 0 [] oneW W (Wts.nil W) one_ok (rk_nil false) (by decide))
  have hT2 := Lib.hid (fun (W : World) a n c (H : Wts W a n c []) => Take_any true a n c [] twoW W H two_ok (rk_nil true) (by decide))
  have hG := Lib.hid (fun (W : World) a n c (H : Wts W a n c [twoW]) => Give_any true a n c [twoW] W H rk_two)
  rw [show takeZ false [] oneW = (true, [], true, 0) from rfl] at hT1
  rw [show takeZ true [] twoW = (true, [twoW], false, 0) from rfl] at hT2
  rw [show giveZ true [twoW] = (true, [], twoW, true, 0) from rfl] at hG
  simp only [oneW, twoW] at hT1 hT2 hG
  unfold GotT at hT1 hT2
  unfold GotG at hG
  have BEL_0 := Lib.hid (Below.refl w.heap.size w)
  go_enter Try.func11, Try.ntmps11
  go_wp2_with fail
  refine (hT1.out _).mono ?_
  rintro e w1 ⟨ta, tl, tc, rfl, hi, hb, _⟩
  have BEL_1 := Lib.hid (BEL_0.out.trans (Below.mono hb BEL_0.out.size))
  clear BEL_0
  have TA_1 := Lib.hid (hi)
  clear hb hi
  go_wp2_with fail
  have hsz := BEL_1.out.size
  have hb := below_alloc w1 (.cells #[.bool true, .slice ta tl tc] 24)
  have TA_2 := Lib.hid (TA_1.out.below hb)
  have BEL_2 := Lib.hid (BEL_1.out.trans (Below.mono hb BEL_1.out.size))
  clear TA_1 BEL_1
  clear hb
  have A_2 := Lib.hid (Bx.new w1 #[.bool true, .slice ta tl tc] 24)
  obtain ⟨X2, hX2⟩ : ∃ x, x = (w1.alloc (.cells #[.bool true, .slice ta tl tc] 24)) := ⟨_, rfl⟩
  rw [← hX2] at TA_2 A_2 BEL_2 ⊢
  clear hX2
  obtain ⟨BA, hBA⟩ : ∃ x, x = w1.heap.size := ⟨_, rfl⟩
  rw [← hBA] at A_2
  try rw [← hBA]
  have HBA := Lib.hid (show w.heap.size ≤ BA by omega)
  clear hsz hBA
  have hA2 := A_2.out.lt
  refine (hT2.out _ ta tl tc TA_2.out).mono ?_
  rintro e w3 ⟨tb, tbl, tbc, rfl, hi, hb, hfr⟩
  have A_3 := Lib.hid (A_2.out.below hb)
  have BEL_3 := Lib.hid (BEL_2.out.trans (Below.mono hb BEL_2.out.size))
  clear A_2 BEL_2
  have TB_3 := Lib.hid (hi)
  clear hb hi
  have HFR := Lib.hid (fun x hx => Nat.lt_of_lt_of_le hA2 (hfr x hx))
  clear hfr hA2
  have HA2 := A_3.out.lt
  obtain ⟨pA0, pA1⟩ := A_3.out.cells2
  have lA := A_3.out.lt
  have fA0 := A_3.out.froz 0
  have fA1 := A_3.out.froz 1
  go_wp2_with fail
  clear pA0 pA1 lA fA0 fA1
  have TB_4 := Lib.hid (TB_3.out.other BA (fun x hx e => by have := HFR.out x hx; omega) (fun g hg => set2_other w3 BA (.bool true) (.slice tb tbl tbc) g hg))
  have A_4 := Lib.hid (A_3.out.set2 (.bool true) (.slice tb tbl tbc))
  have BEL_4 := Lib.hid (below_set2 BEL_3.out HBA.out (.bool true) (.slice tb tbl tbc))
  clear TB_3 A_3 BEL_3 HA2
  obtain ⟨X4, hX4⟩ : ∃ x, x = set2c w3 BA (.bool true) (.slice tb tbl tbc) := ⟨_, rfl⟩
  rw [← hX4] at TB_4 A_4 BEL_4
  unfold set2c at hX4
  rw [← hX4]
  clear hX4
  refine (hG.out _ tb tbl tbc TB_4.out).mono ?_
  rintro e w5 ⟨tg, tgl, tgc, rfl, hi, hb, _⟩
  have A_5 := Lib.hid (A_4.out.below hb)
  have BEL_5 := Lib.hid (BEL_4.out.trans (Below.mono hb BEL_4.out.size))
  clear A_4 BEL_4
  clear hb hi
  obtain ⟨pA0, pA1⟩ := A_5.out.cells2
  have lA := A_5.out.lt
  have fA0 := A_5.out.froz 0
  have fA1 := A_5.out.froz 1
  go_wp2_with fail
  go_ret
  exact ⟨rfl, belowX_alloc (below_set2 BEL_5.out HBA.out _ _) _⟩
end Go.Proofs.Ytipjdkaibkmciaa
