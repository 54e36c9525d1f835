/- alive; what the laws need. -/
import Derived.Test.YtnmopfimmindnaaRefDo
namespace Go.Proofs.Ytnmopfimmindnaa
open Go.RowKit
def oneW : Wt := ⟨1, 0, 0⟩
def twoW : Wt := ⟨2, 0, 0⟩
def threeW : Wt := ⟨3, 0, 0⟩
theorem one_ok : WtOk oneW := ⟨⟨by decide, by decide⟩, ⟨by decide, by decide⟩, ⟨by decide, by decide⟩⟩
theorem two_ok : WtOk twoW := ⟨⟨by decide, by decide⟩, ⟨by decide, by decide⟩, ⟨by decide, by decide⟩⟩
theorem three_ok : WtOk threeW := ⟨⟨by decide, by decide⟩, ⟨by decide, by decide⟩, ⟨by decide, by decide⟩⟩
theorem ro_new : rightO 0 0 [] = true := by simp [rightO, right_nil]
theorem ro_does (b : Int) (h : 0 ≤ b) : rightO 1 b [] = true := by simp [rightO, right_nil, metW, h]
theorem ro_done : rightO 2 0 [] = true := by simp [rightO, right_nil]
theorem ro_one : rightO 1 3 [oneW] = true := by
  have := right_snoc (x := oneW) right_nil (by decide) (by decide) (by decide)
  simp only [List.nil_append] at this
  unfold rightO; rw [this]; simp [metW, oneW]
set_option maxRecDepth 100000 in
set_option maxHeartbeats 4000000 in
theorem alive_any (w : World) : Calls Try.prog 10 #[] w fun e w' => e = .returned (.bool true) ∧ Below w.heap.size w w' := by
  have hT1 := Lib.hid (fun (W : World) => Do_any 0 0 none 0 0 [] threeW W (Wts.nil W) three_ok ⟨by omega, by omega⟩ ro_new (by decide))
  have hT2 := Lib.hid (fun (W : World) a n c (H : Wts W a n c []) => Do_any 1 3 a n c [] oneW W H one_ok ⟨by omega, by omega⟩ (ro_does 3 (by omega)) (by decide))
  have hE := Lib.hid (fun (W : World) a n c (H : Wts W a n c [oneW]) => End_ok 3 a n c [oneW] W H ⟨by omega, by omega⟩ ro_one (by omega))
  have hT4 := Lib.hid (fun (W : World) => Do_any 2 0 none 0 0 [] twoW W (Wts.nil W) two_ok ⟨by omega, by omega⟩ ro_done (by decide))
  rw [show doZ 0 0 [] threeW = (1, 3, [], 0, 0) from rfl] at hT1
  rw [show doZ 1 3 [] oneW = (1, 3, [oneW], 1, 0) from rfl] at hT2
  rw [show doZ 2 0 [] twoW = (2, 0, [], 2, 0) from rfl] at hT4
  simp only [oneW, twoW, threeW] at hT1 hT2 hE hT4
  unfold GotD at hT1 hT2 hT4
  unfold GotE at hE
  have BEL_0 := Lib.hid (Below.refl w.heap.size w)
  go_enter Try.func10, Try.ntmps10
  go_wp2_with fail
  refine (hT1.out _).mono ?_
  rintro e w1 ⟨ta, tl, tc, rfl, hi, hb, _⟩
  have BEL_1 := Lib.hid (BEL_0.out.trans (Below.mono hb BEL_0.out.size))
  clear BEL_0
  have TA_1 := Lib.hid (hi)
  clear hb hi
  go_wp2_with fail
  have hsz := BEL_1.out.size
  have hb := below_alloc w1 (.cells #[.int .i64 1, .int .i64 3, .slice ta tl tc] 24)
  have TA_2 := Lib.hid (TA_1.out.below hb)
  have BEL_2 := Lib.hid (BEL_1.out.trans (Below.mono hb BEL_1.out.size))
  clear TA_1 BEL_1
  clear hb
  have A_2 := Lib.hid (Bx.new w1 #[.int .i64 1, .int .i64 3, .slice ta tl tc] 24)
  obtain ⟨X2, hX2⟩ : ∃ x, x = (w1.alloc (.cells #[.int .i64 1, .int .i64 3, .slice ta tl tc] 24)) := ⟨_, rfl⟩
  rw [← hX2] at TA_2 A_2 BEL_2 ⊢
  clear hX2
  obtain ⟨BA, hBA⟩ : ∃ x, x = w1.heap.size := ⟨_, rfl⟩
  rw [← hBA] at A_2
  try rw [← hBA]
  have HBA := Lib.hid (show w.heap.size ≤ BA by omega)
  clear hsz hBA
  have hA2 := A_2.out.lt
  refine (hT2.out _ ta tl tc TA_2.out).mono ?_
  rintro e w3 ⟨tb, tbl, tbc, rfl, hi, hb, hfr⟩
  have A_3 := Lib.hid (A_2.out.below hb)
  have BEL_3 := Lib.hid (BEL_2.out.trans (Below.mono hb BEL_2.out.size))
  clear A_2 BEL_2
  have TB_3 := Lib.hid (hi)
  clear hb hi
  have HFR := Lib.hid (fun x hx => Nat.lt_of_lt_of_le hA2 (hfr x hx))
  clear hfr hA2
  obtain ⟨pA0, pA1, pA2⟩ := A_3.out.cells3
  have lA := A_3.out.lt
  have fA0 := A_3.out.froz 0
  have fA1 := A_3.out.froz 1
  have fA2 := A_3.out.froz 2
  go_wp2_with fail
  clear pA0 pA1 pA2 lA fA0 fA1 fA2
  have TB_4 := Lib.hid (TB_3.out.other BA (fun x hx e => by have := HFR.out x hx; omega) (fun g hg => set3_other w3 BA (.int .i64 1) (.int .i64 3) (.slice tb tbl tbc) g hg))
  have A_4 := Lib.hid (A_3.out.set3 (.int .i64 1) (.int .i64 3) (.slice tb tbl tbc))
  have BEL_4 := Lib.hid (below_set3 BEL_3.out HBA.out (.int .i64 1) (.int .i64 3) (.slice tb tbl tbc))
  clear TB_3 A_3 BEL_3
  obtain ⟨X4, hX4⟩ : ∃ x, x = set3c w3 BA (.int .i64 1) (.int .i64 3) (.slice tb tbl tbc) := ⟨_, rfl⟩
  rw [← hX4] at TB_4 A_4 BEL_4
  unfold set3c set2c at hX4
  rw [← hX4]
  clear hX4
  have hA4 := A_4.out.lt
  refine (hE.out _ tb tbl tbc TB_4.out).mono ?_
  rintro e w5 ⟨tg, tgl, tgc, rfl, hi, hb, hfr⟩
  have A_5 := Lib.hid (A_4.out.below hb)
  have BEL_5 := Lib.hid (BEL_4.out.trans (Below.mono hb BEL_4.out.size))
  clear A_4 BEL_4
  have TG_5 := Lib.hid (hi)
  clear hb hi
  have HFG := Lib.hid (fun x hx => Nat.lt_of_lt_of_le hA4 (hfr x hx))
  clear hfr hA4
  obtain ⟨pA0, pA1, pA2⟩ := A_5.out.cells3
  have lA := A_5.out.lt
  have fA0 := A_5.out.froz 0
  have fA1 := A_5.out.froz 1
  have fA2 := A_5.out.froz 2
  go_wp2_with fail
  clear pA0 pA1 pA2 lA fA0 fA1 fA2
  have TG_6 := Lib.hid (TG_5.out.other BA (fun x hx e => by have := HFG.out x hx; omega) (fun g hg => set3_other w5 BA (.int .i64 2) (.int .i64 0) (.slice none 0 0) g hg))
  have A_6 := Lib.hid (A_5.out.set3 (.int .i64 2) (.int .i64 0) (.slice none 0 0))
  have BEL_6 := Lib.hid (below_set3 BEL_5.out HBA.out (.int .i64 2) (.int .i64 0) (.slice none 0 0))
  clear TG_5 A_5 BEL_5
  obtain ⟨X6, hX6⟩ : ∃ x, x = set3c w5 BA (.int .i64 2) (.int .i64 0) (.slice none 0 0) := ⟨_, rfl⟩
  rw [← hX6] at TG_6 A_6 BEL_6
  unfold set3c set2c at hX6
  rw [← hX6]
  clear hX6
  refine (hT4.out _).mono ?_
  rintro e w7 ⟨th, thl, thc, rfl, hi, hb, _⟩
  have TG_7 := Lib.hid (TG_6.out.below hb)
  have A_7 := Lib.hid (A_6.out.below hb)
  have BEL_7 := Lib.hid (BEL_6.out.trans (Below.mono hb BEL_6.out.size))
  clear TG_6 A_6 BEL_6
  clear hb hi
  obtain ⟨x', bb, off, hx', _, rfl, d0, d1, d2⟩ := TG_7.out.at 0 (by have := TG_7.out.recs.len_eq; simp at this; omega)
  obtain rfl : x' = ⟨1, 0, 0⟩ := by simpa using hx'.symm
  rw [Nat.zero_mul, Nat.add_zero] at d0 d1 d2
  obtain rfl : tgl = 1 := by have := TG_7.out.recs.len_eq; simpa using this.symm
  have hlb := World.block_lt_of_cell? _ _ d0
  clear hx' d1 d2
  simp only [] at d0 hlb
  go_wp2_with fail
  go_ret
  exact ⟨rfl, belowX_alloc BEL_7.out _⟩
end Go.Proofs.Ytnmopfimmindnaa
