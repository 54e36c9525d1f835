/- What is wrong with one instruction, whatever it is. -/
import Derived.Test.YtddkckppmjcclaaInstrA
import Derived.Test.YtddkckppmjcclaaInstrB
namespace Go.Proofs.Ytddkckppmjcclaa
open Go.RowKit
set_option linter.unusedSimpArgs false
set_option linter.unusedVariables false
set_option maxRecDepth 100000 in
set_option maxHeartbeats 8000000 in
theorem instr_word (p : Pr) (q : PAt) (ba : Option Addr) (len cap : Nat) (x : Ins) (w : World) (hx : InsOk x) (hb : belowZ x.op 14 = false) :
    Calls Try.prog 45 #[prV p q, .slice ba len cap, insV x] w (Says3 w (instrZ p len x)) := by
  have R := Lib.hid (show instrZ p len x = 11 from if_pos hb)
  have HBl := Lib.hid (fun W => below_any x.op 14 W)
  rw [hb] at HBl
  have B_0 := Lib.hid ((below_alloc w (.cells (prC p q) 26)).alloc (by simp) (.cells #[.int .i64 x.op, .int .i64 x.a, .int .i64 x.b] 44))
  clear hb
  go_enter Try.func45, Try.ntmps45
  go_wp2_with fail
  refine (HBl.out _).mono ?_
  rintro e w1 ⟨rfl, rfl⟩
  go_wp2_with fail
  go_ret
  exact ⟨ret_int R.out.symm, B_0.out⟩
theorem op_cases {n : Int} (h : belowZ n 14 = true) : n = 0 ∨ n = 1 ∨ n = 2 ∨ n = 3 ∨ n = 4 ∨ n = 5 ∨ n = 6 ∨ n = 7 ∨ n = 8 ∨ n = 9 ∨ n = 10 ∨ n = 11 ∨ n = 12 ∨ n = 13 := by
  simp [belowZ] at h; omega
theorem instr_any (p : Pr) (q : PAt) (ba : Option Addr) (len cap : Nat) (x : Ins) (w : World) (hz : Szs p q) (hlc : len ≤ cap) (hcc : len ≤ 9223372036854775806) (hx : InsOk x) :
    Calls Try.prog 45 #[prV p q, .slice ba len cap, insV x] w (Says3 w (instrZ p len x)) := by
  cases h : belowZ x.op 14 with
  | false => exact instr_word p q ba len cap x w hx h
  | true =>
    obtain ⟨op, a, b⟩ := x
    obtain ⟨_, ha, hb⟩ := hx
    have hc := op_cases h
    simp only at hc ha hb
    rcases hc with rfl | rfl | rfl | rfl | rfl | rfl | rfl | rfl | rfl | rfl | rfl | rfl | rfl | rfl
    · exact instr_0 p q ba len cap a b w hz hlc hcc ha hb
    · exact instr_1 p q ba len cap a b w hz hlc hcc ha hb
    · exact instr_2 p q ba len cap a b w hz hlc hcc ha hb
    · exact instr_3 p q ba len cap a b w hz hlc hcc ha hb
    · exact instr_4 p q ba len cap a b w hz hlc hcc ha hb
    · exact instr_5 p q ba len cap a b w hz hlc hcc ha hb
    · exact instr_6 p q ba len cap a b w hz hlc hcc ha hb
    · exact instr_7 p q ba len cap a b w hz hlc hcc ha hb
    · exact instr_8 p q ba len cap a b w hz hlc hcc ha hb
    · exact instr_9 p q ba len cap a b w hz hlc hcc ha hb
    · exact instr_10 p q ba len cap a b w hz hlc hcc ha hb
    · exact instr_11 p q ba len cap a b w hz hlc hcc ha hb
    · exact instr_12 p q ba len cap a b w hz hlc hcc ha hb
    · exact instr_13 p q ba len cap a b w hz hlc hcc ha hb

end Go.Proofs.Ytddkckppmjcclaa
