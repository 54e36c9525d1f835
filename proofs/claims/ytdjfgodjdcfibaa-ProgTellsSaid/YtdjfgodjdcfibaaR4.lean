/- The reference: starts. -/
import Derived.Test.YtdjfgodjdcfibaaR3
import Derived.Deep.DeepCutAuto
namespace Go.Proofs.Ytdjfgodjdcfibaa
open Go.RowKit
/-- Does block f start block t? -/
def stB (x : List Ins) (t : Int) : Bool := x.any fun y => y.op == 9 && y.a == t
set_option maxRecDepth 100000 in
set_option maxHeartbeats 8000000 in
theorem refStarts_any (p : Pr) (q : PAt) (f : Nat) (t : Int) (w : World) (h : Prg w p q) (hf : f < q.bn) (hr : rightP p = true) :
    Calls Try.prog 21 #[prV p q, .int .i64 f, .int .i64 t] w (fun e w' => ∃ x, p.blks[f]? = some x ∧ e = .returned (.bool (stB x t)) ∧ Below w.heap.size w w') := by
  have X_0 := Lib.hid (Bx.new w (prC p q) 26)
  have B_0 := Lib.hid (below_alloc w (.cells (prC p q) 26))
  have P_0 := Lib.hid (h.below B_0.out)
  clear h
  go_enter Try.func21, Try.ntmps21
  obtain ⟨BX, hBX⟩ : ∃ x, x = w.heap.size := ⟨_, rfl⟩
  rw [← hBX] at X_0
  have HBX := Lib.hid hBX
  clear hBX
  obtain ⟨w1, hw1⟩ : ∃ w1, w1 = w.alloc (.cells (prC p q) 26) := ⟨_, rfl⟩
  rw [← hw1] at X_0 B_0 P_0
  go_upto_region 1 with (fail)
  rw [← hw1]
  try rw [← HBX.out]
  clear hw1
  obtain ⟨x0, x1, x2, x3, x4, x5⟩ := X_0.out.cells6
  obtain ⟨x, b2, o2, ca, cn, cc, hx, hba2, d0, hblk⟩ := P_0.out.blks.at f hf
  have hf' : (f : Int) < (q.bn : Int) := by omega
  have HX := Lib.hid hx; have HC := Lib.hid hblk
  have HCL := Lib.hid hblk.recs.len_eq
  have hc24 : cn ≤ 24 := by rw [← hblk.recs.len_eq]; exact (blk_parts ((right_parts hr).2 x (List.mem_of_getElem? hx))).1
  clear hblk hx hr
  rw [hba2] at x5
  go_wp2_with fail
  clear d0 x0 x1 x2 x3 x4 x5
  go_loopw [15] (fun i wr => ∃ j : Nat, j ≤ cn ∧ i = .int .i64 j ∧ (∀ m y, m < j → x[m]? = some y → (y.op == 9 && y.a == t) = false) ∧ Below w1.heap.size w1 wr) (fun i _ => cn - (intOf i).toNat)
  case atStart => exact ⟨0, Nat.zero_le _, rfl, fun m _ hm => by omega, Below.refl _ _⟩
  case round =>
    obtain ⟨j, hj, rfl, hno, hbw⟩ := hrel
    have HBW := Lib.hid hbw; clear hbw
    have HNO := Lib.hid hno; clear hno
    by_cases hlj : j < cn
    · have hlj' : (j : Int) < (cn : Int) := by omega
      obtain ⟨y, b3, o3, hy, hyok, hca3, e0, e1, e2⟩ := (HC.out.below HBW.out).at j hlj
      have HY := Lib.hid hy
      clear hy hyok
      rw [hca3]
      have HN : y.op = 9 → y.a = t → stB x t = true := fun h1 h2 => List.any_eq_true.2 ⟨y, List.mem_of_getElem? HY.out, by simp [h1, h2]⟩
      have HS := Lib.hid HN; clear HN
      have HG : ¬ (y.op = 9 ∧ y.a = t) → (∀ m z, m < j + 1 → x[m]? = some z → (z.op == 9 && z.a == t) = false) := fun hn m z hm hz => by
        rcases Nat.lt_or_ge m j with h1 | h1
        · exact HNO.out m z h1 hz
        · obtain rfl : m = j := by omega
          rw [HY.out] at hz; cases hz
          simp only [Bool.and_eq_false_iff, beq_eq_false_iff_ne]
          by_cases h9 : y.op = 9
          · exact .inr (fun h => hn ⟨h9, h⟩)
          · exact .inl h9
      have HGG := Lib.hid HG; clear HG
      by_cases h9 : y.op = 9
      · by_cases ht : y.a = t
        · have R := HS.out h9 ht
          rw [h9] at e0
          rw [ht] at e1
          clear h9 ht
          go_wp2_with fail
          go_ret
          exact ⟨x, HX.out, by rw [R]; rfl, B_0.out.trans (Below.mono (belowX_alloc HBW.out _) B_0.out.size)⟩
        · have R := Lib.hid (HGG.out (fun h => ht h.2))
          rw [h9] at e0
          clear h9
          go_wp2_with fail
          go_roundw
          case rel => exact ⟨j + 1, by omega, by go_num, R.out, belowX_alloc HBW.out _⟩
          case measure => simp [intOf]; omega
      · have R := Lib.hid (HGG.out (fun h => h9 h.1))
        go_wp2_with fail
        go_roundw
        case rel => exact ⟨j + 1, by omega, by go_num, R.out, belowX_alloc HBW.out _⟩
        case measure => simp [intOf]; omega
    · have hje : (cn : Int) ≤ (j : Int) := by omega
      have R := Lib.hid (show stB x t = false by
        rw [stB, List.any_eq_false]
        intro y hy
        obtain ⟨m, hm, hmy⟩ := List.mem_iff_getElem.1 hy
        have := HNO.out m y (by have := HCL.out; omega) (by rw [List.getElem?_eq_getElem hm, hmy])
        simpa using this)
      go_wp2_with fail
      go_ret
      exact ⟨x, HX.out, by rw [R.out]; rfl, B_0.out.trans (Below.mono HBW.out B_0.out.size)⟩
end Go.Proofs.Ytdjfgodjdcfibaa
