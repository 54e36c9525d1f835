/- The reference: Same, of two that are the same. -/
import Derived.Test.YtpdlfijcicboiaaDoorApp
namespace Go.Proofs.YtpdlfijcicboiaaDoor
open Go.RowKit
set_option linter.unusedSimpArgs false
set_option linter.unusedVariables false
set_option maxRecDepth 100000 in
set_option maxHeartbeats 8000000 in
theorem Instrs_yes (a a2 : Option Addr) (n n2 c c2 : Nat) (L : List Ins) (w : World) (h : Blk w a n c L) (h2 : Blk w a2 n2 c2 L) :
    Calls Tryd.prog 16 #[.slice a n c, .slice a2 n2 c2] w fun e w' => e = .returned (.bool true) ∧ Below w.heap.size w w' := by
  have hn : n = n2 := by rw [← h.recs.len_eq, ← h2.recs.len_eq]
  subst hn
  have H := Lib.hid h; have H2 := Lib.hid h2; have hle := h.recs.len_le
  clear h h2
  go_enter Tryd.func16, Tryd.ntmps16
  go_wp2_with fail
  go_loopw [13] (fun i wr => ∃ k : Nat, k ≤ n ∧ i = .int .i64 k ∧ Below w.heap.size w wr) (fun i _ => n - (intOf i).toNat)
  case atStart => exact ⟨0, Nat.zero_le _, rfl, Below.refl _ _⟩
  case round =>
    obtain ⟨k, hk, rfl, hb⟩ := hrel
    by_cases hlt : k < n
    · obtain ⟨x, b, off, hx, _, ha, c0, c1, c2⟩ := (H.out.below hb).at k hlt
      obtain ⟨y, b2, off2, hy, _, ha2, d0, d1, d2⟩ := (H2.out.below hb).at k hlt
      have hxy : y = x := by rw [hx] at hy; cases hy; rfl
      subst hxy
      have hlt' : (k : Int) < (n : Int) := by omega
      have HB := Lib.hid hb
      clear hx hy hb
      rw [ha, ha2]
      clear ha ha2
      go_wp2_with fail
      go_quiet (fail)
      have hb' := below_drewN HB.out nq
      go_wp2_with fail
      go_roundw
      case rel => exact ⟨k + 1, by omega, by go_num, hb'⟩
      case measure => simp [intOf]; omega
    · have hke : k = n := by omega
      subst hke
      go_wp2_with fail
      go_ret
      exact ⟨rfl, hb⟩
end Go.Proofs.YtpdlfijcicboiaaDoor
