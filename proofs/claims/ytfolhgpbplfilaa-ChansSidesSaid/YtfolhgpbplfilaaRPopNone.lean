/- Pop of an empty ring. -/
import Derived.Test.YtfolhgpbplfilaaRItems
namespace Go.Proofs.Ytfolhgpbplfilaa
open Go.RowKit
theorem ring_res3n {fn : Func} {p u x : Tmp} (h : fn.results = #[.cell p 24, .tmp u, .tmp x]) (tmps : Array Value) {W : World} {B : Nat} {v0 v1 v2 v3 : Value} (hp : tmps.getD p undef = .pointer (some ⟨B, 0, none⟩)) (hg : W.heap[B]? = some (.cells #[v0, v1, v2, v3] 24 (0, 0))) :
    (results fn tmps).run Try.prog W = .ok (.tuple #[.agg #[v0, v1, v2, v3], tmps.getD u undef, tmps.getD x undef]) W := by
  have hl := ring_load hg
  have hp' : tmps[p]?.getD undef = .pointer (some ⟨B, 0, none⟩) := by simpa using hp
  simp only [results, h]
  simp [Result.andThen, hp', asAddr, hl]
def NoPop (w : World) (why : Int) (e : Ending) (w' : World) : Prop := e = .returned (.tuple #[ringV 0 0 (.slice none 0 0) 0, .int .i64 0, .int .i64 why]) ∧ Below w.heap.size w w'
set_option maxRecDepth 100000 in
set_option maxHeartbeats 2000000 in
theorem Pop_none (c first : Nat) (a : Option Addr) (cap : Nat) (w : World) (hc8 : c ≤ 8) (hf : first < max c 1) :
    Calls Try.prog 71 #[ringV c first (.slice a c cap) 0] w (NoPop w 4) := by
  have hR := Lib.hid (show rightZ c first c 0 = true by rw [rightZ, decide_eq_true_eq]; omega)
  have hRa := Lib.hid (fun W : World => r_Right_any c first 0 a c cap W ⟨by omega, by omega⟩ ⟨by omega, by omega⟩ ⟨by omega, by omega⟩ (by omega))
  unfold ringV at *
  go_enter Try.func71, Try.ntmps71
  go_wp2_with fail
  refine (hRa.out _).mono ?_
  rintro e w1 ⟨rfl, hb1⟩
  obtain ⟨h1, h2, hB, hsz⟩ := boxes _ _ hb1
  rw [hR.out]
  obtain ⟨p0, p1, p2, p3⟩ := cells4 h1
  obtain ⟨q0, q1, q2, q3⟩ := cells4 h2
  obtain ⟨f0, f1, f2, f3⟩ := froz4 h2
  have H2 := Lib.hid h2; have HB := Lib.hid hB
  clear h1 h2 hb1 hB
  go_wp2_with fail
  try simp only [Exit.inBlock, Exit.then]
  refine bodyPost_ret (ring_res3n rfl _ rfl (set4_at H2.out _ _ _ _)) rfl ?_
  exact ⟨rfl, set4_below HB.out (by omega) _ _ _ _⟩
end Go.Proofs.Ytfolhgpbplfilaa
