/- ChansTell returns true for all arguments, and leaves them as they were. No conditions. -/
import Derived.Test.YtfolhgpbplfilaaGbadno
import Derived.Test.YtfolhgpbplfilaaGbadneg
import Derived.Test.YtfolhgpbplfilaaGbadok
import Derived.Test.YtfolhgpbplfilaaGokno
import Derived.Test.YtfolhgpbplfilaaGokneg
import Derived.Test.YtfolhgpbplfilaaGokok
import Derived.Test.YtfolhgpbplfilaaRows
import Derived.WalkKit
import Derived.ProofKit
import Derived.OpenShut
import Derived.ShutString
import Derived.ChangeOld
import Derived.Below
import Derived.Test.YtfolhgpbplfilaaOpen
namespace Go.Proofs.Ytfolhgpbplfilaa
open Go.RowKit
theorem tell_any (n : Int) (c : Chn) (q : CAt) (send : Bool) (g : Int) (w : World) (hn : I64 n) (h : Cha w c q) (hg : I64 g) : Calls Try.prog 3 #[.int .i64 n, chV c q, .bool send, .int .i64 g] w (Says w) := by
  by_cases hb : n < -1 ∨ 3 < n
  · cases hr : rightC (fewC c) with
    | false => exact tell_bad_no n c q send g w h hb hn hr
    | true =>
      by_cases h0 : g < 0
      · exact tell_bad_neg n c q send g w h hb hn hr h0
      · exact tell_bad_ok n c q send g w h hb hn hr (by omega) hg
  · cases hr : rightC (fewC c) with
    | false => exact tell_ok_no n c q send g w h (by omega) (by omega) hr
    | true =>
      by_cases h0 : g < 0
      · exact tell_ok_neg n c q send g w h (by omega) (by omega) hr h0
      · exact tell_ok_ok n c q send g w h (by omega) (by omega) hr (by omega) hg
end Go.Proofs.Ytfolhgpbplfilaa
namespace Go.Proofs.Ytfolhgpbplfilaa.chansTell
open Go.ChangeShapes Go.WideShapes Go.ChangeAt Go.RowKit
open Go.ChangeMaps (open_string shut_string)
set_option linter.unusedVariables false

theorem own : ownKnob Try.prog.godebug = none := by kernel_rfl
theorem laidOut : laidOutB Try.prog = true := by kernel_rfl

/-! the row -/
set_option maxRecDepth 100000 in
theorem lifted (os : Os) (started : os.Started) (H : Type) (enc : TypeId × Value → H) :
    ReturnsInHanded {} Try.checked os 3 .any (Rows.chansTellSpec.pre6 enc Try.prog Try.f3 Rows.chansTellRow.domain false) (Rows.chansTellSpec.post enc Try.prog Try.f3 false true false false) := by
  refine returnsInHanded_of_change (C := Try.checked) own started (by kernel_rfl) Try.func3
    (ChangeSpec.witness6 (enc := enc) (C := Try.checked) false ⟨#[], #[.int .i64 0, .agg #[.int .i64 0, .bool false, .int .i64 0, .int .i64 0, .slice none 0 0, .int .i64 0, .int .i64 0, .int .i64 0, .slice none 0 0, .slice none 0 0], .bool false, .int .i64 0], []⟩ 8 (by kernel_rfl) (by kernel_rfl) (by kernel_rfl) (by kernel_rfl)) ?_
  intro W base args ds gs before hval0 hW hcnd _
  have hval : ∀ (j : Nat) t v, Try.f3.params[j]? = some t → args[j]? = some v → Value.okWide Try.prog W .any base t v := hval0
  have hW' := hW
  obtain ⟨p, q, hA0, hV, rfl, hfz, hnd⟩ := hW
  have hA : DataW.TrodAll enc Try.prog W 0 (fun _ => true) true Try.f3.params.toList args.toList ds p := hA0
  rw [Try.params3] at hA hval
  obtain ⟨v0, vs0, d0, ds0, p0, q0, hargs, rfl, rfl, h0, r0⟩ := trodAll_cons hA
  obtain ⟨v1, vs1, d1, ds1, p1, q1, rfl, rfl, rfl, h1, r1⟩ := trodAll_cons r0
  obtain ⟨v2, vs2, d2, ds2, p2, q2, rfl, rfl, rfl, h2, r2⟩ := trodAll_cons r1
  obtain ⟨v3, vs3, d3, ds3, p3, q3, rfl, rfl, rfl, h3, r3⟩ := trodAll_cons r2
  obtain ⟨rfl, rfl, rfl⟩ := trodAll_nil r3
  obtain rfl : args = #[v0, v1, v2, v3] := by cases args; simp_all
  obtain ⟨rfl, rfl⟩ := trodVars_none hV
  have lt0 : ∀ x ∈ p0, x.block < W.heap.size := by obtain ⟨m, hm⟩ := h0; exact DataW.trod_lt m _ _ _ hm
  have lt1 : ∀ x ∈ p1, x.block < W.heap.size := by obtain ⟨m, hm⟩ := h1; exact DataW.trod_lt m _ _ _ hm
  have lt2 : ∀ x ∈ p2, x.block < W.heap.size := by obtain ⟨m, hm⟩ := h2; exact DataW.trod_lt m _ _ _ hm
  have lt3 : ∀ x ∈ p3, x.block < W.heap.size := by obtain ⟨m, hm⟩ := h3; exact DataW.trod_lt m _ _ _ hm
  have i0 : ∃ n : Int, v0 = .int .i64 n ∧ I64 n := by obtain ⟨n, e, _, _, w⟩ := open_int Try.underlying3 (hval 0 3 v0 rfl rfl) h0; exact ⟨n, e, wf_i64_bounds w⟩
  obtain ⟨n0, rfl, w0⟩ := i0
  obtain ⟨x1, z1, rfl, w1⟩ := chan_open (hval 1 27 v1 rfl rfl) h1
  have i2 : ∃ b : Bool, v2 = .bool b := by obtain ⟨b, e, _, _⟩ := open_bool Try.underlying4 (hval 2 4 v2 rfl rfl) h2; exact ⟨b, e⟩
  obtain ⟨n2, rfl⟩ := i2
  have i3 : ∃ n : Int, v3 = .int .i64 n ∧ I64 n := by obtain ⟨n, e, _, _, w⟩ := open_int Try.underlying3 (hval 3 3 v3 rfl rfl) h3; exact ⟨n, e, wf_i64_bounds w⟩
  obtain ⟨n3, rfl, w3⟩ := i3
  clear hA0 hval0
  refine (tell_any n0 x1 z1 n2 n3 W w0 w1 w3).mono fun e W' ⟨he, bel⟩ => ?_
  subst he
  exact ⟨_, rfl, _, _, _, [], _, [], hW', trodAll_mk1 (shut_bool Try.underlying4 _), (trodAll_cons_mk (Below.trod laidOut (by kernel_rfl) (of_decide_eq_true (by kernel_rfl)) h0 bel lt0) (trodAll_cons_mk (Below.trod laidOut (by kernel_rfl) (of_decide_eq_true (by kernel_rfl)) h1 bel lt1) (trodAll_cons_mk (Below.trod laidOut (by kernel_rfl) (of_decide_eq_true (by kernel_rfl)) h2 bel lt2) (trodAll_cons_mk (Below.trod laidOut (by kernel_rfl) (of_decide_eq_true (by kernel_rfl)) h3 bel lt3) trodAll_mk0)))), rfl, bel.frame _, fun h => by cases h⟩

theorem over : Rows.chansTellRow.holds Try.pinned (OpenSpec.ofChange Rows.chansTellSpec) :=
  OpenClaim.holds_of_wide 3 Try.f3 rfl rfl rfl rfl rfl rfl rfl ⟨rfl, rfl, rfl, rfl, rfl⟩ rfl rfl rfl rfl rfl (by kernel_rfl) Try.func3 (by kernel_rfl)
    (of_decide_eq_true (by kernel_rfl)) (by unfold Func.isWrapper; first | (rw [if_pos (by decide +kernel)]; kernel_rfl) | (rw [if_neg (by decide +kernel)]; exact ⟨rfl, rfl⟩))
    (fun os started H enc _ => lifted os started H enc)

/-- the statement -/
theorem proved : Rows.ChansTellSaid := over
#print axioms proved
end Go.Proofs.Ytfolhgpbplfilaa.chansTell
