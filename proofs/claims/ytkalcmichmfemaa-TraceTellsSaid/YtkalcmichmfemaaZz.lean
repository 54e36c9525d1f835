import Derived.Test.YtkalcmichmfemaaE0
namespace Go.Proofs.Ytkalcmichmfemaa
open Go.RowKit
theorem cut_min (t k : Nat) (ht : Try.prog.underlying t = some (.slice (Try.prog.elem t))) (hs : ∃ s, ∀ w, (sizeOf (Try.prog.elem t)).run Try.prog w = .ok s w) (a : Option Addr) (n c : Nat) (hl : n ≤ c) (hn : a = none → c = 0) (W : World) :
    (Instr.slice t (.slice a n c) none (some (.int .i64 (min (n : Int) (k : Int)))) none).run Try.prog W = .ok (.slice a (min n k) c) W := by
  obtain ⟨s, hs⟩ := hs
  rw [run_slice_h (t := t) (a := a) (len := n) (cap := c) (ht := ht) (kh := .i64) (h := min (n : Int) (k : Int)) (h0 := by omega) (h2 := by omega), hs]
  have e : (min (n : Int) (k : Int)).toNat = min n k := by omega
  simp only [Result.andThen, sliced, e]
  cases a with
  | none => simp [hn rfl]
  | some x => simp; intro _; simp [Addr.add]
theorem cut6 (a : Option Addr) (n c : Nat) (hl : n ≤ c) (hn : a = none → c = 0) (W : World) : (Instr.slice 22 (.slice a n c) none (some (.int .i64 (min (n : Int) 6))) none).run Try.prog W = .ok (.slice a (min n 6) c) W :=
  cut_min 22 6 Try.underlying22 ⟨_, fun _ => rfl⟩ a n c hl hn W
end Go.Proofs.Ytkalcmichmfemaa
