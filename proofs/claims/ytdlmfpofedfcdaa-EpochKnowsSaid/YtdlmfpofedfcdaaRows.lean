/-
  No cell of these rows narrows 'for every input' (looked for: loops, veiled, ifaces, maps, wideKeys, modest, calm, conditions, laid).
  DERIVED. THE GIVEN ROWS OF THIS SEAT. 5 by the template 'for every input the law returns true; each argument reads behind the call as it read before'; 0 by the template 'total and deterministic' (their statements: YtdlmfpofedfcdaaTotals.lean).
  GIVEN WITH THE SEED: the statements are not yours to turn. If you find one false, say at which input.
  Laid BY PROGRAM, IN A SANDBOX (cutbox-rows.mjs): the forced cells as the released guide's own fill.sh prints them over the translation 5b63bcb603450c0d… (all of the seat's roots in one cut). By AI agents, Wed Nov 11 2026. No macro, syntax, notation, axiom, sorry.
-/
import Derived.Test.YtdlmfpofedfcdaaChecked
import GoSem.Claim
import GoSem.ClaimJoined
import GoSem.ClaimMapViews
import Derived.JoinedTies
import Derived.KernelRfl
namespace Go.Proofs.Ytdlmfpofedfcdaa
/- THE CELL 'sum', in the pinned program and in every row, IS THE sha256 OF THE DUMP (.gsa) THAT YtdlmfpofedfcdaaProg.lean LOADS. Nothing in Lean hashes anything: it is a label: what it is worth is what the hold of that sum in a sandbox is worth. -/
noncomputable def Try.pinned : Pinned := { name := "ytdlmfpofedfcdaa", sum := "5b63bcb603450c0d6fb50877c59ca3ed76687d11d98aaa695d3085599009e1e9", checked := Try.checked }
namespace Rows
def none {H : Type} : Left H := { results := [], args := [] }

/-- 'plaitlaw02.EpochTells': WHATEVER THE INPUT: true; the input reads as it did. -/
def epochTellsSpec : ChangeSpec := { name := "epochTells", fn := fun _ => fun
  | [d1, d2, d3, d4] => { results := [.lit (.bool true)], args := [d1, d2, d3, d4] }
  | _ => none }
def epochTellsRow : OpenClaim := { program := "ytdlmfpofedfcdaa", sum := "5b63bcb603450c0d6fb50877c59ca3ed76687d11d98aaa695d3085599009e1e9", func := "plait/plaitlaw02.EpochTells", spec := "epochTells", apart := false }
def EpochTellsSaid : Prop := epochTellsRow.holds Try.pinned (OpenSpec.ofChange epochTellsSpec)

/-- ITS FALSE NEIGHBOUR: 'it returns false'. Refute it at one input. -/
def epochTellsWrong : ChangeSpec := { name := "epochTells", fn := fun _ => fun
  | [d1, d2, d3, d4] => { results := [.lit (.bool false)], args := [d1, d2, d3, d4] }
  | _ => none }
def EpochTellsWrongFalsely : Prop := epochTellsRow.holds Try.pinned (OpenSpec.ofChange epochTellsWrong)

/-- 'plaitlaw02.EpochTurns': WHATEVER THE INPUT: true; the input reads as it did. -/
def epochTurnsSpec : ChangeSpec := { name := "epochTurns", fn := fun _ => fun
  | [d1, d2, d3] => { results := [.lit (.bool true)], args := [d1, d2, d3] }
  | _ => none }
def epochTurnsRow : OpenClaim := { program := "ytdlmfpofedfcdaa", sum := "5b63bcb603450c0d6fb50877c59ca3ed76687d11d98aaa695d3085599009e1e9", func := "plait/plaitlaw02.EpochTurns", spec := "epochTurns", unfollowed := true, recurses := true, apart := false }
def EpochTurnsSaid : Prop := epochTurnsRow.holds Try.pinned (OpenSpec.ofChange epochTurnsSpec)

/-- ITS FALSE NEIGHBOUR: 'it returns false'. Refute it at one input. -/
def epochTurnsWrong : ChangeSpec := { name := "epochTurns", fn := fun _ => fun
  | [d1, d2, d3] => { results := [.lit (.bool false)], args := [d1, d2, d3] }
  | _ => none }
def EpochTurnsWrongFalsely : Prop := epochTurnsRow.holds Try.pinned (OpenSpec.ofChange epochTurnsWrong)

/-- 'plaitlaw02.EpochKnows': WHATEVER THE INPUT: true; the input reads as it did. -/
def epochKnowsSpec : ChangeSpec := { name := "epochKnows", fn := fun _ => fun
  | [d1, d2, d3] => { results := [.lit (.bool true)], args := [d1, d2, d3] }
  | _ => none }
def epochKnowsRow : OpenClaim := { program := "ytdlmfpofedfcdaa", sum := "5b63bcb603450c0d6fb50877c59ca3ed76687d11d98aaa695d3085599009e1e9", func := "plait/plaitlaw02.EpochKnows", spec := "epochKnows", apart := false }
def EpochKnowsSaid : Prop := epochKnowsRow.holds Try.pinned (OpenSpec.ofChange epochKnowsSpec)

/-- ITS FALSE NEIGHBOUR: 'it returns false'. Refute it at one input. -/
def epochKnowsWrong : ChangeSpec := { name := "epochKnows", fn := fun _ => fun
  | [d1, d2, d3] => { results := [.lit (.bool false)], args := [d1, d2, d3] }
  | _ => none }
def EpochKnowsWrongFalsely : Prop := epochKnowsRow.holds Try.pinned (OpenSpec.ofChange epochKnowsWrong)

/-- 'plaitlaw02.EpochNarrows': WHATEVER THE INPUT: true; the input reads as it did. -/
def epochNarrowsSpec : ChangeSpec := { name := "epochNarrows", fn := fun _ => fun
  | [d1, d2, d3] => { results := [.lit (.bool true)], args := [d1, d2, d3] }
  | _ => none }
def epochNarrowsRow : OpenClaim := { program := "ytdlmfpofedfcdaa", sum := "5b63bcb603450c0d6fb50877c59ca3ed76687d11d98aaa695d3085599009e1e9", func := "plait/plaitlaw02.EpochNarrows", spec := "epochNarrows", unfollowed := true, recurses := true, apart := false }
def EpochNarrowsSaid : Prop := epochNarrowsRow.holds Try.pinned (OpenSpec.ofChange epochNarrowsSpec)

/-- ITS FALSE NEIGHBOUR: 'it returns false'. Refute it at one input. -/
def epochNarrowsWrong : ChangeSpec := { name := "epochNarrows", fn := fun _ => fun
  | [d1, d2, d3] => { results := [.lit (.bool false)], args := [d1, d2, d3] }
  | _ => none }
def EpochNarrowsWrongFalsely : Prop := epochNarrowsRow.holds Try.pinned (OpenSpec.ofChange epochNarrowsWrong)

/-- 'plaitlaw02.EpochOrder': WHATEVER THE INPUT: true; the input reads as it did. -/
def epochOrderSpec : ChangeSpec := { name := "epochOrder", fn := fun _ => fun
  | [d1, d2, d3, d4] => { results := [.lit (.bool true)], args := [d1, d2, d3, d4] }
  | _ => none }
def epochOrderRow : OpenClaim := { program := "ytdlmfpofedfcdaa", sum := "5b63bcb603450c0d6fb50877c59ca3ed76687d11d98aaa695d3085599009e1e9", func := "plait/plaitlaw02.EpochOrder", spec := "epochOrder", apart := false }
def EpochOrderSaid : Prop := epochOrderRow.holds Try.pinned (OpenSpec.ofChange epochOrderSpec)

/-- ITS FALSE NEIGHBOUR: 'it returns false'. Refute it at one input. -/
def epochOrderWrong : ChangeSpec := { name := "epochOrder", fn := fun _ => fun
  | [d1, d2, d3, d4] => { results := [.lit (.bool false)], args := [d1, d2, d3, d4] }
  | _ => none }
def EpochOrderWrongFalsely : Prop := epochOrderRow.holds Try.pinned (OpenSpec.ofChange epochOrderWrong)

/- THE SECOND FORM. 'bulk': how many values and letters a reading holds, each counted each time it is reached (what is shared counts as often as it is met; a slice's spare places count too). A statement '..UptoSaid' is the law's where the arguments, and the package variables that the reading takes, are together of bulk at most 1048576: NARROWER than '..Said'. Prove '..Said' where nothing that the law and all that it calls make is longer than what came in: it says more and counts as full. Else prove '..UptoSaid'. A law counts once. -/
mutual
def uptoBulk {H : Type} : DataW H → Nat
  | .lit (.string bytes) => bytes.length + 1
  | .lit _ => 1
  | .nil => 1
  | .ptr d => uptoBulk d + 1
  | .slice elems spare => uptoBulkAll elems + uptoBulkAll spare + 1
  | .agg parts => uptoBulkAll parts + 1
  | .iface _ d => uptoBulk d + 1
  | .map entries => uptoBulkEntries entries + 1
  | .held _ => 1
def uptoBulkAll {H : Type} : List (DataW H) → Nat
  | [] => 0
  | d :: r => uptoBulk d + uptoBulkAll r
def uptoBulkEntries {H : Type} : List (Lit × DataW H) → Nat
  | [] => 0
  | x :: r => uptoBulkEntry x + uptoBulkEntries r
def uptoBulkEntry {H : Type} : Lit × DataW H → Nat
  | (.string bytes, d) => bytes.length + uptoBulk d + 1
  | (_, d) => uptoBulk d + 1
 end
def uptoSmall : (H : Type) → List (DataW H) → Bool := fun _ ds => decide (uptoBulkAll ds ≤ 1048576)
def OpenSpec.upto (s : _root_.Go.ChangeSpec) : _root_.Go.OpenSpec := { _root_.Go.OpenSpec.ofChange s with cond := some uptoSmall }

/-- 'plaitlaw02.EpochTells', WHERE WHAT IT READS IS OF BULK AT MOST 1048576: true; the input reads as it did. -/
def epochTellsUptoRow : OpenClaim := { program := "ytdlmfpofedfcdaa", sum := "5b63bcb603450c0d6fb50877c59ca3ed76687d11d98aaa695d3085599009e1e9", func := "plait/plaitlaw02.EpochTells", spec := "epochTells", apart := false, narrowed := true }
def EpochTellsUptoSaid : Prop := epochTellsUptoRow.holds Try.pinned (OpenSpec.upto epochTellsSpec)

/-- 'plaitlaw02.EpochTurns', WHERE WHAT IT READS IS OF BULK AT MOST 1048576: true; the input reads as it did. -/
def epochTurnsUptoRow : OpenClaim := { program := "ytdlmfpofedfcdaa", sum := "5b63bcb603450c0d6fb50877c59ca3ed76687d11d98aaa695d3085599009e1e9", func := "plait/plaitlaw02.EpochTurns", spec := "epochTurns", unfollowed := true, recurses := true, apart := false, narrowed := true }
def EpochTurnsUptoSaid : Prop := epochTurnsUptoRow.holds Try.pinned (OpenSpec.upto epochTurnsSpec)

/-- 'plaitlaw02.EpochKnows', WHERE WHAT IT READS IS OF BULK AT MOST 1048576: true; the input reads as it did. -/
def epochKnowsUptoRow : OpenClaim := { program := "ytdlmfpofedfcdaa", sum := "5b63bcb603450c0d6fb50877c59ca3ed76687d11d98aaa695d3085599009e1e9", func := "plait/plaitlaw02.EpochKnows", spec := "epochKnows", apart := false, narrowed := true }
def EpochKnowsUptoSaid : Prop := epochKnowsUptoRow.holds Try.pinned (OpenSpec.upto epochKnowsSpec)

/-- 'plaitlaw02.EpochNarrows', WHERE WHAT IT READS IS OF BULK AT MOST 1048576: true; the input reads as it did. -/
def epochNarrowsUptoRow : OpenClaim := { program := "ytdlmfpofedfcdaa", sum := "5b63bcb603450c0d6fb50877c59ca3ed76687d11d98aaa695d3085599009e1e9", func := "plait/plaitlaw02.EpochNarrows", spec := "epochNarrows", unfollowed := true, recurses := true, apart := false, narrowed := true }
def EpochNarrowsUptoSaid : Prop := epochNarrowsUptoRow.holds Try.pinned (OpenSpec.upto epochNarrowsSpec)

/-- 'plaitlaw02.EpochOrder', WHERE WHAT IT READS IS OF BULK AT MOST 1048576: true; the input reads as it did. -/
def epochOrderUptoRow : OpenClaim := { program := "ytdlmfpofedfcdaa", sum := "5b63bcb603450c0d6fb50877c59ca3ed76687d11d98aaa695d3085599009e1e9", func := "plait/plaitlaw02.EpochOrder", spec := "epochOrder", apart := false, narrowed := true }
def EpochOrderUptoSaid : Prop := epochOrderUptoRow.holds Try.pinned (OpenSpec.upto epochOrderSpec)

end Rows
end Go.Proofs.Ytdlmfpofedfcdaa
