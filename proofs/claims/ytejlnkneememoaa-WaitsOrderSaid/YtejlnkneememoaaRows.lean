/-
  No cell of these rows narrows 'for every input' (looked for: loops, veiled, ifaces, maps, wideKeys, modest, calm, conditions, laid).
  DERIVED. THE GIVEN ROWS OF THIS SEAT. 3 by the template 'for every input the law returns true; each argument reads behind the call as it read before'; 0 by the template 'total and deterministic' (their statements: YtejlnkneememoaaTotals.lean).
  GIVEN WITH THE SEED: the statements are not yours to turn. If you find one false, say at which input.
  Laid BY PROGRAM, IN A SANDBOX (cutbox-rows.mjs): the forced cells as the released guide's own fill.sh prints them over the translation d0eefdcc0ecc4813… (all of the seat's roots in one cut). By AI agents, Wed Nov 11 2026. No macro, syntax, notation, axiom, sorry.
-/
import Derived.Test.YtejlnkneememoaaChecked
import GoSem.Claim
import GoSem.ClaimJoined
import GoSem.ClaimMapViews
import Derived.JoinedTies
import Derived.KernelRfl
namespace Go.Proofs.Ytejlnkneememoaa
/- THE CELL 'sum', in the pinned program and in every row, IS THE sha256 OF THE DUMP (.gsa) THAT YtejlnkneememoaaProg.lean LOADS. Nothing in Lean hashes anything: it is a label: what it is worth is what the hold of that sum in a sandbox is worth. -/
noncomputable def Try.pinned : Pinned := { name := "ytejlnkneememoaa", sum := "d0eefdcc0ecc4813396e48c7a32ae0bc7d1d4ec539e6961d92f1136b4dd7244f", checked := Try.checked }
namespace Rows
def none {H : Type} : Left H := { results := [], args := [] }

/-- 'plaitlaw05.WaitsTell': WHATEVER THE INPUT: true; the input reads as it did. -/
def waitsTellSpec : ChangeSpec := { name := "waitsTell", fn := fun _ => fun
  | [d1, d2, d3] => { results := [.lit (.bool true)], args := [d1, d2, d3] }
  | _ => none }
def waitsTellRow : OpenClaim := { program := "ytejlnkneememoaa", sum := "d0eefdcc0ecc4813396e48c7a32ae0bc7d1d4ec539e6961d92f1136b4dd7244f", func := "plait/plaitlaw05.WaitsTell", spec := "waitsTell", unfollowed := true, recurses := true, plainKeys := false, apart := false }
def WaitsTellSaid : Prop := waitsTellRow.holds Try.pinned (OpenSpec.ofChange waitsTellSpec)

/-- ITS FALSE NEIGHBOUR: 'it returns false'. Refute it at one input. -/
def waitsTellWrong : ChangeSpec := { name := "waitsTell", fn := fun _ => fun
  | [d1, d2, d3] => { results := [.lit (.bool false)], args := [d1, d2, d3] }
  | _ => none }
def WaitsTellWrongFalsely : Prop := waitsTellRow.holds Try.pinned (OpenSpec.ofChange waitsTellWrong)

/-- 'plaitlaw05.WaitsOrder': WHATEVER THE INPUT: true; the input reads as it did. -/
def waitsOrderSpec : ChangeSpec := { name := "waitsOrder", fn := fun _ => fun
  | [d] => { results := [.lit (.bool true)], args := [d] }
  | _ => none }
def waitsOrderRow : OpenClaim := { program := "ytejlnkneememoaa", sum := "d0eefdcc0ecc4813396e48c7a32ae0bc7d1d4ec539e6961d92f1136b4dd7244f", func := "plait/plaitlaw05.WaitsOrder", spec := "waitsOrder", unfollowed := true, recurses := true, plainKeys := false, apart := false }
def WaitsOrderSaid : Prop := waitsOrderRow.holds Try.pinned (OpenSpec.ofChange waitsOrderSpec)

/-- ITS FALSE NEIGHBOUR: 'it returns false'. Refute it at one input. -/
def waitsOrderWrong : ChangeSpec := { name := "waitsOrder", fn := fun _ => fun
  | [d] => { results := [.lit (.bool false)], args := [d] }
  | _ => none }
def WaitsOrderWrongFalsely : Prop := waitsOrderRow.holds Try.pinned (OpenSpec.ofChange waitsOrderWrong)

/-- 'plaitlaw05.WaitsWho': WHATEVER THE INPUT: true; the input reads as it did. -/
def waitsWhoSpec : ChangeSpec := { name := "waitsWho", fn := fun _ => fun
  | [d1, d2] => { results := [.lit (.bool true)], args := [d1, d2] }
  | _ => none }
def waitsWhoRow : OpenClaim := { program := "ytejlnkneememoaa", sum := "d0eefdcc0ecc4813396e48c7a32ae0bc7d1d4ec539e6961d92f1136b4dd7244f", func := "plait/plaitlaw05.WaitsWho", spec := "waitsWho", plainKeys := false, apart := false }
def WaitsWhoSaid : Prop := waitsWhoRow.holds Try.pinned (OpenSpec.ofChange waitsWhoSpec)

/-- ITS FALSE NEIGHBOUR: 'it returns false'. Refute it at one input. -/
def waitsWhoWrong : ChangeSpec := { name := "waitsWho", fn := fun _ => fun
  | [d1, d2] => { results := [.lit (.bool false)], args := [d1, d2] }
  | _ => none }
def WaitsWhoWrongFalsely : Prop := waitsWhoRow.holds Try.pinned (OpenSpec.ofChange waitsWhoWrong)

/- THE SECOND FORM. 'bulk': how many values and letters a reading holds, each counted each time it is reached (what is shared counts as often as it is met; a slice's spare places count too). A statement '..UptoSaid' is the law's where the arguments, and the package variables that the reading takes, are together of bulk at most 1048576: NARROWER than '..Said'. Prove '..Said' where nothing that the law and all that it calls make is longer than what came in: it says more and counts as full. Else prove '..UptoSaid'. A law counts once. -/
mutual
def uptoBulk {H : Type} : DataW H → Nat
  | .lit (.string bytes) => bytes.length + 1
  | .lit _ => 1
  | .nil => 1
  | .ptr d => uptoBulk d + 1
  | .slice elems spare => uptoBulkAll elems + uptoBulkAll spare + 1
  | .agg parts => uptoBulkAll parts + 1
  | .iface _ d => uptoBulk d + 1
  | .map entries => uptoBulkEntries entries + 1
  | .held _ => 1
def uptoBulkAll {H : Type} : List (DataW H) → Nat
  | [] => 0
  | d :: r => uptoBulk d + uptoBulkAll r
def uptoBulkEntries {H : Type} : List (Lit × DataW H) → Nat
  | [] => 0
  | x :: r => uptoBulkEntry x + uptoBulkEntries r
def uptoBulkEntry {H : Type} : Lit × DataW H → Nat
  | (.string bytes, d) => bytes.length + uptoBulk d + 1
  | (_, d) => uptoBulk d + 1
 end
def uptoSmall : (H : Type) → List (DataW H) → Bool := fun _ ds => decide (uptoBulkAll ds ≤ 1048576)
def OpenSpec.upto (s : _root_.Go.ChangeSpec) : _root_.Go.OpenSpec := { _root_.Go.OpenSpec.ofChange s with cond := some uptoSmall }

/-- 'plaitlaw05.WaitsTell', WHERE WHAT IT READS IS OF BULK AT MOST 1048576: true; the input reads as it did. -/
def waitsTellUptoRow : OpenClaim := { program := "ytejlnkneememoaa", sum := "d0eefdcc0ecc4813396e48c7a32ae0bc7d1d4ec539e6961d92f1136b4dd7244f", func := "plait/plaitlaw05.WaitsTell", spec := "waitsTell", unfollowed := true, recurses := true, plainKeys := false, apart := false, narrowed := true }
def WaitsTellUptoSaid : Prop := waitsTellUptoRow.holds Try.pinned (OpenSpec.upto waitsTellSpec)

/-- 'plaitlaw05.WaitsOrder', WHERE WHAT IT READS IS OF BULK AT MOST 1048576: true; the input reads as it did. -/
def waitsOrderUptoRow : OpenClaim := { program := "ytejlnkneememoaa", sum := "d0eefdcc0ecc4813396e48c7a32ae0bc7d1d4ec539e6961d92f1136b4dd7244f", func := "plait/plaitlaw05.WaitsOrder", spec := "waitsOrder", unfollowed := true, recurses := true, plainKeys := false, apart := false, narrowed := true }
def WaitsOrderUptoSaid : Prop := waitsOrderUptoRow.holds Try.pinned (OpenSpec.upto waitsOrderSpec)

/-- 'plaitlaw05.WaitsWho', WHERE WHAT IT READS IS OF BULK AT MOST 1048576: true; the input reads as it did. -/
def waitsWhoUptoRow : OpenClaim := { program := "ytejlnkneememoaa", sum := "d0eefdcc0ecc4813396e48c7a32ae0bc7d1d4ec539e6961d92f1136b4dd7244f", func := "plait/plaitlaw05.WaitsWho", spec := "waitsWho", plainKeys := false, apart := false, narrowed := true }
def WaitsWhoUptoSaid : Prop := waitsWhoUptoRow.holds Try.pinned (OpenSpec.upto waitsWhoSpec)

end Rows
end Go.Proofs.Ytejlnkneememoaa
