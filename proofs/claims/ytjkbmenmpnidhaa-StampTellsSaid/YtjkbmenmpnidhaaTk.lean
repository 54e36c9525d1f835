/- Operations of a drawn region, taken one behind the other. -/
import Derived.Test.YtjkbmenmpnidhaaE0
import Derived.Deep.RegionHeld
namespace Go.Proofs.Ytjkbmenmpnidhaa
open Go.RowKit
/-! operations of a drawn region, taken one behind the other -/
section
variable {P : Program} {ops : Array Oper} {Q : Exit → Act → World → Prop} {md : Region.Mode} {S : World → Prop}
def okSeq (md : Region.Mode) (ops : Array Oper) : List Nat → Array Bool → Bool
  | [], _ => true
  | i :: l, listed => Region.free md ops listed i && (Region.ready md ops listed).contains i && okSeq md ops l (listed.setIfInBounds i true)
def AllY (P : Program) (md : Region.Mode) (ops : Array Oper) (Q : Exit → Act → World → Prop) (S : World → Prop) : List Nat → Nat → Array Bool → Act → World → Prop
  | [], n, listed, a, w => wpAnyH P md ops Q S n listed a w
  | _ :: _, 0, _, _, _ => False
  | i :: l, n + 1, listed, a, w => ∃ oi v, ops[i]? = some oi ∧ YieldsIf P ops S oi v a ∧ AllY P md ops Q S l n (listed.setIfInBounds i true) (a.put oi.dst v) w
theorem takes_go (hs : Region.noSelect ops = true) (hQ : ∀ c (a : Act) t v w, Q (.panic c) (a.put (some t) v) w → Q (.panic c) a w) : ∀ (l : List Nat) (n : Nat) (listed : Array Bool) (a : Act) (w : World), S w → okSeq md ops l listed = true → l.length ≤ n → AllY P md ops Q S l n listed a w → wpAnyH P md ops Q S n listed a w
  | [], _, _, _, _, _, _, _, h => by unfold AllY at h; exact h
  | i :: l, 0, _, _, _, _, _, _, h => by unfold AllY at h; exact h.elim
  | i :: l, m + 1, listed, a, w, hS, hok, hn, h => by
    unfold AllY at h
    obtain ⟨oi, v, hi, hy, hk⟩ := h
    simp only [okSeq, Bool.and_eq_true] at hok
    exact wpAnyH_take hi hs hok.1.1 hok.1.2 (fun c a w h => by
      cases hd : oi.dst with
      | none => rw [hd] at h; exact h
      | some t => rw [hd] at h; exact hQ c a t v w h) hy hS (takes_go hs hQ l m _ _ w hS hok.2 (by simpa using hn) hk)
theorem takes (l : List Nat) {n : Nat} {listed : Array Bool} {a : Act} {w : World} (hc : (Region.noSelect ops && okSeq md ops l listed && decide (l.length ≤ n)) = true) (hQ : ∀ c (a : Act) t v w, Q (.panic c) (a.put (some t) v) w → Q (.panic c) a w) (hS : S w) (h : AllY P md ops Q S l n listed a w) : wpAnyH P md ops Q S n listed a w := by
  simp only [Bool.and_eq_true, decide_eq_true_eq] at hc
  exact takes_go hc.1.1 hQ l n listed a w hS hc.1.2 hc.2 h
theorem ally_nil {n : Nat} {listed : Array Bool} {a : Act} {w : World} (h : wpAnyH P md ops Q S n listed a w) : AllY P md ops Q S [] n listed a w := by unfold AllY; exact h
theorem ally_cons {i : Nat} {l : List Nat} {n : Nat} {listed : Array Bool} {a : Act} {w : World} {oi : Oper} {v : Value} (hi : ops[i]? = some oi) (hy : YieldsIf P ops S oi v a) (h : AllY P md ops Q S l n (listed.setIfInBounds i true) (a.put oi.dst v) w) : AllY P md ops Q S (i :: l) (n + 1) listed a w := by unfold AllY; exact ⟨oi, v, hi, hy, h⟩
end
end Go.Proofs.Ytjkbmenmpnidhaa
