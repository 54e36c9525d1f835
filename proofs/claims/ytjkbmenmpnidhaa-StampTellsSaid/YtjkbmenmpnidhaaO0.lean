/- What an event waits for: unlocks as a list; kept things. -/
import Derived.Test.YtjkbmenmpnidhaaE4
import Derived.Test.YtjkbmenmpnidhaaRb
namespace Go.Proofs.Ytjkbmenmpnidhaa
open Go.RowKit Go.Shelf
set_option linter.unusedSimpArgs false
set_option linter.unusedVariables false
theorem cnt_meets (L : List Ev) (kd ob : Int) : ∀ (i q : Nat), (q : Int) < cntZ L kd ob i → ∃ j, j < i ∧ (evAt L j).kind = kd ∧ (evAt L j).obj = ob ∧ cntZ L kd ob j = (q : Int)
  | 0, q, h => by have : cntZ L kd ob 0 = 0 := rfl; omega
  | i + 1, q, h => by
    by_cases hq : (q : Int) < cntZ L kd ob i
    · obtain ⟨j, hj, r⟩ := cnt_meets L kd ob i q hq
      exact ⟨j, by omega, r⟩
    · have e : cntZ L kd ob (i + 1) = if (evAt L i).kind = kd ∧ (evAt L i).obj = ob then cntZ L kd ob i + 1 else cntZ L kd ob i := rfl
      by_cases hm : (evAt L i).kind = kd ∧ (evAt L i).obj = ob
      · rw [if_pos hm] at e
        exact ⟨i, by omega, hm.1, hm.2, by omega⟩
      · rw [if_neg hm] at e; omega
theorem place_has {L : List Ev} {kd ob : Int} {q : Nat} (h : (q : Int) < cntZ L kd ob L.length) : 0 ≤ placeZ L kd ob (q : Int) := by
  obtain ⟨j, hj, h1, h2, h3⟩ := cnt_meets L kd ob L.length q h
  rw [(place_is L kd ob (q : Int) j).2 ⟨hj, h1, h2, h3⟩]
  omega
theorem place_not {L : List Ev} {kd ob : Int} {q : Nat} (h : cntZ L kd ob L.length ≤ (q : Int)) : placeZ L kd ob (q : Int) = -1 := by
  have hg := (place_ge L kd ob (q : Int)).1
  by_cases hp : 0 ≤ placeZ L kd ob (q : Int)
  · obtain ⟨j, _, hj, h1, h2, h3⟩ := place_nat L kd ob _ hp
    have := cnt_lt ⟨h1, h2⟩ hj
    omega
  · omega
def unlK (L : List Ev) (ob : Int) (q : Nat) : List Int := (List.range q).map fun (n : Nat) => placeZ L 12 ob (n : Int)
theorem unlK_succ (L : List Ev) (ob : Int) (q : Nat) : unlK L ob q ++ [placeZ L 12 ob (q : Int)] = unlK L ob (q + 1) := by simp [unlK, List.range_succ]
theorem unlK_len (L : List Ev) (ob : Int) (q : Nat) : (unlK L ob q).length = q := by simp [unlK]
theorem unl_len (L : List Ev) (ob : Int) : (unlZ L ob).length = (cntZ L 12 ob L.length).toNat := by simp [unlZ]
theorem Bx.keptR {fix : Nat → Prop} {B : Nat} {W W' : World} {b : Nat} {cs : Array Value} {t : TypeId} (h : Bx W b cs t) (hk : Kept (rdP fix B) W W') (hp : fix b ∨ (B ≤ b ∧ t ≠ 3)) : Bx W' b cs t :=
  hk.same b _ h (hp.imp id fun h => ⟨h.1, by unfold isRow; split; (rename_i e; simp at e; exact absurd e.2.1 h.2); rfl⟩)
theorem kept_of_below {p : Nat → Obj → Prop} {A C : World} (h : Below A.heap.size A C) : Kept p A C := Kept.of_below h (fun k o hk _ => (Array.getElem?_eq_some_iff.1 hk).1)
theorem RoundIn.both {F : Fence} {n : Nat} {P : Program} {l : Nat} {f : FuncId} {tmps : Array Value} {assign body : Code} {w : World} {G H : World → Prop}
    (h : RoundIn F n P l f tmps assign body w fun e W' => (e = .returned (.bool true) ∧ G W') ∨ (e = .returned (.bool false) ∧ H W')) :
    RoundIn F n P l f tmps assign body w fun e W' => ∃ b : Bool, e = .returned (.bool b) ∧ Hid ((b = true ∧ G W') ∨ (b = false ∧ H W')) :=
  RoundIn.mono h fun e W' hh => by
    rcases hh with ⟨rfl, h⟩ | ⟨rfl, h⟩
    · exact ⟨true, rfl, .inl ⟨rfl, h⟩⟩
    · exact ⟨false, rfl, .inr ⟨rfl, h⟩⟩
end Go.Proofs.Ytjkbmenmpnidhaa
