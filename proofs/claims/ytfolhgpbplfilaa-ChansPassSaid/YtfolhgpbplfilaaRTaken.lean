/- Plain facts of what is taken. -/
import Derived.Test.YtfolhgpbplfilaaRItems
namespace Go.Proofs.Ytfolhgpbplfilaa
open Go.RowKit

theorem en_set (zs : List Int) (q i : Nat) (v : Int) (hq : q < zs.length) : en (zs.set q v) i = if i = q then v else en zs i := by
  unfold en
  rw [List.getD_eq_getElem?_getD, List.getD_eq_getElem?_getD, List.getElem?_set]
  by_cases h : q = i
  · subst h; simp [hq]
  · rw [if_neg h, if_neg (fun e => h e.symm)]
theorem upto_congr {f g : Nat → Int} {k : Nat} (h : ∀ i, i < k → f i = g i) : upto f k = upto g k := by
  unfold upto
  exact List.map_congr_left fun i hi => h i (List.mem_range.1 hi)
theorem upto_cons (f : Nat → Int) (k : Nat) : upto f (k + 1) = f 0 :: upto (fun i => f (i + 1)) k := by
  unfold upto; rw [List.range_succ_eq_map, List.map_cons, List.map_map]; rfl
theorem mod_ne {c first i j : Nat} (_hc : 0 < c) (hij : i < j) (hj : j < i + c) : (first + i) % c ≠ (first + j) % c := by
  intro h
  have h1 := Nat.div_add_mod (first + i) c
  have h2 := Nat.div_add_mod (first + j) c
  rw [h] at h1
  have h3 : c * ((first + j) / c) - c * ((first + i) / c) = j - i := by omega
  rw [← Nat.mul_sub] at h3
  rcases Nat.eq_zero_or_pos ((first + j) / c - (first + i) / c) with e | e
  · rw [e] at h3; simp at h3; omega
  · have := Nat.mul_le_mul_left c e; omega
theorem taken_push (c first count : Nat) (zs : List Int) (v : Int) (hl : zs.length = c) (hk : count < c) :
    takenL c first (count + 1) (zs.set ((first + count) % c) v) = takenL c first count zs ++ [v] := by
  have hq : (first + count) % c < zs.length := by rw [hl]; exact Nat.mod_lt _ (by omega)
  unfold takenL
  rw [upto_succ]
  congr 1
  · refine upto_congr fun i hi => ?_
    rw [en_set _ _ _ _ hq, if_neg (mod_ne (by omega) hi (by omega))]
  · rw [en_set _ _ _ _ hq, if_pos rfl]
theorem taken_pop (c first count : Nat) (zs : List Int) (hl : zs.length = c) (hf : first < c) (hk : count + 1 ≤ c) :
    takenL c first (count + 1) zs = en zs first :: takenL c ((first + 1) % c) count (zs.set first 0) := by
  unfold takenL
  rw [upto_cons]
  congr 1
  · rw [Nat.add_zero, Nat.mod_eq_of_lt hf]
  · refine upto_congr fun i hi => ?_
    have hm : ((first + 1) % c + i) % c = (first + (i + 1)) % c := by rw [Nat.mod_add_mod]; congr 1; omega
    show en zs ((first + (i + 1)) % c) = en (zs.set first 0) (((first + 1) % c + i) % c)
    rw [hm, en_set _ _ _ _ (by omega), if_neg]
    have := mod_ne (c := c) (first := first) (i := 0) (j := i + 1) (by omega) (by omega) (by omega)
    rw [Nat.add_zero, Nat.mod_eq_of_lt hf] at this
    exact fun e => this e.symm
theorem taken_len (c first count : Nat) (zs : List Int) : (takenL c first count zs).length = count := upto_len _ _
end Go.Proofs.Ytfolhgpbplfilaa
