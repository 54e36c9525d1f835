/- Plain facts of there and back. -/
import Derived.Test.YtmmhjdpodagkhaaLawOrder
namespace Go.Proofs.Ytmmhjdpodagkhaa
open Go.RowKit

theorem every_put (M : List Int) (f : Nat) (h : Smalls M) (hf : (allL M).length < f) : everyF f (allL M) = (M, 0) := by
  induction M generalizing f with
  | nil => exact every_nil f
  | cons n M ih =>
    obtain ⟨f, rfl⟩ : ∃ g, f = g + 1 := ⟨f - 1, by omega⟩
    have e : allL (n :: M) = putL n ++ allL M := rfl
    have hn := smallB_iff.1 (h n List.mem_cons_self)
    have hl := putL_len n
    rw [e] at hf ⊢
    rw [List.length_append] at hf
    have hne : putL n ++ allL M ≠ [] := by
      intro hh; have := congrArg List.length hh; rw [List.length_append] at this; simp at this; rw [this.1] at hl; simp at hl
    rw [everyF, if_neg hne, get_put n _ hn.1 hn.2]
    simp only [List.drop_left']
    rw [ih f (fun x hx => h x (List.mem_cons_of_mem _ hx)) (by omega)]
    simp
theorem every_back (f : Nat) (S : List Int) (hS : Byt S) (hf : S.length < f) (h : (everyF f S).2 = 0) : Smalls (everyF f S).1 ∧ allL (everyF f S).1 = S := by
  induction f generalizing S with
  | zero => omega
  | succ f ih =>
    by_cases hne : S = []
    · subst hne; rw [every_nil]; exact ⟨fun n hn => absurd hn (by simp), rfl⟩
    · by_cases hg : (getS S).2.2 = 0
      · obtain ⟨v, k, e⟩ : ∃ v k, getS S = (v, k, 0) := ⟨_, _, Prod.ext rfl (Prod.ext rfl hg)⟩
        obtain ⟨p1, p2, p3, p4, p5, p6⟩ := put_get S hS v k e
        rw [everyF, if_neg hne, if_pos hg, e] at h ⊢
        simp only [] at h ⊢
        by_cases h2 : (everyF f (S.drop k)).2 = 0
        · have := ih (S.drop k) (byt_drop hS k) (by rw [List.length_drop]; omega) h2
          rw [if_pos h2]
          refine ⟨fun n hn => ?_, ?_⟩
          · rcases List.mem_cons.1 hn with rfl | hn
            · exact smallB_iff.2 ⟨p5, p6⟩
            · exact this.1 n hn
          · show putL v ++ allL (everyF f (S.drop k)).1 = S
            rw [this.2, p1, List.take_append_drop]
        · rw [if_neg h2] at h; exact absurd h h2
      · rw [everyF, if_neg hne, if_neg hg] at h; exact absurd h hg
theorem every_again (M : List Int) (h : Smalls M) : everyL (tx (strOf (allL M))) = (M, 0) := by
  rw [tx_strOf _ (allL_byt M h)]; exact every_put M _ h (by omega)
theorem allL_len2 (l : List Int) : l.length ≤ (allL l).length := by
  induction l with
  | nil => simp
  | cons n l ih =>
    have := (putL_len n).1
    have e : allL (n :: l) = putL n ++ allL l := rfl
    rw [e, List.length_append, List.length_cons]; omega
theorem every_text (s : ByteArray) (h : (everyL (tx s)).2 = 0) : Smalls (everyL (tx s)).1 ∧ strOf (allL (everyL (tx s)).1) = s ∧ (everyL (tx s)).1.length ≤ s.size := by
  have := every_back _ (tx s) (tx_byt s) (by omega) h
  refine ⟨this.1, by show strOf (allL (everyF _ _).1) = s; rw [this.2, strOf_tx], ?_⟩
  have e := allL_len2 (everyL (tx s)).1
  rw [show allL (everyL (tx s)).1 = tx s from this.2, tx_len] at e; exact e
theorem get_again (x : Int) (h0 : 0 ≤ x) (h1 : x ≤ 2147483647) : getZ (tx (strOf (putL x))) 0 = (x, ((strOf (putL x)).size : Int), 0) := by
  rw [tx_strOf _ (putL_byt h0 (by omega)), show (0 : Int) = ((0 : Nat) : Int) from rfl, getZ_in _ 0 (by omega), List.drop_zero]
  have := get_put x [] h0 h1
  rw [List.append_nil] at this
  rw [this, strOf_size]; simp
theorem unf_fold {n : Int} (h0 : -1073741824 ≤ n) (h1 : n < 1073741824) : unfZ (foldZ n) = n := by
  unfold foldZ; split
  · rw [unfZ, if_pos (by omega)]; omega
  · rw [unfZ, if_neg (by omega)]; omega
theorem signed_again (n : Int) (h0 : -1073741824 ≤ n) (h1 : n < 1073741824) : signedZ (tx (strOf (putL (foldZ n)))) 0 = (n, ((strOf (putL (foldZ n))).size : Int), 0) := by
  obtain ⟨f0, f1⟩ := foldZ_bd h0 h1
  rw [signedZ, get_again _ f0 f1, if_pos rfl]; simp only []; rw [unf_fold h0 h1]
theorem tx_extract (s : ByteArray) (a b : Nat) : tx (s.extract a b) = ((tx s).drop a).take (b - a) := by
  unfold tx; rw [← data_toList, ← data_toList]
  simp [List.map_take, List.map_drop, List.take_drop]
  try (congr 1; omega)
theorem text_again (s : ByteArray) (p : Nat) (x : Int) (k : Nat) (hp : p ≤ s.size) (h : getS ((tx s).drop p) = (x, k, 0)) : 0 ≤ x ∧ x ≤ 2147483647 ∧ p + k ≤ s.size ∧ s.extract p (p + k) = strOf (putL x) := by
  obtain ⟨p1, p2, p3, p4, p5, p6⟩ := put_get _ (byt_drop (tx_byt s) p) x k h
  rw [List.length_drop, tx_len] at p3
  refine ⟨p5, p6, by omega, ?_⟩
  rw [p1, ← strOf_tx (s.extract p (p + k)), tx_extract]
  congr 2; omega
def mods (l : List Int) : List Int := l.map (· % 2147483648)
theorem mods_small (l : List Int) : Smalls (mods l) := by
  intro n hn
  obtain ⟨m, _, rfl⟩ := List.mem_map.1 hn
  exact smallB_iff.2 ⟨by omega, by omega⟩
theorem mods_succ (l : List Int) (k : Nat) (hk : k < l.length) : mods (l.take (k + 1)) = mods (l.take k) ++ [en l k % 2147483648] := by
  rw [List.take_add_one, List.getElem?_eq_getElem hk, en_get _ _ hk]; unfold mods; rw [List.map_append]; rfl
theorem mods_len (l : List Int) : (mods l).length = l.length := by simp [mods]
theorem smalls_all {l : List Int} (h : Smalls l) : l.all smallB = true := by rw [List.all_eq_true]; exact h
end Go.Proofs.Ytmmhjdpodagkhaa
