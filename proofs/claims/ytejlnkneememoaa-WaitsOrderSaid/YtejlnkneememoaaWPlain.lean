/- Plain facts on waits. -/
import Derived.Test.YtejlnkneememoaaRef3
namespace Go.Proofs.Ytejlnkneememoaa
open Go.RowKit

/-- of another goroutine or case -/
def apartW (x y : Wt) : Prop := ¬ (x.g = y.g ∧ x.c = y.c)
theorem hasW_false {L : List Wt} {g c : Int} : hasW L g c = false ↔ ∀ y ∈ L, ¬ (y.g = g ∧ y.c = c) := by
  unfold hasW
  rw [List.any_eq_false]
  constructor
  · intro h y hy he; have := h y hy; simp [he.1, he.2] at this
  · intro h y hy hh
    have := h y hy
    simp at hh; exact this hh
theorem pair_of_good {L : List Wt} (h : ∀ i x, i < L.length → L[i]? = some x → hasW (L.take i) x.g x.c = false) : L.Pairwise apartW := by
  rw [List.pairwise_iff_getElem]
  intro i j hi hj hij he
  have h1 := hasW_false.1 (h j L[j] hj (List.getElem?_eq_getElem hj)) L[i] (by
    have : (L.take j)[i]? = some L[i] := by rw [List.getElem?_take, if_pos hij, List.getElem?_eq_getElem hi]
    exact List.mem_of_getElem? this)
  exact h1 he
theorem good_of_pair {L : List Wt} (h : L.Pairwise apartW) : ∀ i x, i < L.length → L[i]? = some x → hasW (L.take i) x.g x.c = false := by
  intro i x hi hx
  rw [hasW_false]
  intro y hy he
  obtain ⟨j, hj, hjy⟩ := List.getElem_of_mem hy
  have hji : j < i := by simp at hj; omega
  rw [List.getElem_take] at hjy
  rw [List.pairwise_iff_getElem] at h
  have := h j i (by omega) hi hji
  rw [hjy] at this
  have e : L[i] = x := by rw [List.getElem?_eq_getElem hi] at hx; exact Option.some.inj hx
  rw [e] at this
  exact this he
theorem right_pair {L : List Wt} : rightW L = true ↔ L.length ≤ 64 ∧ (∀ x ∈ L, mayW x = true) ∧ L.Pairwise apartW := by
  rw [rightW_iff]
  constructor
  · rintro ⟨hl, hg⟩
    refine ⟨hl, fun x hx => ?_, pair_of_good fun i x hi hx => (hg i x hi hx).2⟩
    obtain ⟨i, hi, he⟩ := List.getElem_of_mem hx
    exact (hg i x hi (by rw [List.getElem?_eq_getElem hi, he])).1
  · rintro ⟨hl, hm, hp⟩
    exact ⟨hl, fun i x hi hx => ⟨hm x (List.mem_of_getElem? hx), good_of_pair hp i x hi hx⟩⟩
theorem right_filter {L : List Wt} (h : rightW L = true) (p : Wt → Bool) : rightW (L.filter p) = true := by
  obtain ⟨h1, h2, h3⟩ := right_pair.1 h
  refine right_pair.2 ⟨Nat.le_trans (List.length_filter_le _ _) h1, fun x hx => h2 x (List.mem_filter.1 hx).1, List.Pairwise.sublist List.filter_sublist h3⟩
theorem right_drop {L : List Wt} (h : rightW L = true) (g : Int) : rightW (dropW L g) = true := right_filter h _
theorem right_snoc {L : List Wt} {x : Wt} (h : rightW L = true) (hl : L.length < 64) (hm : mayW x = true) (hh : hasW L x.g x.c = false) : rightW (L ++ [x]) = true := by
  obtain ⟨h1, h2, h3⟩ := right_pair.1 h
  refine right_pair.2 ⟨by simp; omega, fun y hy => ?_, ?_⟩
  · rcases List.mem_append.1 hy with hy | hy
    · exact h2 y hy
    · simp at hy; rw [hy]; exact hm
  · rw [List.pairwise_append]
    refine ⟨h3, by simp, fun a ha b hb => ?_⟩
    simp at hb; subst hb
    exact hasW_false.1 hh a ha
theorem right_nil : rightW [] = true := right_pair.2 ⟨by simp, fun x hx => by simp at hx, List.Pairwise.nil⟩

/-- without all of these goroutines -/
def restW (L : List Wt) (ws : List Int) : List Wt := L.filter fun x => !hasI ws x.g
theorem rest_nil (L : List Wt) : restW L [] = L := by
  unfold restW; rw [List.filter_eq_self]; intro x _; rfl
theorem rest_snoc (L : List Wt) (ws : List Int) (y : Int) : dropW (restW L ws) y = restW L (ws ++ [y]) := by
  unfold dropW restW
  rw [List.filter_filter]
  congr 1; funext x
  rw [hasI_snoc]
  cases hasI ws x.g <;> simp [bne, beq_comm' y x.g]
theorem rest_who (L : List Wt) : restW L (whoW L) = [] := by
  unfold restW
  rw [List.filter_eq_nil_iff]
  intro x hx
  rw [hasI_who]
  have : metW L x.g = true := List.any_eq_true.2 ⟨x, hx, by simp⟩
  rw [this]; simp
theorem mem_hasI {l : List Int} {g : Int} : hasI l g = true ↔ g ∈ l := by
  unfold hasI; rw [List.any_eq_true]
  constructor
  · rintro ⟨x, hx, he⟩; rw [beq_iff_eq] at he; rw [← he]; exact hx
  · intro h; exact ⟨g, h, by simp⟩
theorem who_nodup (L : List Wt) : (whoW L).Nodup := by
  have key : ∀ (L : List Wt) (acc : List Int), acc.Nodup → (L.foldl whoStep acc).Nodup := by
    intro L
    induction L with
    | nil => intro acc h; exact h
    | cons x xs ih =>
      intro acc h
      refine ih _ ?_
      unfold whoStep
      split
      · exact h
      · rename_i hh
        rw [List.nodup_append]
        refine ⟨h, by simp, fun a ha b hb e => ?_⟩
        simp at hb; subst hb; subst e
        exact hh (mem_hasI.2 ha)
  exact key L [] List.nodup_nil
theorem who_may {L : List Wt} (h : rightW L = true) : ∀ n ∈ whoW L, 0 ≤ n := by
  intro n hn
  rcases fold_mem L [] n hn with h0 | ⟨x, hx, e⟩
  · simp at h0
  · have := (right_pair.1 h).2.1 x hx
    simp [mayW] at this; omega
/-- what is not yet told is still there: so a drop makes it shorter -/
theorem drop_short {L : List Wt} {ws : List Int} {y : Int} (hy : y ∈ whoW L) (hn : y ∉ ws) : (dropW (restW L ws) y).length < (restW L ws).length := by
  rcases fold_mem L [] y hy with h0 | ⟨x, hx, e⟩
  · simp at h0
  · have hm : x ∈ restW L ws := by
      unfold restW; rw [List.mem_filter]
      refine ⟨hx, ?_⟩
      rw [e]
      cases hh : hasI ws y with
      | false => rfl
      | true => exact absurd (mem_hasI.1 hh) hn
    unfold dropW
    have hle := List.length_filter_le (fun z : Wt => z.g != y) (restW L ws)
    refine Nat.lt_of_le_of_ne hle fun he => ?_
    have := (List.length_filter_eq_length_iff.1 he) x hm
    simp [e] at this
theorem drop_same {L : List Wt} {g : Int} : decide (dropW L g = L) = !metW L g := by
  cases hm : metW L g with
  | false =>
    show _ = true
    rw [decide_eq_true_eq]
    unfold dropW; rw [List.filter_eq_self]
    intro x hx
    have := List.any_eq_false.1 hm x hx
    simpa [bne] using this
  | true =>
    show _ = false
    rw [decide_eq_false_iff_not]
    intro he
    obtain ⟨x, hx, hg⟩ := List.any_eq_true.1 hm
    rw [← he] at hx
    have := (List.mem_filter.1 hx).2
    rw [beq_iff_eq] at hg
    simp [hg] at this

/-- one pass: whoever is met puts it up by one -/
def pass (l : List Int) (o : Int) : Int := l.foldl (fun o x => if x = o then o + 1 else o) o
theorem pass_snoc (l : List Int) (x o : Int) : pass (l ++ [x]) o = if x = pass l o then pass l o + 1 else pass l o := by unfold pass; rw [List.foldl_append]; rfl
theorem pass_ge (l : List Int) : ∀ o, o ≤ pass l o ∧ pass l o ≤ o + l.length ∧ ∀ k, o ≤ k → k < pass l o → k ∈ l := by
  induction l with
  | nil => intro o; exact ⟨Int.le_refl _, by simp [pass], fun k h1 h2 => by simp [pass] at h2; omega⟩
  | cons x xs ih =>
    intro o
    obtain ⟨h1, h2, h3⟩ := ih (if x = o then o + 1 else o)
    have e : pass (x :: xs) o = pass xs (if x = o then o + 1 else o) := rfl
    rw [e]
    by_cases hx : x = o
    · rw [if_pos hx] at h1 h2 h3 ⊢
      refine ⟨by omega, by simp; omega, fun k hk1 hk2 => ?_⟩
      by_cases hk : k = o
      · simp [hk, hx]
      · exact List.mem_cons_of_mem _ (h3 k (by omega) hk2)
    · rw [if_neg hx] at h1 h2 h3 ⊢
      exact ⟨h1, by simp; omega, fun k hk1 hk2 => List.mem_cons_of_mem _ (h3 k hk1 hk2)⟩
theorem pass_up {l : List Int} : ∀ {o : Int}, o ∈ l → o + 1 ≤ pass l o := by
  induction l with
  | nil => intro o h; simp at h
  | cons x xs ih =>
    intro o h
    have e : pass (x :: xs) o = pass xs (if x = o then o + 1 else o) := rfl
    rw [e]
    by_cases hx : x = o
    · rw [if_pos hx]; exact (pass_ge xs (o + 1)).1
    · rw [if_neg hx]
      rcases List.mem_cons.1 h with h | h
      · exact absurd h.symm hx
      · exact ih h
theorem pass_stay {l : List Int} : ∀ {o : Int}, o ∉ l → pass l o = o := by
  induction l with
  | nil => intro o _; rfl
  | cons x xs ih =>
    intro o h
    have e : pass (x :: xs) o = pass xs (if x = o then o + 1 else o) := rfl
    rw [e, if_neg (fun he => h (by simp [he]))]
    exact ih (fun hh => h (List.mem_cons_of_mem _ hh))
def passes (l : List Int) : Nat → Int
  | 0 => 0
  | p + 1 => pass l (passes l p)
theorem passes_spec (l : List Int) (p : Nat) : (∀ k, 0 ≤ k → k < passes l p → k ∈ l) ∧ ((p : Int) ≤ passes l p ∨ passes l p ∉ l) ∧ 0 ≤ passes l p ∧ passes l p ≤ (p : Int) * l.length := by
  induction p with
  | zero => exact ⟨fun k h1 h2 => by simp [passes] at h2; omega, .inl (by simp [passes]), by simp [passes], by simp [passes]⟩
  | succ p ih =>
    obtain ⟨h1, h2, h3, h4⟩ := ih
    obtain ⟨g1, g2, g3⟩ := pass_ge l (passes l p)
    show (∀ k, 0 ≤ k → k < pass l (passes l p) → k ∈ l) ∧ _
    refine ⟨fun k hk1 hk2 => ?_, ?_, by show 0 ≤ pass l (passes l p); omega, ?_⟩
    · by_cases hk : k < passes l p
      · exact h1 k hk1 hk
      · exact g3 k (by omega) hk2
    · by_cases hm : passes l p ∈ l
      · rcases h2 with h2 | h2
        · left
          have := pass_up hm
          show ((p + 1 : Nat) : Int) ≤ pass l (passes l p); omega
        · exact absurd hm h2
      · right
        show pass l (passes l p) ∉ l
        rw [pass_stay hm]; exact hm
    · show pass l (passes l p) ≤ ((p + 1 : Nat) : Int) * l.length
      have : ((p + 1 : Nat) : Int) * (l.length : Int) = (p : Int) * l.length + l.length := by rw [Int.natCast_add, Int.add_mul]; simp
      omega
/-- numbers 0 .. m - 1 that all lie in a row without repeats: the row is as long -/
theorem long_of_all : ∀ (m : Nat) (l : List Int), (∀ k : Nat, k < m → (k : Int) ∈ l) → m ≤ l.length := by
  intro m
  induction m with
  | zero => intro l _; exact Nat.zero_le _
  | succ m ih =>
    intro l h
    have h1 := ih (l.erase (m : Int)) (fun k hk => by
      rw [List.mem_erase_of_ne (by omega)]; exact h k (by omega))
    have h2 := List.length_erase_of_mem (h m (by omega))
    have h3 := List.length_pos_of_mem (h m (by omega))
    omega
theorem passes_out (l : List Int) : passes l l.length ∉ l := by
  obtain ⟨h1, h2, h3, _⟩ := passes_spec l l.length
  rcases h2 with h2 | h2
  · intro hm
    have := long_of_all ((passes l l.length).toNat + 1) l (fun k hk => by
      by_cases he : (k : Int) = passes l l.length
      · rw [he]; exact hm
      · exact h1 k (by omega) (by omega))
    omega
  · exact h2
theorem first_other {L : List Wt} {b : Int} (hb : b ∉ whoW L) : firstW L b = L.head? := by
  unfold firstW
  cases L with
  | nil => rfl
  | cons x xs =>
    rw [List.find?_cons]
    have : (x.g != b) = true := by
      rw [bne_iff_ne]; intro e
      exact hb (mem_hasI.1 (by rw [hasI_who]; exact List.any_eq_true.2 ⟨x, by simp, by simp [e]⟩))
    rw [this]; rfl
theorem passes_bd {l : List Int} {p : Nat} (hp : p ≤ 64) (hl : l.length ≤ 64) : 0 ≤ passes l p ∧ passes l p ≤ 4096 := by
  obtain ⟨_, _, h3, h4⟩ := passes_spec l p
  refine ⟨h3, Int.le_trans h4 ?_⟩
  have : p * l.length ≤ 64 * 64 := Nat.mul_le_mul hp hl
  omega
end Go.Proofs.Ytejlnkneememoaa
