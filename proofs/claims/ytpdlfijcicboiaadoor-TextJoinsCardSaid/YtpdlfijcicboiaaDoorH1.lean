/- What is printed is parsed as it was, and what is parsed is printed as it was: plainly. -/
import Derived.Test.YtpdlfijcicboiaaDoorLawPrints
namespace Go.Proofs.YtpdlfijcicboiaaDoor
open Go.RowKit
set_option linter.unusedSimpArgs false
set_option linter.unusedVariables false
theorem jn_cons (x : List UInt8) (X : List (List UInt8)) (sep : List UInt8) (h : X ≠ []) : Lib.join (x :: X) sep = x ++ sep ++ Lib.join X sep := by
  cases X with
  | nil => exact absurd rfl h
  | cons y r => rw [Lib.join_cons, Lib.join_cons]; simp [Lib.joinTail, List.append_assoc]
theorem pcB_ne (s sep : ByteArray) (h1 : 1 ≤ sep.size) : pcB s sep ≠ [] := fun e => by
  have := pcB_len s sep h1
  rw [e] at this; simp at this
theorem pcB_join (sep : ByteArray) (h1 : 1 ≤ sep.size) : ∀ (n : Nat) (s : ByteArray), s.size ≤ n → Lib.join ((pcB s sep).map (·.data.toList)) sep.data.toList = s.data.toList := by
  intro n
  induction n with
  | zero =>
    intro s hn
    rcases Lib.index_spec s.data.toList sep.data.toList with ⟨h, _⟩ | ⟨i, h, hi, ho, hno⟩
    · rw [pcB_miss s sep h]; exact Lib.join_one _ _
    · exfalso
      rcases Lib.occAt_room ho with h2 | h2
      · rw [← Lib.size_eq, ← Lib.size_eq] at h2; omega
      · rw [Lib.size_eq, h2] at h1; exact absurd h1 (by decide)
  | succ n ih =>
    intro s hn
    rcases Lib.index_spec s.data.toList sep.data.toList with ⟨h, _⟩ | ⟨i, h, hi, ho, hno⟩
    · rw [pcB_miss s sep h]; exact Lib.join_one _ _
    · have hr : i + sep.size ≤ s.size := by
        rcases Lib.occAt_room ho with h2 | h2
        · rw [← Lib.size_eq, ← Lib.size_eq] at h2; exact h2
        · rw [Lib.size_eq, h2] at h1; exact absurd h1 (by decide)
      rw [pcB_hit s sep i h1 h, List.map_cons, jn_cons _ _ _ (fun e => pcB_ne _ sep h1 (List.map_eq_nil_iff.1 e)), ih _ (by rw [ex_size]; omega), Lib.extract_from_zero, Lib.extract_to_end]
      have ho2 := ho
      rw [Lib.occAt_iff_take _ _ _ (by rw [← Lib.size_eq, ← Lib.size_eq]; exact hr)] at ho2
      have he : sep.data.toList = (s.data.toList.drop i).take sep.data.toList.length := (beq_iff_eq.1 ho2).symm
      have hl : sep.data.toList.length = sep.size := (Lib.size_eq sep).symm
      rw [hl] at he
      conv => lhs; rw [he]
      rw [List.append_assoc, ← List.drop_drop, List.take_append_drop, List.take_append_drop]
theorem no_head {l sep : List UInt8} {c : UInt8} {t : List UInt8} (hs : sep = c :: t) (h : c ∉ l) : Lib.index l sep = -1 := by
  rcases Lib.index_spec l sep with ⟨h, _⟩ | ⟨i, _, _, ho, _⟩
  · exact h
  · exact absurd (List.mem_of_getElem? (Lib.occAt_head hs ho)) h
theorem pcB_split (sep : ByteArray) (c : UInt8) (t : List UInt8) (hs : sep.data.toList = c :: t) : ∀ (X : List ByteArray), X ≠ [] → (∀ x ∈ X, c ∉ x.data.toList) → ∀ s : ByteArray, s.data.toList = Lib.join (X.map (·.data.toList)) sep.data.toList → pcB s sep = X
  | [], h, _, _, _ => absurd rfl h
  | [x], _, hf, s, e => by
    have : s = x := bytes_ext (e.trans (Lib.join_one _ _))
    subst this
    exact pcB_miss _ _ (no_head hs (hf s (by simp)))
  | x :: y :: r, _, hf, s, e => by
    have h1 : 1 ≤ sep.size := by rw [Lib.size_eq, hs]; simp
    have e2 : s.data.toList = x.data.toList ++ sep.data.toList ++ Lib.join ((y :: r).map (·.data.toList)) sep.data.toList := e.trans (jn_cons _ _ _ (by simp))
    have hx : x.data.toList.length = x.size := (Lib.size_eq x).symm
    have hi : Lib.indexB s sep = (x.size : Int) := by
      refine Lib.index_hit (fun j hj => ?_) (by rw [e2, ← hx]; simp) ?_
      · rcases hb : Lib.occAt s.data.toList sep.data.toList j with _ | _
        · rfl
        · exfalso
          have hc := Lib.occAt_head hs hb
          rw [e2, List.append_assoc, List.getElem?_append_left (by omega)] at hc
          exact hf x (by simp) (List.mem_of_getElem? hc)
      · unfold Lib.occAt
        rw [e2, List.append_assoc, List.drop_left' hx]
        exact List.isPrefixOf_iff_prefix.2 (List.prefix_append _ _)
    rw [pcB_hit s sep x.size h1 hi]
    have hm : sep.data.toList.length = sep.size := (Lib.size_eq sep).symm
    have e3 : s.extract 0 x.size = x := bytes_ext (by rw [Lib.extract_from_zero, e2, List.append_assoc, List.take_left' hx])
    rw [e3, pcB_split sep c t hs (y :: r) (by simp) (fun z hz => hf z (List.mem_cons_of_mem _ hz)) _ (by rw [Lib.extract_to_end, e2, List.drop_left' (by rw [List.length_append, hx, hm])])]
theorem dig_facts : ∀ a : Fin 1000, okL (tx (digB (a.val : Int))) = true ∧ valL (tx (digB (a.val : Int))) = (a.val : Int) ∧ (digB (a.val : Int)).data.toList.all (fun b => b != 32 && b != 59) = true := by decide +kernel
theorem word_facts : ∀ k : Fin 14, (wordB (k.val : Int)).data.toList.all (fun b => b != 32 && b != 59) = true ∧ 1 ≤ (wordB (k.val : Int)).size := by decide +kernel
def parts (x : Ins) : List ByteArray := if numZ x.op = 0 then [wordB x.op] else if numZ x.op = 1 then [wordB x.op, digB x.a] else [wordB x.op, digB x.a, digB x.b]
theorem oneB_join (x : Ins) : (oneB x).data.toList = Lib.join ((parts x).map (·.data.toList)) spB.data.toList := by
  unfold oneB parts
  split
  · exact (Lib.join_one _ _).symm
  · split
    · simp [Lib.join, List.intercalate]
    · simp [Lib.join, List.intercalate]
theorem free_of {l : List UInt8} (h : l.all (fun b => b != 32 && b != 59) = true) : 32 ∉ l ∧ 59 ∉ l := by
  constructor <;> intro hm <;> have := List.all_eq_true.1 h _ hm <;> revert this <;> decide
theorem may_nat {x : Ins} (h : mayZ x = true) : ∃ k a b : Nat, x = ⟨(k : Int), (a : Int), (b : Int)⟩ ∧ k < 14 ∧ a < 1000 ∧ b < 1000 ∧ (k = 0 → a = 0) ∧ (k ≠ 7 → b = 0) := by
  unfold mayZ at h
  have h := of_decide_eq_true h
  obtain ⟨op, a, b⟩ := x
  dsimp only at h
  refine ⟨op.toNat, a.toNat, b.toNat, ?_, by omega, by omega, by omega, by omega, by omega⟩
  rw [Int.toNat_of_nonneg (by omega), Int.toNat_of_nonneg (by omega), Int.toNat_of_nonneg (by omega)]
theorem parts_free {x : Ins} (h : mayZ x = true) : ∀ p ∈ parts x, p.data.toList.all (fun b => b != 32 && b != 59) = true := by
  obtain ⟨k, a, b, rfl, hk, ha, hb, _, _⟩ := may_nat h
  have f1 := (word_facts ⟨k, hk⟩).1
  have f2 := (dig_facts ⟨a, ha⟩).2.2
  have f3 := (dig_facts ⟨b, hb⟩).2.2
  intro p hp
  unfold parts at hp
  split at hp
  · simp at hp; subst hp; exact f1
  · split at hp
    · simp at hp; rcases hp with rfl | rfl
      · exact f1
      · exact f2
    · simp at hp; rcases hp with rfl | rfl | rfl
      · exact f1
      · exact f2
      · exact f3
theorem paW_parts {x : Ins} (h : mayZ x = true) : paW (parts x) = (x, 0) := by
  obtain ⟨k, a, b, rfl, hk, ha, hb, h0, h7⟩ := may_nat h
  have g1 := opS_word ⟨k, hk⟩
  obtain ⟨f1, f2, _⟩ := dig_facts ⟨a, ha⟩
  obtain ⟨e1, e2, _⟩ := dig_facts ⟨b, hb⟩
  dsimp only at g1 f1 f2 e1 e2
  unfold parts
  dsimp only
  rcases numZ_cases (k : Int) with hn | hn | hn
  · have hk0 : k = 0 := by
      unfold numZ at hn; split at hn
      · omega
      · split at hn <;> omega
    have ha0 := h0 hk0
    have hb0 := h7 (by omega)
    subst ha0; subst hb0
    rw [if_pos hn]
    unfold paW
    have hw : wat [wordB (k : Int)] 0 = wordB (k : Int) := rfl
    rw [hw, g1]
    simp only
    rw [hn, if_pos (by simp), if_pos (by rfl)]
    rfl
  · have hb0 : b = 0 := h7 (fun e => by subst e; exact absurd hn (by decide))
    subst hb0
    rw [if_neg (by omega), if_pos hn]
    unfold paW
    have hw : wat [wordB (k : Int), digB (a : Int)] 0 = wordB (k : Int) := rfl
    rw [hw, g1]
    simp only
    rw [hn, if_pos (by simp), if_pos (by show okUp _ 1 = true; unfold okUp; simp [wat, f1])]
    show (({ op := (k : Int), a := valL (tx (digB (a : Int))), b := 0 } : Ins), (0 : Int)) = _
    rw [f2]; rfl
  · rw [if_neg (by omega), if_neg (by omega)]
    unfold paW
    have hw : wat [wordB (k : Int), digB (a : Int), digB (b : Int)] 0 = wordB (k : Int) := rfl
    rw [hw, g1]
    simp only
    rw [hn, if_pos (by simp), if_pos (by show okUp _ 2 = true; unfold okUp; simp [wat, f1, e1, List.range_succ])]
    show (({ op := (k : Int), a := valL (tx (digB (a : Int))), b := valL (tx (digB (b : Int))) } : Ins), (0 : Int)) = _
    rw [f2, e2]
theorem parts_ne (x : Ins) : parts x ≠ [] := by
  unfold parts; split
  · simp
  · split <;> simp
theorem paZ_one {x : Ins} (h : mayZ x = true) : paZ (oneB x) = (x, 0) := by
  unfold paZ
  rw [pcB_split spB 32 [] rfl (parts x) (parts_ne x) (fun p hp => (free_of (parts_free h p hp)).1) _ (oneB_join x)]
  exact paW_parts h
theorem oneB_free {x : Ins} (h : mayZ x = true) : 59 ∉ (oneB x).data.toList := by
  rw [oneB_join]
  have hf := parts_free h
  have : ∀ (X : List ByteArray), (∀ p ∈ X, p.data.toList.all (fun b => b != 32 && b != 59) = true) → 59 ∉ Lib.join (X.map (·.data.toList)) spB.data.toList := by
    intro X
    induction X with
    | nil => intro _ h; simp [Lib.join, List.intercalate] at h
    | cons y r ih =>
      intro hX
      by_cases hr : r = []
      · subst hr; simp only [List.map_cons, List.map_nil]; rw [Lib.join_one]; exact (free_of (hX y (by simp))).2
      · rw [List.map_cons, jn_cons _ _ _ (fun e => hr (List.map_eq_nil_iff.1 e))]
        intro hm
        rcases List.mem_append.1 hm with hm | hm
        · rcases List.mem_append.1 hm with hm | hm
          · exact (free_of (hX y (by simp))).2 hm
          · revert hm; decide
        · exact ih (fun p hp => hX p (List.mem_cons_of_mem _ hp)) hm
  exact this _ hf
theorem oneB_pos {x : Ins} (h : mayZ x = true) : 1 ≤ (oneB x).size := by
  obtain ⟨k, a, b, rfl, hk, _⟩ := may_nat h
  have := (word_facts ⟨k, hk⟩).2
  unfold oneB
  dsimp only at this ⊢
  split
  · exact this
  · split <;> simp only [ByteArray.size_append] <;> omega
theorem peF_map : ∀ (L : List Ins) (k : Nat) (acc : List Ins), k + L.length ≤ 24 → (∀ x ∈ L, mayZ x = true) → peF (L.map oneB) k acc = (acc ++ L, 0, 0)
  | [], k, acc, _, _ => by simp [peF]
  | x :: L, k, acc, h, hm => by
    have hx := paZ_one (hm x (by simp))
    simp only [List.length_cons] at h
    rw [List.map_cons, peF, if_neg (by omega), hx, if_pos rfl, peF_map L (k + 1) _ (by omega) (fun y hy => hm y (List.mem_cons_of_mem _ hy))]
    simp
theorem pe_pr (L : List Ins) (hL : L.length ≤ 24) (hm : L.all mayZ = true) : peZ (prB L) = (L, 0, 0) := by
  have hm' := List.all_eq_true.1 hm
  by_cases h0 : L = []
  · subst h0; decide +kernel
  · have hsz := prB_size L 24
    rw [List.take_of_length_le hL] at hsz
    have hpc : pcB (prB L) sepB = L.map oneB := pcB_split sepB 59 [32] rfl (L.map oneB) (fun e => h0 (List.map_eq_nil_iff.1 e)) (fun p hp => by
      obtain ⟨x, hx, rfl⟩ := List.mem_map.1 hp
      exact oneB_free (hm' x hx)) _ (prB_join _ L rfl).symm
    have hne : ¬ prB L = ⟨#[]⟩ := fun e => by
      rw [e] at hpc
      have h1 : pcB ⟨#[]⟩ sepB = [⟨#[]⟩] := by decide +kernel
      rw [h1] at hpc
      obtain ⟨x, r, rfl⟩ := List.exists_cons_of_ne_nil h0
      simp only [List.map_cons, List.cons.injEq] at hpc
      have := oneB_pos (hm' x (by simp))
      rw [← hpc.1] at this
      exact absurd this (by decide)
    unfold peZ
    rw [if_neg (by omega), if_neg hne, hpc, peF_map L 0 [] (by omega) hm']
    rfl
theorem opS_some (x : ByteArray) : ∀ k j, opS k x = some j → x = wordB (j : Int)
  | 0, j, h => by cases h
  | k + 1, j, h => by
    unfold opS at h
    split at h
    · rename_i e; cases h; exact e
    · exact opS_some x k j h
theorem dig_back {y : ByteArray} (h : okL (tx y) = true) : digB (valL (tx y)) = y := by
  unfold okL at h
  simp only [Bool.and_eq_true, decide_eq_true_eq, Bool.or_eq_true] at h
  obtain ⟨⟨⟨h1, h3⟩, hd⟩, hl⟩ := h
  unfold digB
  rw [digF_yes (tx y) hd h1 h3 hl, strOf_tx]
theorem paW_back (W : List ByteArray) (h : (paW W).2 = 0) : parts (paW W).1 = W := by
  unfold paW at h ⊢
  cases hop : opS 14 (wat W 0) with
  | none => rw [hop] at h; exact absurd h (show ¬ (11 : Int) = 0 by decide)
  | some j =>
    rw [hop] at h
    simp only at h ⊢
    by_cases hn : (W.length : Int) = 1 + numZ (j : Int)
    · rw [if_pos hn] at h ⊢
      by_cases hk : okUp W (W.length - 1) = true
      · rw [if_pos hk]
        have hw := opS_some _ 14 j hop
        unfold parts
        dsimp only
        rcases numZ_cases (j : Int) with e | e | e
        · rw [e] at hn
          match W, hn with
          | [y], _ => rw [if_pos e, ← hw]; rfl
        · rw [e] at hn
          match W, hn, hk with
          | [y, z], _, hk =>
            have hz := okUp_at hk (i := 0) (show 0 < 1 by decide)
            rw [if_neg (by omega), if_pos e, ← hw]
            show [y, digB (valL (tx z))] = [y, z]
            have e1 : digB (valL (tx z)) = z := dig_back hz
            rw [e1]
        · rw [e] at hn
          match W, hn, hk with
          | [y, z, u], _, hk =>
            have hz := okUp_at hk (i := 0) (show 0 < 2 by decide)
            have hu := okUp_at hk (i := 1) (show 1 < 2 by decide)
            rw [if_neg (by omega), if_neg (by omega), ← hw]
            show [y, digB (valL (tx z)), digB (valL (tx u))] = [y, z, u]
            have e1 : digB (valL (tx z)) = z := dig_back hz
            have e2 : digB (valL (tx u)) = u := dig_back hu
            rw [e1, e2]
      · rw [if_neg hk] at h; exact absurd h (show ¬ (12 : Int) = 0 by decide)
    · rw [if_neg hn] at h; exact absurd h (show ¬ (12 : Int) = 0 by decide)
theorem one_paZ {p : ByteArray} (h : (paZ p).2 = 0) : oneB (paZ p).1 = p := by
  apply bytes_ext
  rw [oneB_join]
  unfold paZ at h ⊢
  rw [paW_back _ h]
  exact pcB_join spB (by decide) _ p (Nat.le_refl _)
theorem peF_back : ∀ (P : List ByteArray) (k : Nat) (acc : List Ins), k ≤ 24 → (peF P k acc).2.2 = 0 → k + P.length ≤ 24 ∧ (∀ p ∈ P, (paZ p).2 = 0) ∧ peF P k acc = (acc ++ P.map (fun p => (paZ p).1), 0, 0)
  | [], k, acc, hk, _ => ⟨hk, fun p hp => by simp at hp, by simp [peF]⟩
  | p :: P, k, acc, hk, h => by
    rw [peF] at h ⊢
    by_cases h24 : k = 24
    · rw [if_pos h24] at h; exact absurd h (show ¬ (2 : Int) = 0 by decide)
    · rw [if_neg h24] at h ⊢
      by_cases hp : (paZ p).2 = 0
      · rw [if_pos hp] at h ⊢
        obtain ⟨h1, h2, h3⟩ := peF_back P (k + 1) _ (by omega) h
        refine ⟨by simp; omega, fun q hq => ?_, by rw [h3]; simp⟩
        rcases List.mem_cons.1 hq with rfl | hq
        · exact hp
        · exact h2 q hq
      · rw [if_neg hp] at h; exact absurd h hp
theorem pe_ok {s : ByteArray} (h : (peZ s).2.2 = 0) : prB (peZ s).1 = s ∧ (peZ s).1.length ≤ 24 ∧ (peZ s).1.all mayZ = true := by
  unfold peZ at h ⊢
  by_cases h1 : 1000 < s.size
  · rw [if_pos h1] at h; exact absurd h (show ¬ (10 : Int) = 0 by decide)
  · rw [if_neg h1] at h ⊢
    by_cases h0 : s = ⟨#[]⟩
    · rw [if_pos h0]; subst h0; exact ⟨rfl, by decide, rfl⟩
    · rw [if_neg h0] at h ⊢
      obtain ⟨g1, g2, g3⟩ := peF_back _ 0 [] (by decide) h
      rw [g3]
      dsimp only
      rw [List.nil_append]
      refine ⟨?_, by rw [List.length_map]; omega, ?_⟩
      · apply bytes_ext
        rw [← prB_join _ _ rfl, List.map_map (g := oneB)]
        have e : (pcB s sepB).map (oneB ∘ fun p => (paZ p).1) = pcB s sepB := by
          conv => rhs; rw [← List.map_id (pcB s sepB)]
          exact List.map_congr_left fun p hp => one_paZ (g2 p hp)
        rw [e]
        exact pcB_join sepB (by decide) _ s (Nat.le_refl _)
      · rw [List.all_map, List.all_eq_true]
        exact fun p hp => paW_may _ (g2 p hp)
theorem pe_no {s : ByteArray} (h : (peZ s).2.2 ≠ 0) : (peZ s).1 = [] := by
  have : ∀ (P : List ByteArray) (k : Nat) (acc : List Ins), (peF P k acc).2.2 ≠ 0 → (peF P k acc).1 = [] := by
    intro P
    induction P with
    | nil => intro k acc h; exact absurd rfl h
    | cons p P ih =>
      intro k acc h
      rw [peF] at h ⊢
      split at h
      · rename_i e; rw [if_pos e]
      · rename_i e
        rw [if_neg e]
        split at h
        · rename_i e2; rw [if_pos e2]; exact ih _ _ h
        · rename_i e2; rw [if_neg e2]
  unfold peZ at h ⊢
  split at h
  · rename_i e; rw [if_pos e]
  · rename_i e
    rw [if_neg e]
    split at h
    · rename_i e2; rw [if_pos e2]
    · rename_i e2; rw [if_neg e2]; exact this _ _ _ h
theorem pr_append (A : List Ins) : ∀ (n : Nat) (B : List Ins), B.length = n → prB (A ++ B) = if A = [] then prB B else if B = [] then prB A else prB A ++ sepB ++ prB B
  | 0, B, h => by
    rw [List.eq_nil_of_length_eq_zero h, List.append_nil, if_pos rfl]
    split
    · rename_i e; rw [e]
    · rfl
  | n + 1, B, h => by
    rcases List.eq_nil_or_concat B with rfl | ⟨B', x, rfl⟩
    · simp at h
    · rw [List.concat_eq_append] at h ⊢
      have hB : B'.length = n := by simpa using h
      by_cases hA : A = []
      · subst hA; rw [if_pos rfl]; rfl
      · have hA1 : 0 < A.length := List.length_pos_iff.2 hA
        rw [if_neg hA, if_neg (by simp), ← List.append_assoc, prB_snoc, if_pos (by rw [List.length_append]; omega), pr_append A n B' hB, if_neg hA, prB_snoc]
        by_cases hB0 : B' = []
        · subst hB0
          rw [if_pos rfl, if_neg (by decide)]
          have e : prB [] = ⟨#[]⟩ := rfl
          rw [e]
          apply bytes_ext
          simp [ByteArray.data_append]
        · rw [if_neg hB0, if_pos (List.length_pos_iff.2 hB0)]
          simp only [ByteArray.append_assoc]
end Go.Proofs.YtpdlfijcicboiaaDoor
