/- Plain facts: what is encoded is read as it was; what is cut is too short. -/
import Derived.Test.YtddkckppmjcclaaH1
namespace Go.Proofs.Ytddkckppmjcclaa
open Go.RowKit
set_option linter.unusedSimpArgs false
set_option linter.unusedVariables false
/-- from i on the text has the numbers L, small ones, and then R -/
def Has (T : List Int) (i : Nat) (L : List Int) (R : List Int) : Prop := i ≤ T.length ∧ T.drop i = allL L ++ R ∧ ∀ n ∈ L, sm n
theorem Has.head {T : List Int} {i : Nat} {n : Int} {L R : List Int} (h : Has T i (n :: L) R) : ∃ j, nP T i = .ok n j ∧ Has T j L R := by
  obtain ⟨hi, hd, hs⟩ := h
  have hn := hs n (by simp)
  unfold sm at hn
  have e : allL (n :: L) = putL n ++ allL L := by unfold allL; rw [List.flatMap_cons]
  rw [e, List.append_assoc] at hd
  have hg := get_put n (allL L ++ R) hn.1 (by omega)
  rw [← hd] at hg
  have hlen : (T.drop i).length = (putL n).length + (allL L ++ R).length := by rw [hd, List.length_append]
  rw [List.length_drop] at hlen
  refine ⟨i + (putL n).length, ?_, by omega, ?_, fun m hm => hs m (List.mem_cons_of_mem _ hm)⟩
  · unfold nP; rw [hg]; rfl
  · rw [← List.drop_drop, hd, List.drop_left' rfl]
theorem pair_head {T : List Int} {i : Nat} {n : Int} {b : Bool} {L R : List Int} (h : Has T i (pairN n b :: L) R) : ∃ j, pairP T i = .ok (n, b) j ∧ Has T j L R := by
  obtain ⟨j, h1, h2⟩ := h.head
  refine ⟨j, ?_, h2⟩
  unfold pairP; rw [h1]; simp only [Res.bind]
  congr 1
  unfold pairN
  cases b
  · rw [if_neg (by simp)]; refine Prod.ext ?_ ?_
    · show (2 * n + 0) / 2 = n; omega
    · show decide ((2 * n + 0) % 2 = 1) = false; simp
  · rw [if_pos rfl]; refine Prod.ext ?_ ?_
    · show (2 * n + 1) / 2 = n; omega
    · show decide ((2 * n + 1) % 2 = 1) = true; simp
theorem size_head {T : List Int} {i : Nat} {n m : Int} {L R : List Int} (hm : n ≤ m) (h : Has T i (n :: L) R) : ∃ j, sizeP T m i = .ok n j ∧ Has T j L R := by
  obtain ⟨j, h1, h2⟩ := h.head
  refine ⟨j, ?_, h2⟩
  unfold sizeP; rw [h1]; simp only [Res.bind]; rw [if_neg (by omega)]
theorem rep_has {α : Type} {T : List Int} {f : Nat → Res α} {g : α → List Int} {P : α → Prop} (hf : ∀ i a L R, P a → Has T i (g a ++ L) R → ∃ j, f i = .ok a j ∧ Has T j L R) :
    ∀ {l : List α} {i : Nat} {L R : List Int}, (∀ a ∈ l, P a) → Has T i (l.flatMap g ++ L) R → ∃ j, repP f l.length i = .ok l j ∧ Has T j L R
  | [], i, L, R, _, h => ⟨i, rfl, by simpa using h⟩
  | a :: l, i, L, R, hp, h => by
    rw [List.flatMap_cons, List.append_assoc] at h
    obtain ⟨j, h1, h2⟩ := hf i a _ R (hp a (by simp)) h
    obtain ⟨k, h3, h4⟩ := rep_has hf (fun b hb => hp b (List.mem_cons_of_mem _ hb)) h2
    refine ⟨k, ?_, h4⟩
    rw [List.length_cons, repP, h1]; simp only [Res.bind]; rw [h3]
theorem ins_has {T : List Int} {i : Nat} {x : Ins} {L R : List Int} (hx : (x.op = 0 → x.a = 0 ∧ x.b = 0) ∧ (x.op ≠ 7 → x.b = 0)) (h : Has T i (insN x ++ L) R) : ∃ j, insP T i = .ok x j ∧ Has T j L R := by
  obtain ⟨op, a, b⟩ := x
  dsimp only at hx
  unfold insN at h
  dsimp only at h
  by_cases h0 : op = 0
  · subst h0
    obtain ⟨rfl, rfl⟩ := hx.1 rfl
    rw [if_pos rfl] at h
    obtain ⟨j, h1, h2⟩ := Has.head (by simpa using h)
    exact ⟨j, by unfold insP; rw [h1]; simp only [Res.bind]; rfl, h2⟩
  · rw [if_neg h0] at h
    by_cases h7 : op = 7
    · subst h7
      rw [if_pos rfl] at h
      obtain ⟨j, h1, h2⟩ := Has.head (L := a :: b :: L) (by simpa using h)
      obtain ⟨j2, h3, h4⟩ := h2.head
      obtain ⟨j3, h5, h6⟩ := h4.head
      refine ⟨j3, ?_, h6⟩
      unfold insP; rw [h1]; simp only [Res.bind]; rw [if_neg h0, h3]; simp only []; rw [if_pos trivial, h5]
    · rw [if_neg h7] at h
      have hb := hx.2 h7
      subst hb
      obtain ⟨j, h1, h2⟩ := Has.head (L := a :: L) (by simpa using h)
      obtain ⟨j2, h3, h4⟩ := h2.head
      refine ⟨j2, ?_, h4⟩
      unfold insP; rw [h1]; simp only [Res.bind]; rw [if_neg h0, h3]; simp only []; rw [if_neg h7]
/-- an instruction that is right leaves what is not written at 0 -/
theorem ins_zero {p : Pr} {bl : Nat} {x : Ins} (hx : instrZ p bl x = 0) : (x.op = 0 → x.a = 0 ∧ x.b = 0) ∧ (x.op ≠ 7 → x.b = 0) := by
  unfold instrZ at hx
  by_cases h1 : belowZ x.op 14 = false
  · rw [if_pos h1] at hx; cases hx
  · rw [if_neg h1] at hx
    by_cases h2 : belowZ x.a (mostZ p x.op bl) = false
    · rw [if_pos h2] at hx; cases hx
    · rw [if_neg h2] at hx
      by_cases h3 : x.b < 0 ∨ lastZ x.op bl < x.b
      · rw [if_pos h3] at hx; cases hx
      · simp [belowZ] at h1 h2
        refine ⟨fun h0 => ?_, fun h7 => ?_⟩
        · have hm := h2.2
          rw [h0] at hm h3
          have e : mostZ p 0 bl = 1 := by unfold mostZ; simp
          have e2 : lastZ 0 bl = 0 := by unfold lastZ; simp
          rw [e] at hm; rw [e2] at h3
          omega
        · have e2 : lastZ x.op bl = 0 := by unfold lastZ; rw [if_neg h7]
          rw [e2] at h3
          omega
theorem blk_has {p : Pr} {T : List Int} {i : Nat} {x : List Ins} {L R : List Int} (hx : (blkZ p x).2 = 0) (h : Has T i (blkN x ++ L) R) : ∃ j, blkP T i = .ok x j ∧ Has T j L R := by
  obtain ⟨hl, hi⟩ := blk_ins hx
  unfold blkN at h
  rw [List.cons_append] at h
  obtain ⟨j, h1, h2⟩ := size_head (m := 24) (by omega) h
  obtain ⟨k, h3, h4⟩ := rep_has (f := insP T) (P := fun x => (x.op = 0 → x.a = 0 ∧ x.b = 0) ∧ (x.op ≠ 7 → x.b = 0)) (fun i a L R hp h => ins_has hp h) (fun a ha => ins_zero (hi a ha)) h2
  refine ⟨k, ?_, h4⟩
  unfold blkP; rw [h1]; simp only [Res.bind]; rw [Int.toNat_natCast]; exact h3
theorem cas_has {T : List Int} {i : Nat} {x : Cas} {L R : List Int} (h : Has T i ([pairN x.chan x.send] ++ L) R) : ∃ j, casP T i = .ok x j ∧ Has T j L R := by
  obtain ⟨j, h1, h2⟩ := pair_head (by simpa using h)
  exact ⟨j, by unfold casP; rw [h1]; rfl, h2⟩
theorem sel_has {T : List Int} {i : Nat} {x : Sel} {L R : List Int} (hx : x.cs.length ≤ 4) (h : Has T i (selN x ++ L) R) : ∃ j, selP T i = .ok x j ∧ Has T j L R := by
  unfold selN at h
  rw [List.cons_append] at h
  obtain ⟨j, h1, h2⟩ := pair_head h
  rw [← flat_one] at h2
  obtain ⟨k, h3, h4⟩ := rep_has (f := casP T) (g := fun c : Cas => [pairN c.chan c.send]) (P := fun _ => True) (fun i a L R _ h => cas_has h) (fun _ _ => trivial) h2
  refine ⟨k, ?_, h4⟩
  unfold selP; rw [h1]; simp only [Res.bind]; rw [if_neg (by omega), Int.toNat_natCast, h3]
theorem cap_has {T : List Int} {i : Nat} {x : Int} {L R : List Int} (h : Has T i ([x + 1] ++ L) R) : ∃ j, capP T i = .ok x j ∧ Has T j L R := by
  obtain ⟨j, h1, h2⟩ := Has.head (by simpa using h)
  refine ⟨j, ?_, h2⟩
  unfold capP; rw [h1]; simp only [Res.bind]; rw [show x + 1 - 1 = x by omega]
/-- WHAT IS ENCODED IS READ AS IT WAS -/
theorem enc_read {p : Pr} (hr : rightP p = true) (R : List Int) : prgP (allL (numL p) ++ R) 0 = .ok p (allL (numL p)).length := by
  obtain ⟨ht, hbk⟩ := right_parts hr
  have hn := tab_nums ht
  have hsl := sels_ok ht
  obtain ⟨T, hT⟩ : ∃ T, T = allL (numL p) ++ R := ⟨_, rfl⟩
  have H : Has T 0 (numL p ++ []) R := ⟨Nat.zero_le _, by rw [hT, List.drop_zero, List.append_nil], by rw [List.append_nil]; exact numL_small hr⟩
  rw [← hT]
  have e : numL p ++ [] = (p.caps.length : Int) :: ((p.caps.flatMap fun a => [a + 1]) ++ (p.mu :: p.on :: p.va :: (p.sels.length : Int) :: (p.sels.flatMap selN ++ ((p.blks.length : Int) :: (p.blks.flatMap blkN ++ []))))) := by
    unfold numL headN; rw [flat_one]; simp
  rw [e] at H
  obtain ⟨j0, h1, H⟩ := size_head (m := 4) (by omega) H
  obtain ⟨j1, h2, H⟩ := rep_has (f := capP T) (g := fun a : Int => [a + 1]) (P := fun _ => True) (fun i a L R _ h => cap_has h) (fun _ _ => trivial) H
  obtain ⟨j2, h3, H⟩ := H.head
  obtain ⟨j3, h4, H⟩ := H.head
  obtain ⟨j4, h5, H⟩ := H.head
  obtain ⟨j5, h6, H⟩ := size_head (m := 4) (by omega) H
  obtain ⟨j6, h7, H⟩ := rep_has (f := selP T) (g := selN) (P := fun s => s.cs.length ≤ 4) (fun i a L R hp h => sel_has hp h) (fun s hs => (hsl s hs).1) H
  obtain ⟨j7, h8, H⟩ := size_head (m := 6) (by omega) H
  obtain ⟨j8, h9, H⟩ := rep_has (f := blkP T) (g := blkN) (P := fun b => (blkZ p b).2 = 0) (fun i a L R hp h => blk_has hp h) hbk H
  have hres : prgP T 0 = .ok p j8 := by
    rw [prgP_eq, h1]; simp only [Res.bind]; rw [Int.toNat_natCast, h2]; simp only [prg2]; rw [h3]; simp only [Res.bind]; rw [h4]; simp only []; rw [h5]; simp only [prg3]
    rw [h6]; simp only [Res.bind]; rw [Int.toNat_natCast, h7]; simp only [prg4]; rw [h8]; simp only [Res.bind]; rw [Int.toNat_natCast, h9]
  have hj : j8 = (allL (numL p)).length := by
    obtain ⟨q1, q2, _⟩ := H
    have hl := congrArg List.length q2
    rw [List.length_drop, hT] at hl
    rw [hT] at q1
    simp [allL] at hl
    have : (allL (numL p)).length = ((numL p).flatMap putL).length := rfl
    rw [List.length_append] at q1
    simp [allL] at q1 ⊢
    omega
  rw [hres, hj]
end Go.Proofs.Ytddkckppmjcclaa
