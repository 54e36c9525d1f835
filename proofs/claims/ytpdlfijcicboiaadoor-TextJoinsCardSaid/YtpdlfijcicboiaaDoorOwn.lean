/- Slices of ints of the call's own. -/
import Derived.Test.YtpdlfijcicboiaaDoorRows2
import Derived.Test.YtpdlfijcicboiaaDoorRec
namespace Go.Proofs.YtpdlfijcicboiaaDoor
open Go.RowKit
set_option linter.unusedSimpArgs false
set_option linter.unusedVariables false

theorem Tryd.info3 : (Tryd.prog.info? 3).map (fun i => (i.zero, i.size, i.bytes)) = some (some (.int .i64 0), 1, 8) := by kernel_rfl
theorem Tryd.info3s : (Tryd.prog.info? 3).map (·.size) = some 1 := by kernel_rfl

def NewInts (w : World) (L : List Int) (e : Ending) (w' : World) : Prop := ∃ g n, e = .returned (.slice (some ⟨g, 0, none⟩) n n) ∧ Ints w' (some ⟨g, 0, none⟩) n n L ∧ Below w.heap.size w w'

abbrev ints (l : List Int) : List Value := l.map (Value.int .i64)

theorem row_of_own {w : World} {base e g n : Nat} {xs : List Value} (h : w.ownsRow base e 1 (.slice (some ⟨g, 0, none⟩) n n) n xs) : w.heap[g]? = some (.cells xs.toArray e (0, 0)) := by
  rcases h.2 with ⟨h', _⟩ | ⟨g', cap', cur, h', _, hg, _, _, hcs, htake⟩
  · simp at h'
  · simp only [Value.slice.injEq, Option.some.injEq, Addr.mk.injEq, and_true, true_and] at h'
    obtain ⟨rfl, rfl⟩ := h'
    rw [List.take_of_length_le (by rw [Array.length_toList, hcs]; exact Nat.le_refl _)] at htake
    rw [hg, ← htake]

theorem Ints.src {w : World} {a : Option Addr} {len cap : Nat} {l : List Int} (h : Ints w a len cap l) (hp : 0 < len) :
    ∃ ad, a = some ad ∧ ∀ (j : Nat) v, (ints l)[j]? = some v → w.cell? (ad.add j) = some v := by
  obtain ⟨b, off, rfl, _⟩ := h.cell 0 hp
  refine ⟨_, rfl, fun j v hv => ?_⟩
  have hj : j < l.length := by
    have := (List.getElem?_eq_some_iff.1 hv).1
    simpa [ints] using this
  obtain ⟨b', off', he, hc⟩ := h.cell j (by rw [← h.len_eq]; exact hj)
  simp only [Option.some.injEq, Addr.mk.injEq, and_true] at he
  obtain ⟨rfl, rfl⟩ := he
  rw [Addr.add_lit, hc, ← hv]
  simp [ints, en_get l j hj, hj]

theorem Ints.of_row {w : World} {g n e : Nat} {L : List Int} (h : w.heap[g]? = some (.cells (ints L).toArray e (0, 0))) (hn : L.length = n) (hm : n ≤ maxLen) (hb : ∀ i, I64 (en L i)) :
    Ints w (some ⟨g, 0, none⟩) n n L := by
  refine ⟨hn, Nat.le_refl _, hm, fun h => by simp at h, hb, fun i hi => ⟨g, 0, rfl, ?_⟩⟩
  rw [Nat.zero_add, cell_of_row w g i _ e (0, 0) h]
  simp [ints, en_get L i (by omega), hn, hi]



def GotInts (w : World) (L : List Int) (e : Ending) (w' : World) : Prop := ∃ a n cap, e = .returned (.slice a n cap) ∧ Ints w' a n cap L ∧ Below w.heap.size w w'
/-- what a slice of ints of the call's own is: it is owned from block base on -/
def Own (w : World) (base : Nat) (v : Value) (L : List Int) : Prop := w.ownsRow base 3 1 v L.length (ints L)

theorem Own.ints {w : World} {base : Nat} {v : Value} {L : List Int} (h : Own w base v L) (hb : ∀ i, I64 (en L i)) :
    ∃ a cap, v = .slice a L.length cap ∧ Ints w a L.length cap L := by
  rcases h.2 with ⟨hv, hn⟩ | ⟨g, cap, cur, hv, hg, hh, hnc, hcm, hcs, htake⟩
  · have : L = [] := List.eq_nil_of_length_eq_zero hn
    subst this
    exact ⟨none, 0, hv, Ints.nil w⟩
  · refine ⟨_, cap, hv, rfl, hnc, hcm, fun h => by simp at h, hb, fun i hi => ⟨g, 0, rfl, ?_⟩⟩
    rw [Nat.zero_add, cell_of_row w g i _ 3 (0, 0) hh]
    have e : cur[i]? = (cur.toList.take (L.length * 1))[i]? := by
      rw [List.getElem?_take, if_pos (by omega)]; simp
    rw [e, htake]
    simp [Go.Proofs.YtpdlfijcicboiaaDoor.ints, en_get L i hi, hi]

/-- one number more, behind a slice of the call's own -/
theorem app1 {ops : Array Oper} {rest : List Oper} {o : Oper} {a : Act} {Q : Exit → Act → World → Prop} {wr : World} (hgd : o.guard = none) (s x : Operand)
    (ho : o.op = .call { callee := .builtin .append, args := #[s, x], argTypes := #[66, 66] }) (base : Nat) (v : Value) (L : List Int) (hs : a.eval s = v) (hown : Own wr base v L) (n : Int)
    (hx : a.eval x = .slice (some ⟨wr.heap.size, 0, none⟩) 1 1) (hlen : L.length ≤ 1000000) (w0 : World) (hb : Below base w0 wr) (hbase : base ≤ wr.heap.size)
    (h : ∀ v' w', Hid (Own w' base v' (L ++ [n])) → Hid (Below base w0 w') → wpList Tryd.prog ops Q rest (a.put o.dst v') w') :
    wpList Tryd.prog ops Q (o :: rest) a (wr.alloc (.cells #[.int .i64 n] 3)) := by
  obtain ⟨i0, hi, hz0, hz1, hz2⟩ := info_parts Tryd.info3
  refine wpList_append_own _ hgd s x 66 ho base 3 i0 (.int .i64 0) 1 8 Tryd.underlying66 hi hz0 hz1 hz2 rfl (by decide) v L.length (ints L) hs (hown.alloc _) ⟨wr.heap.size, 0, none⟩ 1 1 [.int .i64 n] hx rfl ?_ ?_ (by unfold maxLen; omega) (by omega) (by simp; omega) ?_
  · intro j u hj
    match j, hj with
    | 0, hj =>
      simp at hj; subst hj
      have hr : (wr.alloc (.cells #[.int .i64 n] 3)).heap[wr.heap.size]? = some (.cells #[.int .i64 n] 3) := heap_alloc_new wr _
      rw [show (⟨wr.heap.size, 0, none⟩ : Addr).add 0 = ⟨wr.heap.size, 0, none⟩ from rfl, cell_of_row _ _ 0 _ 3 (0, 0) hr]; rfl
  · intro u hu; simp at hu; subst hu; rfl
  · intro v' w' ho' hg _
    refine h v' w' ?_ ?_
    · have e : ints (L ++ [n]) = ints L ++ [.int .i64 n] := by simp [ints]
      show w'.ownsRow base 3 1 v' (L ++ [n]).length (ints (L ++ [n]))
      rw [e, List.length_append]; exact ho'
    · exact (hb.alloc hbase _).grown hg (by simp; omega) (fun k hk => (World.ownsRow.lt hown k hk).1)

theorem app1b {ops : Array Oper} {rest : List Oper} {o : Oper} {a : Act} {Q : Exit → Act → World → Prop} {wr : World} (hgd : o.guard = none) (s x : Operand)
    (ho : o.op = .call { callee := .builtin .append, args := #[s, x], argTypes := #[66, 66] }) (base : Nat) (v : Value) (L : List Int) (hs : a.eval s = v) (hown : Own wr base v L) (n : Int) (B : Nat) (hB : wr.heap.size = B)
    (hx : a.eval x = .slice (some ⟨B, 0, none⟩) 1 1) (hlen : L.length ≤ 1000000) (w0 : World) (hb : Below base w0 wr) (hbase : base ≤ wr.heap.size)
    (h : ∀ v' w', Hid (Own w' base v' (L ++ [n])) → Hid (Below base w0 w') → wpList Tryd.prog ops Q rest (a.put o.dst v') w') :
    wpList Tryd.prog ops Q (o :: rest) a (wr.alloc (.cells #[.int .i64 n] 3)) := by
  subst hB; exact app1 hgd s x ho base v L hs hown n hx hlen w0 hb hbase h

theorem own_nil (w : World) : Own (w.alloc (.cells #[] 3)) w.heap.size (.slice (some ⟨w.heap.size, 0, none⟩) 0 0) [] :=
  World.ownsRow_lit w #[] 0 (Nat.le_refl _) (by decide) rfl

theorem small_i64 (L : List Int) (h : L.all (fun n => decide (-1000 ≤ n ∧ n ≤ 1000)) = true) (i : Nat) : I64 (en L i) := by
  by_cases hi : i < L.length
  · rw [List.all_eq_true] at h
    have := h _ (en_mem L i hi)
    simp at this; unfold I64; omega
  · rw [en_of_le L i (by omega)]; exact ⟨by omega, by omega⟩
theorem ints_lit (w : World) (L : List Int) (n : Nat) (hn : L.length = n) (hm : n ≤ 1000) (hb : ∀ i, I64 (en L i)) : Ints (w.alloc (.cells (ints L).toArray 3)) (some ⟨w.heap.size, 0, none⟩) n n L :=
  Ints.of_row (heap_alloc_new w _) hn (by unfold maxLen; omega) hb


end Go.Proofs.YtpdlfijcicboiaaDoor
