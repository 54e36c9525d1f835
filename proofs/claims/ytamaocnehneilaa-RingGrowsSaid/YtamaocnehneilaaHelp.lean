/- For the walks of the laws: boxes, appends within a region. -/
import Derived.Test.YtamaocnehneilaaIs
import Derived.Test.YtamaocnehneilaaAppN
namespace Go.Proofs.Ytamaocnehneilaa
open Go.RowKit

def Says (w : World) (e : Ending) (w' : World) : Prop := e = .returned (.bool true) ∧ Below w.heap.size w w'
def Box4 (W : World) (B : Nat) (v0 v1 v2 v3 : Value) : Prop := W.heap[B]? = some (.cells #[v0, v1, v2, v3] 24 (0, 0))
theorem Box4.below {W W' : World} {B : Nat} {v0 v1 v2 v3 : Value} (h : Box4 W B v0 v1 v2 v3) (hb : Below W.heap.size W W') : Box4 W' B v0 v1 v2 v3 := (hb.block _ (Array.getElem?_eq_some_iff.1 h).1).trans h
theorem Box4.cells {W : World} {B : Nat} {v0 v1 v2 v3 : Value} (h : Box4 W B v0 v1 v2 v3) : W.cell? ⟨B, 0, none⟩ = some v0 ∧ W.cell? ⟨B, 1, none⟩ = some v1 ∧ W.cell? ⟨B, 2, none⟩ = some v2 ∧ W.cell? ⟨B, 3, none⟩ = some v3 := cells4 h
theorem Box4.froz {W : World} {B : Nat} {v0 v1 v2 v3 : Value} (h : Box4 W B v0 v1 v2 v3) : W.frozen? ⟨B, 0, none⟩ = false ∧ W.frozen? ⟨B, 1, none⟩ = false ∧ W.frozen? ⟨B, 2, none⟩ = false ∧ W.frozen? ⟨B, 3, none⟩ = false := froz4 h
theorem Box4.lt {W : World} {B : Nat} {v0 v1 v2 v3 : Value} (h : Box4 W B v0 v1 v2 v3) : B < W.heap.size := (Array.getElem?_eq_some_iff.1 h).1
theorem Box4.new (W : World) (v0 v1 v2 v3 : Value) : Box4 (W.alloc (.cells #[v0, v1, v2, v3] 24)) W.heap.size v0 v1 v2 v3 := heap_alloc_new W _

theorem own_empty {w : World} {base B : Nat} (h : w.heap[B]? = some (.cells #[] 3 (0, 0))) (hB : base ≤ B) : Own w base (.slice (some ⟨B, 0, none⟩) 0 0) [] :=
  ⟨rfl, .inr ⟨B, 0, #[], rfl, hB, h, Nat.le_refl _, by decide, rfl, rfl⟩⟩

theorem step_appN {ops : Array Oper} {o : Oper} {a : Act} {w : World} {K : Act → World → Prop} {Q : Exit → Act → World → Prop} {E : Prop} (hgd : Region.wanted o (yielded ops a.tmps) = true) (s x : Operand)
    (ho : o.op = .call { callee := .builtin .append, args := #[s, x], argTypes := #[22, 22] }) (X : World) (v : Value) (L : List Int) (hs : a.eval s = v) (hown : Own w X.heap.size v L)
    (ax : Option Addr) (m cx : Nat) (M : List Int) (hx : a.eval x = .slice ax m cx) (hsrc : Ints w ax m cx M) (hlen : L.length ≤ 1000000) (hlen2 : m ≤ 1000000) (hb : Below X.heap.size X w)
    (h : ∀ v' w', Hid (Own w' X.heap.size v' (L ++ M)) → Hid (Below X.heap.size X w') → Hid (w.grownBy w' v.ownBlock) → K (a.put o.dst v') w') :
    if Region.wanted o (yielded ops a.tmps) = true then Oper.wp Try.prog o a w K Q else E := by
  rw [if_pos hgd]
  obtain ⟨i0, hi, hz0, hz1, hz2⟩ := info_parts Try.info3
  have hM := hsrc.len_eq
  cases ax with
  | none =>
    have hc := hsrc.none_ rfl
    have hl := hsrc.le_cap
    obtain rfl : cx = 0 := hc
    obtain rfl : m = 0 := by omega
    obtain rfl : M = [] := List.eq_nil_of_length_eq_zero hM
    have hrun := run_append_owned_none (P := Try.prog) (w := w) X.heap.size 22 o.type 3 i0 1 Try.underlying22 hi v L.length (ints L) hown
    unfold Oper.wp
    simp [execOp, ho, resolve, invoke, builtin, hs, hx, hrun, Result.andThen]
    exact h v w (by rw [List.append_nil]; exact hown) hb ⟨rfl, rfl, rfl, Nat.le_refl _, fun _ _ _ => rfl⟩
  | some ad =>
    have hcell : ∀ j u, (ints M)[j]? = some u → w.cell? (ad.add j) = some u := by
      intro j u hj
      have hjl : j < (ints M).length := (List.getElem?_eq_some_iff.1 hj).1
      have hjm : j < m := by simpa [ints, hM] using hjl
      obtain ⟨ad', he, hcell⟩ := hsrc.src (by omega)
      cases he
      exact hcell j u hj
    obtain ⟨v', w', hrun, r1, r2, _⟩ := run_append_own (P := Try.prog) w X.heap.size 22 o.type 3 i0 (.int .i64 0) 1 8 Try.underlying22 hi hz0 hz1 hz2 rfl (by decide) v L.length (ints L) hown ad m cx (ints M) (by simp [ints, hM]) hcell
      (by intro u hu; obtain ⟨z, _, rfl⟩ := List.mem_map.1 hu; rfl) (by unfold maxLen; omega) (by omega) hb.size
    unfold Oper.wp
    simp [execOp, ho, resolve, invoke, builtin, hs, hx, hrun, Result.andThen]
    refine h v' w' ?_ (hb.grown r2 hb.size (fun k hk => (World.ownsRow.lt hown k hk).1)) r2
    have e : ints (L ++ M) = ints L ++ ints M := by simp [ints]
    show w'.ownsRow X.heap.size 3 1 v' (L ++ M).length (ints (L ++ M))
    rw [e, List.length_append, hM]; exact r1
theorem belowX_alloc {X w : World} (h : Below X.heap.size X w) (o : Obj) : Below X.heap.size X (w.alloc o) := h.alloc h.size o
theorem ints_one {w : World} {g : Nat} {v : Int} (hv : I64 v) (h : w.heap[g]? = some (.cells #[.int .i64 v] 3 (0, 0))) : Ints w (some ⟨g, 0, none⟩) 1 1 [v] :=
  Ints.of_row (e := 3) h rfl (by decide) (fun i => by
    by_cases hi : i = 0
    · subst hi; exact hv
    · rw [en_of_le _ _ (by simp; omega)]; exact ⟨by omega, by omega⟩)
theorem Push_full' (c first count : Nat) (a : Option Addr) (cap : Nat) (v : Int) (w : World) (hc8 : c ≤ 8) (hf : first < max c 1) (h : count = c) :
    Calls Try.prog 8 #[ringV c first (.slice a c cap) count, .int .i64 v] w (NoRing w 5) := by subst h; exact Push_full _ _ _ _ _ _ hc8 hf
theorem Pop_none' (c first count : Nat) (a : Option Addr) (cap : Nat) (w : World) (hc8 : c ≤ 8) (hf : first < max c 1) (h : count = 0) :
    Calls Try.prog 9 #[ringV c first (.slice a c cap) count] w (NoPop w 4) := by subst h; exact Pop_none _ _ _ _ _ hc8 hf
theorem Ints.tail {w : World} {b off n cap : Nat} {x : Int} {L : List Int} (h : Ints w (some ⟨b, off, none⟩) n cap (x :: L)) : Ints w (some ⟨b, off + 1, none⟩) (n - 1) (cap - 1) L := by
  have h1 := h.len_eq; have h2 := h.le_cap; have h3 := h.cap_le
  simp only [List.length_cons] at h1
  refine ⟨by omega, by omega, by omega, fun e => by simp at e, fun i => by have := h.bound (i + 1); rwa [en_cons_succ] at this, fun i hi => ⟨b, off + 1, rfl, ?_⟩⟩
  obtain ⟨b', off', e, hc⟩ := h.cell (i + 1) (by omega)
  simp only [Option.some.injEq, Addr.mk.injEq, and_true] at e
  obtain ⟨rfl, rfl⟩ := e
  rw [en_cons_succ] at hc
  rw [← hc]; congr 2; omega
theorem Ints.tail0 {w : World} {a : Option Addr} {x : Int} {L : List Int} (h : Ints w a 1 1 (x :: L)) : Ints w a 0 0 L := by
  have h1 := h.len_eq
  simp at h1; subst h1
  exact ⟨rfl, Nat.le_refl _, by decide, fun _ => rfl, fun i => by rw [en_nil]; exact ⟨by omega, by omega⟩, fun i hi => absurd hi (by omega)⟩
theorem Own.alloc' {w : World} {base : Nat} {v : Value} {L : List Int} (h : Own w base v L) (o : Obj) : Own (w.alloc o) base v L := World.ownsRow.alloc h o
theorem app_i64 {T : List Int} {v : Int} (h : ∀ i, I64 (en T i)) (hv : I64 v) (i : Nat) : I64 (en ([] ++ T ++ [v]) i) := by
  rw [List.nil_append]
  by_cases hi : i < T.length
  · have := h i
    rw [en_get T i hi] at this
    rw [en_get _ i (by simp; omega), List.getElem_append_left hi]; exact this
  · by_cases h2 : i = T.length
    · subst h2
      rw [en_get _ _ (by simp)]; simpa using hv
    · rw [en_of_le _ _ (by simp; omega)]; exact ⟨by omega, by omega⟩
theorem app_len {T : List Int} {n : Nat} {v : Int} (h : T.length = n) : ([] ++ T ++ [v]).length = n + 1 := by simp [h]
theorem taken_grow {T : List Int} {n k : Nat} (h : T.length = k) (hk : k ≤ n) : takenL n 0 k (T ++ List.replicate (n - k) 0) = T := by
  unfold takenL
  have e : upto (fun i => en (T ++ List.replicate (n - k) 0) ((0 + i) % n)) k = upto (en T) k := by
    refine upto_congr fun i hi => ?_
    rw [Nat.zero_add, Nat.mod_eq_of_lt (by omega), en_get _ i (by simp; omega), en_get T i (by omega), List.getElem_append_left]
  rw [e, ← h]; exact upto_en T
theorem Is_yes0 (c first k : Nat) (a : Option Addr) (cap : Nat) (zs : List Int) (la : Option Addr) (w : World) (hI : Ints w a c cap zs) (hc8 : c ≤ 8) (hf : first < max c 1) (hk : k = 0) (hL : Ints w la 0 0 (takenL c first 0 zs)) :
    Calls Try.prog 16 #[ringV c first (.slice a c cap) k, .int .i64 c, .slice la 0 0] w fun e w' => e = .returned (.bool true) ∧ Below w.heap.size w w' := by
  subst hk; exact Is_yes c first 0 a cap zs la 0 w hI hc8 hf (by omega) hL
theorem Is_yes1 (c first k n : Nat) (a : Option Addr) (cap : Nat) (zs : List Int) (la : Option Addr) (lcap : Nat) (w : World) (hn : n = k + 1) (hI : Ints w a c cap zs) (hc8 : c ≤ 8) (hf : first < max c 1) (hk : k ≤ c) (hL : Ints w la (n - 1) lcap (takenL c first k zs)) :
    Calls Try.prog 16 #[ringV c first (.slice a c cap) k, .int .i64 c, .slice la (n - 1) lcap] w fun e w' => e = .returned (.bool true) ∧ Below w.heap.size w w' := by
  have e : n - 1 = k := by omega
  rw [e] at hL ⊢
  exact Is_yes c first k a cap zs la lcap w hI hc8 hf hk hL
end Go.Proofs.Ytamaocnehneilaa
