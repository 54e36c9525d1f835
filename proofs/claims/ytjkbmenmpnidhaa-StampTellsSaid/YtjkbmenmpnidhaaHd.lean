/- In a fence: what reads alone may be taken first, where some cells are as they were. -/
import Derived.Test.YtjkbmenmpnidhaaTk
import Derived.OrdersIn
import Derived.TacticsIn
namespace Go.Proofs.Ytjkbmenmpnidhaa
open Go.RowKit
set_option linter.unusedSimpArgs false
set_option linter.unusedVariables false
section
variable {n : Nat} {P : Program} {ops : Array Oper} {Q : Exit → Act → World → Prop} {md : Region.Mode} {S : World → Prop}
/-- any order from here on, S behind each operation -/
def heldIn (n : Nat) (P : Program) (md : Region.Mode) (ops : Array Oper) (Q : Exit → Act → World → Prop) (S : World → Prop) : Nat → Array Bool → Act → World → Prop
  | 0, ls, a, w => Region.ready md ops ls = [] ∧ Q .normal a w
  | k + 1, ls, a, w => (Region.ready md ops ls = [] → Q .normal a w) ∧ ∀ i ∈ Region.ready md ops ls, wpOpIn Fence.wide n P ops Q i (fun a' w' => S w' ∧ heldIn n P md ops Q S k (ls.setIfInBounds i true) a' w') a w
theorem heldIn.any : ∀ (k : Nat) (ls : Array Bool) (a : Act) (w : World), heldIn n P md ops Q S k ls a w → wpAnyIn Fence.wide n P md ops Q k ls a w
  | 0, _, _, _, h => h
  | k + 1, _, _, _, h => ⟨h.1, fun i hi => wpOpIn_mono (fun a' w' h' => heldIn.any k _ a' w' h'.2) (h.2 i hi)⟩
/-- an operation that reads alone, by itself -/
theorem reads_op {i : Nat} {o : Oper} {v : Value} {a : Act} (hi : ops[i]? = some o) (hy : YieldsIf P ops S o v a) {K : Act → World → Prop} {w : World} (hS : S w) (h : K (a.put o.dst v) w) : wpOpIn Fence.wide n P ops Q i K a w := by
  unfold wpOpIn
  simp only [hi]
  rcases hy with ⟨hw, hv⟩ | ⟨hw, rfl⟩
  · simp only [hw, if_true]
    refine ⟨fun _ _ => trivial, ?_⟩
    show Oper.uponIn _ _ _ _ _ _ _ ((o.semAt none a.eval).run P w)
    rw [Oper.semAt_none, hv w hS]
    exact h
  · simp only [hw, Bool.false_eq_true, if_false]
    exact ⟨fun _ _ => trivial, h⟩
/-- what reads alone, and another one that is apart from it, change places -/
theorem reads_swap {j : Nat} {oi oj : Oper} {v : Value} (hj : ops[j]? = some oj) (hap : oi.apart ops oj = true) (hsi : ∀ cs b, oi.op ≠ .select cs b) (hsj : ∀ cs b, oj.op ≠ .select cs b)
    (hQ : ∀ c a w, Q (.panic c) (a.put oi.dst v) w → Q (.panic c) a w) {K : Act → World → Prop} {a : Act} {w : World} (hy : YieldsIf P ops S oi v a) (h : wpOpIn Fence.wide n P ops Q j K (a.put oi.dst v) w) :
    wpOpIn Fence.wide n P ops Q j (fun a' w' => YieldsIf P ops S oi v a' ∧ K (a'.put oi.dst v) w') a w := by
  obtain ⟨p1, p2, p3⟩ := Oper.apart_spec hap
  -- the other one's slot, and one more deferred call, are nothing to it
  have slot : ∀ b : Act, YieldsIf P ops S oi v b → ∀ u, YieldsIf P ops S oi v (b.put oj.dst u) := fun b hb u => by
    unfold YieldsIf at *
    rw [execOp_put oi hsi b oj.dst u p3, wanted_put oi b oj.dst u p3]
    exact hb
  have later : ∀ d, YieldsIf P ops S oi v { a with defers := d :: a.defers } := fun d => hy
  have turn : ∀ u, (a.put oi.dst v).put oj.dst u = (a.put oj.dst u).put oi.dst v := fun u => Act.put_comm a v u p2
  unfold wpOpIn at h ⊢
  simp only [hj] at h ⊢
  rw [wanted_put oj a oi.dst v p1] at h
  by_cases hw : Region.wanted oj (yielded ops a.tmps) = true
  · simp only [hw, if_true] at h ⊢
    refine ⟨fun _ _ => trivial, ?_⟩
    have hr := h.2
    change Oper.uponIn _ _ _ _ _ _ _ ((oj.semAt none _).run P w) at hr
    show Oper.uponIn _ _ _ _ _ _ _ ((oj.semAt none _).run P w)
    rw [Oper.semAt_none, execOp_put oj hsj a oi.dst v p1] at hr
    rw [Oper.semAt_none]
    cases hx : (execOp a.eval oj).run P w with
    | halt x w' => rw [hx] at hr; cases x with
      | panic u => exact hQ _ _ _ hr
      | _ => exact hr
    | ok x w' =>
      rw [hx] at hr
      have ends : ∀ (e : Ending) (w'' : World), (match e, w'' with
          | .returned u, w'' => K ((a.put oi.dst v).put oj.dst u) w''
          | .panicked c, w'' => Q (.panic c) (a.put oi.dst v) w''
          | .outgrown, _ => LetsOut Q) → (match e, w'' with
          | .returned u, w'' => YieldsIf P ops S oi v (a.put oj.dst u) ∧ K ((a.put oj.dst u).put oi.dst v) w''
          | .panicked c, w'' => Q (.panic c) a w''
          | .outgrown, _ => LetsOut Q) := fun e w'' he => by
        cases e with
        | returned u => exact ⟨slot a hy u, by rw [← turn u]; exact he⟩
        | panicked c => exact hQ _ _ _ he
        | outgrown => exact he
      cases x with
      | value u => exact ⟨slot a hy u, by rw [← turn u]; exact hr⟩
      | skip => exact ⟨slot a hy undef, by rw [← turn undef]; exact hr⟩
      | defer d => exact ⟨slot _ (later d) undef, by rw [← Act.put_comm _ v undef p2, ← Act.put_defers]; exact hr⟩
      | enter f args => exact ⟨hr.1, CallsIn.mono hr.2 fun e w'' he => ends e w'' he⟩
      | row r args => exact ⟨hr.1, RowsIn.mono hr.2 fun u w'' he => ⟨slot a hy u, by rw [← turn u]; exact he⟩⟩
      | round l f tmps assign body => exact ⟨hr.1, RoundIn.mono hr.2 fun e w'' he => ends e w'' he⟩
      | _ => exact hr
  · simp only [hw, Bool.false_eq_true, if_false] at h ⊢
    exact ⟨fun _ _ => trivial, slot a hy undef, by rw [← turn undef]; exact h.2⟩
theorem reads_first {i : Nat} {oi : Oper} {v : Value} (hi : ops[i]? = some oi) (hsel : ∀ (j : Nat) (o : Oper) cs b, ops[j]? = some o → o.op ≠ .select cs b) (hQ : ∀ c a w, Q (.panic c) (a.put oi.dst v) w → Q (.panic c) a w) :
    ∀ (k : Nat) (ls : Array Bool) (a : Act) (w : World), (∀ j oj, ops[j]? = some oj → j ≠ i → ls.getD j true = false → (∀ e ∈ oj.after, Region.binds md e = true → e.on ≠ i) → oi.apart ops oj = true) →
      i ∈ Region.ready md ops ls → YieldsIf P ops S oi v a → S w → heldIn n P md ops Q S k (ls.setIfInBounds i true) (a.put oi.dst v) w → heldIn n P md ops Q S (k + 1) ls a w
  | k, ls, a, w, hfree, hr, hy, hS, H => by
    refine ⟨fun h0 => by rw [h0] at hr; exact absurd hr (List.not_mem_nil), fun j hj => ?_⟩
    by_cases hji : j = i
    · subst hji; exact reads_op hi hy hS ⟨hS, H⟩
    have hj2 := ready_mono hj hji
    cases k with
    | zero => rw [H.1] at hj2; exact absurd hj2 (List.not_mem_nil)
    | succ k =>
      obtain ⟨hun, oj, hoj, hall⟩ := mem_ready.1 hj
      have waits : ∀ e ∈ oj.after, Region.binds md e = true → e.on ≠ i := fun e he hb heq => by
        have t1 := hall e he hb
        have t2 := (mem_ready.1 hr).1
        rw [heq] at t1
        by_cases hlt : i < ls.size
        · simp [hlt] at t1 t2; rw [t1] at t2; cases t2
        · simp [Array.getElem?_eq_none (Nat.le_of_not_lt hlt)] at t1
      refine wpOpIn_mono ?_ (reads_swap hoj (hfree j oj hoj hji hun waits) (fun cs b => hsel i oi cs b hi) (fun cs b => hsel j oj cs b hoj) hQ hy (H.2 j hj2))
      rintro a' w' ⟨hy', hS', H'⟩
      refine ⟨hS', reads_first hi hsel hQ k _ a' w' (fun q oq hq hqi hqu hqw => hfree q oq hq hqi ?_ hqw) (ready_mono hr (Ne.symm hji)) hy' hS' (by rw [Array.setIfInBounds_comm _ _ hji]; exact H')⟩
      by_cases hjq : j = q
      · subst hjq; exact hun
      · rw [getD_set_ne true hjq] at hqu; exact hqu
def AllR (n : Nat) (P : Program) (md : Region.Mode) (ops : Array Oper) (Q : Exit → Act → World → Prop) (S : World → Prop) : List Nat → Nat → Array Bool → Act → World → Prop
  | [], k, ls, a, w => heldIn n P md ops Q S k ls a w
  | _ :: _, 0, _, _, _ => False
  | i :: l, k + 1, ls, a, w => ∃ oi v, ops[i]? = some oi ∧ YieldsIf P ops S oi v a ∧ AllR n P md ops Q S l k (ls.setIfInBounds i true) (a.put oi.dst v) w
theorem reads_go (hs : Region.noSelect ops = true) (hQ : ∀ c (a : Act) t v w, Q (.panic c) (a.put (some t) v) w → Q (.panic c) a w) : ∀ (l : List Nat) (k : Nat) (ls : Array Bool) (a : Act) (w : World), S w → okSeq md ops l ls = true → AllR n P md ops Q S l k ls a w → heldIn n P md ops Q S k ls a w
  | [], _, _, _, _, _, _, h => by unfold AllR at h; exact h
  | i :: l, 0, _, _, _, _, _, h => by unfold AllR at h; exact h.elim
  | i :: l, k + 1, ls, a, w, hS, hok, h => by
    unfold AllR at h
    obtain ⟨oi, v, hi, hy, hk⟩ := h
    simp only [okSeq, Bool.and_eq_true] at hok
    refine reads_first hi (Region.noSelect_spec hs) (fun c a w h => ?_) k ls a w (Region.free_spec hi hok.1.1) (by simpa using hok.1.2) hy hS (reads_go hs hQ l k _ _ w hS hok.2 hk)
    cases hd : oi.dst with
    | none => rw [hd] at h; exact h
    | some t => rw [hd] at h; exact hQ c a t v w h
theorem reads (l : List Nat) {k : Nat} {ls : Array Bool} {a : Act} {w : World} (hc : (Region.noSelect ops && okSeq md ops l ls) = true) (hQ : ∀ c (a : Act) t v w, Q (.panic c) (a.put (some t) v) w → Q (.panic c) a w) (hS : S w) (h : AllR n P md ops Q S l k ls a w) : heldIn n P md ops Q S k ls a w := by
  simp only [Bool.and_eq_true] at hc
  exact reads_go hc.1 hQ l k ls a w hS hc.2 h
theorem allr_nil {k : Nat} {ls : Array Bool} {a : Act} {w : World} (h : heldIn n P md ops Q S k ls a w) : AllR n P md ops Q S [] k ls a w := by unfold AllR; exact h
theorem allr_cons {i : Nat} {l : List Nat} {k : Nat} {ls : Array Bool} {a : Act} {w : World} {oi : Oper} {v : Value} (hi : ops[i]? = some oi) (hy : YieldsIf P ops S oi v a) (h : AllR n P md ops Q S l k (ls.setIfInBounds i true) (a.put oi.dst v) w) : AllR n P md ops Q S (i :: l) (k + 1) ls a w := by unfold AllR; exact ⟨oi, v, hi, hy, h⟩
/-- the one that comes up -/
theorem held_one {i : Nat} {o : Oper} {k : Nat} {ls : Array Bool} {a : Act} {w : World} (hr : Region.ready md ops ls = [i]) (ho : ops[i]? = some o)
    (h : ∀ K : Act → World → Prop, Hid (∀ a' w', S w' → heldIn n P md ops Q S k (ls.setIfInBounds i true) a' w' → K a' w') → if Region.wanted o (yielded ops a.tmps) = true then Oper.wpIn Fence.wide n P o a w K Q else (∀ f, o.about P w a.eval = some f → Fence.wide.fn f) ∧ K (a.put o.dst undef) w) : heldIn n P md ops Q S (k + 1) ls a w := by
  refine ⟨fun h0 => (by rw [hr] at h0; cases h0), fun j hj => ?_⟩
  rw [hr, List.mem_singleton] at hj
  subst hj
  exact wpOpIn_step ho fun K' hK => h K' (fun a' w' hs hh => hK a' w' ⟨hs, hh⟩)
theorem held_done {ls : Array Bool} {a : Act} {w : World} (hr : Region.ready md ops ls = []) (h : Q .normal a w) : ∀ k, heldIn n P md ops Q S k ls a w
  | 0 => ⟨hr, h⟩
  | _ + 1 => ⟨fun _ => h, by rw [hr]; simp⟩
theorem held_region {id : Nat} {a : Act} {w : World} (hm : P.follows .mixedOrders = true) (hS : S w.drew) (h : S w.drew → heldIn n P .any ops Q S ops.size (Array.replicate ops.size false) a w.drew) : (Code.region id ops true).wpIn Fence.wide n P Q a w :=
  wpIn_region_any hm (heldIn.any _ _ _ _ (h hS))
end
end Go.Proofs.Ytjkbmenmpnidhaa
