/- Maps by marks: how many are ahead; where an event is. -/
import Derived.Test.YtjkbmenmpnidhaaJ0
import Derived.Test.YtjkbmenmpnidhaaEd1
namespace Go.Proofs.Ytjkbmenmpnidhaa
open Go.RowKit Go.Maps
set_option linter.unusedSimpArgs false
set_option linter.unusedVariables false
theorem mkWide : (match Try.prog.underlying 59 with | some (.array _ _) | some (.struct _) => true | _ => false) = true := by kernel_rfl
set_option maxRecDepth 100000 in
theorem mkLaw : Keyed Try.prog 59 := Keyed.of_law (deep_law_gate Try.laidOut' (of_decide_eq_true (by kernel_rfl)) (of_decide_eq_true (by kernel_rfl)) (by kernel_rfl) mkWide)
abbrev mkV (k o a : Int) : Value := .agg #[.int .i64 k, .int .i64 o, .int .i64 a]
theorem cellsMk : Try.prog.cellsOf 59 = 3 := by kernel_rfl
set_option maxRecDepth 100000 in
theorem mk_key (g c a : Int) (hg : I64 g) (hc : I64 c) (ha : I64 a) : ∃ l, keyOf Try.prog 59 (mkV g c a) = some l := by
  have hwf : ∀ n : Int, I64 n → (Lit.int .i64 n).wf = true := fun n h => WalkArith.wf_i64 h
  have h1 : ∀ d n, I64 n → Try.prog.keyLits (d + 1) 3 [.int .i64 n] = some [.int .i64 n] := fun d n h => by
    unfold Program.keyLits
    rw [Try.underlying3]
    simp [hwf n h]
  have h2 : ∀ d, (Try.prog.keyLits (d + 2) 59 [.int .i64 g, .int .i64 c, .int .i64 a]).isSome = true := fun d => by
    unfold Program.keyLits
    rw [Try.underlying59]
    simp [cellsMk, cells3, h1 d g hg, h1 d c hc, h1 d a ha]
  obtain ⟨n, hn⟩ : ∃ n, Try.prog.types.size = n + 1 := ⟨Try.prog.types.size - 1, by kernel_rfl⟩
  have h3 := h2 n
  obtain ⟨ls, hls⟩ := Option.isSome_iff_exists.1 h3
  unfold keyOf
  rw [hn, Try.underlying59]
  have hf : (mkV g c a).formed Try.prog 59 = true := by simp [Value.formed, Try.underlying59, cellsMk]
  have hk : Try.prog.keyType 59 = true := by kernel_rfl
  simp [hf, hk, Value.cells, hls]
/-- the map in block M has at each mark what S says -/
def Mp (w : World) (M n : Nat) (S : Int → Int → Int → Option Int) : Prop := ∃ D : DataW Unit, w.ownsMap Try.prog 59 (plainElem Try.prog 3) M n D ∧
  ∀ k o a l, I64 k → I64 o → I64 a → keyOf Try.prog 59 (mkV k o a) = some l → Maps.has D l = (S k o a).isSome ∧ ∀ z, D.atKey l z = match S k o a with | some v => .lit (.int .i64 v) | none => z
theorem Mp.made (w : World) : Mp (w.alloc (.map #[] 0)) w.heap.size 0 (fun _ _ _ => none) := ⟨_, World.ownsMap_made _ _ _ _, fun k o a l _ _ _ _ => ⟨rfl, fun z => rfl⟩⟩
theorem Mp.kept {w w' : World} {B n : Nat} {S : Int → Int → Int → Option Int} {row : Option Nat} (h : Mp w B n S) (hg : w.grownBy w' row) (hne : some B ≠ row) : Mp w' B n S := by
  obtain ⟨D, h1, h2⟩ := h
  exact ⟨D, h1.kept hg hne, h2⟩
theorem Mp.lt {w : World} {B n : Nat} {S : Int → Int → Int → Option Int} (h : Mp w B n S) : B < w.heap.size := by obtain ⟨D, h1, _⟩ := h; exact h1.lt
theorem Mp.below {w w' : World} {B n : Nat} {S : Int → Int → Int → Option Int} (h : Mp w B n S) (hb : Below w.heap.size w w') : Mp w' B n S :=
  h.kept (row := none) ⟨hb.os, hb.tape, hb.output, hb.size, fun k hk _ => hb.block k hk⟩ (by simp)
theorem Mp.look {w : World} {B n : Nat} {S : Int → Int → Int → Option Int} (h : Mp w B n S) (k o a : Int) (hk : I64 k) (ho : I64 o) (ha : I64 a) :
    (Instr.lookup 39 (.map (some B)) (mkV k o a) false).run Try.prog w = .ok (.int .i64 ((S k o a).getD 0)) w := by
  obtain ⟨D, h1, h2⟩ := h
  obtain ⟨l, hl⟩ := mk_key k o a hk ho ha
  obtain ⟨c, hrun, hat, _⟩ := h1.lookup_int mkLaw Try.underlying39 Try.underlying3 (zeroInt w) hl
  rw [(h2 k o a l hk ho ha hl).2] at hat
  rw [hrun]
  have : c = (S k o a).getD 0 := by
    cases hs : S k o a with
    | none => rw [hs] at hat; simpa using hat.symm
    | some v => rw [hs] at hat; simpa using hat.symm
  rw [this]
set_option maxRecDepth 100000 in
theorem Mp.look_ok {w : World} {B n : Nat} {S : Int → Int → Int → Option Int} (h : Mp w B n S) (k o a : Int) (hk : I64 k) (ho : I64 o) (ha : I64 a) :
    (Instr.lookup 39 (.map (some B)) (mkV k o a) true).run Try.prog w = .ok (.tuple #[.int .i64 ((S k o a).getD 0), .bool (S k o a).isSome]) w := by
  obtain ⟨D, h1, h2⟩ := h
  obtain ⟨l, hl⟩ := mk_key k o a hk ho ha
  obtain ⟨v, ps, hrun, hv⟩ := h1.look_ok mkLaw Try.underlying39 (zeroInt w) (plainElem_int Try.underlying3 (q := .i64) (a := 0) (WalkArith.wf_i64 ⟨by decide, by decide⟩)) hl
  rw [hrun, (h2 k o a l hk ho ha hl).1]
  obtain ⟨x, rfl, hz, _⟩ := plainElem_int_inv Try.underlying3 hv
  have hat : D.atKey l (.lit (.int .i64 0)) = .lit (.int .i64 ((S k o a).getD 0)) := by
    rw [(h2 k o a l hk ho ha hl).2]
    cases S k o a <;> rfl
  rw [hat] at hz
  simp at hz
  rw [hz.1]
theorem Mp.store {w : World} {B n : Nat} {S : Int → Int → Int → Option Int} (h : Mp w B n S) (hn : n < maxLen) (k o a v : Int) (hk : I64 k) (ho : I64 o) (ha : I64 a) (hv : I64 v) :
    ∃ w', (Instr.mapUpdate 39 (.map (some B)) (mkV k o a) (.int .i64 v)).run Try.prog w = .ok () w' ∧ Mp w' B (n + 1) (fun k' o' a' => if k' = k ∧ o' = o ∧ a' = a then some v else S k' o' a') ∧ w.grownBy w' (some B) := by
  obtain ⟨D, h1, h2⟩ := h
  obtain ⟨l, hl⟩ := mk_key k o a hk ho ha
  obtain ⟨w', hrun, h3, h4⟩ := h1.update mkLaw Try.underlying39 hn hl (plainElem_int Try.underlying3 (WalkArith.wf_i64 hv))
  refine ⟨w', hrun, ⟨_, h3, fun k' o' a' l' hk' ho' ha' hl' => ?_⟩, h4⟩
  by_cases e : l' = l
  · subst e
    have hv := mkLaw.inj hl hl'
    simp at hv
    obtain ⟨rfl, rfl, rfl⟩ := hv
    rw [has_put_same h1.isMap (mkLaw.key hl)]
    simp only [and_self, if_true, Option.isSome_some, true_and]
    intro z
    rw [atKey_put_same h1.isMap (mkLaw.key hl)]
  · have hne : ¬ (k' = k ∧ o' = o ∧ a' = a) := by
      rintro ⟨rfl, rfl, rfl⟩
      rw [hl] at hl'; exact e (Option.some.inj hl').symm
    dsimp only
    rw [has_put_other e, if_neg hne]
    refine ⟨(h2 k' o' a' l' hk' ho' ha' hl').1, fun z => ?_⟩
    rw [atKey_put_other e, (h2 k' o' a' l' hk' ho' ha' hl').2 z]
theorem makeMap_hint (w : World) (n : Int) (h0 : 0 ≤ n) (h1 : n ≤ 1000) : (Instr.makeMap 39 (some (.int .i64 n))).run Try.prog w = .ok (.map (some w.heap.size)) (w.alloc (.map #[] 0)) := by
  simp [Instr.makeMap, run_underlying Try.underlying39, asInt, asIntOf]
/-- what the two maps have when i events are taken up -/
def plS (L : List Ev) (i : Nat) (k o a : Int) : Option Int := ((List.range i).find? fun j => decide ((evAt L j).kind = k ∧ (evAt L j).obj = o ∧ cntZ L k o j = a)).map fun (j : Nat) => (j : Int)
def ahS (L : List Ev) (i : Nat) (k o a : Int) : Option Int := if a = 0 ∧ 0 < cntZ L k o i then some (cntZ L k o i) else none
theorem plS_step (L : List Ev) (i : Nat) (x : Ev) (hx : evAt L i = x) : (fun k' o' a' => if k' = x.kind ∧ o' = x.obj ∧ a' = cntZ L x.kind x.obj i then some ((i : Nat) : Int) else plS L i k' o' a') = plS L (i + 1) := by
  funext k' o' a'
  unfold plS
  rw [List.range_succ, List.find?_append]
  by_cases h : k' = x.kind ∧ o' = x.obj ∧ a' = cntZ L x.kind x.obj i
  · rw [if_pos h]
    obtain ⟨rfl, rfl, rfl⟩ := h
    have hn : (List.range i).find? (fun j => decide ((evAt L j).kind = x.kind ∧ (evAt L j).obj = x.obj ∧ cntZ L x.kind x.obj j = cntZ L x.kind x.obj i)) = none := by
      rw [List.find?_eq_none]
      intro j hj
      rw [List.mem_range] at hj
      simp only [decide_eq_true_eq]
      rintro ⟨h1, h2, h3⟩
      have := cnt_lt ⟨h1, h2⟩ hj
      omega
    rw [hn, List.find?_cons_of_pos (by simp [hx])]
    rfl
  · rw [if_neg h]
    have hs : ([i].find? fun j => decide ((evAt L j).kind = k' ∧ (evAt L j).obj = o' ∧ cntZ L k' o' j = a')) = none := by
      rw [List.find?_eq_none]
      intro j hj
      rw [List.mem_singleton] at hj
      subst hj
      simp only [decide_eq_true_eq, hx]
      rintro ⟨rfl, rfl, h3⟩
      exact h ⟨rfl, rfl, h3.symm⟩
    rw [hs]
    cases (List.range i).find? fun j => decide ((evAt L j).kind = k' ∧ (evAt L j).obj = o' ∧ cntZ L k' o' j = a') <;> rfl
theorem ahS_step (L : List Ev) (i : Nat) (x : Ev) (hx : evAt L i = x) : (fun k' o' a' => if k' = x.kind ∧ o' = x.obj ∧ a' = 0 then some (cntZ L x.kind x.obj i + 1) else ahS L i k' o' a') = ahS L (i + 1) := by
  funext k' o' a'
  unfold ahS
  have hc := (cntZ_le L x.kind x.obj i).1
  have hs : cntZ L k' o' (i + 1) = if x.kind = k' ∧ x.obj = o' then cntZ L k' o' i + 1 else cntZ L k' o' i := by rw [← hx]; rfl
  by_cases h : k' = x.kind ∧ o' = x.obj
  · obtain ⟨rfl, rfl⟩ := h
    rw [hs]
    simp only [true_and, and_self, if_true]
    by_cases ha : a' = 0
    · rw [if_pos ha, if_pos ⟨ha, by omega⟩]
    · rw [if_neg ha, if_neg (by omega), if_neg (by omega)]
  · have hs' : cntZ L k' o' (i + 1) = cntZ L k' o' i := by rw [hs, if_neg (fun hh => h ⟨hh.1.symm, hh.2.symm⟩)]
    rw [if_neg (fun hh => h ⟨hh.1, hh.2.1⟩), hs']
theorem ahS_get (L : List Ev) (i : Nat) (k o : Int) : (ahS L i k o 0).getD 0 = cntZ L k o i := by
  unfold ahS
  have := (cntZ_le L k o i).1
  by_cases h : 0 < cntZ L k o i
  · rw [if_pos ⟨rfl, h⟩]; rfl
  · rw [if_neg (fun hh => h hh.2)]; simp; omega
theorem plS_none (L : List Ev) : plS L 0 = fun _ _ _ => none := rfl
theorem ahS_none (L : List Ev) : ahS L 0 = fun _ _ _ => none := by funext k o a; simp [ahS, cntZ]
theorem plS_place (L : List Ev) (k o a : Int) : plS L L.length k o a = if 0 ≤ placeZ L k o a then some (placeZ L k o a) else none := by
  unfold plS placeZ
  cases (List.range L.length).find? fun j => decide ((evAt L j).kind = k ∧ (evAt L j).obj = o ∧ cntZ L k o j = a) with
  | none => simp
  | some j => simp
end Go.Proofs.Ytjkbmenmpnidhaa
