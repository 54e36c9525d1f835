/- what is asked, by kind: the table. -/
import Derived.Test.YtjkbmenmpnidhaaC2
namespace Go.Proofs.Ytjkbmenmpnidhaa
open Go.RowKit Go.Maps
open Go.ChangeShapes Go.WideShapes Go.MapKept Go.ChangeMaps
set_option linter.unusedSimpArgs false
set_option linter.unusedVariables false
def askFn (k : Nat) : FuncId := [57, 58, 59, 60, 59, 61, 62, 63, 64, 67, 69, 70, 71, 72, 73, 74, 75, 75].getD k 0
abbrev fnVal (f : FuncId) : Value := .func (.func f) #[] #[]
def asksL (n : Nat) : List MapEntry := (List.range n).map fun (j : Nat) => ⟨.int .i64 (j : Int), fnVal (askFn j), j⟩
theorem iKeyed : Keyed Try.prog 3 := int_keyed Try.underlying3
theorem iKey (n : Int) (h : I64 n) : ∃ l, keyOf Try.prog 3 (.int .i64 n) = some l := by
  refine ⟨.int .i64 n, ?_⟩
  simp [keyOf, Try.underlying3, mapKey, wf_int h]
theorem asks_keys (n : Nat) (hn : n ≤ 18) : ∀ e ∈ asksL n, ∃ l, keyOf Try.prog 3 e.key = some l := by
  intro e he
  obtain ⟨j, hj, rfl⟩ := List.mem_map.1 he
  have := List.mem_range.1 hj
  exact iKey _ (by unfold I64; omega)
set_option maxRecDepth 100000 in
theorem askZero : ∃ z, ∀ w, (zeroValue 78).run Try.prog w = .ok z w := ⟨_, fun w => by rfl⟩
set_option maxRecDepth 100000 in
theorem asks_ins (w : World) (n : Nat) (hn : n < 18) : (Instr.mapUpdate 76 (.map (some w.heap.size)) (.int .i64 (n : Int)) (fnVal (askFn n))).run Try.prog (w.alloc (.map (asksL n).toArray n)) = .ok () (w.alloc (.map (asksL (n + 1)).toArray (n + 1))) := by
  have hb : (w.alloc (.map (asksL n).toArray n)).heap[w.heap.size]? = some (.map (asksL n).toArray n) := heap_alloc_new w _
  obtain ⟨l, hl⟩ := iKey (n : Int) (by unfold I64; omega)
  rcases iKeyed.find (w.alloc (.map (asksL n).toArray n)) hl (asksL n) (asks_keys n (by omega)) with ⟨h1, h2⟩ | ⟨j, e, h1, h2, h3⟩
  · have e1 : (asksL n).toArray.push ⟨.int .i64 (n : Int), fnVal (askFn n), n⟩ = (asksL (n + 1)).toArray := by
      unfold asksL
      rw [List.range_succ, List.map_append]
      simp
    have e2 : ∀ o o', setBlock (w.alloc o) w.heap.size o' = w.alloc o' := fun o o' => by
      simp only [World.alloc, setBlock]
      congr 1
      simp [Array.setIfInBounds, Array.set_push]
    have : (Instr.mapUpdate 76 (.map (some w.heap.size)) (.int .i64 (n : Int)) (fnVal (askFn n))).run Try.prog (w.alloc (.map (asksL n).toArray n)) = .ok () (setBlock (w.alloc (.map (asksL n).toArray n)) w.heap.size (.map ((asksL n).toArray.push ⟨.int .i64 (n : Int), fnVal (askFn n), n⟩) (n + 1))) := by
      simp [Instr.mapUpdate, run_underlying Try.underlying76, MapKept.run_getObj_map hb, iKeyed.check _ false hl, h1, MapKept.run_setObj_map _ hb, Result.andThen, setBlock]
    rw [this, e1, e2]
  · have hm := List.mem_of_getElem? h2
    obtain ⟨j', hj, rfl⟩ := List.mem_map.1 hm
    have := List.mem_range.1 hj
    simp only [Value.int.injEq, true_and] at h3
    omega
theorem asks_look {W : World} {b : Nat} (hb : W.heap[b]? = some (.map (asksL 18).toArray 18)) (k : Nat) (hk : k < 18) : (Instr.lookup 76 (.map (some b)) (.int .i64 (k : Int)) true).run Try.prog W = .ok (.tuple #[fnVal (askFn k), .bool true]) W := by
  obtain ⟨l, hl⟩ := iKey (k : Int) (by unfold I64; omega)
  rcases iKeyed.find W hl (asksL 18) (asks_keys 18 (by omega)) with ⟨h1, h2⟩ | ⟨j, e, h1, h2, h3⟩
  · exact absurd rfl (h2 ⟨.int .i64 (k : Int), fnVal (askFn k), k⟩ (List.mem_map.2 ⟨k, List.mem_range.2 hk, rfl⟩))
  · have hm := List.mem_of_getElem? h2
    obtain ⟨j', hj, rfl⟩ := List.mem_map.1 hm
    simp only [Value.int.injEq, true_and] at h3
    have : j' = k := by omega
    subst this
    simp [Instr.lookup, run_underlying Try.underlying76, MapKept.run_getObj_map hb, iKeyed.check W _ hl, h1, Result.andThen]
theorem asks_none {W : World} {b : Nat} (hb : W.heap[b]? = some (.map (asksL 18).toArray 18)) (k : Int) (hk : I64 k) (hno : k < 0 ∨ 18 ≤ k) : ∃ z, (Instr.lookup 76 (.map (some b)) (.int .i64 k) true).run Try.prog W = .ok (.tuple #[z, .bool false]) W := by
  obtain ⟨l, hl⟩ := iKey k hk
  obtain ⟨z, hz⟩ := askZero
  rcases iKeyed.find W hl (asksL 18) (asks_keys 18 (by omega)) with ⟨h1, h2⟩ | ⟨j, e, h1, h2, h3⟩
  · exact ⟨z, by simp [Instr.lookup, run_underlying Try.underlying76, MapKept.run_getObj_map hb, iKeyed.check W _ hl, h1, hz, Result.andThen]⟩
  · have hm := List.mem_of_getElem? h2
    obtain ⟨j', hj, rfl⟩ := List.mem_map.1 hm
    have := List.mem_range.1 hj
    simp only [Value.int.injEq, true_and] at h3
    omega
set_option maxRecDepth 100000 in
set_option maxHeartbeats 8000000 in
theorem asks_any (w : World) : Calls Try.prog 40 #[] w fun e w' => e = .returned (.map (some w.heap.size)) ∧ w' = w.alloc (.map (asksL 18).toArray 18) := by
  have r0 : (Instr.mapUpdate 76 (.map (some w.heap.size)) (.int .i64 0) (.func (.func 57) #[] #[])).run Try.prog (w.alloc (.map #[] 0)) = .ok () (w.alloc (.map (asksL 1).toArray 1)) := by have := asks_ins w 0 (by omega); exact this
  obtain ⟨W1, hW1⟩ : ∃ z, z = w.alloc (.map (asksL 1).toArray 1) := ⟨_, rfl⟩
  rw [← hW1] at r0
  have r1 : (Instr.mapUpdate 76 (.map (some w.heap.size)) (.int .i64 1) (.func (.func 58) #[] #[])).run Try.prog (W1) = .ok () (w.alloc (.map (asksL 2).toArray 2)) := hW1 ▸ asks_ins w 1 (by omega)
  obtain ⟨W2, hW2⟩ : ∃ z, z = w.alloc (.map (asksL 2).toArray 2) := ⟨_, rfl⟩
  rw [← hW2] at r1
  have r2 : (Instr.mapUpdate 76 (.map (some w.heap.size)) (.int .i64 2) (.func (.func 59) #[] #[])).run Try.prog (W2) = .ok () (w.alloc (.map (asksL 3).toArray 3)) := hW2 ▸ asks_ins w 2 (by omega)
  obtain ⟨W3, hW3⟩ : ∃ z, z = w.alloc (.map (asksL 3).toArray 3) := ⟨_, rfl⟩
  rw [← hW3] at r2
  have r3 : (Instr.mapUpdate 76 (.map (some w.heap.size)) (.int .i64 3) (.func (.func 60) #[] #[])).run Try.prog (W3) = .ok () (w.alloc (.map (asksL 4).toArray 4)) := hW3 ▸ asks_ins w 3 (by omega)
  obtain ⟨W4, hW4⟩ : ∃ z, z = w.alloc (.map (asksL 4).toArray 4) := ⟨_, rfl⟩
  rw [← hW4] at r3
  have r4 : (Instr.mapUpdate 76 (.map (some w.heap.size)) (.int .i64 4) (.func (.func 59) #[] #[])).run Try.prog (W4) = .ok () (w.alloc (.map (asksL 5).toArray 5)) := hW4 ▸ asks_ins w 4 (by omega)
  obtain ⟨W5, hW5⟩ : ∃ z, z = w.alloc (.map (asksL 5).toArray 5) := ⟨_, rfl⟩
  rw [← hW5] at r4
  have r5 : (Instr.mapUpdate 76 (.map (some w.heap.size)) (.int .i64 5) (.func (.func 61) #[] #[])).run Try.prog (W5) = .ok () (w.alloc (.map (asksL 6).toArray 6)) := hW5 ▸ asks_ins w 5 (by omega)
  obtain ⟨W6, hW6⟩ : ∃ z, z = w.alloc (.map (asksL 6).toArray 6) := ⟨_, rfl⟩
  rw [← hW6] at r5
  have r6 : (Instr.mapUpdate 76 (.map (some w.heap.size)) (.int .i64 6) (.func (.func 62) #[] #[])).run Try.prog (W6) = .ok () (w.alloc (.map (asksL 7).toArray 7)) := hW6 ▸ asks_ins w 6 (by omega)
  obtain ⟨W7, hW7⟩ : ∃ z, z = w.alloc (.map (asksL 7).toArray 7) := ⟨_, rfl⟩
  rw [← hW7] at r6
  have r7 : (Instr.mapUpdate 76 (.map (some w.heap.size)) (.int .i64 7) (.func (.func 63) #[] #[])).run Try.prog (W7) = .ok () (w.alloc (.map (asksL 8).toArray 8)) := hW7 ▸ asks_ins w 7 (by omega)
  obtain ⟨W8, hW8⟩ : ∃ z, z = w.alloc (.map (asksL 8).toArray 8) := ⟨_, rfl⟩
  rw [← hW8] at r7
  have r8 : (Instr.mapUpdate 76 (.map (some w.heap.size)) (.int .i64 8) (.func (.func 64) #[] #[])).run Try.prog (W8) = .ok () (w.alloc (.map (asksL 9).toArray 9)) := hW8 ▸ asks_ins w 8 (by omega)
  obtain ⟨W9, hW9⟩ : ∃ z, z = w.alloc (.map (asksL 9).toArray 9) := ⟨_, rfl⟩
  rw [← hW9] at r8
  have r9 : (Instr.mapUpdate 76 (.map (some w.heap.size)) (.int .i64 9) (.func (.func 67) #[] #[])).run Try.prog (W9) = .ok () (w.alloc (.map (asksL 10).toArray 10)) := hW9 ▸ asks_ins w 9 (by omega)
  obtain ⟨W10, hW10⟩ : ∃ z, z = w.alloc (.map (asksL 10).toArray 10) := ⟨_, rfl⟩
  rw [← hW10] at r9
  have r10 : (Instr.mapUpdate 76 (.map (some w.heap.size)) (.int .i64 10) (.func (.func 69) #[] #[])).run Try.prog (W10) = .ok () (w.alloc (.map (asksL 11).toArray 11)) := hW10 ▸ asks_ins w 10 (by omega)
  obtain ⟨W11, hW11⟩ : ∃ z, z = w.alloc (.map (asksL 11).toArray 11) := ⟨_, rfl⟩
  rw [← hW11] at r10
  have r11 : (Instr.mapUpdate 76 (.map (some w.heap.size)) (.int .i64 11) (.func (.func 70) #[] #[])).run Try.prog (W11) = .ok () (w.alloc (.map (asksL 12).toArray 12)) := hW11 ▸ asks_ins w 11 (by omega)
  obtain ⟨W12, hW12⟩ : ∃ z, z = w.alloc (.map (asksL 12).toArray 12) := ⟨_, rfl⟩
  rw [← hW12] at r11
  have r12 : (Instr.mapUpdate 76 (.map (some w.heap.size)) (.int .i64 12) (.func (.func 71) #[] #[])).run Try.prog (W12) = .ok () (w.alloc (.map (asksL 13).toArray 13)) := hW12 ▸ asks_ins w 12 (by omega)
  obtain ⟨W13, hW13⟩ : ∃ z, z = w.alloc (.map (asksL 13).toArray 13) := ⟨_, rfl⟩
  rw [← hW13] at r12
  have r13 : (Instr.mapUpdate 76 (.map (some w.heap.size)) (.int .i64 13) (.func (.func 72) #[] #[])).run Try.prog (W13) = .ok () (w.alloc (.map (asksL 14).toArray 14)) := hW13 ▸ asks_ins w 13 (by omega)
  obtain ⟨W14, hW14⟩ : ∃ z, z = w.alloc (.map (asksL 14).toArray 14) := ⟨_, rfl⟩
  rw [← hW14] at r13
  have r14 : (Instr.mapUpdate 76 (.map (some w.heap.size)) (.int .i64 14) (.func (.func 73) #[] #[])).run Try.prog (W14) = .ok () (w.alloc (.map (asksL 15).toArray 15)) := hW14 ▸ asks_ins w 14 (by omega)
  obtain ⟨W15, hW15⟩ : ∃ z, z = w.alloc (.map (asksL 15).toArray 15) := ⟨_, rfl⟩
  rw [← hW15] at r14
  have r15 : (Instr.mapUpdate 76 (.map (some w.heap.size)) (.int .i64 15) (.func (.func 74) #[] #[])).run Try.prog (W15) = .ok () (w.alloc (.map (asksL 16).toArray 16)) := hW15 ▸ asks_ins w 15 (by omega)
  obtain ⟨W16, hW16⟩ : ∃ z, z = w.alloc (.map (asksL 16).toArray 16) := ⟨_, rfl⟩
  rw [← hW16] at r15
  have r16 : (Instr.mapUpdate 76 (.map (some w.heap.size)) (.int .i64 16) (.func (.func 75) #[] #[])).run Try.prog (W16) = .ok () (w.alloc (.map (asksL 17).toArray 17)) := hW16 ▸ asks_ins w 16 (by omega)
  obtain ⟨W17, hW17⟩ : ∃ z, z = w.alloc (.map (asksL 17).toArray 17) := ⟨_, rfl⟩
  rw [← hW17] at r16
  have r17 : (Instr.mapUpdate 76 (.map (some w.heap.size)) (.int .i64 17) (.func (.func 75) #[] #[])).run Try.prog (W17) = .ok () (w.alloc (.map (asksL 18).toArray 18)) := hW17 ▸ asks_ins w 17 (by omega)
  obtain ⟨W18, hW18⟩ : ∃ z, z = w.alloc (.map (asksL 18).toArray 18) := ⟨_, rfl⟩
  rw [← hW18] at r17
  rw [← hW18]
  clear hW1 hW2 hW3 hW4 hW5 hW6 hW7 hW8 hW9 hW10 hW11 hW12 hW13 hW14 hW15 hW16 hW17 hW18
  have rm : (Instr.makeMap 76 none).run Try.prog w = .ok (.map (some w.heap.size)) (w.alloc (.map #[] 0)) := by
    first | rfl | simp [Instr.makeMap, World.alloc]
  go_enter Try.func40, Try.ntmps40
  go_wp2_with fail
  go_ret
  exact ⟨rfl, rfl⟩
end Go.Proofs.Ytjkbmenmpnidhaa
