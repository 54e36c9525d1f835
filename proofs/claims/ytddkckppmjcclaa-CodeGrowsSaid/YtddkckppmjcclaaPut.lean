/- Contracts of put, Put, and what they call. -/
import Derived.Test.YtddkckppmjcclaaOwn
import Derived.Test.YtddkckppmjcclaaVGet
import Derived.Laws.BitsAllLaws
import Derived.Laws.IdiomStrings
import Derived.ScopeJumps
import Derived.WalkMore
namespace Go.Proofs.Ytddkckppmjcclaa
open Go.RowKit
set_option linter.unusedSimpArgs false
set_option linter.unusedVariables false

theorem ofInt_nat (a : Nat) (ha : a < 18446744073709551616) : (BitVec.ofInt 64 (a : Int)).toNat = a := by
  rw [BitVec.ofInt_natCast, BitVec.toNat_ofNat]; exact Nat.mod_eq_of_lt (by omega)
theorem and127 (e : Int) (h0 : 0 ≤ e) (h1 : e ≤ 9223372036854775807) : bits .and .i64 e 127 = e % 128 := by
  obtain ⟨E, rfl⟩ := Int.eq_ofNat_of_zero_le h0
  show IntKind.i64.wrap ((BitVec.ofInt 64 (E : Int) &&& BitVec.ofInt 64 ((127 : Nat) : Int)).toNat : Int) = _
  rw [BitVec.toNat_and, ofInt_nat _ (by omega), ofInt_nat 127 (by omega)]
  have : E &&& 127 = E % 128 := Nat.and_two_pow_sub_one_eq_mod E 7
  rw [this, IntWalk.i64_in _ ⟨by omega, by omega⟩]; omega

/-- only block g has turned -/
structure Only (g : Nat) (w w' : World) : Prop where
  os : w'.os = w.os
  tape : w'.tape = w.tape
  output : w'.output = w.output
  size : w'.heap.size = w.heap.size
  block : ∀ k, k ≠ g → w'.heap[k]? = w.heap[k]?
theorem Only.drewN {g : Nat} {w w' : World} (h : Only g w w') (n : Nat) : Only g w (w'.drewN n) := ⟨h.os, h.tape, h.output, h.size, h.block⟩
theorem Only.below {g B : Nat} {w w' : World} (h : Only g w w') (hB : B ≤ g) : Below B w w' := ⟨h.os, h.tape, h.output, by rw [h.size]; exact Nat.le_refl _, fun k hk => h.block k (by omega)⟩

/-- a variable of the call's own: one cell -/
def Box (w : World) (g : Nat) (n : Int) : Prop := w.heap[g]? = some (.cells #[.int .i64 n] 3 (0, 0))
theorem Box.cell {w : World} {g : Nat} {n : Int} (h : Box w g n) : w.cell? ⟨g, 0, none⟩ = some (.int .i64 n) := by rw [cell_of_row w g 0 _ 3 (0, 0) h]; rfl
theorem Box.free {w : World} {g : Nat} {n : Int} (h : Box w g n) : w.frozen? ⟨g, 0, none⟩ = false := frozen_of_row w g 0 _ 3 h
theorem Box.set {w : World} {g : Nat} {n : Int} (h : Box w g n) (m : Int) : Box (w.setCell ⟨g, 0, none⟩ (.int .i64 m)) g m := by
  have := heap_setCell_same w g 0 _ 3 (.int .i64 m) h
  simpa [Box] using this
theorem only_set (w : World) (g : Nat) (u : Value) : Only g w (w.setCell ⟨g, 0, none⟩ u) := ⟨rfl, rfl, rfl, by simp, fun k hk => Below.heap_setCell _ _ _ _ hk⟩

theorem ret_int_bool {a a' : Int} {b b' : Bool} (h : a = a') (k : b = b') : Ending.returned (.tuple #[.int .i64 a, .bool b]) = .returned (.tuple #[.int .i64 a', .bool b']) := by rw [h, k]
def Next (w : World) (g : Nat) (n : Int) (e : Ending) (w' : World) : Prop := e = .returned (.tuple #[.int .i64 (n % 128), .bool (decide (0 < n / 128))]) ∧ Box w' g (n / 128) ∧ Only g w w'

set_option maxRecDepth 100000 in
theorem next_any (g : Nat) (n : Int) (w : World) (h : Box w g n) (h0 : 0 ≤ n) (h1 : n ≤ 9223372036854775807) :
    Calls Try.prog 56 #[.pointer (some ⟨g, 0, none⟩)] w (Next w g n) := by
  have hc := h.cell
  have hf := h.free
  have HA := Lib.hid (and127 n h0 h1)
  have HB := Lib.hid (h.set (n / 128))
  clear h
  go_enter Try.func56, Try.ntmps56
  go_wp2_with fail
  go_quiet (fail)
  go_wp2_with fail
  go_ret2
  exact ⟨ret_int_bool HA.out rfl, HB.out, (only_set _ _ _).drewN nq⟩

set_option maxRecDepth 100000 in
theorem small_any (n : Int) (w : World) : Calls Try.prog 30 #[.int .i64 n] w fun e w' => e = .returned (.bool (smallB n)) ∧ w = w' := by
  by_cases h1 : 0 ≤ n
  · by_cases h2 : n ≤ 2147483647
    · go_enter Try.func30, Try.ntmps30
      go_wp2
      go_ret
      exact ⟨ret_bool (by symm; rw [smallB, decide_eq_true_eq]; exact ⟨h1, h2⟩), rfl⟩
    · go_enter Try.func30, Try.ntmps30
      go_wp2
      go_ret
      exact ⟨ret_bool (by symm; rw [smallB, decide_eq_false_iff_not]; omega), rfl⟩
  · go_enter Try.func30, Try.ntmps30
    go_wp2
    go_ret
    exact ⟨ret_bool (by symm; rw [smallB, decide_eq_false_iff_not]; omega), rfl⟩
set_option maxRecDepth 100000 in
theorem digits_any (n : Int) (w : World) : Calls Try.prog 46 #[.int .i64 n] w fun e w' => e = .returned (.func (.func 56) #[] #[.pointer (some ⟨w.heap.size, 0, none⟩)]) ∧ w' = w.alloc (.cells #[.int .i64 n] 3) := by
  go_enter Try.func46, Try.ntmps46
  go_wp2_with fail
  go_ret
  exact ⟨rfl, rfl⟩

theorem Try.info5 : (Try.prog.info? 5).map (fun i => (i.zero, i.size, i.bytes)) = some (some (.int .u8 0), 1, 1) := by kernel_rfl
/-- bytes of the call's own -/
def Own8 (w : World) (base : Nat) (v : Value) (L : List Int) : Prop := w.ownsRow base 5 1 v L.length (L.map (Value.int .u8))

theorem Own8.other {w : World} {base g : Nat} {v : Value} {L : List Int} {n : Int} (h : Own8 w base v L) (hb : Box w g n) : v.ownBlock ≠ some g := by
  rcases h.2 with ⟨rfl, _⟩ | ⟨g', cap, cur, rfl, _, hg, _⟩
  · simp [Value.ownBlock]
  · intro h
    simp only [Value.ownBlock, Option.some.injEq] at h
    subst h
    rw [Box, hg] at hb
    simp at hb
theorem Own8.only {w w' : World} {base g : Nat} {v : Value} {L : List Int} {n : Int} (h : Own8 w base v L) (hb : Box w g n) (ho : Only g w w') : Own8 w' base v L := by
  have hne := h.other hb
  refine ⟨h.1, ?_⟩
  rcases h.2 with h2 | ⟨g', cap, cur, hv, h3, hg, r⟩
  · exact .inl h2
  · refine .inr ⟨g', cap, cur, hv, h3, ?_, r⟩
    rw [ho.block g' (fun e => hne (by rw [hv, e]; rfl))]; exact hg

theorem app8 {ops : Array Oper} {rest : List Oper} {o : Oper} {a : Act} {Q : Exit → Act → World → Prop} {wr : World} (hgd : o.guard = none) (s x : Operand)
    (ho : o.op = .call { callee := .builtin .append, args := #[s, x], argTypes := #[66, 66] }) (base : Nat) (v : Value) (L : List Int) (hs : a.eval s = v) (hown : Own8 wr base v L) (n : Int)
    (hx : a.eval x = .slice (some ⟨wr.heap.size, 0, none⟩) 1 1) (hlen : L.length ≤ 1000000) (w0 : World) (hb : Below base w0 wr) (hbase : base ≤ wr.heap.size) (g : Nat) (m : Int) (hbox : Box wr g m)
    (h : ∀ v' w', Hid (Own8 w' base v' (L ++ [n])) → Hid (Below base w0 w') → Hid (Box w' g m) → wpList Try.prog ops Q rest (a.put o.dst v') w') :
    wpList Try.prog ops Q (o :: rest) a (wr.alloc (.cells #[.int .u8 n] 5)) := by
  obtain ⟨i0, hi, hz0, hz1, hz2⟩ := info_parts Try.info5
  have hne := hown.other hbox
  have hlt : g < wr.heap.size := (Array.getElem?_eq_some_iff.1 hbox).1
  refine wpList_append_own _ hgd s x 66 ho base 5 i0 (.int .u8 0) 1 1 Try.underlying66 hi hz0 hz1 hz2 rfl (by decide) v L.length (L.map (Value.int .u8)) hs (hown.alloc _) ⟨wr.heap.size, 0, none⟩ 1 1 [.int .u8 n] hx rfl ?_ ?_ (by unfold maxLen; omega) (by omega) (by simp; omega) ?_
  · intro j u hj
    match j, hj with
    | 0, hj =>
      simp at hj; subst hj
      have hr : (wr.alloc (.cells #[.int .u8 n] 5)).heap[wr.heap.size]? = some (.cells #[.int .u8 n] 5) := heap_alloc_new wr _
      rw [show (⟨wr.heap.size, 0, none⟩ : Addr).add 0 = ⟨wr.heap.size, 0, none⟩ from rfl, cell_of_row _ _ 0 _ 5 (0, 0) hr]; rfl
  · intro u hu; simp at hu; subst hu; rfl
  · intro v' w' ho' hg _
    refine h v' w' ?_ ?_ ?_
    · have e : (L ++ [n]).map (Value.int .u8) = L.map (Value.int .u8) ++ [.int .u8 n] := by simp
      show w'.ownsRow base 5 1 v' (L ++ [n]).length ((L ++ [n]).map (Value.int .u8))
      rw [e, List.length_append]; exact ho'
    · exact (hb.alloc hbase _).grown hg (by simp; omega) (fun k hk => (World.ownsRow.lt hown k hk).1)
    · show w'.heap[g]? = _
      rw [hg.block g (by simp; omega) (fun e => hne e.symm), Below.heap_alloc _ _ _ hlt]; exact hbox

def Put8 (w : World) (base : Nat) (L : List Int) (e : Ending) (w' : World) : Prop := ∃ v, e = .returned v ∧ Own8 w' base v L ∧ Below base w w'

def boxOf (w : World) (g : Nat) : Nat := match w.cell? ⟨g, 0, none⟩ with | some (.int _ q) => q.toNat | _ => 0
theorem boxOf_of {w : World} {g : Nat} {n : Int} (h : Box w g n) : boxOf w g = n.toNat := by unfold boxOf; rw [h.cell]

/-- what holds at each jump -/
def Jmp (w0 : World) (base G : Nat) (n : Int) (L : List Int) (a' : Act) (w' : World) : Prop :=
  ∃ (m : Int) (v : Value) (M : List Int) (u6 u7 u8 u9 u10 u11 u12 u13 u14 u15 u16 u17 u18 u19 u20 u21 u22 u23 u24 u25 u26 : Value) , a' = { tmps := #[v, .int .i64 n, undef, undef, .slice none 0 0, .func (.func 56) #[] #[.pointer (some ⟨G, 0, none⟩)], u6, u7, u8, u9, u10, u11, u12, u13, u14, u15, u16, u17, u18, u19, u20, u21, u22, u23, u24, u25, u26], defers := [] } ∧
    Hid (Box w' G m) ∧ Hid (Own8 w' base v (L ++ M)) ∧ Hid (Below base w0 w') ∧ Hid (putL n = M ++ putL m) ∧ 0 ≤ m ∧ m ≤ 2147483647

set_option maxRecDepth 100000 in
set_option maxHeartbeats 1000000 in
theorem put_any (n : Int) (w : World) (base : Nat) (v : Value) (L : List Int) (h : Own8 w base v L) (hbase : base ≤ w.heap.size) (h0 : 0 ≤ n) (h1 : n ≤ 2147483647) (hl : L.length ≤ 999000) :
    Calls Try.prog 31 #[v, .int .i64 n] w (Put8 w base (L ++ putL n)) := by
  have H := Lib.hid h; clear h
  have PL := Lib.hid (putL_len n)
  go_enter Try.func31, Try.ntmps31
  go_wp2_with fail

  refine wp_scope_jumps 0 (Jmp w base w.heap.size n L) (fun _ w' => boxOf w' w.heap.size) rfl ?_ ?_
  · go_wp2_with fail
    refine (digits_any _ _).mono ?_
    rintro e w' ⟨rfl, rfl⟩
    obtain ⟨m, hm⟩ : ∃ m, m = n := ⟨n, rfl⟩
    obtain ⟨M, hM⟩ : ∃ M : List Int, M = [] := ⟨_, rfl⟩
    have HBX : Hid (Box (w.alloc (.cells #[.int .i64 n] 3)) w.heap.size m) := by rw [hm]; exact heap_alloc_new w _
    have HO : Hid (Own8 (w.alloc (.cells #[.int .i64 n] 3)) base v (L ++ M)) := by rw [hM, List.append_nil]; exact World.ownsRow.alloc H.out _
    have HB : Hid (Below base w (w.alloc (.cells #[.int .i64 n] 3))) := (Below.refl _ _).alloc hbase _
    have HP : Hid (putL n = M ++ putL m) := by rw [hm, hM]; rfl
    have m0 : 0 ≤ m := by omega
    have m1 : m ≤ 2147483647 := by omega
    obtain ⟨wr, hwr⟩ : ∃ wr, wr = w.alloc (.cells #[.int .i64 n] 3) := ⟨_, rfl⟩
    go_wp2_with fail
    go_step3
    rw [← hwr] at HBX HO HB ⊢
    clear hm hM hwr
    go_wp2_with fail
    refine (next_any _ _ _ HBX.out m0 (by omega)).mono ?_
    rintro e w2 ⟨rfl, hbx2, ho2⟩
    have HO2 := Lib.hid (HO.out.only HBX.out ho2); have HB2 := Lib.hid (HB.out.trans (ho2.below hbase)); have HBX2 := Lib.hid hbx2; have HON := Lib.hid ho2
    clear hbx2 ho2
    have hsz2 : base ≤ w2.heap.size := Nat.le_trans hbase HB2.out.size
    have hML : (L ++ M).length ≤ 1000000 := by have e := PL.out.2; rw [HP.out, List.length_append] at e; rw [List.length_append]; omega
    have HML := Lib.hid hML; clear hML
    by_cases hmore : 0 < m / 128
    · have HE := Lib.hid (show putL m = (128 + m % 128) :: putL (m / 128) by rw [putL_more (n := m) (by omega) (by omega), Int.add_comm])
      go_wp2_with (at_builtin; refine app8 rfl (.tmp 16) (.tmp 20) rfl base _ _ rfl HO2.out (128 + m % 128) rfl HML.out w HB2.out hsz2 _ _ HBX2.out ?_; intro v' w3 ho3 hb3 hx3)
      go_step3
      exact ⟨rfl, m / 128, v', M ++ [128 + m % 128], _, _, _, _, _, _, _, _, _, _, _, _, _, _, _, _, _, _, _, _, _, rfl, hx3, (by have := ho3.out; rwa [List.append_assoc] at this), hb3, (by show _ = _; rw [HP.out, HE.out, List.append_assoc]; rfl), by omega, by omega⟩
    · have HE := Lib.hid (show putL m = [m % 128] by rw [putL_one (n := m) (by omega)]; congr 1; omega)
      go_wp2_with (at_builtin; refine app8 rfl (.tmp 22) (.tmp 25) rfl base _ _ rfl HO2.out (m % 128) rfl HML.out w HB2.out hsz2 _ _ HBX2.out ?_; intro v' w3 ho3 hb3 hx3)
      try simp only [Exit.jump]
      go_ret
      exact ⟨v', rfl, by rw [HP.out, HE.out, ← List.append_assoc]; exact ho3.out, hb3.out⟩
  · rintro a' wr ⟨m, v, M, u6, u7, u8, u9, u10, u11, u12, u13, u14, u15, u16, u17, u18, u19, u20, u21, u22, u23, u24, u25, u26, rfl, HBX, HO, HB, HP, m0, m1⟩
    go_wp2_with fail
    refine (next_any _ _ _ HBX.out m0 (by omega)).mono ?_
    rintro e w2 ⟨rfl, hbx2, ho2⟩
    have HO2 := Lib.hid (HO.out.only HBX.out ho2); have HB2 := Lib.hid (HB.out.trans (ho2.below hbase)); have HBX2 := Lib.hid hbx2; have HON := Lib.hid ho2
    clear hbx2 ho2
    have hsz2 : base ≤ w2.heap.size := Nat.le_trans hbase HB2.out.size
    have hML : (L ++ M).length ≤ 1000000 := by have e := PL.out.2; rw [HP.out, List.length_append] at e; rw [List.length_append]; omega
    have HML := Lib.hid hML; clear hML
    by_cases hmore : 0 < m / 128
    · have HE := Lib.hid (show putL m = (128 + m % 128) :: putL (m / 128) by rw [putL_more (n := m) (by omega) (by omega), Int.add_comm])
      go_wp2_with (at_builtin; refine app8 rfl (.tmp 16) (.tmp 20) rfl base _ _ rfl HO2.out (128 + m % 128) rfl HML.out w HB2.out hsz2 _ _ HBX2.out ?_; intro v' w3 ho3 hb3 hx3)
      go_step3
      exact ⟨rfl, ⟨m / 128, v', M ++ [128 + m % 128], _, _, _, _, _, _, _, _, _, _, _, _, _, _, _, _, _, _, _, _, _, rfl, hx3, (by have := ho3.out; rwa [List.append_assoc] at this), hb3, (by show _ = _; rw [HP.out, HE.out, List.append_assoc]; rfl), by omega, by omega⟩, by rw [boxOf_of hx3.out, boxOf_of HBX.out]; omega⟩
    · have HE := Lib.hid (show putL m = [m % 128] by rw [putL_one (n := m) (by omega)]; congr 1; omega)
      go_wp2_with (at_builtin; refine app8 rfl (.tmp 22) (.tmp 25) rfl base _ _ rfl HO2.out (m % 128) rfl HML.out w HB2.out hsz2 _ _ HBX2.out ?_; intro v' w3 ho3 hb3 hx3)
      try simp only [Exit.jump]
      go_ret
      exact ⟨v', rfl, by rw [HP.out, HE.out, ← List.append_assoc]; exact ho3.out, hb3.out⟩
end Go.Proofs.Ytddkckppmjcclaa
