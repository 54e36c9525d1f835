import Derived.Test.YtjkbmenmpnidhaaO8
import Derived.ArgAppend
import Derived.Test.YtjkbmenmpnidhaaE0
import Derived.ProofKit
import Derived.OpenShut
import Derived.ChangeOld
import Derived.ChangeMaps
import Derived.Lib.SmallJoins
import Derived.Deep.Slices
import Derived.Deep.Fields
import Derived.ChangeSame
import Derived.Test.YtjkbmenmpnidhaaRows
import Derived.WalkKit
import Derived.ShutString
import Derived.Below
/- Clocks of events: plain facts. -/
namespace Go.Proofs.Ytjkbmenmpnidhaa
open Go.RowKit
set_option linter.unusedSimpArgs false
set_option linter.unusedVariables false
theorem ref_join {A B : List Int} (hA : rightB A = true) (hB : rightB B = true) : trimL (sixteen (joinAt A B) 16) = grownL [A, B] := by
  symm
  refine grown_ext _ _ fun i => ?_
  rw [en_grown2 A B (fun j => (right_en hA j).1) (fun j => (right_en hB j).1), en_sixteen]
  split
  · rfl
  · have := right_len hA; have := right_len hB
    rw [en_of_le A i (by omega), en_of_le B i (by omega)]; rfl
theorem join_nonneg {A B : List Int} (hA : rightB A = true) (i : Nat) : 0 ≤ joinAt A B i := by
  have := (right_en hA i).1; unfold joinAt; omega
theorem ref_tick {A : List Int} (hA : rightB A = true) (g : Nat) (hg : g < 16) : trimL (sixteen (tickAt A g) 16) = grownL [A, stepL g (en A g + 1)] := by
  symm
  refine grown_ext _ _ fun i => ?_
  rw [en_grown2 A _ (fun j => (right_en hA j).1) (fun j => by rw [en_step]; have := (right_en hA g).1; split <;> omega), en_sixteen, en_step]
  have h0 := (right_en hA i).1
  by_cases h2 : i = g
  · subst h2
    rw [if_pos rfl, if_pos hg, tickAt, if_pos rfl]; omega
  · rw [if_neg h2]
    by_cases h1 : i < 16
    · rw [if_pos h1, tickAt, if_neg (by omega)]; omega
    · have := right_len hA
      rw [if_neg h1, en_of_le A i (by omega)]; rfl


def tickZ (c : List Int) (g : Nat) : List Int := grownL [c, stepL g (en c g + 1)]
/-- the clocks at some places, joined -/
def joinsZ (all : Nat → List Int) (es : List Int) : List Int := es.foldl (fun c k => grownL [c, all k.toNat]) []
theorem joins_snoc (all : Nat → List Int) (es : List Int) (k : Int) : joinsZ all (es ++ [k]) = grownL [joinsZ all es, all k.toNat] := by simp [joinsZ]
theorem joins_congr (f g : Nat → List Int) (es : List Int) (h : ∀ k ∈ es, f k.toNat = g k.toNat) : joinsZ f es = joinsZ g es := by
  unfold joinsZ
  generalize ([] : List Int) = c
  induction es generalizing c with
  | nil => rfl
  | cons k es ih =>
    rw [List.foldl_cons, List.foldl_cons, h k List.mem_cons_self]
    exact ih (fun x hx => h x (List.mem_cons_of_mem _ hx)) _
def ckA (caps : List Int) (L : List Ev) : Nat → List (List Int)
  | 0 => []
  | j + 1 => ckA caps L j ++ [tickZ (joinsZ (fun k => (ckA caps L j).getD k []) (edgesZ caps L j)) (evAt L j).g.toNat]
def ckZ (caps : List Int) (L : List Ev) (j : Nat) : List Int := (ckA caps L (j + 1)).getD j []
theorem ckA_len (caps : List Int) (L : List Ev) (j : Nat) : (ckA caps L j).length = j := by
  induction j with
  | zero => rfl
  | succ j ih => simp [ckA, ih]
theorem ckA_get (caps : List Int) (L : List Ev) (j k : Nat) (h : k < j) : (ckA caps L j).getD k [] = ckZ caps L k := by
  induction j with
  | zero => omega
  | succ j ih =>
    by_cases e : k = j
    · subst e; rfl
    · have := ih (by omega)
      rw [← this]
      show (ckA caps L j ++ _).getD k [] = _
      rw [List.getD_eq_getElem?_getD, List.getElem?_append_left (by rw [ckA_len]; omega), ← List.getD_eq_getElem?_getD]
theorem edges_lt (caps : List Int) (L : List Ev) (j : Nat) (k : Int) (h : k ∈ edgesZ caps L j) : 0 ≤ k ∧ k < (j : Int) := by
  obtain ⟨q, hq, hqj, _⟩ := (mem_edges caps L j _).1 h
  omega
theorem ckZ_eq (caps : List Int) (L : List Ev) (j : Nat) : ckZ caps L j = tickZ (joinsZ (ckZ caps L) (edgesZ caps L j)) (evAt L j).g.toNat := by
  have h : ckZ caps L j = tickZ (joinsZ (fun k => (ckA caps L j).getD k []) (edgesZ caps L j)) (evAt L j).g.toNat := by
    show (ckA caps L j ++ _).getD j [] = _
    rw [List.getD_eq_getElem?_getD, List.getElem?_append_right (by rw [ckA_len]; exact Nat.le_refl _), ckA_len, Nat.sub_self]; rfl
  rw [h, joins_congr _ (ckZ caps L) _ fun k hk => ?_]
  have := edges_lt caps L j k hk
  exact ckA_get caps L j k.toNat (by omega)
/-- right, and no entry above K -/
def Bd (K : Int) (c : List Int) : Prop := rightB c = true ∧ ∀ i, en c i ≤ K
theorem Bd.join {K : Int} {a b : List Int} (ha : Bd K a) (hb : Bd K b) : Bd K (grownL [a, b]) := by
  refine ⟨right_join ha.1 hb.1, fun i => ?_⟩
  rw [en_grown2 a b (fun j => (right_en ha.1 j).1) (fun j => (right_en hb.1 j).1)]
  have := ha.2 i; have := hb.2 i; omega
theorem Bd.mono {K K' : Int} {a : List Int} (h : Bd K a) (hk : K ≤ K') : Bd K' a := ⟨h.1, fun i => Int.le_trans (h.2 i) hk⟩
theorem Bd.nil (K : Int) (h : 0 ≤ K) : Bd K [] := ⟨by decide, fun i => by rw [en_nil]; exact h⟩
theorem Bd.tick {K : Int} {a : List Int} (h : Bd K a) (g : Nat) (hg : g < 16) (hK : K < 1099511627776) : Bd (K + 1) (tickZ a g) := by
  have h0 := right_en h.1 g
  have hs : ∀ j, 0 ≤ en (stepL g (en a g + 1)) j ∧ en (stepL g (en a g + 1)) j ≤ K + 1 := fun j => by
    rw [en_step]; have := h.2 g; split <;> (have := right_en h.1 g; have := right_en h.1 j; have := h.2 j; omega)
  have hr : rightB (stepL g (en a g + 1)) = true := right_of (by rw [step_len]; omega) fun j => by have := hs j; omega
  refine ⟨right_join h.1 hr, fun i => ?_⟩
  unfold tickZ
  rw [en_grown2 a _ (fun j => (right_en h.1 j).1) (fun j => (hs j).1)]
  have := h.2 i; have := (hs i).2; omega
theorem joins_bd (all : Nat → List Int) (es : List Int) (K : Int) (hK : 0 ≤ K) (h : ∀ k ∈ es, Bd K (all k.toNat)) : Bd K (joinsZ all es) := by
  unfold joinsZ
  have h0 := Bd.nil K hK
  revert h0
  generalize ([] : List Int) = c
  intro h0
  induction es generalizing c with
  | nil => exact h0
  | cons k es ih =>
    rw [List.foldl_cons]
    exact ih (fun x hx => h x (List.mem_cons_of_mem _ hx)) _ (h0.join (h k List.mem_cons_self))
theorem good_g {cn : Nat} {caps : List Int} {L : List Ev} (h : Good cn caps L) (j : Nat) (hj : j < L.length) : 0 ≤ (evAt L j).g ∧ (evAt L j).g ≤ 7 := by
  have hb := ok_of_wrong h.right j hj
  have hs := shape_ok (bad_parts hb).1
  exact ⟨hs.1, hs.2.1⟩
theorem ckZ_bd {cn : Nat} {caps : List Int} {L : List Ev} (h : Good cn caps L) : ∀ j, j < L.length → Bd ((j : Int) + 1) (ckZ caps L j) := by
  intro j
  induction j using Nat.strongRecOn with
  | ind j ih =>
    intro hj
    rw [ckZ_eq]
    have hf := h.few
    have hg := good_g h j hj
    refine (joins_bd _ _ (j : Int) (by omega) fun k hk => ?_).tick _ (by omega) (by omega)
    have hk2 := edges_lt caps L j k hk
    exact (ih k.toNat (by omega) (by omega)).mono (by omega)
end Go.Proofs.Ytjkbmenmpnidhaa
/- joiner: the clocks at some places. -/
namespace Go.Proofs.Ytjkbmenmpnidhaa
open Go.RowKit
set_option linter.unusedSimpArgs false
set_option linter.unusedVariables false
theorem joins_take (Z : Nat → List Int) (es : List Int) (q : Nat) (h : q < es.length) : joinsZ Z (es.take (q + 1)) = grownL [joinsZ Z (es.take q), Z (en es q).toNat] := by
  rw [List.take_add_one, List.getElem?_eq_getElem h, en_get es q h]
  exact joins_snoc _ _ _
theorem Sls.at {w : World} {R n : Nat} {Z : Nat → List Int} {i : Nat} (h : Sls w R n Z i) (j : Nat) (hj : j < i) : ∃ a m c, w.cell? ⟨R, j, none⟩ = some (.slice a m c) ∧ Ints w a m c (Z j) := by
  obtain ⟨cs, h1, h2, h3, h4⟩ := h
  obtain ⟨a, m, c, h5, h6⟩ := h4 j hj
  exact ⟨a, m, c, Bx.cell h2 j (by simpa using h5), h6⟩
theorem Bx.one {W : World} {B : Nat} {v : Value} {t : TypeId} (h : Bx W B #[v] t) : W.cell? ⟨B, 0, none⟩ = some v := Bx.cell h 0 rfl
set_option maxRecDepth 100000 in
set_option maxHeartbeats 8000000 in
theorem joiner_any (pa : Option Addr) (pn pc : Nat) (es : List Int) (b5 b2 R n i : Nat) (Z : Nat → List Int) (K : Int) (w : World) (hp : Ints w pa pn pc es) (hes : ∀ k ∈ es, 0 ≤ k ∧ k < (i : Int)) (hs : Sls w R n Z i) (hin : i ≤ 1000)
    (h2 : Bx w b2 #[.slice (some ⟨R, 0, none⟩) i n] 28) (h5 : Bx w b5 #[.pointer (some ⟨b2, 0, none⟩)] 53) (hK : 0 ≤ K) (hbd : ∀ k, k < i → Bd K (Z k)) :
    Calls Try.prog 36 #[.slice pa pn pc, .pointer (some ⟨b5, 0, none⟩)] w (GotIntsErr w (joinsZ Z es)) := by
  have hll := hp.len_eq
  have hplen := hp.len_le
  have HP := Lib.hid hp; have HS := Lib.hid hs; have H2 := Lib.hid h2; have H5 := Lib.hid h5; have HBD := Lib.hid hbd; have HES := Lib.hid hes
  have HTK := Lib.hid (joins_take Z es)
  have HJB := Lib.hid (fun q => joins_bd Z (es.take q) K hK fun k hk => by
    have := hes k (List.mem_of_mem_take hk)
    exact hbd k.toNat (by omega))
  clear hp hs h2 h5 hbd hes
  go_enter Try.func36, Try.ntmps36
  go_wp2_with fail
  go_loopw [5, 11] (fun v j wr => ∃ (q : Nat) (a : Option Addr) (m c : Nat), q ≤ pn ∧ j = .int .i64 q ∧ v = .slice a m c ∧ Ints wr a m c (joinsZ Z (es.take q)) ∧ Below w.heap.size w wr) (fun _ j _ => pn - (intOf j).toNat)
  case atStart => exact ⟨0, none, 0, 0, Nat.zero_le _, rfl, rfl, Ints.nil _, Below.refl _ _⟩
  case round =>
    obtain ⟨q, a, m, c, hq, rfl, rfl, hi, hb⟩ := hrel
    have HI := Lib.hid hi; have HB := Lib.hid hb; clear hi hb
    by_cases hlt : q < pn
    · have hlt' : (q : Int) < (pn : Int) := by omega
      obtain ⟨b, off, rfl, hc⟩ := (HP.out.below HB.out).cell q hlt
      have hx := HES.out (en es q) (en_mem es q (by omega))
      have HT := Lib.hid (HTK.out q (by omega))
      have HR1 := Lib.hid (HJB.out q).1
      obtain ⟨k, hk⟩ : ∃ k : Nat, en es q = (k : Int) := ⟨(en es q).toNat, by omega⟩
      rw [hk] at hc hx
      rw [hk, Int.toNat_natCast] at HT
      clear hk
      have hki : k < i := by omega
      have hkj : (k : Int) < (i : Int) := by omega
      have S := Lib.hid (HS.out.below HB.out)
      have HR2 := Lib.hid (HBD.out k hki).1
      obtain ⟨a2, m2, c2, hcell, hI2⟩ := S.out.at k hki
      have HI2 := Lib.hid hI2
      have t0 := (H2.out.below HB.out).one
      have t1 := (H5.out.below HB.out).one
      clear hI2 S hx
      go_wp2_with fail
      refine (join_ok _ _ _ _ _ _ _ _ _ HI.out HI2.out HR1.out HR2.out).mono ?_
      rintro e w1 ⟨a3, n3, c3, rfl, hi3, hb3⟩
      rw [← HT.out] at hi3
      have HI3 := Lib.hid hi3; have HB3 := Lib.hid (HB.out.trans (hb3.mono HB.out.size))
      clear hi3 hb3 HI HI2 t0 t1 hc hcell
      go_wp2_with fail
      go_roundw
      case rel => exact ⟨q + 1, _, _, _, by omega, by go_num, rfl, HI3.out, HB3.out⟩
      case measure => simp [intOf]; omega
    · have hqe : es.take q = es := List.take_of_length_le (by omega)
      have hi := HI.out
      rw [hqe] at hi
      have HI' := Lib.hid hi
      clear hi hqe
      go_wp2_with fail
      go_ret2
      exact ⟨_, _, _, rfl, HI'.out, HB.out⟩
end Go.Proofs.Ytjkbmenmpnidhaa
/- clocks: one more at a time. -/
namespace Go.Proofs.Ytjkbmenmpnidhaa
open Go.RowKit
set_option linter.unusedSimpArgs false
set_option linter.unusedVariables false
theorem Sls.away {w w' : World} {R n b : Nat} {Z : Nat → List Int} {i : Nat} (h : Sls w R n Z i) (hg : w.grownBy w' (some b)) (hne : R ≠ b) (hs : ∀ off v, w.cell? ⟨b, off, none⟩ = some v → isSl v) : Sls w' R n Z i := by
  obtain ⟨cs, h1, h2, h3, h4⟩ := h
  refine ⟨cs, h1, Bx.other h2 hg (some_ne hne), h3, fun j hj => ?_⟩
  obtain ⟨a, m, c, h5, h6⟩ := h4 j hj
  exact ⟨a, m, c, h5, h6.away hg hs⟩
theorem Bx.isSl1 {W : World} {B : Nat} {a : Option Addr} {n c : Nat} {t : TypeId} (h : Bx W B #[.slice a n c] t) : ∀ off v, W.cell? ⟨B, off, none⟩ = some v → isSl v := by
  intro off v hv
  rw [cell_of_row W B off _ t (0, 0) h] at hv
  match off, hv with
  | 0, hv => simp at hv; exact ⟨_, _, _, hv.symm⟩
  | k + 1, hv => simp at hv
/-- a new row of n slices, all nil -/
theorem make_sls (w : World) (l n : Nat) (hl : l ≤ n) (hn : n ≤ 1000) (Z : Nat → List Int) :
    ∃ w', (Instr.makeSlice 28 (.int .i64 (l : Int)) (.int .i64 (n : Int))).run Try.prog w = .ok (.slice (some ⟨w.heap.size, 0, none⟩) l n) w' ∧ Sls w' w.heap.size n Z 0 ∧ Below w.heap.size w w' := by
  obtain ⟨i0, hi, hz0, hz1, hz2⟩ := info_parts Try.info22s
  have hr := run_make (P := Try.prog) w 28 22 i0 (.slice none 0 0) Try.underlying28 hi hz0 .i64 .i64 (l : Int) (n : Int) (by omega) (by omega) (by rw [hz2]; omega) (by omega)
  rw [Int.toNat_natCast, Int.toNat_natCast, hz1] at hr
  refine ⟨_, hr, ⟨List.replicate n (.slice none 0 0), by simp, ?_, fun v hv => ⟨none, 0, 0, (List.mem_replicate.1 hv).2⟩, fun j hj => absurd hj (by omega)⟩, below_alloc w _⟩
  have e : madeCells (Value.slice none 0 0).cells (n * 1) = (List.replicate n (Value.slice none 0 0)).toArray := by
    have := toList_madeCells_one (.slice none 0 0) n
    simp [Value.cells]
    apply Array.ext'
    simpa using this
  rw [e]
  exact Bx.new w _ 22
theorem app_sls {ops : Array Oper} {rest : List Oper} {o : Oper} {a : Act} {Q : Exit → Act → World → Prop} {W : World} (hgd : o.guard = none) (s x : Operand)
    (ho : o.op = .call { callee := .builtin .append, args := #[s, x], argTypes := #[28, 28] }) (R n i : Nat) (Z : Nat → List Int) (hs : a.eval s = .slice (some ⟨R, 0, none⟩) i n) (hS : Sls W R n Z i) (hin : i < n) (hn : n ≤ 1000)
    (b : Nat) (hx : a.eval x = .slice (some ⟨b, 0, none⟩) 1 1) (ar : Option Addr) (m c : Nat) (hv : W.cell? ⟨b, 0, none⟩ = some (.slice ar m c)) (hI : Ints W ar m c (Z i))
    (hK : ∀ Y, Hid (Sls Y R n Z (i + 1)) → Hid (W.grownBy Y (some R)) → wpList Try.prog ops Q rest (a.put o.dst (.slice (some ⟨R, 0, none⟩) (i + 1) n)) Y) :
    wpList Try.prog ops Q (o :: rest) a W := by
  obtain ⟨i0, hi, hz0, hz1, hz2⟩ := info_parts Try.info22s
  refine wpList_plain hgd fun K hK' => ?_
  obtain ⟨⟨u, hu⟩, hf⟩ := hS.slot i hin
  have hrun := run_append_room_cells (P := Try.prog) (w := W) 28 o.type 22 i0 Try.underlying28 hi R 0 i n ⟨b, 0, none⟩ 1 1 [.slice ar m c] (by simp [hz1]) (fun j v hj => by
    match j, hj with
    | 0, hj => simp at hj; subst hj; exact hv) (fun v hv => by simp at hv; subst hv; rfl) (by omega) (fun j hj => by
    have : j = 0 := by simpa using hj
    subst this; rw [hz1]; simp [hu]) (fun j hj => by
    have : j = 0 := by simpa using hj
    subst this; rw [hz1]; simpa using hf)
  have e : W.setCells R (0 + i * i0.size) [.slice ar m c] = W.setCell ⟨R, i, none⟩ (.slice ar m c) := by
    rw [hz1, Nat.zero_add, Nat.mul_one]; rfl
  rw [e] at hrun
  unfold Oper.wp
  simp [execOp, ho, resolve, invoke, builtin, hs, hx, hrun, Result.andThen]
  exact hK' _ _ (hK _ (hS.step hin hI) (grow_setCell W R i _))
set_option maxRecDepth 100000 in
set_option maxHeartbeats 8000000 in
theorem joiner_box (b2 : Nat) (w : World) : Calls Try.prog 25 #[.pointer (some ⟨b2, 0, none⟩)] w fun e w' => e = .returned (.func (.func 36) #[] #[.pointer (some ⟨w.heap.size, 0, none⟩)]) ∧ w' = w.alloc (.cells #[.pointer (some ⟨b2, 0, none⟩)] 53) := by
  go_enter Try.func25, Try.ntmps25
  go_wp2_with fail
  go_ret
  exact ⟨rfl, rfl⟩
set_option maxRecDepth 100000 in
set_option maxHeartbeats 8000000 in
theorem clocks_any (cn : Nat) (caps : List Int) (a : Option Addr) (n c : Nat) (L : List Ev) (R0 N0 m cc : Nat) (w : World) (h : Evs w a n c L) (hr : Sls w R0 N0 (edgesZ caps L) m) (hm : m ≤ n) (hmc : m ≤ cc) (hg : Good cn caps L) :
    Calls Try.prog 24 #[.slice a n c, .slice (some ⟨R0, 0, none⟩) m cc] w (GotSls w m (ckZ caps L)) := by
  have hll := h.recs.len_eq
  have hn1 : n ≤ 1000 := by have := hg.few; omega
  have hm1 : m ≤ 1000 := by omega
  have HE := Lib.hid h; have HR := Lib.hid hr; have HG := Lib.hid hg
  have HB0 := Lib.hid (fun j (hj : j < n) => ckZ_bd hg j (by omega))
  have HGG := Lib.hid (fun j (hj : j < n) => good_g hg j (by omega))
  have HCK := Lib.hid (ckZ_eq caps L)
  obtain ⟨w1, hrun, hs1, hb1⟩ := make_sls w 0 m (by omega) hm1 (ckZ caps L)
  have S1 := Lib.hid hs1; have B1 := Lib.hid hb1
  clear h hr hg hs1 hb1
  have hrun' : (Instr.makeSlice 28 (.int .i64 0) (.int .i64 (m : Int))).run Try.prog w = .ok (.slice (some ⟨w.heap.size, 0, none⟩) 0 m) w1 := hrun
  clear hrun
  go_enter Try.func24, Try.ntmps24
  go_wp2_with fail
  clear hrun'
  refine (joiner_box _ _).mono ?_
  rintro e w2 ⟨rfl, rfl⟩
  have D2 := Lib.hid (((Below.refl w1.heap.size w1).alloc (Nat.le_refl _) (.cells #[.slice (some ⟨w.heap.size, 0, none⟩) 0 m] 28)).alloc (by simp) (.cells #[.pointer (some ⟨w1.heap.size, 0, none⟩)] 53))
  have S2 := Lib.hid (S1.out.below D2.out); have B2 := Lib.hid (B1.out.trans (Below.mono D2.out B1.out.size))
  have A2 := Lib.hid ((Bx.new w1 #[.slice (some ⟨w.heap.size, 0, none⟩) 0 m] 28).below (below_alloc _ (.cells #[.pointer (some ⟨w1.heap.size, 0, none⟩)] 53)))
  have P2 := Lib.hid (Bx.new2 w1 (.cells #[.slice (some ⟨w.heap.size, 0, none⟩) 0 m] 28) #[.pointer (some ⟨w1.heap.size, 0, none⟩)] 53)
  have hsz : (w1.alloc (.cells #[.slice (some ⟨w.heap.size, 0, none⟩) 0 m] 28)).heap.size = w1.heap.size + 1 := by simp
  rw [hsz]
  clear hsz
  have hRb := S1.out.lt
  have hwb := B1.out.size
  obtain ⟨X, hX⟩ : ∃ X, X = ((w1.alloc (.cells #[.slice (some ⟨w.heap.size, 0, none⟩) 0 m] 28)).alloc (.cells #[.pointer (some ⟨w1.heap.size, 0, none⟩)] 53)) := ⟨_, rfl⟩
  rw [← hX] at A2 P2 S2 B2 D2 ⊢
  clear hX
  obtain ⟨R, hR⟩ : ∃ z, z = w.heap.size := ⟨_, rfl⟩
  obtain ⟨b2, hb2⟩ : ∃ z, z = w1.heap.size := ⟨_, rfl⟩
  obtain ⟨b5, hb5⟩ : ∃ z, z = w1.heap.size + 1 := ⟨_, rfl⟩
  rw [← hR] at A2 S2 hRb ⊢
  rw [← hb5] at P2 ⊢
  rw [← hb2] at A2 P2 hRb ⊢
  have n1 : R ≠ b2 := by omega
  have n2 : b5 ≠ b2 := by omega
  have n3 : b5 ≠ R := by omega
  have n4 : w.heap.size ≤ R := by omega
  have n5 : w.heap.size ≤ b2 := by omega
  clear S1 B1 D2 hRb hwb hR hb2 hb5
  go_wp2_with fail
  go_loopw [18] (fun j wr => ∃ i : Nat, i ≤ m ∧ j = .int .i64 i ∧ Sls wr R m (ckZ caps L) i ∧ Bx wr b2 #[.slice (some ⟨R, 0, none⟩) i m] 28 ∧ Bx wr b5 #[.pointer (some ⟨b2, 0, none⟩)] 53 ∧ Below w.heap.size w wr) (fun j _ => m - (intOf j).toNat)
  case atStart => exact ⟨0, Nat.zero_le _, rfl, S2.out, A2.out, P2.out, B2.out⟩
  case round =>
    obtain ⟨i, hi, rfl, hs, ha, hp, hb⟩ := hrel
    have S := Lib.hid hs; have A := Lib.hid ha; have P := Lib.hid hp; have B := Lib.hid hb
    clear hs ha hp hb S2 A2 P2 B2
    by_cases hlt : i < m
    · have hlt' : (i : Int) < (m : Int) := by omega
      obtain ⟨ar, mr, cr, hcell, hIr⟩ := (HR.out.below B.out).at i hlt
      have HIR := Lib.hid hIr
      have EW := Lib.hid (HE.out.below B.out)
      have hgb := HGG.out i (by omega)
      have HBD := Lib.hid (joins_bd (ckZ caps L) (edgesZ caps L i) (i : Int) (by omega) fun k hk => by
        have := edges_lt caps L i k hk
        exact (HB0.out k.toNat (by omega)).mono (by omega))
      have HCI := Lib.hid (HCK.out i)
      obtain ⟨g, hge⟩ : ∃ g : Nat, (evAt L i).g = (g : Int) := ⟨(evAt L i).g.toNat, by omega⟩
      rw [hge] at hgb
      rw [hge, Int.toNat_natCast] at HCI
      have HGE := Lib.hid hge
      have hg16 : g < 16 := by omega
      clear hIr hge hgb
      go_wp2_with fail
      refine (joiner_any ar mr cr (edgesZ caps L i) b5 b2 R m i (ckZ caps L) (i : Int) _ HIR.out (fun k hk => edges_lt caps L i k hk) S.out (by omega) A.out P.out (by omega) (fun k hk => (HB0.out k (by omega)).mono (by omega))).mono ?_
      rintro e w3 ⟨a3, m3, c3, rfl, hJ, hb⟩
      have S3 := Lib.hid (S.out.below hb); have A3 := Lib.hid (Bx.below A.out hb); have P3 := Lib.hid (Bx.below P.out hb); have B3 := Lib.hid (B.out.trans (Below.mono hb B.out.size)); have E3 := Lib.hid (EW.out.below hb)
      have HJ := Lib.hid hJ
      obtain ⟨J, hJe⟩ : ∃ J, J = joinsZ (ckZ caps L) (edgesZ caps L i) := ⟨_, rfl⟩
      rw [← hJe] at HJ HBD HCI
      clear hJ hb S A P B EW HIR hcell hJe
      obtain ⟨be, oe, hok, rfl, hc0, -, -, -, -⟩ := E3.out.at i (by omega)
      rw [HGE.out] at hc0
      have hin : (i : Int) < (n : Int) := by omega
      clear hok
      go_wp2_with fail
      refine (tick_ok a3 m3 c3 J g _ HJ.out HBD.out.1 hg16 (by have := HBD.out.2 g; omega)).mono ?_
      rintro e w4 ⟨a4, m4, c4, rfl, hT, hb⟩
      have S4 := Lib.hid (S3.out.below hb); have A4 := Lib.hid (Bx.below A3.out hb); have P4 := Lib.hid (Bx.below P3.out hb); have B4 := Lib.hid (B3.out.trans (Below.mono hb B3.out.size))
      have HT := Lib.hid (show Ints w4 a4 m4 c4 (ckZ caps L i) by rw [HCI.out]; exact hT)
      clear hT hb S3 A3 P3 B3 E3 HJ hc0 HCI HBD
      have DX := Lib.hid (below_alloc w4 (.cells #[.slice a4 m4 c4] 22))
      have SX := Lib.hid (S4.out.below DX.out); have AX := Lib.hid (Bx.below A4.out DX.out); have PX := Lib.hid (Bx.below P4.out DX.out); have BX := Lib.hid (B4.out.trans (Below.mono DX.out B4.out.size)); have IX := Lib.hid (HT.out.below DX.out)
      have VX := Lib.hid (Bx.one (Bx.new w4 #[.slice a4 m4 c4] 22))
      have t0 := A4.out.one
      clear S4 P4 B4 DX HT
      go_wp2_with (at_builtin; refine app_sls rfl (.tmp 44) (.tmp 46) rfl R m i (ckZ caps L) rfl SX.out hlt hm1 w4.heap.size rfl a4 m4 c4 VX.out IX.out ?_; intro Y SY GY; have AY := Lib.hid (Bx.other AX.out GY.out (some_ne (Ne.symm n1))); have PY := Lib.hid (Bx.other PX.out GY.out (some_ne n3)); have BY := Lib.hid (BX.out.grown GY.out BX.out.size (fun k hk => by cases hk; exact n4)); clear SX AX PX BX IX VX GY A4 t0; have t0 := AY.out.one; have f0 := Bx.froz AY.out 0; have hl := Bx.lt AY.out)
      have G := Lib.hid (grow_setCell Y b2 0 (.slice (some ⟨R, 0, none⟩) (i + 1) m))
      have SZ := Lib.hid (SY.out.away G.out n1 (Bx.isSl1 AY.out))
      have AZ := Lib.hid (show Bx (Y.setCell ⟨b2, 0, none⟩ (.slice (some ⟨R, 0, none⟩) (i + 1) m)) b2 #[.slice (some ⟨R, 0, none⟩) (i + 1) m] 28 by have := Bx.set AY.out 0 (.slice (some ⟨R, 0, none⟩) (i + 1) m); simpa using this)
      have PZ := Lib.hid (Bx.other PY.out G.out (some_ne n2))
      have BZ := Lib.hid (BY.out.grown G.out BY.out.size (fun k hk => by cases hk; exact n5))
      clear G SY AY PY BY
      go_roundw
      case rel => exact ⟨i + 1, by omega, by go_num, SZ.out, AZ.out, PZ.out, BZ.out⟩
      case measure => simp [intOf]; omega
    · have hie : i = m := by omega
      subst hie
      have t0 := A.out.one
      go_wp2_with fail
      go_ret2
      exact ⟨R, rfl, S.out, B.out⟩
end Go.Proofs.Ytjkbmenmpnidhaa
/- The reference: All. -/
namespace Go.Proofs.Ytjkbmenmpnidhaa
open Go.RowKit
set_option linter.unusedSimpArgs false
set_option linter.unusedVariables false
/-- numbers that lie in a row of numbers -/
structure IntsT (w : World) (a : Option Addr) (n c : Nat) (L : List Int) : Prop where
  ints : Ints w a n c L
  row : ∀ b off sp, a = some ⟨b, off, sp⟩ → ∃ cs fr, w.heap[b]? = some (.cells cs 3 fr)
theorem IntsT.grown {w w' : World} {a : Option Addr} {n c : Nat} {L : List Int} (h : IntsT w a n c L) {row : Option Nat} (hg : w.grownBy w' row) (hne : ∀ b cs fr, w.heap[b]? = some (.cells cs 3 fr) → some b ≠ row) : IntsT w' a n c L := by
  have key : ∀ b off sp, a = some ⟨b, off, sp⟩ → w'.heap[b]? = w.heap[b]? := fun b off sp e => by
    obtain ⟨cs, fr, hh⟩ := h.row b off sp e
    exact hg.block b (Array.getElem?_eq_some_iff.1 hh).1 (hne b cs fr hh)
  refine ⟨⟨h.ints.len_eq, h.ints.le_cap, h.ints.cap_le, h.ints.none_, h.ints.bound, fun i hi => ?_⟩, fun b off sp e => ?_⟩
  · obtain ⟨b, off, ha, hc⟩ := h.ints.cell i hi
    refine ⟨b, off, ha, ?_⟩
    have hb := key b off none ha
    simp only [World.cell?] at hc ⊢
    rw [hb]; exact hc
  · rw [key b off sp e]; exact h.row b off sp e
theorem IntsT.below {w w' : World} {a : Option Addr} {n c : Nat} {L : List Int} (h : IntsT w a n c L) (hb : Below w.heap.size w w') : IntsT w' a n c L :=
  ⟨h.ints.below hb, fun b off sp e => by
    obtain ⟨cs, fr, hh⟩ := h.row b off sp e
    exact ⟨cs, fr, (hb.block b (Array.getElem?_eq_some_iff.1 hh).1).trans hh⟩⟩
theorem Own.intsT {w : World} {base : Nat} {v : Value} {L : List Int} (h : Own w base v L) (hb : ∀ i, I64 (en L i)) : ∃ a cap, v = .slice a L.length cap ∧ IntsT w a L.length cap L := by
  obtain ⟨a, cap, e, hi⟩ := h.ints hb
  refine ⟨a, cap, e, hi, fun b off sp ea => ?_⟩
  rcases h.2 with ⟨hv, hn⟩ | ⟨g, cap2, cur, hv, hg, hh, _⟩
  · rw [hv] at e; injection e with e1 _ _; rw [← e1] at ea; cases ea
  · rw [hv] at e; injection e with e1 _ _; rw [← e1] at ea; cases ea; exact ⟨cur, _, hh⟩
def GotIntsT (w : World) (L : List Int) (e : Ending) (w' : World) : Prop := ∃ a n cap, e = .returned (.slice a n cap) ∧ IntsT w' a n cap L ∧ Below w.heap.size w w'
set_option maxRecDepth 100000 in
theorem reftrim_T (a : Option Addr) (len cap : Nat) (l : List Int) (w : World) (h : Ints w a len cap l) (hl : ∀ n ∈ l, 0 ≤ n) (hs : len ≤ 1000) :
    Calls Try.prog 39 #[.slice a len cap] w (GotIntsT w (trimL l)) := by
  have hlc := h.le_cap
  have hcm := h.cap_le
  unfold maxLen at hcm
  have HL := Lib.hid hl; have H := Lib.hid h; clear hl h
  go_enter Try.func39, Try.ntmps39
  go_wp2_with fail
  go_loopw [3, 11] (fun v i wr => ∃ g : Nat, g ≤ len ∧ i = .int .i64 g ∧ Own wr w.heap.size v ((trimL l).take g) ∧ Below w.heap.size w wr) (fun _ i _ => len - (intOf i).toNat)
  case atStart => exact ⟨0, Nat.zero_le _, rfl, own_nil w, below_alloc _ _⟩
  case round =>
    obtain ⟨g, hg, rfl, ho, hb⟩ := hrel
    have HO := Lib.hid ho; have HB := Lib.hid hb; clear ho hb
    have hsz := HB.out.size
    by_cases hlt : g < len
    · obtain ⟨b, off, rfl, hcg⟩ := (H.out.below HB.out).cell g hlt
      have hgc : ¬ cap = g := by omega
      have hgi : (g : Int) < (len : Int) := by omega
      go_wp2_with fail
      go_loop [5, 18] (fun r i => ∃ k : Nat, k ≤ len - g ∧ i = .int .i64 k ∧ r = .int .i64 (((l.drop g).take k).foldl max 0)) (fun _ i => len - g - (intOf i).toNat)
      case atStart => exact ⟨0, Nat.zero_le _, rfl, rfl⟩
      case round =>
        obtain ⟨k, hk, rfl, rfl⟩ := hrel
        have hx := foldmax_succ l g k
        rw [H.out.len_eq] at hx
        have hx2 := foldmax_i64 l H.out.bound g k
        obtain ⟨r, hr⟩ : ∃ r, r = ((l.drop g).take k).foldl max 0 := ⟨_, rfl⟩
        rw [← hr] at hx hx2 ⊢
        obtain ⟨hr1, hr2⟩ := hx2
        have HX := Lib.hid hx; have HR := Lib.hid hr; clear hx hr
        by_cases hlk : g + k < len
        · obtain ⟨b', off', hbo, hc⟩ := (H.out.below HB.out).cell (g + k) hlk
          simp only [Option.some.injEq, Addr.mk.injEq, and_true] at hbo
          obtain ⟨rfl, rfl⟩ := hbo
          rw [← Nat.add_assoc] at hc
          have hlk' : k < len - g := by omega
          obtain ⟨y, hy⟩ : ∃ y, y = en l (g + k) := ⟨_, rfl⟩
          rw [← hy] at hc
          have HY := Lib.hid hy; clear hy
          by_cases hry : r < y
          · go_wp2_with fail
            go_round
            case rel => exact ⟨k + 1, by omega, by go_num, by rw [HX.out hlk, ← HY.out, Int.max_eq_right (by omega)]⟩
            case measure => simp [intOf]; omega
          · go_wp2_with fail
            go_round
            case rel => exact ⟨k + 1, by omega, by go_num, by rw [HX.out hlk, ← HY.out, Int.max_eq_left (by omega)]⟩
            case measure => simp [intOf]; omega
        · have hkk : ((l.drop g).take k) = l.drop g := List.take_of_length_le (by rw [List.length_drop, H.out.len_eq]; omega)
          have hpos := posdrop l HL.out g
          rw [← hkk, ← HR.out] at hpos
          have HP := Lib.hid hpos; clear hkk hpos
          by_cases hrp : 0 < r
          · have htr := take_own l g (HP.out.1 hrp)
            have HT := Lib.hid htr; clear htr
            obtain ⟨y, hy⟩ : ∃ y, y = en l g := ⟨_, rfl⟩
            rw [← hy] at hcg
            have HY := Lib.hid hy; clear hy
            have htl := trim_len l
            rw [H.out.len_eq] at htl
            go_wp2_with (at_builtin; refine app1 rfl (.tmp 28) (.tmp 33) rfl w.heap.size _ _ rfl HO.out y rfl (by rw [List.length_take]; omega) w HB.out hsz ?_; intro v' w1 ho1 hb1)
            go_roundw
            case rel => exact ⟨g + 1, by omega, by go_num, by rw [← HT.out, ← HY.out]; exact ho1.out, hb1.out⟩
            case measure => simp [intOf]; omega
          · have hge : ¬ g < (trimL l).length := fun h => hrp (HP.out.2 h)
            have htk : (trimL l).take (g + 1) = (trimL l).take g := by rw [List.take_of_length_le (by omega), List.take_of_length_le (by omega)]
            have HT := Lib.hid htk; clear htk hge
            go_wp2_with fail
            go_roundw
            case rel => exact ⟨g + 1, by omega, by go_num, by rw [HT.out]; exact HO.out, HB.out⟩
            case measure => simp [intOf]; omega
    · have htl := trim_len l
      rw [H.out.len_eq] at htl
      have hkk : (trimL l).take g = trimL l := List.take_of_length_le (by omega)
      have ho := HO.out
      rw [hkk] at ho
      obtain ⟨a', cap', rfl, hI⟩ := ho.intsT (fun i => by rw [en_trim]; exact H.out.bound i)
      have HI := Lib.hid hI; clear ho hI hkk HO
      go_wp2_with fail
      go_ret
      exact ⟨_, _, _, rfl, HI.out, HB.out⟩
set_option maxRecDepth 100000 in
theorem reftick_T (a : Option Addr) (len cap : Nat) (l : List Int) (t : Int) (w : World) (h : Ints w a len cap l) (hr : ∀ i, 0 ≤ en l i ∧ en l i ≤ 1099511627776) :
    Calls Try.prog 27 #[.slice a len cap, .int .i64 t] w (GotIntsT w (trimL (sixteen (tickAt l t) 16))) := by
  have HN := Lib.hid hr; have H := Lib.hid h; clear hr h
  go_enter Try.func27, Try.ntmps27
  go_wp2_with fail
  go_loopw [5, 6] (fun v i wr => ∃ g : Nat, g ≤ 16 ∧ i = .int .i64 g ∧ Own wr w.heap.size v (sixteen (tickAt l t) g) ∧ Below w.heap.size w wr) (fun _ i _ => 16 - (intOf i).toNat)
  case atStart => exact ⟨0, Nat.zero_le _, rfl, own_nil w, below_alloc _ _⟩
  case round =>
    obtain ⟨g, hg, rfl, ho, hb⟩ := hrel
    have HO := Lib.hid ho; have HB := Lib.hid hb; clear ho hb
    have hsz := HB.out.size
    by_cases hlt : g < 16
    · have hs := sixteen_succ (tickAt l t) g
      obtain ⟨hx1, hx2⟩ := HN.out g
      obtain ⟨x, hx⟩ : ∃ x, x = en l g := ⟨_, rfl⟩
      rw [← hx] at hx1 hx2
      by_cases hgt : (g : Int) = t
      · have hj : tickAt l t g = x + 1 := by rw [tickAt, if_pos hgt, hx]
        rw [hj] at hs
        have HS := Lib.hid hs; have HX := Lib.hid hx; clear hs hx hj
        subst hgt
        go_wp2_with fail
        refine (refat_any _ _ _ _ _ _ (H.out.below HB.out) (by omega)).mono ?_
        rintro e w' ⟨rfl, rfl⟩
        rw [Int.toNat_natCast, ← HX.out]
        go_wp2_with (at_builtin; refine app1 rfl (.tmp 21) (.tmp 23) rfl w.heap.size _ _ rfl HO.out (x + 1) rfl (by rw [sixteen_len]; omega) w HB.out hsz ?_; intro v' w1 ho1 hb1)
        go_roundw
        case rel => exact ⟨g + 1, by omega, by go_num, by rw [HS.out]; exact ho1.out, hb1.out⟩
        case measure => simp [intOf]; omega
      · have hj : tickAt l t g = x := by rw [tickAt, if_neg hgt, hx]
        rw [hj] at hs
        have hne : ((g : Int) == t) = false := by simpa using hgt
        have HS := Lib.hid hs; have HX := Lib.hid hx; clear hs hx hj
        go_wp2_with fail
        refine (refat_any _ _ _ _ _ _ (H.out.below HB.out) (by omega)).mono ?_
        rintro e w' ⟨rfl, rfl⟩
        rw [Int.toNat_natCast, ← HX.out]
        go_wp2_with (at_builtin; refine app1 rfl (.tmp 21) (.tmp 23) rfl w.heap.size _ _ rfl HO.out x rfl (by rw [sixteen_len]; omega) w HB.out hsz ?_; intro v' w1 ho1 hb1)
        go_roundw
        case rel => exact ⟨g + 1, by omega, by go_num, by rw [HS.out]; exact ho1.out, hb1.out⟩
        case measure => simp [intOf]; omega
    · obtain rfl : g = 16 := by omega
      obtain ⟨a', cap', rfl, hI⟩ := HO.out.ints (fun i => by
        rw [en_sixteen]; split
        · have := HN.out i; unfold tickAt I64 at *; split <;> omega
        · exact ⟨by omega, by omega⟩)
      have HI := Lib.hid hI; clear hI
      go_wp2_with fail
      refine (reftrim_T _ _ _ _ _ HI.out (fun n hn => by
        obtain ⟨i, hi, rfl⟩ := List.getElem_of_mem hn
        have := (HN.out i).1
        simp only [sixteen, List.getElem_map, List.getElem_range, tickAt]
        split <;> omega) (by rw [sixteen_len]; omega)).mono ?_
      rintro e w2 ⟨a3, n3, c3, rfl, hi3, hb3⟩
      have hb' := HB.out.trans (hb3.mono HB.out.size)
      have HI3 := Lib.hid hi3; have HB3 := Lib.hid hb'; clear hi3 hb3 hb'
      go_wp2_with fail
      go_ret
      exact ⟨_, _, _, rfl, HI3.out, HB3.out⟩
/-- an own row of such -/
def OwnZ (w : World) (base : Nat) (v : Value) (Z : Nat → List Int) (m : Nat) : Prop := ∃ vs : List Value, vs.length = m ∧ w.ownsRow base 22 1 v m vs ∧ ∀ j, j < m → ∃ a n c, vs[j]? = some (.slice a n c) ∧ IntsT w a n c (Z j)
theorem OwnZ.below {w w' : World} {base : Nat} {v : Value} {Z : Nat → List Int} {m : Nat} (h : OwnZ w base v Z m) (hb : Below w.heap.size w w') : OwnZ w' base v Z m := by
  obtain ⟨vs, h1, h2, h3⟩ := h
  refine ⟨vs, h1, h2.kept (row := none) ⟨hb.os, hb.tape, hb.output, hb.size, fun k hk _ => hb.block k hk⟩ (Classical.em _), fun j hj => ?_⟩
  obtain ⟨a, n, c, h4, h5⟩ := h3 j hj
  exact ⟨a, n, c, h4, h5.below hb⟩
theorem OwnZ.nil (w : World) (Z : Nat → List Int) : OwnZ (w.alloc (.cells #[] 22)) w.heap.size (.slice (some ⟨w.heap.size, 0, none⟩) 0 0) Z 0 :=
  ⟨[], rfl, World.ownsRow_lit w #[] 0 (Nat.le_refl _) (by decide) rfl, fun j hj => absurd hj (by omega)⟩
theorem OwnZ.at {w : World} {base : Nat} {v : Value} {Z : Nat → List Int} {m : Nat} (h : OwnZ w base v Z m) (j : Nat) (hj : j < m) :
    ∃ g cap a n c, v = .slice (some ⟨g, 0, none⟩) m cap ∧ w.cell? ⟨g, j, none⟩ = some (.slice a n c) ∧ IntsT w a n c (Z j) := by
  obtain ⟨vs, h1, h2, h3⟩ := h
  obtain ⟨a, n, c, h4, h5⟩ := h3 j hj
  rcases h2.2 with ⟨_, hn⟩ | ⟨g, cap, cur, hv, hg, hh, hnc, hcm, hcs, htake⟩
  · omega
  · refine ⟨g, cap, a, n, c, hv, ?_, h5⟩
    rw [cell_of_row w g j _ 22 (0, 0) hh]
    have e : cur[j]? = (cur.toList.take (m * 1))[j]? := by
      rw [List.getElem?_take, if_pos (by omega)]; simp
    rw [e, htake, h4]
theorem OwnZ.len {w : World} {base : Nat} {v : Value} {Z : Nat → List Int} {m : Nat} (h : OwnZ w base v Z m) : ∃ a cap, v = .slice a m cap := by
  obtain ⟨vs, h1, h2, h3⟩ := h
  rcases h2.2 with ⟨hv, hn⟩ | ⟨g, cap, cur, hv, _⟩
  · exact ⟨none, 0, by rw [hv, hn]⟩
  · exact ⟨_, _, hv⟩
theorem app_ownZ {ops : Array Oper} {rest : List Oper} {o : Oper} {a : Act} {Q : Exit → Act → World → Prop} {wr : World} (hgd : o.guard = none) (s x : Operand)
    (ho : o.op = .call { callee := .builtin .append, args := #[s, x], argTypes := #[28, 28] }) (base : Nat) (v : Value) (Z : Nat → List Int) (m : Nat) (hs : a.eval s = v) (hown : OwnZ wr base v Z m) (ar : Option Addr) (n c : Nat) (hI : IntsT wr ar n c (Z m))
    (hx : a.eval x = .slice (some ⟨wr.heap.size, 0, none⟩) 1 1) (hlen : m ≤ 1000) (w0 : World) (hb : Below base w0 wr) (hbase : base ≤ wr.heap.size)
    (h : ∀ v' w', Hid (OwnZ w' base v' Z (m + 1)) → Hid (Below base w0 w') → wpList Try.prog ops Q rest (a.put o.dst v') w') :
    wpList Try.prog ops Q (o :: rest) a (wr.alloc (.cells #[.slice ar n c] 22)) := by
  obtain ⟨i0, hi, hz0, hz1, hz2⟩ := info_parts Try.info22s
  obtain ⟨vs, h1, h2, h3⟩ := hown
  refine wpList_append_own _ hgd s x 28 ho base 22 i0 (.slice none 0 0) 1 24 Try.underlying28 hi hz0 hz1 hz2 rfl (by decide) v m vs hs (h2.alloc _) ⟨wr.heap.size, 0, none⟩ 1 1 [.slice ar n c] hx rfl ?_ ?_ (by unfold maxLen; omega) (by omega) (by simp; omega) ?_
  · intro j u hj
    match j, hj with
    | 0, hj =>
      simp at hj; subst hj
      have hr : (wr.alloc (.cells #[.slice ar n c] 22)).heap[wr.heap.size]? = some (.cells #[.slice ar n c] 22) := heap_alloc_new wr _
      rw [show (⟨wr.heap.size, 0, none⟩ : Addr).add 0 = ⟨wr.heap.size, 0, none⟩ from rfl, cell_of_row _ _ 0 _ 22 (0, 0) hr]; rfl
  · intro u hu; simp at hu; subst hu; rfl
  · intro v' w' ho' hg _
    have hap : ∀ b cs fr, (wr.alloc (.cells #[.slice ar n c] 22)).heap[b]? = some (.cells cs 3 fr) → some b ≠ v.ownBlock := by
      intro b cs fr hh e
      rcases h2.2 with ⟨hv, _⟩ | ⟨g, cap, cur, hv, _, hg2, _⟩
      · rw [hv] at e; cases e
      · rw [hv] at e; cases e
        have := (below_alloc wr (.cells #[.slice ar n c] 22)).block g (Array.getElem?_eq_some_iff.1 hg2).1
        rw [this, hg2] at hh; cases hh
    refine h v' w' ⟨vs ++ [.slice ar n c], by simp [h1], ho', fun j hj => ?_⟩ ?_
    · by_cases e : j = m
      · subst e
        exact ⟨ar, n, c, by rw [List.getElem?_append_right (by omega)]; simp [h1], (hI.below (below_alloc _ _)).grown hg hap⟩
      · obtain ⟨a2, n2, c2, h4, h5⟩ := h3 j (by omega)
        exact ⟨a2, n2, c2, by rw [List.getElem?_append_left (by omega)]; exact h4, (h5.below (below_alloc _ _)).grown hg hap⟩
    · exact (hb.alloc hbase _).grown hg (by simp; omega) (fun k hk => (World.ownsRow.lt h2 k hk).1)
end Go.Proofs.Ytjkbmenmpnidhaa
/- The reference: All, Final. -/
namespace Go.Proofs.Ytjkbmenmpnidhaa
open Go.RowKit
set_option linter.unusedSimpArgs false
set_option linter.unusedVariables false
theorem Ints.empty (w : World) (b : Addr) : Ints w (some b) 0 0 [] :=
  ⟨rfl, Nat.le_refl _, by decide, fun h => by simp at h, fun i => by rw [en_nil]; exact ⟨by omega, by omega⟩, fun i h => absurd h (by omega)⟩
def GotZ (w : World) (Z : Nat → List Int) (m : Nat) (e : Ending) (w' : World) : Prop := ∃ v, e = .returned v ∧ OwnZ w' w.heap.size v Z m ∧ Below w.heap.size w w'
set_option maxRecDepth 100000 in
set_option maxHeartbeats 8000000 in
theorem refAll_any (ca : Option Addr) (cn cc : Nat) (caps : List Int) (a : Option Addr) (n c : Nat) (L : List Ev) (w : World) (hcp : Ints w ca cn cc caps) (h : Evs w a n c L) (hg : Good cn caps L) :
    Calls Try.prog 17 #[.slice ca cn cc, .slice a n c] w (GotZ w (ckZ caps L) n) := by
  have hll := h.recs.len_eq
  have hn1 : n ≤ 1000 := by have := hg.few; omega
  have HC := Lib.hid hcp; have HE := Lib.hid h; have HG := Lib.hid hg
  have HB0 := Lib.hid (fun j (hj : j < n) => ckZ_bd hg j (by omega))
  have HGG := Lib.hid (fun j (hj : j < n) => good_g hg j (by omega))
  have HCK := Lib.hid (ckZ_eq caps L)
  have hlen := h.recs.len_le
  clear hcp h hg
  go_enter Try.func17, Try.ntmps17
  go_wp2_with fail
  go_loopw [5, 14] (fun v j wr => ∃ i : Nat, i ≤ n ∧ j = .int .i64 i ∧ OwnZ wr w.heap.size v (ckZ caps L) i ∧ Below w.heap.size w wr) (fun _ j _ => n - (intOf j).toNat)
  case atStart => exact ⟨0, Nat.zero_le _, rfl, OwnZ.nil w _, below_alloc _ _⟩
  case round =>
    obtain ⟨i, hi, rfl, ho, hb⟩ := hrel
    obtain ⟨av, cv, rfl⟩ := ho.len
    have O := Lib.hid ho; have B := Lib.hid hb
    clear ho hb
    by_cases hlt : i < n
    · have hlt' : (i : Int) < (n : Int) := by omega
      obtain ⟨be, oe, hok, rfl, c0, c1, c2, c3, c4⟩ := (HE.out.below B.out).at i hlt
      have hgb := HGG.out i hlt
      have hlt2 : i < L.length := by omega
      obtain ⟨x, hx⟩ : ∃ x, x = evAt L i := ⟨_, rfl⟩
      have HCI := Lib.hid (HCK.out i)
      rw [← hx] at c0 c1 c2 c3 c4 hok hgb HCI
      have HES := Lib.hid (edges_lt caps L i)
      have HBD := Lib.hid (fun q => joins_bd (ckZ caps L) ((edgesZ caps L i).take q) (i : Int) (by omega) fun k hk => by
        have := edges_lt caps L i k (List.mem_of_mem_take hk)
        exact (HB0.out k.toNat (by omega)).mono (by omega))
      have HTK := Lib.hid (joins_take (ckZ caps L) (edgesZ caps L i))
      clear hx
      obtain ⟨x0, x1, x2, x3, x4⟩ := x
      dsimp only at c0 c1 c2 c3 c4 hgb HCI
      obtain ⟨g, rfl⟩ : ∃ g : Nat, x0 = (g : Int) := ⟨x0.toNat, by omega⟩
      rw [Int.toNat_natCast] at HCI
      have hg16 : g < 16 := by omega
      have D := Lib.hid ((below_alloc wr (.cells #[.int .i64 (g : Int), .int .i64 x1, .int .i64 x2, .int .i64 x3, .int .i64 x4] 48)).alloc (by simp) (.cells #[] 3))
      have EX := Lib.hid (HE.out.below (B.out.trans (Below.mono D.out B.out.size))); have CX := Lib.hid (HC.out.below (B.out.trans (Below.mono D.out B.out.size)))
      have OX := Lib.hid (O.out.below D.out); have BX := Lib.hid (B.out.trans (Below.mono D.out B.out.size))
      have KX := Lib.hid ((Bx.new wr #[.int .i64 (g : Int), .int .i64 x1, .int .i64 x2, .int .i64 x3, .int .i64 x4] 48).below (below_alloc _ (.cells #[] 3)))
      clear O B D hok hgb
      go_wp2_with fail
      refine (refOf_any ca cn cc caps _ n c L i _ CX.out EX.out hlt HG.out).mono ?_
      rintro e y ⟨ae, ne, ce, rfl, hI, hb⟩
      have hel := hI.len_eq
      have hell := hI.len_le
      have OY := Lib.hid (OX.out.below hb); have BY := Lib.hid (BX.out.trans (Below.mono hb BX.out.size)); have KY := Lib.hid (Bx.below KX.out hb); have IY := Lib.hid hI
      obtain ⟨es, hes⟩ : ∃ es, es = edgesZ caps L i := ⟨_, rfl⟩
      rw [← hes] at IY HES HBD HTK HCI hel
      clear hI hb hes EX CX OX BX KX c0 c1 c2 c3 c4
      obtain ⟨b1, hb1⟩ : ∃ z, z = wr.heap.size := ⟨_, rfl⟩
      rw [← hb1] at KY
      have HB1 := Lib.hid hb1
      clear hb1
      go_wp2_with fail
      rw [← HB1.out]
      go_loopw [8, 25] (fun v j W => ∃ (q : Nat) (aj : Option Addr) (m cj : Nat), q ≤ ne ∧ j = .int .i64 q ∧ v = .slice aj m cj ∧ Ints W aj m cj (joinsZ (ckZ caps L) (es.take q)) ∧ Below y.heap.size y W) (fun _ j _ => ne - (intOf j).toNat)
      case atStart => exact ⟨0, _, 0, 0, Nat.zero_le _, rfl, rfl, Ints.empty _ _, Below.refl _ _⟩
      case round =>
        obtain ⟨q, aj, m, cj, hq, rfl, rfl, hJ, hb⟩ := hrel
        have HJ := Lib.hid hJ; have HB := Lib.hid hb
        clear hJ hb
        by_cases hlq : q < ne
        · have hlq' : (q : Int) < (ne : Int) := by omega
          obtain ⟨bq, oq, rfl, hc⟩ := (IY.out.below HB.out).cell q hlq
          have hx := HES.out (en es q) (en_mem es q (by omega))
          have HT := Lib.hid (HTK.out q (by omega))
          have HR1 := Lib.hid (HBD.out q).1
          obtain ⟨k, hk⟩ : ∃ k : Nat, en es q = (k : Int) := ⟨(en es q).toNat, by omega⟩
          rw [hk] at hc hx
          rw [hk, Int.toNat_natCast] at HT
          clear hk
          have hki : k < i := by omega
          have hkj : (k : Int) < (i : Int) := by omega
          have HR2 := Lib.hid (HB0.out k (by omega)).1
          obtain ⟨gg, cp, a2, m2, c2, hve, hcell, hI2⟩ := (OY.out.below HB.out).at k hki
          injection hve with e1 e2 e3
          subst e1
          have HI2 := Lib.hid hI2.ints
          clear hI2 hx e3
          go_wp2_with fail
          refine (refjoin_any _ _ _ _ _ _ _ _ _ HJ.out HI2.out (join_nonneg HR1.out)).mono ?_
          rintro e y3 ⟨a3, n3, c3, rfl, hi3, hb3⟩
          rw [ref_join HR1.out HR2.out, ← HT.out] at hi3
          have HJ3 := Lib.hid hi3; have HB3 := Lib.hid (HB.out.trans (hb3.mono HB.out.size))
          clear hi3 hb3 HJ HI2 hc hcell
          go_wp2_with fail
          go_roundw
          case rel => exact ⟨q + 1, _, _, _, by omega, by go_num, rfl, HJ3.out, HB3.out⟩
          case measure => simp [intOf]; omega
        · have hqe : es.take q = es := List.take_of_length_le (by omega)
          have hR := (HBD.out q)
          have hJ := HJ.out
          rw [hqe] at hJ hR
          have HJ' := Lib.hid hJ
          have HR := Lib.hid hR
          obtain ⟨J, hJe⟩ : ∃ J, J = joinsZ (ckZ caps L) es := ⟨_, rfl⟩
          rw [← hJe] at HJ' HR HCI
          have OZ := Lib.hid (OY.out.below HB.out); have BZ := Lib.hid (BY.out.trans (Below.mono HB.out BY.out.size)); have KZ := Lib.hid (Bx.below KY.out HB.out)
          clear hJ hR HJ HBD HTK HES hqe hJe OY BY KY IY HB
          obtain ⟨t0, t1, t2, t3, t4⟩ := Bx.cells5 KZ.out
          go_wp2_with fail
          refine (reftick_T _ _ _ _ _ _ HJ'.out (right_en HR.out.1)).mono ?_
          rintro e y4 ⟨a4, n4, c4, rfl, hi4, hb4⟩
          rw [ref_tick HR.out.1 g hg16] at hi4
          have T4 := Lib.hid (show IntsT y4 a4 n4 c4 (ckZ caps L i) by rw [HCI.out]; exact hi4)
          have O4 := Lib.hid (OZ.out.below hb4); have B4 := Lib.hid (BZ.out.trans (Below.mono hb4 BZ.out.size))
          have hsz := B4.out.size
          clear hi4 hb4 OZ BZ KZ t0 t1 t2 t3 t4 HJ' HR HCI
          go_wp2_with (at_builtin; refine app_ownZ rfl (.tmp 36) (.tmp 41) rfl w.heap.size _ (ckZ caps L) i rfl O4.out a4 n4 c4 T4.out rfl (by omega) w B4.out hsz ?_; intro v' y5 ho5 hb5)
          go_roundw
          case rel => exact ⟨i + 1, by omega, by go_num, ho5.out, hb5.out⟩
          case measure => simp [intOf]; omega
    · have hie : i = n := by omega
      subst hie
      go_wp2_with fail
      go_ret
      exact ⟨_, rfl, O.out, B.out⟩
/-- all clocks, joined -/
def finZ (caps : List Int) (L : List Ev) (n : Nat) : List Int := joinsZ (ckZ caps L) ((List.range n).map fun (j : Nat) => (j : Int))
end Go.Proofs.Ytjkbmenmpnidhaa
/- stamp: All, Of, Final; the reference's Final. -/
namespace Go.Proofs.Ytjkbmenmpnidhaa
open Go.RowKit
set_option linter.unusedSimpArgs false
set_option linter.unusedVariables false
def upTo (n : Nat) : List Int := (List.range n).map fun (j : Nat) => (j : Int)
theorem upTo_succ (n : Nat) : upTo (n + 1) = upTo n ++ [(n : Int)] := by simp [upTo, List.range_succ]
theorem upTo_mem {n : Nat} {k : Int} (h : k ∈ upTo n) : 0 ≤ k ∧ k < (n : Int) := by
  unfold upTo at h
  rw [List.mem_map] at h
  obtain ⟨j, hj, rfl⟩ := h
  rw [List.mem_range] at hj
  omega
theorem Sls.le {w : World} {R n : Nat} {Z : Nat → List Int} {i j : Nat} (h : Sls w R n Z i) (hj : j ≤ i) : Sls w R n Z j := by
  obtain ⟨cs, h1, h2, h3, h4⟩ := h
  exact ⟨cs, h1, h2, h3, fun k hk => h4 k (by omega)⟩
theorem joins_right {cn : Nat} {caps : List Int} {L : List Ev} (hg : Good cn caps L) (n : Nat) (hn : n ≤ L.length) : Bd (n : Int) (joinsZ (ckZ caps L) (upTo n)) :=
  joins_bd _ _ _ (by omega) fun k hk => by
    have := upTo_mem hk
    exact (ckZ_bd hg k.toNat (by omega)).mono (by omega)
set_option maxRecDepth 100000 in
set_option maxHeartbeats 8000000 in
theorem refFinal_any (ca : Option Addr) (cn cc : Nat) (caps : List Int) (a : Option Addr) (n c : Nat) (L : List Ev) (w : World) (hcp : Ints w ca cn cc caps) (h : Evs w a n c L) (hg : Good cn caps L) :
    Calls Try.prog 18 #[.slice ca cn cc, .slice a n c] w (GotInts w (finZ caps L n)) := by
  have hll := h.recs.len_eq
  have hn1 : n ≤ 1000 := by have := hg.few; omega
  have HB0 := Lib.hid (fun j (hj : j < n) => ckZ_bd hg j (by omega))
  have HBD := Lib.hid (fun j (hj : j ≤ n) => joins_right hg j (by omega))
  have D := Lib.hid (below_alloc w (.cells #[] 3))
  have HR := Lib.hid (refAll_any ca cn cc caps a n c L _ (hcp.below D.out) (h.below D.out) hg)
  clear hcp h hg
  obtain ⟨b0, hb0⟩ : ∃ z, z = w.heap.size := ⟨_, rfl⟩
  go_enter Try.func18, Try.ntmps18
  go_wp2_with fail
  refine HR.out.mono ?_
  rintro e y ⟨v, rfl, hO, hb⟩
  obtain ⟨av, cv, rfl⟩ := hO.len
  have O := Lib.hid hO; have B := Lib.hid (D.out.trans (Below.mono hb D.out.size))
  clear hO hb HR D
  go_wp2_with fail
  go_loopw [5, 13] (fun v j W => ∃ (q : Nat) (aj : Option Addr) (m cj : Nat), q ≤ n ∧ j = .int .i64 q ∧ v = .slice aj m cj ∧ Ints W aj m cj (joinsZ (ckZ caps L) (upTo q)) ∧ Below y.heap.size y W) (fun _ j _ => n - (intOf j).toNat)
  case atStart => exact ⟨0, _, 0, 0, Nat.zero_le _, rfl, rfl, Ints.empty _ _, Below.refl _ _⟩
  case round =>
    obtain ⟨q, aj, m, cj, hq, rfl, rfl, hJ, hb⟩ := hrel
    have HJ := Lib.hid hJ; have HB := Lib.hid hb
    clear hJ hb
    by_cases hlq : q < n
    · have hlq' : (q : Int) < (n : Int) := by omega
      have HR1 := Lib.hid (HBD.out q (by omega)).1
      have HR2 := Lib.hid (HB0.out q hlq).1
      have HT := Lib.hid (show joinsZ (ckZ caps L) (upTo (q + 1)) = grownL [joinsZ (ckZ caps L) (upTo q), ckZ caps L q] by rw [upTo_succ, joins_snoc, Int.toNat_natCast])
      obtain ⟨gg, cp, a2, m2, c2, hve, hcell, hI2⟩ := (O.out.below HB.out).at q hlq
      injection hve with e1 e2 e3
      subst e1
      have HI2 := Lib.hid hI2.ints
      clear hI2 e3
      go_wp2_with fail
      refine (refjoin_any _ _ _ _ _ _ _ _ _ HJ.out HI2.out (join_nonneg HR1.out)).mono ?_
      rintro e y3 ⟨a3, n3, c3, rfl, hi3, hb3⟩
      rw [ref_join HR1.out HR2.out, ← HT.out] at hi3
      have HJ3 := Lib.hid hi3; have HB3 := Lib.hid (HB.out.trans (hb3.mono HB.out.size))
      clear hi3 hb3 HJ HI2 hcell
      go_wp2_with fail
      go_roundw
      case rel => exact ⟨q + 1, _, _, _, by omega, by go_num, rfl, HJ3.out, HB3.out⟩
      case measure => simp [intOf]; omega
    · have hqe : q = n := by omega
      subst hqe
      have BZ := Lib.hid (B.out.trans (Below.mono HB.out B.out.size))
      go_wp2_with fail
      go_ret
      exact ⟨_, _, _, rfl, HJ.out, BZ.out⟩
set_option maxRecDepth 100000 in
set_option maxHeartbeats 8000000 in
theorem stampAll_no (ca : Option Addr) (cn cc : Nat) (caps : List Int) (a : Option Addr) (n c : Nat) (L : List Ev) (w : World) (hcp : Ints w ca cn cc caps) (h : Evs w a n c L) (hn : n ≤ 1000) (hno : mayE caps L = false) :
    Calls Try.prog 13 #[.slice ca cn cc, .slice a n c] w fun e w' => e = .returned (.tuple #[.slice none 0 0, .int .i64 1]) ∧ Below w.heap.size w w' := by
  have HO := Lib.hid (All_no ca cn cc caps a n c L w hcp h hn hno)
  clear hcp h hno
  go_enter Try.func13, Try.ntmps13
  go_wp2_with fail
  refine HO.out.mono ?_
  rintro e w1 ⟨rfl, hb⟩
  go_wp2_with fail
  go_ret2
  exact ⟨rfl, hb⟩
set_option maxRecDepth 100000 in
set_option maxHeartbeats 8000000 in
theorem stampAll_ok (ca : Option Addr) (cn cc : Nat) (caps : List Int) (a : Option Addr) (n c : Nat) (L : List Ev) (w : World) (hcp : Ints w ca cn cc caps) (h : Evs w a n c L) (hg : Good cn caps L) :
    Calls Try.prog 13 #[.slice ca cn cc, .slice a n c] w (GotSls w n (ckZ caps L)) := by
  have HO := Lib.hid (All_ok ca cn cc caps a n c L w hcp h hg)
  have HC := Lib.hid (fun R V (hV : Below w.heap.size w V) hr => clocks_any cn caps a n c L R n n n V (h.below hV) hr (Nat.le_refl _) (Nat.le_refl _) hg)
  clear hcp h hg
  go_enter Try.func13, Try.ntmps13
  go_wp2_with fail
  refine HO.out.mono ?_
  rintro e w1 ⟨R, rfl, hs, hb⟩
  have S := Lib.hid hs; have B := Lib.hid hb
  clear hs hb
  go_wp2_with fail
  refine (HC.out R _ B.out S.out).mono ?_
  rintro e w2 ⟨R2, rfl, hs, hb⟩
  have S2 := Lib.hid hs; have B2 := Lib.hid (B.out.trans (Below.mono hb B.out.size))
  clear hs hb
  go_wp2_with fail
  go_ret2
  exact ⟨R2, rfl, S2.out, B2.out⟩
set_option maxRecDepth 100000 in
set_option maxHeartbeats 8000000 in
theorem stampOf_no (ca : Option Addr) (cn cc : Nat) (caps : List Int) (a : Option Addr) (n c : Nat) (L : List Ev) (i : Int) (w : World) (hcp : Ints w ca cn cc caps) (h : Evs w a n c L) (hn : n ≤ 1000) (hno : mayE caps L = false) :
    Calls Try.prog 14 #[.slice ca cn cc, .slice a n c, .int .i64 i] w fun e w' => e = .returned (.tuple #[.slice none 0 0, .int .i64 1]) ∧ Below w.heap.size w w' := by
  have HO := Lib.hid (All_no ca cn cc caps a n c L w hcp h hn hno)
  clear hcp h hno
  go_enter Try.func14, Try.ntmps14
  go_wp2_with fail
  refine HO.out.mono ?_
  rintro e w1 ⟨rfl, hb⟩
  go_wp2_with fail
  go_ret2
  exact ⟨rfl, hb⟩
set_option maxRecDepth 100000 in
set_option maxHeartbeats 8000000 in
theorem stampOf_out (ca : Option Addr) (cn cc : Nat) (caps : List Int) (a : Option Addr) (n c : Nat) (L : List Ev) (i : Int) (w : World) (hcp : Ints w ca cn cc caps) (h : Evs w a n c L) (hg : Good cn caps L) (hi : i < 0 ∨ (¬ i < 0 ∧ (n : Int) ≤ i)) :
    Calls Try.prog 14 #[.slice ca cn cc, .slice a n c, .int .i64 i] w fun e w' => e = .returned (.tuple #[.slice none 0 0, .int .i64 3]) ∧ Below w.heap.size w w' := by
  have HO := Lib.hid (All_ok ca cn cc caps a n c L w hcp h hg)
  clear hcp h hg
  go_enter Try.func14, Try.ntmps14
  go_wp2_with fail
  refine HO.out.mono ?_
  rintro e w1 ⟨R, rfl, _, hb⟩
  clear HO
  rcases hi with hi | ⟨hi, hi2⟩ <;> (go_wp2_with fail; go_ret2; exact ⟨rfl, hb⟩)
set_option maxRecDepth 100000 in
set_option maxHeartbeats 8000000 in
theorem stampOf_ok (ca : Option Addr) (cn cc : Nat) (caps : List Int) (a : Option Addr) (n c : Nat) (L : List Ev) (i : Nat) (w : World) (hcp : Ints w ca cn cc caps) (h : Evs w a n c L) (hg : Good cn caps L) (hi : i < n) :
    Calls Try.prog 14 #[.slice ca cn cc, .slice a n c, .int .i64 (i : Int)] w (GotIntsErr w (ckZ caps L i)) := by
  have hll := h.recs.len_eq
  have hn1 : n ≤ 1000 := by have := hg.few; omega
  have HO := Lib.hid (All_ok ca cn cc caps a n c L w hcp h hg)
  have HC := Lib.hid (fun R V (hV : Below w.heap.size w V) hr => clocks_any cn caps a n c L R n (i + 1) (i + 1) V (h.below hV) hr (by omega) (Nat.le_refl _) hg)
  clear hcp h hg
  have hi0 : ¬ (i : Int) < 0 := by omega
  have hi1 : ¬ (n : Int) ≤ (i : Int) := by omega
  have hi2 : (i : Int) + 1 ≤ (n : Int) := by omega
  have hi3 : (0 : Int) ≤ (i : Int) + 1 := by omega
  have hi4 : (i : Int) < ((i + 1 : Nat) : Int) := by omega
  go_enter Try.func14, Try.ntmps14
  go_wp2_with fail
  refine HO.out.mono ?_
  rintro e w1 ⟨R, rfl, hs, hb⟩
  have S := Lib.hid (hs.le (show i + 1 ≤ n by omega)); have B := Lib.hid hb
  clear hs hb HO
  go_wp2_with fail
  refine (HC.out R _ B.out S.out).mono ?_
  rintro e w2 ⟨R2, rfl, hs, hb⟩
  have S2 := Lib.hid hs; have B2 := Lib.hid (B.out.trans (Below.mono hb B.out.size))
  obtain ⟨a2, m2, c2, hcell, hI⟩ := S2.out.at i (by omega)
  have HI := Lib.hid hI
  clear hs hb hI HC
  go_wp2_with fail
  go_ret2
  exact ⟨_, _, _, rfl, HI.out, B2.out⟩
end Go.Proofs.Ytjkbmenmpnidhaa
/- stamp: Final. -/
namespace Go.Proofs.Ytjkbmenmpnidhaa
open Go.RowKit
set_option linter.unusedSimpArgs false
set_option linter.unusedVariables false
def plc (n i : Nat) : List Int := (List.range n).map fun (j : Nat) => if j < i then (j : Int) else 0
theorem plc_full (n : Nat) : plc n n = upTo n := by
  unfold plc upTo
  refine List.map_congr_left fun j hj => ?_
  rw [List.mem_range] at hj
  rw [if_pos hj]
theorem plc_set (n i : Nat) (hi : i < n) : (ints (plc n i)).toArray.setIfInBounds i (.int .i64 (i : Int)) = (ints (plc n (i + 1))).toArray := by
  apply Array.ext'
  rw [Array.toList_setIfInBounds]
  refine List.ext_getElem? fun j => ?_
  rw [List.getElem?_set]
  simp only [ints, plc, List.length_map, List.length_range]
  by_cases e : i = j
  · subst e; simp [hi]
  · rw [if_neg e]
    by_cases hj : j < n
    · simp only [List.getElem?_map, List.getElem?_range hj, Option.map_some]
      by_cases h1 : j < i
      · rw [if_pos h1, if_pos (by omega)]
      · rw [if_neg h1, if_neg (by omega)]
    · simp [hj]
theorem make_ints (w : World) (n : Nat) (hn : n ≤ 1000) :
    ∃ w', (Instr.makeSlice 22 (.int .i64 (n : Int)) (.int .i64 (n : Int))).run Try.prog w = .ok (.slice (some ⟨w.heap.size, 0, none⟩) n n) w' ∧ Bx w' w.heap.size (ints (plc n 0)).toArray 3 ∧ Below w.heap.size w w' := by
  obtain ⟨i0, hi, hz0, hz1, hz2⟩ := info_parts Try.info3
  have hr := run_make (P := Try.prog) w 22 3 i0 (.int .i64 0) Try.underlying22 hi hz0 .i64 .i64 (n : Int) (n : Int) (by omega) (by omega) (by rw [hz2]; omega) (by omega)
  rw [Int.toNat_natCast, hz1] at hr
  refine ⟨_, hr, ?_, below_alloc w _⟩
  have e : madeCells (Value.int .i64 0).cells (n * 1) = (ints (plc n 0)).toArray := by
    have := toList_madeCells_one (.int .i64 0) n
    simp only [Value.cells, Nat.mul_one]
    apply Array.ext'
    rw [this]
    refine List.ext_getElem? fun j => ?_
    by_cases hj : j < n
    · simp [ints, plc, hj]
    · simp [ints, plc, hj]
  rw [e]
  exact Bx.new w _ 3
theorem upTo_len (n : Nat) : (upTo n).length = n := by simp [upTo]
theorem upTo_i64 (n : Nat) (hn : n ≤ 1000) (i : Nat) : I64 (en (upTo n) i) := by
  by_cases h : i < (upTo n).length
  · have := upTo_mem (en_mem _ i h); exact ⟨by omega, by omega⟩
  · rw [en_of_le _ _ (by omega)]; exact ⟨by omega, by omega⟩
set_option maxRecDepth 100000 in
set_option maxHeartbeats 8000000 in
theorem stampFinal_no (ca : Option Addr) (cn cc : Nat) (caps : List Int) (a : Option Addr) (n c : Nat) (L : List Ev) (w : World) (hcp : Ints w ca cn cc caps) (h : Evs w a n c L) (hn : n ≤ 1000) (hno : mayE caps L = false) :
    Calls Try.prog 15 #[.slice ca cn cc, .slice a n c] w fun e w' => e = .returned (.tuple #[.slice none 0 0, .int .i64 1]) ∧ Below w.heap.size w w' := by
  have HO := Lib.hid (stampAll_no ca cn cc caps a n c L w hcp h hn hno)
  clear hcp h hno
  go_enter Try.func15, Try.ntmps15
  go_wp2_with fail
  refine HO.out.mono ?_
  rintro e w1 ⟨rfl, hb⟩
  have B_1 := Lib.hid (hb.alloc hb.size (.cells #[.slice none 0 0] 28))
  clear hb
  go_wp2_with fail
  go_ret2
  exact ⟨rfl, B_1.out⟩
set_option maxRecDepth 100000 in
set_option maxHeartbeats 8000000 in
theorem stampFinal_ok (ca : Option Addr) (cn cc : Nat) (caps : List Int) (a : Option Addr) (n c : Nat) (L : List Ev) (w : World) (hcp : Ints w ca cn cc caps) (h : Evs w a n c L) (hg : Good cn caps L) :
    Calls Try.prog 15 #[.slice ca cn cc, .slice a n c] w (GotIntsErr w (finZ caps L n)) := by
  have hll := h.recs.len_eq
  have hn1 : n ≤ 1000 := by have := hg.few; omega
  have HO := Lib.hid (stampAll_ok ca cn cc caps a n c L w hcp h hg)
  have HB0 := Lib.hid (fun j (hj : j < n) => ckZ_bd hg j (by omega))
  clear hcp h hg
  go_enter Try.func15, Try.ntmps15
  go_wp2_with fail
  refine HO.out.mono ?_
  rintro e w1 ⟨R, rfl, hs, hb⟩
  have D1 := Lib.hid (below_alloc w1 (.cells #[.slice (some ⟨R, 0, none⟩) n n] 28))
  have S1 := Lib.hid (hs.below D1.out); have B1 := Lib.hid (hb.trans (Below.mono D1.out hb.size))
  have A1 := Lib.hid (Bx.new w1 #[.slice (some ⟨R, 0, none⟩) n n] 28)
  clear hs hb HO D1
  go_upto_region 1 with (fail)
  obtain ⟨b2, hb2⟩ : ∃ b, b = w1.heap.size := ⟨_, rfl⟩
  obtain ⟨v1, hv1⟩ : ∃ v, v = w1.alloc (.cells #[.slice (some ⟨R, 0, none⟩) n n] 28) := ⟨_, rfl⟩
  rw [← hv1] at B1 S1 A1 ⊢
  rw [← hb2] at A1 ⊢
  clear hb2 hv1
  have t0 := A1.out.one
  obtain ⟨w2, hrun, hP, hb⟩ := make_ints v1 n hn1
  have P2 := Lib.hid hP; have D2 := Lib.hid hb
  have hwv := B1.out.size
  clear hP hb
  go_wp2_with fail
  rw [hrun]
  dsimp only [Result.andThen]
  clear hrun
  obtain ⟨P, hP⟩ : ∃ P, P = v1.heap.size := ⟨_, rfl⟩
  have HP := Lib.hid hP
  rw [← hP] at P2 ⊢
  clear hP
  clear t0
  go_wp2_with fail
  go_loopw [24] (fun j wr => ∃ i : Nat, i ≤ n ∧ j = .int .i64 i ∧ Bx wr P (ints (plc n i)).toArray 3 ∧ Below v1.heap.size v1 wr) (fun j _ => n - (intOf j).toNat)
  case atStart => exact ⟨0, Nat.zero_le _, rfl, P2.out, D2.out⟩
  case round =>
    obtain ⟨i, hi, rfl, hp, hb⟩ := hrel
    have PP := Lib.hid hp; have D := Lib.hid hb
    clear hp hb P2 D2
    by_cases hlt : i < n
    · have hlt' : (i : Int) < (n : Int) := by omega
      have t0 : wr.cell? ⟨P, i, none⟩ = some (.int .i64 (en (plc n i) i)) := Bx.cell PP.out i (by simp [ints, plc, en, hlt])
      have f0 := Bx.froz PP.out i
      have hl := Bx.lt PP.out
      have PZ := Lib.hid (show Bx (wr.setCell ⟨P, i, none⟩ (.int .i64 (i : Int))) P (ints (plc n (i + 1))).toArray 3 by rw [← plc_set n i hlt]; exact Bx.set PP.out i _)
      have DZ := Lib.hid (show Below v1.heap.size v1 (wr.setCell ⟨P, i, none⟩ (.int .i64 (i : Int))) from D.out.setCell (by rw [HP.out]; exact Nat.le_refl _) _)
      clear PP D
      go_wp2_with fail
      go_roundw
      case rel => exact ⟨i + 1, by omega, by go_num, PZ.out, DZ.out⟩
      case measure => simp [intOf]; omega
    · have hie : i = n := by omega
      subst hie
      have SX := Lib.hid (S1.out.below D.out); have AX := Lib.hid (Bx.below A1.out D.out); have BX := Lib.hid (B1.out.trans (Below.mono D.out B1.out.size))
      go_wp2_with fail
      refine (joiner_box _ _).mono ?_
      rintro e w5 ⟨rfl, rfl⟩
      have DY := Lib.hid (below_alloc wr (.cells #[.pointer (some ⟨b2, 0, none⟩)] 53))
      have SY := Lib.hid (SX.out.below DY.out); have AY := Lib.hid (Bx.below AX.out DY.out); have BY := Lib.hid (BX.out.trans (Below.mono DY.out BX.out.size)); have PY := Lib.hid (Bx.below PP.out DY.out)
      have QY := Lib.hid (Bx.new wr #[.pointer (some ⟨b2, 0, none⟩)] 53)
      have IY := Lib.hid (show Ints (wr.alloc (.cells #[.pointer (some ⟨b2, 0, none⟩)] 53)) (some ⟨P, 0, none⟩) i i (upTo i) from Ints.of_row (e := 3) (by rw [← plc_full]; exact PY.out) (upTo_len i) (by unfold maxLen; omega) (upTo_i64 i hn1))
      clear SX AX BX DY PY PP D S1 A1 B1
      go_wp2_with fail
      refine (joiner_any _ _ _ (upTo i) wr.heap.size b2 R i i (ckZ caps L) (i : Int) _ IY.out (fun k hk => upTo_mem hk) SY.out hn1 AY.out QY.out (by omega) (fun k hk => (HB0.out k hk).mono (by omega))).mono ?_
      rintro e w6 ⟨a6, m6, c6, rfl, hI, hb⟩
      have B6 := Lib.hid (BY.out.trans (Below.mono hb BY.out.size)); have I6 := Lib.hid hI
      clear hI hb SY AY BY QY IY
      go_wp2_with fail
      go_ret2
      exact ⟨_, _, _, rfl, I6.out, B6.out⟩
end Go.Proofs.Ytjkbmenmpnidhaa
/- few, alive; StampTells: the walks. -/
namespace Go.Proofs.Ytjkbmenmpnidhaa
open Go.RowKit Go.Maps
set_option linter.unusedSimpArgs false
set_option linter.unusedVariables false
theorem cut_to (t : Nat) (ht : Try.prog.underlying t = some (.slice (Try.prog.elem t))) (hs : ∃ s, ∀ w, (sizeOf (Try.prog.elem t)).run Try.prog w = .ok s w) (a : Option Addr) (n c k : Nat) (hl : n ≤ c) (hk : k ≤ n) (W : World) :
    (Instr.slice t (.slice a n c) none (some (.int .i64 (k : Int))) none).run Try.prog W = .ok (.slice a k c) W := by
  obtain ⟨s, hs⟩ := hs
  rw [run_slice_h (t := t) (a := a) (len := n) (cap := c) (ht := ht) (kh := .i64) (h := (k : Int)) (h0 := by omega) (h2 := by omega), hs]
  simp only [Result.andThen, sliced, Int.toNat_natCast]
  by_cases hc : c = 0
  · simp [hc]
  · cases a with
    | none => simp [hc]
    | some x => simp; intro _; simp [Addr.add]
set_option maxRecDepth 100000 in
set_option maxHeartbeats 8000000 in
theorem few_any (a : Option Addr) (n c : Nat) (w : World) (hl : n ≤ c) (hn : a = none → c = 0) : Calls Try.prog 12 #[.slice a n c] w fun e w' => e = .returned (.slice a (min n 100) c) ∧ w = w' := by
  obtain ⟨q, hq⟩ : ∃ q, q = min n 100 := ⟨_, rfl⟩
  have hmn : (if (100 : Int) < (n : Int) then (100 : Int) else (n : Int)) = (q : Int) := by split <;> omega
  have hmn2 : min (n : Int) 100 = (q : Int) := by omega
  rw [← hq]
  have hcut := cut_to 23 Try.underlying23 ⟨_, fun _ => rfl⟩ a n c q hl (by omega)
  clear hq
  go_enter Try.func12, Try.ntmps12
  go_wp2_with fail
  go_ret
  exact ⟨rfl, rfl⟩
def alE : List Ev := [⟨0, 0, 0, 0, -1⟩, ⟨0, 1, 1, 0, -1⟩, ⟨1, 0, 0, 0, 1⟩]
theorem al_good : Good 0 [] alE := ⟨by decide, rfl, by decide, by decide⟩
theorem al_edges : edgesZ [] alE 2 = [1] := by decide
theorem al_evs (W : World) : Evs (W.alloc (.cells #[.int .i64 0, .int .i64 0, .int .i64 0, .int .i64 0, .int .i64 (-1), .int .i64 0, .int .i64 1, .int .i64 1, .int .i64 0, .int .i64 (-1), .int .i64 1, .int .i64 0, .int .i64 0, .int .i64 0, .int .i64 1] 48)) (some ⟨W.heap.size, 0, none⟩) 3 3 alE := by
  refine ⟨⟨rfl, Nat.le_refl _, by decide, fun h => by simp at h, fun i x hx => ⟨W.heap.size, 0, rfl, fun j v hv => ?_⟩⟩, fun x hx => ?_⟩
  · rw [cell_of_row _ _ _ _ 48 (0, 0) (heap_alloc_new W _)]
    match i, hx with
    | 0, hx => simp [alE] at hx; subst hx; match j, hv with
      | 0, hv | 1, hv | 2, hv | 3, hv | 4, hv => simpa [encE] using hv
    | 1, hx => simp [alE] at hx; subst hx; match j, hv with
      | 0, hv | 1, hv | 2, hv | 3, hv | 4, hv => simpa [encE] using hv
    | 2, hx => simp [alE] at hx; subst hx; match j, hv with
      | 0, hv | 1, hv | 2, hv | 3, hv | 4, hv => simpa [encE] using hv
  · simp [alE] at hx
    rcases hx with rfl | rfl | rfl <;> exact ⟨⟨by decide, by decide⟩, ⟨by decide, by decide⟩, ⟨by decide, by decide⟩, ⟨by decide, by decide⟩, ⟨by decide, by decide⟩⟩
theorem May_is (ca : Option Addr) (cn cc : Nat) (caps : List Int) (a : Option Addr) (n c : Nat) (L : List Ev) (w : World) (hcp : Ints w ca cn cc caps) (h : Evs w a n c L) (hn : n ≤ 1000) (b : Bool) (hb : mayE caps L = b) :
    Calls Try.prog 8 #[.slice ca cn cc, .slice a n c] w (BoolTo w b) := by
  rw [← hb]; exact May_any ca cn cc caps a n c L w hcp h hn
theorem Rows_same (a : Option Addr) (len cap : Nat) (l : List Int) (a2 : Option Addr) (len2 cap2 : Nat) (w : World) (h : Ints w a len cap l) (h2 : Ints w a2 len2 cap2 l) :
    Calls Try.prog 10 #[.slice a len cap, .slice a2 len2 cap2] w fun e w' => e = .returned (.bool true) ∧ Below w.heap.size w w' :=
  (rows_any a len cap l a2 len2 cap2 l w h h2).mono fun _ _ h => ⟨by rw [h.1]; simp, h.2⟩
theorem al_clock : ckZ [] alE 2 = [2, 1] := by decide
theorem al_i64 (i : Nat) : I64 (en [2, 1] i) := small_i64 [2, 1] (by decide) i
set_option maxRecDepth 100000 in
set_option maxHeartbeats 8000000 in
theorem alive_any (w : World) : Calls Try.prog 16 #[] w fun e w' => e = .returned (.bool true) ∧ Below w.heap.size w w' := by
  have HW := Lib.hid (fun W => stampOf_ok none 0 0 [] (some ⟨W.heap.size, 0, none⟩) 3 3 alE 2 (W.alloc (.cells #[.int .i64 0, .int .i64 0, .int .i64 0, .int .i64 0, .int .i64 (-1), .int .i64 0, .int .i64 1, .int .i64 1, .int .i64 0, .int .i64 (-1), .int .i64 1, .int .i64 0, .int .i64 0, .int .i64 0, .int .i64 1] 48)) (Ints.nil _) (al_evs W) al_good (by decide))
  rw [al_clock] at HW
  have B_0 := Lib.hid (below_alloc w (.cells #[.int .i64 0, .int .i64 0, .int .i64 0, .int .i64 0, .int .i64 (-1), .int .i64 0, .int .i64 1, .int .i64 1, .int .i64 0, .int .i64 (-1), .int .i64 1, .int .i64 0, .int .i64 0, .int .i64 0, .int .i64 1] 48))
  go_enter Try.func16, Try.ntmps16
  go_wp2_with fail
  refine (HW.out _).mono ?_
  rintro e w1 ⟨a2, n2, c2, rfl, hI, hb⟩
  have B_1 := Lib.hid (B_0.out.trans (Below.mono hb B_0.out.size))
  have DX := Lib.hid (below_alloc w1 (.cells #[.int .i64 2, .int .i64 1] 3))
  have I1 := Lib.hid (hI.below DX.out); have B1 := Lib.hid (B_1.out.trans (Below.mono DX.out B_1.out.size))
  have J1 := Lib.hid (show Ints (w1.alloc (.cells #[.int .i64 2, .int .i64 1] 3)) (some ⟨w1.heap.size, 0, none⟩) 2 2 [2, 1] from ints_lit w1 [2, 1] 2 rfl (by decide) al_i64)
  clear hb hI HW B_0 B_1
  go_wp2_with fail
  refine (Rows_same _ _ _ _ _ _ _ _ I1.out J1.out).mono ?_
  rintro e w2 ⟨rfl, hb⟩
  have B2 := Lib.hid (B1.out.trans (Below.mono hb B1.out.size))
  clear hb I1 J1 B1
  go_wp2_with fail
  go_ret
  exact ⟨rfl, B2.out⟩
def Says (w : World) (e : Ending) (w' : World) : Prop := e = .returned (.bool true) ∧ Below w.heap.size w w'
set_option maxRecDepth 100000 in
set_option maxHeartbeats 8000000 in
theorem tells_bad (ca : Option Addr) (cn cc : Nat) (caps0 : List Int) (a : Option Addr) (n c : Nat) (L0 : List Ev) (i : Int) (w : World) (hC : Ints w ca cn cc caps0) (hE : Evs w a n c L0) (hmay : mayE (caps0.take 6) (L0.take 100) = false) :
    Calls Try.prog 4 #[.slice ca cn cc, .slice a n c, .int .i64 i] w (Says w) := by
  have hcl := hC.len_eq
  have HC0 := Lib.hid hC.le_cap
  have HC := Lib.hid (hC.take 6); have HE := Lib.hid (hE.take 100)
  have HF := Lib.hid (few_any a n c · hE.recs.le_cap hE.recs.none_)
  obtain ⟨caps, hcaps⟩ : ∃ x, x = caps0.take 6 := ⟨_, rfl⟩
  obtain ⟨L, hL⟩ : ∃ x, x = L0.take 100 := ⟨_, rfl⟩
  rw [← hcaps] at HC hmay; rw [← hL] at HE hmay
  have hm6 : min cn 6 ≤ 6 := by omega
  have hm100 : min n 100 ≤ 100 := by omega
  obtain ⟨c2, hc2⟩ : ∃ x, x = min cn 6 := ⟨_, rfl⟩
  obtain ⟨n2, hn2⟩ : ∃ x, x = min n 100 := ⟨_, rfl⟩
  have hmc : (if (6 : Int) < (cn : Int) then (6 : Int) else (cn : Int)) = (c2 : Int) := by split <;> omega
  have hcut := cut_to 22 Try.underlying22 ⟨_, fun _ => rfl⟩ ca cn cc c2 HC0.out (by omega)
  rw [← hc2] at HC hm6; rw [← hn2] at HE HF hm100
  have hlen := HE.out.recs.len_eq
  have hcln := HC.out.len_eq
  have hncap := HE.out.recs.le_cap
  have hnmax := HE.out.recs.len_le
  have B := Lib.hid (Below.refl w.heap.size w)
  have hmc2 : min (cn : Int) 6 = (c2 : Int) := by omega
  clear hC hE hcaps hL hcl hc2 hn2
  go_enter Try.func4, Try.ntmps4
  go_upto_region 1 with (fail)
  have hb : Below w.heap.size w w.drew := (Below.refl _ _).drew
  have C_1 := Lib.hid (Ints.below HC.out hb)
  have E_1 := Lib.hid (Evs.below HE.out hb)
  have B_1 := Lib.hid (B.out.trans (Below.mono hb B.out.size))
  clear hb HC HE B
  refine wp_region_held_drew (S := (fun _ => True)) (by kernel_rfl) trivial (fun hHeld => ?_)
  (try simp only [Act.put, List.getElem_toArray, List.getElem_cons_zero, List.getElem_cons_succ, List.setIfInBounds_toArray, List.set_cons_zero, List.set_cons_succ])
  refine wpAnyH_take (i := 0) (v := ?_) rfl (by kernel_rfl) (by kernel_rfl) (by kernel_rfl) (fun _ _ _ h => h) (Or.inl ⟨by rfl, ?_⟩) (by assumption) ?_
  rotate_left
  · (intro w hSw; (try dsimp only at hSw); go_simp; try with_reducible rfl)
  (try simp only [Act.put, List.getElem_toArray, List.getElem_cons_zero, List.getElem_cons_succ, List.setIfInBounds_toArray, List.set_cons_zero, List.set_cons_succ])
  refine wpAnyH_take (i := 1) (v := ?_) rfl (by kernel_rfl) (by kernel_rfl) (by kernel_rfl) (fun _ _ _ h => h) (Or.inl ⟨by rfl, ?_⟩) (by assumption) ?_
  rotate_left
  · (intro w hSw; (try dsimp only at hSw); go_simp; try with_reducible rfl)
  (try simp only [Act.put, List.getElem_toArray, List.getElem_cons_zero, List.getElem_cons_succ, List.setIfInBounds_toArray, List.set_cons_zero, List.set_cons_succ])
  refine wpAnyH_take (i := 2) (v := ?_) rfl (by kernel_rfl) (by kernel_rfl) (by kernel_rfl) (fun _ _ _ h => h) (Or.inl ⟨by rfl, ?_⟩) (by assumption) ?_
  rotate_left
  · (intro w hSw; (try dsimp only at hSw); go_simp; try with_reducible rfl)
  (try simp only [Act.put, List.getElem_toArray, List.getElem_cons_zero, List.getElem_cons_succ, List.setIfInBounds_toArray, List.set_cons_zero, List.set_cons_succ])
  refine wpAnyH_take (i := 3) (v := ?_) rfl (by kernel_rfl) (by kernel_rfl) (by kernel_rfl) (fun _ _ _ h => h) (Or.inl ⟨by rfl, ?_⟩) (by assumption) ?_
  rotate_left
  · (intro w hSw; (try dsimp only at hSw); go_simp; try with_reducible rfl)
  (try simp only [Act.put, List.getElem_toArray, List.getElem_cons_zero, List.getElem_cons_succ, List.setIfInBounds_toArray, List.set_cons_zero, List.set_cons_succ])
  refine wpAnyH_take (i := 4) (v := ?_) rfl (by kernel_rfl) (by kernel_rfl) (by kernel_rfl) (fun _ _ _ h => h) (Or.inl ⟨by rfl, ?_⟩) (by assumption) ?_
  rotate_left
  · (intro w hSw; (try dsimp only at hSw); go_simp; try with_reducible rfl)
  (try simp only [Act.put, List.getElem_toArray, List.getElem_cons_zero, List.getElem_cons_succ, List.setIfInBounds_toArray, List.set_cons_zero, List.set_cons_succ])
  refine wpAnyH_take (i := 5) (v := ?_) rfl (by kernel_rfl) (by kernel_rfl) (by kernel_rfl) (fun _ _ _ h => h) (Or.inl ⟨by rfl, ?_⟩) (by assumption) ?_
  rotate_left
  · (intro w hSw; (try dsimp only at hSw); go_simp; try with_reducible rfl)
  (try simp only [Act.put, List.getElem_toArray, List.getElem_cons_zero, List.getElem_cons_succ, List.setIfInBounds_toArray, List.set_cons_zero, List.set_cons_succ])
  refine wpAnyH_ready (rs := [6]) (by kernel_rfl) (by simp) ?_
  refine AllReadyH.cons (o := _) rfl (fun K hK => ?_) AllReadyH.nil
  go_simp
  refine (HF.out _).mono ?_
  rintro e y1 ⟨rfl, rfl⟩
  clear hHeld
  refine hK.out _ _ trivial (fun hHeld => ?_)
  clear hK K
  (try simp only [Act.put, List.getElem_toArray, List.getElem_cons_zero, List.getElem_cons_succ, List.setIfInBounds_toArray, List.set_cons_zero, List.set_cons_succ])
  refine wpAnyH_take (i := 7) (v := ?_) rfl (by kernel_rfl) (by kernel_rfl) (by kernel_rfl) (fun _ _ _ h => h) (Or.inl ⟨by rfl, ?_⟩) (by assumption) ?_
  rotate_left
  · (intro w hSw; (try dsimp only at hSw); go_simp; try with_reducible rfl)
  (try simp only [Act.put, List.getElem_toArray, List.getElem_cons_zero, List.getElem_cons_succ, List.setIfInBounds_toArray, List.set_cons_zero, List.set_cons_succ])
  refine wpAnyH_take (i := 8) (v := ?_) rfl (by kernel_rfl) (by kernel_rfl) (by kernel_rfl) (fun _ _ _ h => h) (Or.inl ⟨by rfl, ?_⟩) (by assumption) ?_
  rotate_left
  · (intro w hSw; (try dsimp only at hSw); go_simp; try with_reducible rfl)
  (try simp only [Act.put, List.getElem_toArray, List.getElem_cons_zero, List.getElem_cons_succ, List.setIfInBounds_toArray, List.set_cons_zero, List.set_cons_succ])
  refine wpAnyH_done (by kernel_rfl) ?_ _
  clear hHeld
  clear hcut HF hmc hmc2
  go_wp2_with fail
  refine (stampAll_no ca c2 cc caps a n2 c L _ C_1.out E_1.out (by omega) hmay).mono ?_
  rintro e y2 ⟨rfl, hb⟩
  have C_2 := Lib.hid (Ints.below C_1.out hb)
  have E_2 := Lib.hid (Evs.below E_1.out hb)
  have B_2 := Lib.hid (B_1.out.trans (Below.mono hb B_1.out.size))
  clear hb C_1 E_1 B_1
  go_wp2_with fail
  refine (stampOf_no ca c2 cc caps a n2 c L i _ C_2.out E_2.out (by omega) hmay).mono ?_
  rintro e y3 ⟨rfl, hb⟩
  have C_3 := Lib.hid (Ints.below C_2.out hb)
  have E_3 := Lib.hid (Evs.below E_2.out hb)
  have B_3 := Lib.hid (B_2.out.trans (Below.mono hb B_2.out.size))
  clear hb C_2 E_2 B_2
  go_wp2_with fail
  refine (stampFinal_no ca c2 cc caps a n2 c L _ C_3.out E_3.out (by omega) hmay).mono ?_
  rintro e y4 ⟨rfl, hb⟩
  have C_4 := Lib.hid (Ints.below C_3.out hb)
  have E_4 := Lib.hid (Evs.below E_3.out hb)
  have B_4 := Lib.hid (B_3.out.trans (Below.mono hb B_3.out.size))
  clear hb C_3 E_3 B_3
  go_wp2_with fail
  refine (May_is ca c2 cc caps a n2 c L _ C_4.out E_4.out (by omega) _ hmay).mono ?_
  rintro e y5 ⟨rfl, hb⟩
  have C_5 := Lib.hid (Ints.below C_4.out hb)
  have E_5 := Lib.hid (Evs.below E_4.out hb)
  have B_5 := Lib.hid (B_4.out.trans (Below.mono hb B_4.out.size))
  clear hb C_4 E_4 B_4
  go_wp2_with fail
  refine (alive_any _).mono ?_
  rintro e y6 ⟨rfl, hb⟩
  have C_6 := Lib.hid (Ints.below C_5.out hb)
  have E_6 := Lib.hid (Evs.below E_5.out hb)
  have B_6 := Lib.hid (B_5.out.trans (Below.mono hb B_5.out.size))
  clear hb C_5 E_5 B_5
  go_wp2_with fail
  go_ret
  exact ⟨ret_bool (by first | rfl | simp), B_6.out⟩
set_option maxRecDepth 100000 in
set_option maxHeartbeats 8000000 in
theorem tells_ok_neg (ca : Option Addr) (cn cc : Nat) (caps0 : List Int) (a : Option Addr) (n c : Nat) (L0 : List Ev) (i : Int) (w : World) (hC : Ints w ca cn cc caps0) (hE : Evs w a n c L0) (hmay : mayE (caps0.take 6) (L0.take 100) = true) (hi : i < 0) :
    Calls Try.prog 4 #[.slice ca cn cc, .slice a n c, .int .i64 i] w (Says w) := by
  have hcl := hC.len_eq
  have HC0 := Lib.hid hC.le_cap
  have HC := Lib.hid (hC.take 6); have HE := Lib.hid (hE.take 100)
  have HF := Lib.hid (few_any a n c · hE.recs.le_cap hE.recs.none_)
  obtain ⟨caps, hcaps⟩ : ∃ x, x = caps0.take 6 := ⟨_, rfl⟩
  obtain ⟨L, hL⟩ : ∃ x, x = L0.take 100 := ⟨_, rfl⟩
  rw [← hcaps] at HC hmay; rw [← hL] at HE hmay
  have hm6 : min cn 6 ≤ 6 := by omega
  have hm100 : min n 100 ≤ 100 := by omega
  obtain ⟨c2, hc2⟩ : ∃ x, x = min cn 6 := ⟨_, rfl⟩
  obtain ⟨n2, hn2⟩ : ∃ x, x = min n 100 := ⟨_, rfl⟩
  have hmc : (if (6 : Int) < (cn : Int) then (6 : Int) else (cn : Int)) = (c2 : Int) := by split <;> omega
  have hcut := cut_to 22 Try.underlying22 ⟨_, fun _ => rfl⟩ ca cn cc c2 HC0.out (by omega)
  rw [← hc2] at HC hm6; rw [← hn2] at HE HF hm100
  have hlen := HE.out.recs.len_eq
  have hcln := HC.out.len_eq
  have hncap := HE.out.recs.le_cap
  have hnmax := HE.out.recs.len_le
  have B := Lib.hid (Below.refl w.heap.size w)
  have hmc2 : min (cn : Int) 6 = (c2 : Int) := by omega
  clear hC hE hcaps hL hcl hc2 hn2
  go_enter Try.func4, Try.ntmps4
  go_upto_region 1 with (fail)
  have hb : Below w.heap.size w w.drew := (Below.refl _ _).drew
  have C_1 := Lib.hid (Ints.below HC.out hb)
  have E_1 := Lib.hid (Evs.below HE.out hb)
  have B_1 := Lib.hid (B.out.trans (Below.mono hb B.out.size))
  clear hb HC HE B
  refine wp_region_held_drew (S := (fun _ => True)) (by kernel_rfl) trivial (fun hHeld => ?_)
  (try simp only [Act.put, List.getElem_toArray, List.getElem_cons_zero, List.getElem_cons_succ, List.setIfInBounds_toArray, List.set_cons_zero, List.set_cons_succ])
  refine wpAnyH_take (i := 0) (v := ?_) rfl (by kernel_rfl) (by kernel_rfl) (by kernel_rfl) (fun _ _ _ h => h) (Or.inl ⟨by rfl, ?_⟩) (by assumption) ?_
  rotate_left
  · (intro w hSw; (try dsimp only at hSw); go_simp; try with_reducible rfl)
  (try simp only [Act.put, List.getElem_toArray, List.getElem_cons_zero, List.getElem_cons_succ, List.setIfInBounds_toArray, List.set_cons_zero, List.set_cons_succ])
  refine wpAnyH_take (i := 1) (v := ?_) rfl (by kernel_rfl) (by kernel_rfl) (by kernel_rfl) (fun _ _ _ h => h) (Or.inl ⟨by rfl, ?_⟩) (by assumption) ?_
  rotate_left
  · (intro w hSw; (try dsimp only at hSw); go_simp; try with_reducible rfl)
  (try simp only [Act.put, List.getElem_toArray, List.getElem_cons_zero, List.getElem_cons_succ, List.setIfInBounds_toArray, List.set_cons_zero, List.set_cons_succ])
  refine wpAnyH_take (i := 2) (v := ?_) rfl (by kernel_rfl) (by kernel_rfl) (by kernel_rfl) (fun _ _ _ h => h) (Or.inl ⟨by rfl, ?_⟩) (by assumption) ?_
  rotate_left
  · (intro w hSw; (try dsimp only at hSw); go_simp; try with_reducible rfl)
  (try simp only [Act.put, List.getElem_toArray, List.getElem_cons_zero, List.getElem_cons_succ, List.setIfInBounds_toArray, List.set_cons_zero, List.set_cons_succ])
  refine wpAnyH_take (i := 3) (v := ?_) rfl (by kernel_rfl) (by kernel_rfl) (by kernel_rfl) (fun _ _ _ h => h) (Or.inl ⟨by rfl, ?_⟩) (by assumption) ?_
  rotate_left
  · (intro w hSw; (try dsimp only at hSw); go_simp; try with_reducible rfl)
  (try simp only [Act.put, List.getElem_toArray, List.getElem_cons_zero, List.getElem_cons_succ, List.setIfInBounds_toArray, List.set_cons_zero, List.set_cons_succ])
  refine wpAnyH_take (i := 4) (v := ?_) rfl (by kernel_rfl) (by kernel_rfl) (by kernel_rfl) (fun _ _ _ h => h) (Or.inl ⟨by rfl, ?_⟩) (by assumption) ?_
  rotate_left
  · (intro w hSw; (try dsimp only at hSw); go_simp; try with_reducible rfl)
  (try simp only [Act.put, List.getElem_toArray, List.getElem_cons_zero, List.getElem_cons_succ, List.setIfInBounds_toArray, List.set_cons_zero, List.set_cons_succ])
  refine wpAnyH_take (i := 5) (v := ?_) rfl (by kernel_rfl) (by kernel_rfl) (by kernel_rfl) (fun _ _ _ h => h) (Or.inl ⟨by rfl, ?_⟩) (by assumption) ?_
  rotate_left
  · (intro w hSw; (try dsimp only at hSw); go_simp; try with_reducible rfl)
  (try simp only [Act.put, List.getElem_toArray, List.getElem_cons_zero, List.getElem_cons_succ, List.setIfInBounds_toArray, List.set_cons_zero, List.set_cons_succ])
  refine wpAnyH_ready (rs := [6]) (by kernel_rfl) (by simp) ?_
  refine AllReadyH.cons (o := _) rfl (fun K hK => ?_) AllReadyH.nil
  go_simp
  refine (HF.out _).mono ?_
  rintro e y1 ⟨rfl, rfl⟩
  clear hHeld
  refine hK.out _ _ trivial (fun hHeld => ?_)
  clear hK K
  (try simp only [Act.put, List.getElem_toArray, List.getElem_cons_zero, List.getElem_cons_succ, List.setIfInBounds_toArray, List.set_cons_zero, List.set_cons_succ])
  refine wpAnyH_take (i := 7) (v := ?_) rfl (by kernel_rfl) (by kernel_rfl) (by kernel_rfl) (fun _ _ _ h => h) (Or.inl ⟨by rfl, ?_⟩) (by assumption) ?_
  rotate_left
  · (intro w hSw; (try dsimp only at hSw); go_simp; try with_reducible rfl)
  (try simp only [Act.put, List.getElem_toArray, List.getElem_cons_zero, List.getElem_cons_succ, List.setIfInBounds_toArray, List.set_cons_zero, List.set_cons_succ])
  refine wpAnyH_take (i := 8) (v := ?_) rfl (by kernel_rfl) (by kernel_rfl) (by kernel_rfl) (fun _ _ _ h => h) (Or.inl ⟨by rfl, ?_⟩) (by assumption) ?_
  rotate_left
  · (intro w hSw; (try dsimp only at hSw); go_simp; try with_reducible rfl)
  (try simp only [Act.put, List.getElem_toArray, List.getElem_cons_zero, List.getElem_cons_succ, List.setIfInBounds_toArray, List.set_cons_zero, List.set_cons_succ])
  refine wpAnyH_done (by kernel_rfl) ?_ _
  clear hHeld
  clear hcut HF hmc hmc2
  have hgd : Good c2 caps L := good_of hmay hcln (by omega)
  have HG := Lib.hid hgd
  clear hgd
  go_wp2_with fail
  refine (stampAll_ok ca c2 cc caps a n2 c L _ C_1.out E_1.out HG.out).mono ?_
  rintro e y2 ⟨R, rfl, hS, hb⟩
  have C_2 := Lib.hid (Ints.below C_1.out hb)
  have E_2 := Lib.hid (Evs.below E_1.out hb)
  have B_2 := Lib.hid (B_1.out.trans (Below.mono hb B_1.out.size))
  clear hb C_1 E_1 B_1
  have HS := Lib.hid hS
  clear hS
  go_wp2_with fail
  refine (stampOf_out ca c2 cc caps a n2 c L i _ C_2.out E_2.out HG.out (.inl hi)).mono ?_
  rintro e y3 ⟨rfl, hb⟩
  have C_3 := Lib.hid (Ints.below C_2.out hb)
  have E_3 := Lib.hid (Evs.below E_2.out hb)
  have B_3 := Lib.hid (B_2.out.trans (Below.mono hb B_2.out.size))
  have S_3 := Lib.hid (Sls.below HS.out hb)
  clear hb C_2 E_2 B_2 HS
  go_wp2_with fail
  refine (stampFinal_ok ca c2 cc caps a n2 c L _ C_3.out E_3.out HG.out).mono ?_
  rintro e y4 ⟨af, nf, cf, rfl, hF, hb⟩
  have C_4 := Lib.hid (Ints.below C_3.out hb)
  have E_4 := Lib.hid (Evs.below E_3.out hb)
  have B_4 := Lib.hid (B_3.out.trans (Below.mono hb B_3.out.size))
  have S_4 := Lib.hid (Sls.below S_3.out hb)
  clear hb C_3 E_3 B_3 S_3
  have HFin := Lib.hid hF
  clear hF
  go_wp2_with fail
  refine (May_is ca c2 cc caps a n2 c L _ C_4.out E_4.out (by omega) _ hmay).mono ?_
  rintro e y5 ⟨rfl, hb⟩
  have C_5 := Lib.hid (Ints.below C_4.out hb)
  have E_5 := Lib.hid (Evs.below E_4.out hb)
  have B_5 := Lib.hid (B_4.out.trans (Below.mono hb B_4.out.size))
  have S_5 := Lib.hid (Sls.below S_4.out hb)
  have F_5 := Lib.hid (Ints.below HFin.out hb)
  clear hb C_4 E_4 B_4 S_4 HFin
  go_wp2_with fail
  refine (refAll_any ca c2 cc caps a n2 c L _ C_5.out E_5.out HG.out).mono ?_
  rintro e y6 ⟨vz, rfl, hZ, hb⟩
  have C_6 := Lib.hid (Ints.below C_5.out hb)
  have E_6 := Lib.hid (Evs.below E_5.out hb)
  have B_6 := Lib.hid (B_5.out.trans (Below.mono hb B_5.out.size))
  have S_6 := Lib.hid (Sls.below S_5.out hb)
  have F_6 := Lib.hid (Ints.below F_5.out hb)
  clear hb C_5 E_5 B_5 S_5 F_5
  obtain ⟨az, cz, rfl⟩ := hZ.len
  have HZ := Lib.hid hZ
  clear hZ
  go_wp2_with fail
  refine (refFinal_any ca c2 cc caps a n2 c L _ C_6.out E_6.out HG.out).mono ?_
  rintro e y7 ⟨ag, ng, cg, rfl, hF2, hb⟩
  have C_7 := Lib.hid (Ints.below C_6.out hb)
  have E_7 := Lib.hid (Evs.below E_6.out hb)
  have B_7 := Lib.hid (B_6.out.trans (Below.mono hb B_6.out.size))
  have S_7 := Lib.hid (Sls.below S_6.out hb)
  have F_7 := Lib.hid (Ints.below F_6.out hb)
  have O_7 := Lib.hid (OwnZ.below HZ.out hb)
  clear hb C_6 E_6 B_6 S_6 F_6 HZ
  have HFin2 := Lib.hid hF2
  clear hF2
  go_wp2_with fail
  refine (Rows_same af nf cf _ ag ng cg _ F_7.out HFin2.out).mono ?_
  rintro e y8 ⟨rfl, hb⟩
  have C_8 := Lib.hid (Ints.below C_7.out hb)
  have E_8 := Lib.hid (Evs.below E_7.out hb)
  have B_8 := Lib.hid (B_7.out.trans (Below.mono hb B_7.out.size))
  have S_8 := Lib.hid (Sls.below S_7.out hb)
  have F_8 := Lib.hid (Ints.below F_7.out hb)
  have O_8 := Lib.hid (OwnZ.below O_7.out hb)
  have F2_8 := Lib.hid (Ints.below HFin2.out hb)
  clear hb C_7 E_7 B_7 S_7 F_7 O_7 HFin2
  go_wp2_with fail
  refine (alive_any _).mono ?_
  rintro e y9 ⟨rfl, hb⟩
  have C_9 := Lib.hid (Ints.below C_8.out hb)
  have E_9 := Lib.hid (Evs.below E_8.out hb)
  have B_9 := Lib.hid (B_8.out.trans (Below.mono hb B_8.out.size))
  have S_9 := Lib.hid (Sls.below S_8.out hb)
  have F_9 := Lib.hid (Ints.below F_8.out hb)
  have O_9 := Lib.hid (OwnZ.below O_8.out hb)
  have F2_9 := Lib.hid (Ints.below F2_8.out hb)
  clear hb C_8 E_8 B_8 S_8 F_8 O_8 F2_8
  go_wp2_with fail
  go_loopw [103] (fun j wr => ∃ q : Nat, q ≤ n2 ∧ j = .int .i64 q ∧ Below y9.heap.size y9 wr) (fun j _ => n2 - (intOf j).toNat)
  case atStart => exact ⟨0, Nat.zero_le _, rfl, Below.refl _ _⟩
  case round =>
    obtain ⟨q, hq, rfl, hb⟩ := hrel
    have HH0 := Lib.hid hb
    have C_10 := Lib.hid (Ints.below C_9.out hb)
    have E_10 := Lib.hid (Evs.below E_9.out hb)
    have B_10 := Lib.hid (B_9.out.trans (Below.mono hb B_9.out.size))
    have S_10 := Lib.hid (Sls.below S_9.out hb)
    have F_10 := Lib.hid (Ints.below F_9.out hb)
    have O_10 := Lib.hid (OwnZ.below O_9.out hb)
    have F2_10 := Lib.hid (Ints.below F2_9.out hb)
    clear hb C_9 E_9 B_9 S_9 F_9 O_9 F2_9
    by_cases hlt : q < n2
    · have hlt' : (q : Int) < (n2 : Int) := by omega
      obtain ⟨ar, nr, cr, hx5, hR⟩ := S_10.out.at q hlt
      have hX : Cl wr ⟨R, q, none⟩ (.slice ar nr cr) := hx5
      obtain ⟨gz, cp, ar2, nr2, cr2, hve, hy5, hR2⟩ := O_10.out.at q hlt
      have hX2 : Cl wr ⟨gz, q, none⟩ (.slice ar2 nr2 cr2) := hy5
      have hR3 := hR2.ints
      injection hve with e1 e2 e3
      subst e1
      clear hx5 hy5 hR2 e3
      have HX := Lib.hid hX
      clear hX
      have HY := Lib.hid hR
      clear hR
      have HX2 := Lib.hid hX2
      clear hX2
      have HY2 := Lib.hid hR3
      clear hR3
      go_upto_region 13 with (fail)
      have hb : Below wr.heap.size wr wr.drew := (Below.refl _ _).drew
      have C_11 := Lib.hid (Ints.below C_10.out hb)
      have E_11 := Lib.hid (Evs.below E_10.out hb)
      have B_11 := Lib.hid (B_10.out.trans (Below.mono hb B_10.out.size))
      have S_11 := Lib.hid (Sls.below S_10.out hb)
      have F_11 := Lib.hid (Ints.below F_10.out hb)
      have O_11 := Lib.hid (OwnZ.below O_10.out hb)
      have F2_11 := Lib.hid (Ints.below F2_10.out hb)
      have H_11 := Lib.hid (HH0.out.trans (Below.mono hb HH0.out.size))
      have X_11 := Lib.hid (Cl.below HX.out hb)
      have Y_11 := Lib.hid (Ints.below HY.out hb)
      have X2_11 := Lib.hid (Cl.below HX2.out hb)
      have Y2_11 := Lib.hid (Ints.below HY2.out hb)
      clear hb C_10 E_10 B_10 S_10 F_10 O_10 F2_10 HH0 HX HY HX2 HY2
      refine wp_region_held_drew (S := (fun V => V.cell? ⟨R, q, none⟩ = some (.slice ar nr cr) ∧ V.cell? ⟨gz, q, none⟩ = some (.slice ar2 nr2 cr2))) (by kernel_rfl) ⟨X_11.out, X2_11.out⟩ (fun hHeld => ?_)
      (try simp only [Act.put, List.getElem_toArray, List.getElem_cons_zero, List.getElem_cons_succ, List.setIfInBounds_toArray, List.set_cons_zero, List.set_cons_succ])
      refine wpAnyH_take (i := 0) (v := ?_) rfl (by kernel_rfl) (by kernel_rfl) (by kernel_rfl) (fun _ _ _ h => h) (Or.inl ⟨by rfl, ?_⟩) (by assumption) ?_
      rotate_left
      · (intro w hSw; (try dsimp only at hSw); go_simp; try with_reducible rfl)
      (try simp only [Act.put, List.getElem_toArray, List.getElem_cons_zero, List.getElem_cons_succ, List.setIfInBounds_toArray, List.set_cons_zero, List.set_cons_succ])
      refine wpAnyH_take (i := 1) (v := ?_) rfl (by kernel_rfl) (by kernel_rfl) (by kernel_rfl) (fun _ _ _ h => h) (Or.inl ⟨by rfl, ?_⟩) (by assumption) ?_
      rotate_left
      · (intro w hSw; (try dsimp only at hSw); go_simp; try with_reducible rfl)
      (try simp only [Act.put, List.getElem_toArray, List.getElem_cons_zero, List.getElem_cons_succ, List.setIfInBounds_toArray, List.set_cons_zero, List.set_cons_succ])
      refine wpAnyH_take (i := 2) (v := ?_) rfl (by kernel_rfl) (by kernel_rfl) (by kernel_rfl) (fun _ _ _ h => h) (Or.inl ⟨by rfl, ?_⟩) (by assumption) ?_
      rotate_left
      · (intro w hSw; (try dsimp only at hSw); go_simp; try with_reducible rfl)
      (try simp only [Act.put, List.getElem_toArray, List.getElem_cons_zero, List.getElem_cons_succ, List.setIfInBounds_toArray, List.set_cons_zero, List.set_cons_succ])
      refine wpAnyH_take (i := 3) (v := ?_) rfl (by kernel_rfl) (by kernel_rfl) (by kernel_rfl) (fun _ _ _ h => h) (Or.inl ⟨by rfl, ?_⟩) (by assumption) ?_
      rotate_left
      · (intro w hSw; (try dsimp only at hSw); go_simp; try with_reducible rfl)
      (try simp only [Act.put, List.getElem_toArray, List.getElem_cons_zero, List.getElem_cons_succ, List.setIfInBounds_toArray, List.set_cons_zero, List.set_cons_succ])
      refine wpAnyH_take (i := 4) (v := ?_) rfl (by kernel_rfl) (by kernel_rfl) (by kernel_rfl) (fun _ _ _ h => h) (Or.inl ⟨by rfl, ?_⟩) (by assumption) ?_
      rotate_left
      · (intro w hSw; (try dsimp only at hSw); go_simp; try with_reducible rfl)
      (try simp only [Act.put, List.getElem_toArray, List.getElem_cons_zero, List.getElem_cons_succ, List.setIfInBounds_toArray, List.set_cons_zero, List.set_cons_succ])
      refine wpAnyH_take (i := 5) (v := ?_) rfl (by kernel_rfl) (by kernel_rfl) (by kernel_rfl) (fun _ _ _ h => h) (Or.inl ⟨by rfl, ?_⟩) (by assumption) ?_
      rotate_left
      · (intro w hSw; (try dsimp only at hSw); go_simp; try with_reducible rfl)
      (try simp only [Act.put, List.getElem_toArray, List.getElem_cons_zero, List.getElem_cons_succ, List.setIfInBounds_toArray, List.set_cons_zero, List.set_cons_succ])
      refine wpAnyH_take (i := 6) (v := ?_) rfl (by kernel_rfl) (by kernel_rfl) (by kernel_rfl) (fun _ _ _ h => h) (Or.inl ⟨by rfl, ?_⟩) (by assumption) ?_
      rotate_left
      · (intro w hSw; (try dsimp only at hSw); go_simp; try with_reducible rfl)
      (try simp only [Act.put, List.getElem_toArray, List.getElem_cons_zero, List.getElem_cons_succ, List.setIfInBounds_toArray, List.set_cons_zero, List.set_cons_succ])
      refine wpAnyH_take (i := 7) (v := ?_) rfl (by kernel_rfl) (by kernel_rfl) (by kernel_rfl) (fun _ _ _ h => h) (Or.inl ⟨by rfl, ?_⟩) (by assumption) ?_
      rotate_left
      · (intro w hSw; (try dsimp only at hSw); go_simp; try with_reducible rfl)
      (try simp only [Act.put, List.getElem_toArray, List.getElem_cons_zero, List.getElem_cons_succ, List.setIfInBounds_toArray, List.set_cons_zero, List.set_cons_succ])
      refine wpAnyH_ready (rs := [8]) (by kernel_rfl) (by simp) ?_
      refine AllReadyH.cons (o := _) rfl (fun K hK => ?_) AllReadyH.nil
      go_simp
      refine (Rows_same ar nr cr _ ar2 nr2 cr2 _ Y_11.out Y2_11.out).mono ?_
      rintro e y10 ⟨rfl, hb⟩
      have C_12 := Lib.hid (Ints.below C_11.out hb)
      have E_12 := Lib.hid (Evs.below E_11.out hb)
      have B_12 := Lib.hid (B_11.out.trans (Below.mono hb B_11.out.size))
      have S_12 := Lib.hid (Sls.below S_11.out hb)
      have F_12 := Lib.hid (Ints.below F_11.out hb)
      have O_12 := Lib.hid (OwnZ.below O_11.out hb)
      have F2_12 := Lib.hid (Ints.below F2_11.out hb)
      have H_12 := Lib.hid (H_11.out.trans (Below.mono hb H_11.out.size))
      have X_12 := Lib.hid (Cl.below X_11.out hb)
      have Y_12 := Lib.hid (Ints.below Y_11.out hb)
      have X2_12 := Lib.hid (Cl.below X2_11.out hb)
      have Y2_12 := Lib.hid (Ints.below Y2_11.out hb)
      clear hb C_11 E_11 B_11 S_11 F_11 O_11 F2_11 H_11 X_11 Y_11 X2_11 Y2_11
      clear hHeld
      refine hK.out _ _ ⟨X_12.out, X2_12.out⟩ (fun hHeld => ?_)
      clear hK K
      (try simp only [Act.put, List.getElem_toArray, List.getElem_cons_zero, List.getElem_cons_succ, List.setIfInBounds_toArray, List.set_cons_zero, List.set_cons_succ])
      refine wpAnyH_take (i := 9) (v := ?_) rfl (by kernel_rfl) (by kernel_rfl) (by kernel_rfl) (fun _ _ _ h => h) (Or.inl ⟨by rfl, ?_⟩) (by assumption) ?_
      rotate_left
      · (intro w hSw; (try dsimp only at hSw); go_simp; try with_reducible rfl)
      (try simp only [Act.put, List.getElem_toArray, List.getElem_cons_zero, List.getElem_cons_succ, List.setIfInBounds_toArray, List.set_cons_zero, List.set_cons_succ])
      refine wpAnyH_done (by kernel_rfl) ?_ _
      clear hHeld
      go_wp2_with fail
      go_roundw
      case rel => exact ⟨q + 1, by omega, by go_num, H_12.out⟩
      case measure => simp [intOf]; omega
    · have hqe : q = n2 := by omega
      subst hqe
      go_wp2_with fail
      go_ret
      exact ⟨ret_bool (by first | rfl | simp), B_10.out⟩
set_option maxRecDepth 100000 in
set_option maxHeartbeats 8000000 in
theorem tells_ok_big (ca : Option Addr) (cn cc : Nat) (caps0 : List Int) (a : Option Addr) (n c : Nat) (L0 : List Ev) (i : Int) (w : World) (hC : Ints w ca cn cc caps0) (hE : Evs w a n c L0) (hmay : mayE (caps0.take 6) (L0.take 100) = true) (hi : ¬ i < 0) (hi2 : ((min n 100 : Nat) : Int) ≤ i) :
    Calls Try.prog 4 #[.slice ca cn cc, .slice a n c, .int .i64 i] w (Says w) := by
  have hcl := hC.len_eq
  have HC0 := Lib.hid hC.le_cap
  have HC := Lib.hid (hC.take 6); have HE := Lib.hid (hE.take 100)
  have HF := Lib.hid (few_any a n c · hE.recs.le_cap hE.recs.none_)
  obtain ⟨caps, hcaps⟩ : ∃ x, x = caps0.take 6 := ⟨_, rfl⟩
  obtain ⟨L, hL⟩ : ∃ x, x = L0.take 100 := ⟨_, rfl⟩
  rw [← hcaps] at HC hmay; rw [← hL] at HE hmay
  have hm6 : min cn 6 ≤ 6 := by omega
  have hm100 : min n 100 ≤ 100 := by omega
  obtain ⟨c2, hc2⟩ : ∃ x, x = min cn 6 := ⟨_, rfl⟩
  obtain ⟨n2, hn2⟩ : ∃ x, x = min n 100 := ⟨_, rfl⟩
  have hmc : (if (6 : Int) < (cn : Int) then (6 : Int) else (cn : Int)) = (c2 : Int) := by split <;> omega
  have hcut := cut_to 22 Try.underlying22 ⟨_, fun _ => rfl⟩ ca cn cc c2 HC0.out (by omega)
  rw [← hc2] at HC hm6; rw [← hn2] at HE HF hm100 hi2
  have hlen := HE.out.recs.len_eq
  have hcln := HC.out.len_eq
  have hncap := HE.out.recs.le_cap
  have hnmax := HE.out.recs.len_le
  have B := Lib.hid (Below.refl w.heap.size w)
  have hmc2 : min (cn : Int) 6 = (c2 : Int) := by omega
  clear hC hE hcaps hL hcl hc2 hn2
  go_enter Try.func4, Try.ntmps4
  go_upto_region 1 with (fail)
  have hb : Below w.heap.size w w.drew := (Below.refl _ _).drew
  have C_1 := Lib.hid (Ints.below HC.out hb)
  have E_1 := Lib.hid (Evs.below HE.out hb)
  have B_1 := Lib.hid (B.out.trans (Below.mono hb B.out.size))
  clear hb HC HE B
  refine wp_region_held_drew (S := (fun _ => True)) (by kernel_rfl) trivial (fun hHeld => ?_)
  (try simp only [Act.put, List.getElem_toArray, List.getElem_cons_zero, List.getElem_cons_succ, List.setIfInBounds_toArray, List.set_cons_zero, List.set_cons_succ])
  refine wpAnyH_take (i := 0) (v := ?_) rfl (by kernel_rfl) (by kernel_rfl) (by kernel_rfl) (fun _ _ _ h => h) (Or.inl ⟨by rfl, ?_⟩) (by assumption) ?_
  rotate_left
  · (intro w hSw; (try dsimp only at hSw); go_simp; try with_reducible rfl)
  (try simp only [Act.put, List.getElem_toArray, List.getElem_cons_zero, List.getElem_cons_succ, List.setIfInBounds_toArray, List.set_cons_zero, List.set_cons_succ])
  refine wpAnyH_take (i := 1) (v := ?_) rfl (by kernel_rfl) (by kernel_rfl) (by kernel_rfl) (fun _ _ _ h => h) (Or.inl ⟨by rfl, ?_⟩) (by assumption) ?_
  rotate_left
  · (intro w hSw; (try dsimp only at hSw); go_simp; try with_reducible rfl)
  (try simp only [Act.put, List.getElem_toArray, List.getElem_cons_zero, List.getElem_cons_succ, List.setIfInBounds_toArray, List.set_cons_zero, List.set_cons_succ])
  refine wpAnyH_take (i := 2) (v := ?_) rfl (by kernel_rfl) (by kernel_rfl) (by kernel_rfl) (fun _ _ _ h => h) (Or.inl ⟨by rfl, ?_⟩) (by assumption) ?_
  rotate_left
  · (intro w hSw; (try dsimp only at hSw); go_simp; try with_reducible rfl)
  (try simp only [Act.put, List.getElem_toArray, List.getElem_cons_zero, List.getElem_cons_succ, List.setIfInBounds_toArray, List.set_cons_zero, List.set_cons_succ])
  refine wpAnyH_take (i := 3) (v := ?_) rfl (by kernel_rfl) (by kernel_rfl) (by kernel_rfl) (fun _ _ _ h => h) (Or.inl ⟨by rfl, ?_⟩) (by assumption) ?_
  rotate_left
  · (intro w hSw; (try dsimp only at hSw); go_simp; try with_reducible rfl)
  (try simp only [Act.put, List.getElem_toArray, List.getElem_cons_zero, List.getElem_cons_succ, List.setIfInBounds_toArray, List.set_cons_zero, List.set_cons_succ])
  refine wpAnyH_take (i := 4) (v := ?_) rfl (by kernel_rfl) (by kernel_rfl) (by kernel_rfl) (fun _ _ _ h => h) (Or.inl ⟨by rfl, ?_⟩) (by assumption) ?_
  rotate_left
  · (intro w hSw; (try dsimp only at hSw); go_simp; try with_reducible rfl)
  (try simp only [Act.put, List.getElem_toArray, List.getElem_cons_zero, List.getElem_cons_succ, List.setIfInBounds_toArray, List.set_cons_zero, List.set_cons_succ])
  refine wpAnyH_take (i := 5) (v := ?_) rfl (by kernel_rfl) (by kernel_rfl) (by kernel_rfl) (fun _ _ _ h => h) (Or.inl ⟨by rfl, ?_⟩) (by assumption) ?_
  rotate_left
  · (intro w hSw; (try dsimp only at hSw); go_simp; try with_reducible rfl)
  (try simp only [Act.put, List.getElem_toArray, List.getElem_cons_zero, List.getElem_cons_succ, List.setIfInBounds_toArray, List.set_cons_zero, List.set_cons_succ])
  refine wpAnyH_ready (rs := [6]) (by kernel_rfl) (by simp) ?_
  refine AllReadyH.cons (o := _) rfl (fun K hK => ?_) AllReadyH.nil
  go_simp
  refine (HF.out _).mono ?_
  rintro e y1 ⟨rfl, rfl⟩
  clear hHeld
  refine hK.out _ _ trivial (fun hHeld => ?_)
  clear hK K
  (try simp only [Act.put, List.getElem_toArray, List.getElem_cons_zero, List.getElem_cons_succ, List.setIfInBounds_toArray, List.set_cons_zero, List.set_cons_succ])
  refine wpAnyH_take (i := 7) (v := ?_) rfl (by kernel_rfl) (by kernel_rfl) (by kernel_rfl) (fun _ _ _ h => h) (Or.inl ⟨by rfl, ?_⟩) (by assumption) ?_
  rotate_left
  · (intro w hSw; (try dsimp only at hSw); go_simp; try with_reducible rfl)
  (try simp only [Act.put, List.getElem_toArray, List.getElem_cons_zero, List.getElem_cons_succ, List.setIfInBounds_toArray, List.set_cons_zero, List.set_cons_succ])
  refine wpAnyH_take (i := 8) (v := ?_) rfl (by kernel_rfl) (by kernel_rfl) (by kernel_rfl) (fun _ _ _ h => h) (Or.inl ⟨by rfl, ?_⟩) (by assumption) ?_
  rotate_left
  · (intro w hSw; (try dsimp only at hSw); go_simp; try with_reducible rfl)
  (try simp only [Act.put, List.getElem_toArray, List.getElem_cons_zero, List.getElem_cons_succ, List.setIfInBounds_toArray, List.set_cons_zero, List.set_cons_succ])
  refine wpAnyH_done (by kernel_rfl) ?_ _
  clear hHeld
  clear hcut HF hmc hmc2
  have hgd : Good c2 caps L := good_of hmay hcln (by omega)
  have HG := Lib.hid hgd
  clear hgd
  go_wp2_with fail
  refine (stampAll_ok ca c2 cc caps a n2 c L _ C_1.out E_1.out HG.out).mono ?_
  rintro e y2 ⟨R, rfl, hS, hb⟩
  have C_2 := Lib.hid (Ints.below C_1.out hb)
  have E_2 := Lib.hid (Evs.below E_1.out hb)
  have B_2 := Lib.hid (B_1.out.trans (Below.mono hb B_1.out.size))
  clear hb C_1 E_1 B_1
  have HS := Lib.hid hS
  clear hS
  go_wp2_with fail
  refine (stampOf_out ca c2 cc caps a n2 c L i _ C_2.out E_2.out HG.out (.inr ⟨by omega, by omega⟩)).mono ?_
  rintro e y3 ⟨rfl, hb⟩
  have C_3 := Lib.hid (Ints.below C_2.out hb)
  have E_3 := Lib.hid (Evs.below E_2.out hb)
  have B_3 := Lib.hid (B_2.out.trans (Below.mono hb B_2.out.size))
  have S_3 := Lib.hid (Sls.below HS.out hb)
  clear hb C_2 E_2 B_2 HS
  go_wp2_with fail
  refine (stampFinal_ok ca c2 cc caps a n2 c L _ C_3.out E_3.out HG.out).mono ?_
  rintro e y4 ⟨af, nf, cf, rfl, hF, hb⟩
  have C_4 := Lib.hid (Ints.below C_3.out hb)
  have E_4 := Lib.hid (Evs.below E_3.out hb)
  have B_4 := Lib.hid (B_3.out.trans (Below.mono hb B_3.out.size))
  have S_4 := Lib.hid (Sls.below S_3.out hb)
  clear hb C_3 E_3 B_3 S_3
  have HFin := Lib.hid hF
  clear hF
  go_wp2_with fail
  refine (May_is ca c2 cc caps a n2 c L _ C_4.out E_4.out (by omega) _ hmay).mono ?_
  rintro e y5 ⟨rfl, hb⟩
  have C_5 := Lib.hid (Ints.below C_4.out hb)
  have E_5 := Lib.hid (Evs.below E_4.out hb)
  have B_5 := Lib.hid (B_4.out.trans (Below.mono hb B_4.out.size))
  have S_5 := Lib.hid (Sls.below S_4.out hb)
  have F_5 := Lib.hid (Ints.below HFin.out hb)
  clear hb C_4 E_4 B_4 S_4 HFin
  go_wp2_with fail
  refine (refAll_any ca c2 cc caps a n2 c L _ C_5.out E_5.out HG.out).mono ?_
  rintro e y6 ⟨vz, rfl, hZ, hb⟩
  have C_6 := Lib.hid (Ints.below C_5.out hb)
  have E_6 := Lib.hid (Evs.below E_5.out hb)
  have B_6 := Lib.hid (B_5.out.trans (Below.mono hb B_5.out.size))
  have S_6 := Lib.hid (Sls.below S_5.out hb)
  have F_6 := Lib.hid (Ints.below F_5.out hb)
  clear hb C_5 E_5 B_5 S_5 F_5
  obtain ⟨az, cz, rfl⟩ := hZ.len
  have HZ := Lib.hid hZ
  clear hZ
  go_wp2_with fail
  refine (refFinal_any ca c2 cc caps a n2 c L _ C_6.out E_6.out HG.out).mono ?_
  rintro e y7 ⟨ag, ng, cg, rfl, hF2, hb⟩
  have C_7 := Lib.hid (Ints.below C_6.out hb)
  have E_7 := Lib.hid (Evs.below E_6.out hb)
  have B_7 := Lib.hid (B_6.out.trans (Below.mono hb B_6.out.size))
  have S_7 := Lib.hid (Sls.below S_6.out hb)
  have F_7 := Lib.hid (Ints.below F_6.out hb)
  have O_7 := Lib.hid (OwnZ.below HZ.out hb)
  clear hb C_6 E_6 B_6 S_6 F_6 HZ
  have HFin2 := Lib.hid hF2
  clear hF2
  go_wp2_with fail
  refine (Rows_same af nf cf _ ag ng cg _ F_7.out HFin2.out).mono ?_
  rintro e y8 ⟨rfl, hb⟩
  have C_8 := Lib.hid (Ints.below C_7.out hb)
  have E_8 := Lib.hid (Evs.below E_7.out hb)
  have B_8 := Lib.hid (B_7.out.trans (Below.mono hb B_7.out.size))
  have S_8 := Lib.hid (Sls.below S_7.out hb)
  have F_8 := Lib.hid (Ints.below F_7.out hb)
  have O_8 := Lib.hid (OwnZ.below O_7.out hb)
  have F2_8 := Lib.hid (Ints.below HFin2.out hb)
  clear hb C_7 E_7 B_7 S_7 F_7 O_7 HFin2
  go_wp2_with fail
  refine (alive_any _).mono ?_
  rintro e y9 ⟨rfl, hb⟩
  have C_9 := Lib.hid (Ints.below C_8.out hb)
  have E_9 := Lib.hid (Evs.below E_8.out hb)
  have B_9 := Lib.hid (B_8.out.trans (Below.mono hb B_8.out.size))
  have S_9 := Lib.hid (Sls.below S_8.out hb)
  have F_9 := Lib.hid (Ints.below F_8.out hb)
  have O_9 := Lib.hid (OwnZ.below O_8.out hb)
  have F2_9 := Lib.hid (Ints.below F2_8.out hb)
  clear hb C_8 E_8 B_8 S_8 F_8 O_8 F2_8
  go_wp2_with fail
  go_loopw [103] (fun j wr => ∃ q : Nat, q ≤ n2 ∧ j = .int .i64 q ∧ Below y9.heap.size y9 wr) (fun j _ => n2 - (intOf j).toNat)
  case atStart => exact ⟨0, Nat.zero_le _, rfl, Below.refl _ _⟩
  case round =>
    obtain ⟨q, hq, rfl, hb⟩ := hrel
    have HH0 := Lib.hid hb
    have C_10 := Lib.hid (Ints.below C_9.out hb)
    have E_10 := Lib.hid (Evs.below E_9.out hb)
    have B_10 := Lib.hid (B_9.out.trans (Below.mono hb B_9.out.size))
    have S_10 := Lib.hid (Sls.below S_9.out hb)
    have F_10 := Lib.hid (Ints.below F_9.out hb)
    have O_10 := Lib.hid (OwnZ.below O_9.out hb)
    have F2_10 := Lib.hid (Ints.below F2_9.out hb)
    clear hb C_9 E_9 B_9 S_9 F_9 O_9 F2_9
    by_cases hlt : q < n2
    · have hlt' : (q : Int) < (n2 : Int) := by omega
      obtain ⟨ar, nr, cr, hx5, hR⟩ := S_10.out.at q hlt
      have hX : Cl wr ⟨R, q, none⟩ (.slice ar nr cr) := hx5
      obtain ⟨gz, cp, ar2, nr2, cr2, hve, hy5, hR2⟩ := O_10.out.at q hlt
      have hX2 : Cl wr ⟨gz, q, none⟩ (.slice ar2 nr2 cr2) := hy5
      have hR3 := hR2.ints
      injection hve with e1 e2 e3
      subst e1
      clear hx5 hy5 hR2 e3
      have HX := Lib.hid hX
      clear hX
      have HY := Lib.hid hR
      clear hR
      have HX2 := Lib.hid hX2
      clear hX2
      have HY2 := Lib.hid hR3
      clear hR3
      go_upto_region 13 with (fail)
      have hb : Below wr.heap.size wr wr.drew := (Below.refl _ _).drew
      have C_11 := Lib.hid (Ints.below C_10.out hb)
      have E_11 := Lib.hid (Evs.below E_10.out hb)
      have B_11 := Lib.hid (B_10.out.trans (Below.mono hb B_10.out.size))
      have S_11 := Lib.hid (Sls.below S_10.out hb)
      have F_11 := Lib.hid (Ints.below F_10.out hb)
      have O_11 := Lib.hid (OwnZ.below O_10.out hb)
      have F2_11 := Lib.hid (Ints.below F2_10.out hb)
      have H_11 := Lib.hid (HH0.out.trans (Below.mono hb HH0.out.size))
      have X_11 := Lib.hid (Cl.below HX.out hb)
      have Y_11 := Lib.hid (Ints.below HY.out hb)
      have X2_11 := Lib.hid (Cl.below HX2.out hb)
      have Y2_11 := Lib.hid (Ints.below HY2.out hb)
      clear hb C_10 E_10 B_10 S_10 F_10 O_10 F2_10 HH0 HX HY HX2 HY2
      refine wp_region_held_drew (S := (fun V => V.cell? ⟨R, q, none⟩ = some (.slice ar nr cr) ∧ V.cell? ⟨gz, q, none⟩ = some (.slice ar2 nr2 cr2))) (by kernel_rfl) ⟨X_11.out, X2_11.out⟩ (fun hHeld => ?_)
      (try simp only [Act.put, List.getElem_toArray, List.getElem_cons_zero, List.getElem_cons_succ, List.setIfInBounds_toArray, List.set_cons_zero, List.set_cons_succ])
      refine wpAnyH_take (i := 0) (v := ?_) rfl (by kernel_rfl) (by kernel_rfl) (by kernel_rfl) (fun _ _ _ h => h) (Or.inl ⟨by rfl, ?_⟩) (by assumption) ?_
      rotate_left
      · (intro w hSw; (try dsimp only at hSw); go_simp; try with_reducible rfl)
      (try simp only [Act.put, List.getElem_toArray, List.getElem_cons_zero, List.getElem_cons_succ, List.setIfInBounds_toArray, List.set_cons_zero, List.set_cons_succ])
      refine wpAnyH_take (i := 1) (v := ?_) rfl (by kernel_rfl) (by kernel_rfl) (by kernel_rfl) (fun _ _ _ h => h) (Or.inl ⟨by rfl, ?_⟩) (by assumption) ?_
      rotate_left
      · (intro w hSw; (try dsimp only at hSw); go_simp; try with_reducible rfl)
      (try simp only [Act.put, List.getElem_toArray, List.getElem_cons_zero, List.getElem_cons_succ, List.setIfInBounds_toArray, List.set_cons_zero, List.set_cons_succ])
      refine wpAnyH_take (i := 2) (v := ?_) rfl (by kernel_rfl) (by kernel_rfl) (by kernel_rfl) (fun _ _ _ h => h) (Or.inl ⟨by rfl, ?_⟩) (by assumption) ?_
      rotate_left
      · (intro w hSw; (try dsimp only at hSw); go_simp; try with_reducible rfl)
      (try simp only [Act.put, List.getElem_toArray, List.getElem_cons_zero, List.getElem_cons_succ, List.setIfInBounds_toArray, List.set_cons_zero, List.set_cons_succ])
      refine wpAnyH_take (i := 3) (v := ?_) rfl (by kernel_rfl) (by kernel_rfl) (by kernel_rfl) (fun _ _ _ h => h) (Or.inl ⟨by rfl, ?_⟩) (by assumption) ?_
      rotate_left
      · (intro w hSw; (try dsimp only at hSw); go_simp; try with_reducible rfl)
      (try simp only [Act.put, List.getElem_toArray, List.getElem_cons_zero, List.getElem_cons_succ, List.setIfInBounds_toArray, List.set_cons_zero, List.set_cons_succ])
      refine wpAnyH_take (i := 4) (v := ?_) rfl (by kernel_rfl) (by kernel_rfl) (by kernel_rfl) (fun _ _ _ h => h) (Or.inl ⟨by rfl, ?_⟩) (by assumption) ?_
      rotate_left
      · (intro w hSw; (try dsimp only at hSw); go_simp; try with_reducible rfl)
      (try simp only [Act.put, List.getElem_toArray, List.getElem_cons_zero, List.getElem_cons_succ, List.setIfInBounds_toArray, List.set_cons_zero, List.set_cons_succ])
      refine wpAnyH_take (i := 5) (v := ?_) rfl (by kernel_rfl) (by kernel_rfl) (by kernel_rfl) (fun _ _ _ h => h) (Or.inl ⟨by rfl, ?_⟩) (by assumption) ?_
      rotate_left
      · (intro w hSw; (try dsimp only at hSw); go_simp; try with_reducible rfl)
      (try simp only [Act.put, List.getElem_toArray, List.getElem_cons_zero, List.getElem_cons_succ, List.setIfInBounds_toArray, List.set_cons_zero, List.set_cons_succ])
      refine wpAnyH_take (i := 6) (v := ?_) rfl (by kernel_rfl) (by kernel_rfl) (by kernel_rfl) (fun _ _ _ h => h) (Or.inl ⟨by rfl, ?_⟩) (by assumption) ?_
      rotate_left
      · (intro w hSw; (try dsimp only at hSw); go_simp; try with_reducible rfl)
      (try simp only [Act.put, List.getElem_toArray, List.getElem_cons_zero, List.getElem_cons_succ, List.setIfInBounds_toArray, List.set_cons_zero, List.set_cons_succ])
      refine wpAnyH_take (i := 7) (v := ?_) rfl (by kernel_rfl) (by kernel_rfl) (by kernel_rfl) (fun _ _ _ h => h) (Or.inl ⟨by rfl, ?_⟩) (by assumption) ?_
      rotate_left
      · (intro w hSw; (try dsimp only at hSw); go_simp; try with_reducible rfl)
      (try simp only [Act.put, List.getElem_toArray, List.getElem_cons_zero, List.getElem_cons_succ, List.setIfInBounds_toArray, List.set_cons_zero, List.set_cons_succ])
      refine wpAnyH_ready (rs := [8]) (by kernel_rfl) (by simp) ?_
      refine AllReadyH.cons (o := _) rfl (fun K hK => ?_) AllReadyH.nil
      go_simp
      refine (Rows_same ar nr cr _ ar2 nr2 cr2 _ Y_11.out Y2_11.out).mono ?_
      rintro e y10 ⟨rfl, hb⟩
      have C_12 := Lib.hid (Ints.below C_11.out hb)
      have E_12 := Lib.hid (Evs.below E_11.out hb)
      have B_12 := Lib.hid (B_11.out.trans (Below.mono hb B_11.out.size))
      have S_12 := Lib.hid (Sls.below S_11.out hb)
      have F_12 := Lib.hid (Ints.below F_11.out hb)
      have O_12 := Lib.hid (OwnZ.below O_11.out hb)
      have F2_12 := Lib.hid (Ints.below F2_11.out hb)
      have H_12 := Lib.hid (H_11.out.trans (Below.mono hb H_11.out.size))
      have X_12 := Lib.hid (Cl.below X_11.out hb)
      have Y_12 := Lib.hid (Ints.below Y_11.out hb)
      have X2_12 := Lib.hid (Cl.below X2_11.out hb)
      have Y2_12 := Lib.hid (Ints.below Y2_11.out hb)
      clear hb C_11 E_11 B_11 S_11 F_11 O_11 F2_11 H_11 X_11 Y_11 X2_11 Y2_11
      clear hHeld
      refine hK.out _ _ ⟨X_12.out, X2_12.out⟩ (fun hHeld => ?_)
      clear hK K
      (try simp only [Act.put, List.getElem_toArray, List.getElem_cons_zero, List.getElem_cons_succ, List.setIfInBounds_toArray, List.set_cons_zero, List.set_cons_succ])
      refine wpAnyH_take (i := 9) (v := ?_) rfl (by kernel_rfl) (by kernel_rfl) (by kernel_rfl) (fun _ _ _ h => h) (Or.inl ⟨by rfl, ?_⟩) (by assumption) ?_
      rotate_left
      · (intro w hSw; (try dsimp only at hSw); go_simp; try with_reducible rfl)
      (try simp only [Act.put, List.getElem_toArray, List.getElem_cons_zero, List.getElem_cons_succ, List.setIfInBounds_toArray, List.set_cons_zero, List.set_cons_succ])
      refine wpAnyH_done (by kernel_rfl) ?_ _
      clear hHeld
      go_wp2_with fail
      go_roundw
      case rel => exact ⟨q + 1, by omega, by go_num, H_12.out⟩
      case measure => simp [intOf]; omega
    · have hqe : q = n2 := by omega
      subst hqe
      go_wp2_with fail
      go_ret
      exact ⟨ret_bool (by first | rfl | simp), B_10.out⟩
set_option maxRecDepth 100000 in
set_option maxHeartbeats 8000000 in
theorem tells_ok_in (ca : Option Addr) (cn cc : Nat) (caps0 : List Int) (a : Option Addr) (n c : Nat) (L0 : List Ev) (i : Int) (w : World) (hC : Ints w ca cn cc caps0) (hE : Evs w a n c L0) (hmay : mayE (caps0.take 6) (L0.take 100) = true) (hi : ¬ i < 0) (hi2 : ¬ ((min n 100 : Nat) : Int) ≤ i) :
    Calls Try.prog 4 #[.slice ca cn cc, .slice a n c, .int .i64 i] w (Says w) := by
  have hcl := hC.len_eq
  have HC0 := Lib.hid hC.le_cap
  have HC := Lib.hid (hC.take 6); have HE := Lib.hid (hE.take 100)
  have HF := Lib.hid (few_any a n c · hE.recs.le_cap hE.recs.none_)
  obtain ⟨caps, hcaps⟩ : ∃ x, x = caps0.take 6 := ⟨_, rfl⟩
  obtain ⟨L, hL⟩ : ∃ x, x = L0.take 100 := ⟨_, rfl⟩
  rw [← hcaps] at HC hmay; rw [← hL] at HE hmay
  have hm6 : min cn 6 ≤ 6 := by omega
  have hm100 : min n 100 ≤ 100 := by omega
  obtain ⟨c2, hc2⟩ : ∃ x, x = min cn 6 := ⟨_, rfl⟩
  obtain ⟨n2, hn2⟩ : ∃ x, x = min n 100 := ⟨_, rfl⟩
  have hmc : (if (6 : Int) < (cn : Int) then (6 : Int) else (cn : Int)) = (c2 : Int) := by split <;> omega
  have hcut := cut_to 22 Try.underlying22 ⟨_, fun _ => rfl⟩ ca cn cc c2 HC0.out (by omega)
  rw [← hc2] at HC hm6; rw [← hn2] at HE HF hm100 hi2
  have hlen := HE.out.recs.len_eq
  have hcln := HC.out.len_eq
  have hncap := HE.out.recs.le_cap
  have hnmax := HE.out.recs.len_le
  have B := Lib.hid (Below.refl w.heap.size w)
  have hmc2 : min (cn : Int) 6 = (c2 : Int) := by omega
  clear hC hE hcaps hL hcl hc2 hn2
  go_enter Try.func4, Try.ntmps4
  go_upto_region 1 with (fail)
  have hb : Below w.heap.size w w.drew := (Below.refl _ _).drew
  have C_1 := Lib.hid (Ints.below HC.out hb)
  have E_1 := Lib.hid (Evs.below HE.out hb)
  have B_1 := Lib.hid (B.out.trans (Below.mono hb B.out.size))
  clear hb HC HE B
  refine wp_region_held_drew (S := (fun _ => True)) (by kernel_rfl) trivial (fun hHeld => ?_)
  (try simp only [Act.put, List.getElem_toArray, List.getElem_cons_zero, List.getElem_cons_succ, List.setIfInBounds_toArray, List.set_cons_zero, List.set_cons_succ])
  refine wpAnyH_take (i := 0) (v := ?_) rfl (by kernel_rfl) (by kernel_rfl) (by kernel_rfl) (fun _ _ _ h => h) (Or.inl ⟨by rfl, ?_⟩) (by assumption) ?_
  rotate_left
  · (intro w hSw; (try dsimp only at hSw); go_simp; try with_reducible rfl)
  (try simp only [Act.put, List.getElem_toArray, List.getElem_cons_zero, List.getElem_cons_succ, List.setIfInBounds_toArray, List.set_cons_zero, List.set_cons_succ])
  refine wpAnyH_take (i := 1) (v := ?_) rfl (by kernel_rfl) (by kernel_rfl) (by kernel_rfl) (fun _ _ _ h => h) (Or.inl ⟨by rfl, ?_⟩) (by assumption) ?_
  rotate_left
  · (intro w hSw; (try dsimp only at hSw); go_simp; try with_reducible rfl)
  (try simp only [Act.put, List.getElem_toArray, List.getElem_cons_zero, List.getElem_cons_succ, List.setIfInBounds_toArray, List.set_cons_zero, List.set_cons_succ])
  refine wpAnyH_take (i := 2) (v := ?_) rfl (by kernel_rfl) (by kernel_rfl) (by kernel_rfl) (fun _ _ _ h => h) (Or.inl ⟨by rfl, ?_⟩) (by assumption) ?_
  rotate_left
  · (intro w hSw; (try dsimp only at hSw); go_simp; try with_reducible rfl)
  (try simp only [Act.put, List.getElem_toArray, List.getElem_cons_zero, List.getElem_cons_succ, List.setIfInBounds_toArray, List.set_cons_zero, List.set_cons_succ])
  refine wpAnyH_take (i := 3) (v := ?_) rfl (by kernel_rfl) (by kernel_rfl) (by kernel_rfl) (fun _ _ _ h => h) (Or.inl ⟨by rfl, ?_⟩) (by assumption) ?_
  rotate_left
  · (intro w hSw; (try dsimp only at hSw); go_simp; try with_reducible rfl)
  (try simp only [Act.put, List.getElem_toArray, List.getElem_cons_zero, List.getElem_cons_succ, List.setIfInBounds_toArray, List.set_cons_zero, List.set_cons_succ])
  refine wpAnyH_take (i := 4) (v := ?_) rfl (by kernel_rfl) (by kernel_rfl) (by kernel_rfl) (fun _ _ _ h => h) (Or.inl ⟨by rfl, ?_⟩) (by assumption) ?_
  rotate_left
  · (intro w hSw; (try dsimp only at hSw); go_simp; try with_reducible rfl)
  (try simp only [Act.put, List.getElem_toArray, List.getElem_cons_zero, List.getElem_cons_succ, List.setIfInBounds_toArray, List.set_cons_zero, List.set_cons_succ])
  refine wpAnyH_take (i := 5) (v := ?_) rfl (by kernel_rfl) (by kernel_rfl) (by kernel_rfl) (fun _ _ _ h => h) (Or.inl ⟨by rfl, ?_⟩) (by assumption) ?_
  rotate_left
  · (intro w hSw; (try dsimp only at hSw); go_simp; try with_reducible rfl)
  (try simp only [Act.put, List.getElem_toArray, List.getElem_cons_zero, List.getElem_cons_succ, List.setIfInBounds_toArray, List.set_cons_zero, List.set_cons_succ])
  refine wpAnyH_ready (rs := [6]) (by kernel_rfl) (by simp) ?_
  refine AllReadyH.cons (o := _) rfl (fun K hK => ?_) AllReadyH.nil
  go_simp
  refine (HF.out _).mono ?_
  rintro e y1 ⟨rfl, rfl⟩
  clear hHeld
  refine hK.out _ _ trivial (fun hHeld => ?_)
  clear hK K
  (try simp only [Act.put, List.getElem_toArray, List.getElem_cons_zero, List.getElem_cons_succ, List.setIfInBounds_toArray, List.set_cons_zero, List.set_cons_succ])
  refine wpAnyH_take (i := 7) (v := ?_) rfl (by kernel_rfl) (by kernel_rfl) (by kernel_rfl) (fun _ _ _ h => h) (Or.inl ⟨by rfl, ?_⟩) (by assumption) ?_
  rotate_left
  · (intro w hSw; (try dsimp only at hSw); go_simp; try with_reducible rfl)
  (try simp only [Act.put, List.getElem_toArray, List.getElem_cons_zero, List.getElem_cons_succ, List.setIfInBounds_toArray, List.set_cons_zero, List.set_cons_succ])
  refine wpAnyH_take (i := 8) (v := ?_) rfl (by kernel_rfl) (by kernel_rfl) (by kernel_rfl) (fun _ _ _ h => h) (Or.inl ⟨by rfl, ?_⟩) (by assumption) ?_
  rotate_left
  · (intro w hSw; (try dsimp only at hSw); go_simp; try with_reducible rfl)
  (try simp only [Act.put, List.getElem_toArray, List.getElem_cons_zero, List.getElem_cons_succ, List.setIfInBounds_toArray, List.set_cons_zero, List.set_cons_succ])
  refine wpAnyH_done (by kernel_rfl) ?_ _
  clear hHeld
  clear hcut HF hmc hmc2
  have hgd : Good c2 caps L := good_of hmay hcln (by omega)
  have HG := Lib.hid hgd
  clear hgd
  have hi3 : i < (n2 : Int) := by omega
  obtain ⟨k, rfl⟩ : ∃ k : Nat, i = (k : Int) := ⟨i.toNat, by omega⟩
  have hkn : k < n2 := by omega
  have h01 : ¬ (k : Int) < 0 := by omega
  have h02 : ¬ (n2 : Int) ≤ (k : Int) := by omega
  clear hi hi2
  go_wp2_with fail
  refine (stampAll_ok ca c2 cc caps a n2 c L _ C_1.out E_1.out HG.out).mono ?_
  rintro e y2 ⟨R, rfl, hS, hb⟩
  have C_2 := Lib.hid (Ints.below C_1.out hb)
  have E_2 := Lib.hid (Evs.below E_1.out hb)
  have B_2 := Lib.hid (B_1.out.trans (Below.mono hb B_1.out.size))
  clear hb C_1 E_1 B_1
  have HS := Lib.hid hS
  clear hS
  go_wp2_with fail
  refine (stampOf_ok ca c2 cc caps a n2 c L k _ C_2.out E_2.out HG.out hkn).mono ?_
  rintro e y3 ⟨ao, no, co, rfl, hO, hb⟩
  have C_3 := Lib.hid (Ints.below C_2.out hb)
  have E_3 := Lib.hid (Evs.below E_2.out hb)
  have B_3 := Lib.hid (B_2.out.trans (Below.mono hb B_2.out.size))
  have S_3 := Lib.hid (Sls.below HS.out hb)
  clear hb C_2 E_2 B_2 HS
  have HO := Lib.hid hO
  clear hO
  go_wp2_with fail
  refine (stampFinal_ok ca c2 cc caps a n2 c L _ C_3.out E_3.out HG.out).mono ?_
  rintro e y4 ⟨af, nf, cf, rfl, hF, hb⟩
  have C_4 := Lib.hid (Ints.below C_3.out hb)
  have E_4 := Lib.hid (Evs.below E_3.out hb)
  have B_4 := Lib.hid (B_3.out.trans (Below.mono hb B_3.out.size))
  have S_4 := Lib.hid (Sls.below S_3.out hb)
  have W_4 := Lib.hid (Ints.below HO.out hb)
  clear hb C_3 E_3 B_3 S_3 HO
  have HFin := Lib.hid hF
  clear hF
  go_wp2_with fail
  refine (May_is ca c2 cc caps a n2 c L _ C_4.out E_4.out (by omega) _ hmay).mono ?_
  rintro e y5 ⟨rfl, hb⟩
  have C_5 := Lib.hid (Ints.below C_4.out hb)
  have E_5 := Lib.hid (Evs.below E_4.out hb)
  have B_5 := Lib.hid (B_4.out.trans (Below.mono hb B_4.out.size))
  have S_5 := Lib.hid (Sls.below S_4.out hb)
  have W_5 := Lib.hid (Ints.below W_4.out hb)
  have F_5 := Lib.hid (Ints.below HFin.out hb)
  clear hb C_4 E_4 B_4 S_4 W_4 HFin
  go_wp2_with fail
  refine (refAll_any ca c2 cc caps a n2 c L _ C_5.out E_5.out HG.out).mono ?_
  rintro e y6 ⟨vz, rfl, hZ, hb⟩
  have C_6 := Lib.hid (Ints.below C_5.out hb)
  have E_6 := Lib.hid (Evs.below E_5.out hb)
  have B_6 := Lib.hid (B_5.out.trans (Below.mono hb B_5.out.size))
  have S_6 := Lib.hid (Sls.below S_5.out hb)
  have W_6 := Lib.hid (Ints.below W_5.out hb)
  have F_6 := Lib.hid (Ints.below F_5.out hb)
  clear hb C_5 E_5 B_5 S_5 W_5 F_5
  obtain ⟨az, cz, rfl⟩ := hZ.len
  have HZ := Lib.hid hZ
  clear hZ
  go_wp2_with fail
  refine (refFinal_any ca c2 cc caps a n2 c L _ C_6.out E_6.out HG.out).mono ?_
  rintro e y7 ⟨ag, ng, cg, rfl, hF2, hb⟩
  have C_7 := Lib.hid (Ints.below C_6.out hb)
  have E_7 := Lib.hid (Evs.below E_6.out hb)
  have B_7 := Lib.hid (B_6.out.trans (Below.mono hb B_6.out.size))
  have S_7 := Lib.hid (Sls.below S_6.out hb)
  have W_7 := Lib.hid (Ints.below W_6.out hb)
  have F_7 := Lib.hid (Ints.below F_6.out hb)
  have O_7 := Lib.hid (OwnZ.below HZ.out hb)
  clear hb C_6 E_6 B_6 S_6 W_6 F_6 HZ
  have HFin2 := Lib.hid hF2
  clear hF2
  go_wp2_with fail
  refine (Rows_same af nf cf _ ag ng cg _ F_7.out HFin2.out).mono ?_
  rintro e y8 ⟨rfl, hb⟩
  have C_8 := Lib.hid (Ints.below C_7.out hb)
  have E_8 := Lib.hid (Evs.below E_7.out hb)
  have B_8 := Lib.hid (B_7.out.trans (Below.mono hb B_7.out.size))
  have S_8 := Lib.hid (Sls.below S_7.out hb)
  have W_8 := Lib.hid (Ints.below W_7.out hb)
  have F_8 := Lib.hid (Ints.below F_7.out hb)
  have O_8 := Lib.hid (OwnZ.below O_7.out hb)
  have F2_8 := Lib.hid (Ints.below HFin2.out hb)
  clear hb C_7 E_7 B_7 S_7 W_7 F_7 O_7 HFin2
  go_wp2_with fail
  refine (alive_any _).mono ?_
  rintro e y9 ⟨rfl, hb⟩
  have C_9 := Lib.hid (Ints.below C_8.out hb)
  have E_9 := Lib.hid (Evs.below E_8.out hb)
  have B_9 := Lib.hid (B_8.out.trans (Below.mono hb B_8.out.size))
  have S_9 := Lib.hid (Sls.below S_8.out hb)
  have W_9 := Lib.hid (Ints.below W_8.out hb)
  have F_9 := Lib.hid (Ints.below F_8.out hb)
  have O_9 := Lib.hid (OwnZ.below O_8.out hb)
  have F2_9 := Lib.hid (Ints.below F2_8.out hb)
  clear hb C_8 E_8 B_8 S_8 W_8 F_8 O_8 F2_8
  go_wp2_with fail
  go_loopw [103] (fun j wr => ∃ q : Nat, q ≤ n2 ∧ j = .int .i64 q ∧ Below y9.heap.size y9 wr) (fun j _ => n2 - (intOf j).toNat)
  case atStart => exact ⟨0, Nat.zero_le _, rfl, Below.refl _ _⟩
  case round =>
    obtain ⟨q, hq, rfl, hb⟩ := hrel
    have HH0 := Lib.hid hb
    have C_10 := Lib.hid (Ints.below C_9.out hb)
    have E_10 := Lib.hid (Evs.below E_9.out hb)
    have B_10 := Lib.hid (B_9.out.trans (Below.mono hb B_9.out.size))
    have S_10 := Lib.hid (Sls.below S_9.out hb)
    have W_10 := Lib.hid (Ints.below W_9.out hb)
    have F_10 := Lib.hid (Ints.below F_9.out hb)
    have O_10 := Lib.hid (OwnZ.below O_9.out hb)
    have F2_10 := Lib.hid (Ints.below F2_9.out hb)
    clear hb C_9 E_9 B_9 S_9 W_9 F_9 O_9 F2_9
    by_cases hlt : q < n2
    · have hlt' : (q : Int) < (n2 : Int) := by omega
      obtain ⟨ar, nr, cr, hx5, hR⟩ := S_10.out.at q hlt
      have hX : Cl wr ⟨R, q, none⟩ (.slice ar nr cr) := hx5
      obtain ⟨gz, cp, ar2, nr2, cr2, hve, hy5, hR2⟩ := O_10.out.at q hlt
      have hX2 : Cl wr ⟨gz, q, none⟩ (.slice ar2 nr2 cr2) := hy5
      have hR3 := hR2.ints
      injection hve with e1 e2 e3
      subst e1
      clear hx5 hy5 hR2 e3
      have HX := Lib.hid hX
      clear hX
      have HY := Lib.hid hR
      clear hR
      have HX2 := Lib.hid hX2
      clear hX2
      have HY2 := Lib.hid hR3
      clear hR3
      go_upto_region 13 with (fail)
      have hb : Below wr.heap.size wr wr.drew := (Below.refl _ _).drew
      have C_11 := Lib.hid (Ints.below C_10.out hb)
      have E_11 := Lib.hid (Evs.below E_10.out hb)
      have B_11 := Lib.hid (B_10.out.trans (Below.mono hb B_10.out.size))
      have S_11 := Lib.hid (Sls.below S_10.out hb)
      have W_11 := Lib.hid (Ints.below W_10.out hb)
      have F_11 := Lib.hid (Ints.below F_10.out hb)
      have O_11 := Lib.hid (OwnZ.below O_10.out hb)
      have F2_11 := Lib.hid (Ints.below F2_10.out hb)
      have H_11 := Lib.hid (HH0.out.trans (Below.mono hb HH0.out.size))
      have X_11 := Lib.hid (Cl.below HX.out hb)
      have Y_11 := Lib.hid (Ints.below HY.out hb)
      have X2_11 := Lib.hid (Cl.below HX2.out hb)
      have Y2_11 := Lib.hid (Ints.below HY2.out hb)
      clear hb C_10 E_10 B_10 S_10 W_10 F_10 O_10 F2_10 HH0 HX HY HX2 HY2
      refine wp_region_held_drew (S := (fun V => V.cell? ⟨R, q, none⟩ = some (.slice ar nr cr) ∧ V.cell? ⟨gz, q, none⟩ = some (.slice ar2 nr2 cr2))) (by kernel_rfl) ⟨X_11.out, X2_11.out⟩ (fun hHeld => ?_)
      (try simp only [Act.put, List.getElem_toArray, List.getElem_cons_zero, List.getElem_cons_succ, List.setIfInBounds_toArray, List.set_cons_zero, List.set_cons_succ])
      refine wpAnyH_take (i := 0) (v := ?_) rfl (by kernel_rfl) (by kernel_rfl) (by kernel_rfl) (fun _ _ _ h => h) (Or.inl ⟨by rfl, ?_⟩) (by assumption) ?_
      rotate_left
      · (intro w hSw; (try dsimp only at hSw); go_simp; try with_reducible rfl)
      (try simp only [Act.put, List.getElem_toArray, List.getElem_cons_zero, List.getElem_cons_succ, List.setIfInBounds_toArray, List.set_cons_zero, List.set_cons_succ])
      refine wpAnyH_take (i := 1) (v := ?_) rfl (by kernel_rfl) (by kernel_rfl) (by kernel_rfl) (fun _ _ _ h => h) (Or.inl ⟨by rfl, ?_⟩) (by assumption) ?_
      rotate_left
      · (intro w hSw; (try dsimp only at hSw); go_simp; try with_reducible rfl)
      (try simp only [Act.put, List.getElem_toArray, List.getElem_cons_zero, List.getElem_cons_succ, List.setIfInBounds_toArray, List.set_cons_zero, List.set_cons_succ])
      refine wpAnyH_take (i := 2) (v := ?_) rfl (by kernel_rfl) (by kernel_rfl) (by kernel_rfl) (fun _ _ _ h => h) (Or.inl ⟨by rfl, ?_⟩) (by assumption) ?_
      rotate_left
      · (intro w hSw; (try dsimp only at hSw); go_simp; try with_reducible rfl)
      (try simp only [Act.put, List.getElem_toArray, List.getElem_cons_zero, List.getElem_cons_succ, List.setIfInBounds_toArray, List.set_cons_zero, List.set_cons_succ])
      refine wpAnyH_take (i := 3) (v := ?_) rfl (by kernel_rfl) (by kernel_rfl) (by kernel_rfl) (fun _ _ _ h => h) (Or.inl ⟨by rfl, ?_⟩) (by assumption) ?_
      rotate_left
      · (intro w hSw; (try dsimp only at hSw); go_simp; try with_reducible rfl)
      (try simp only [Act.put, List.getElem_toArray, List.getElem_cons_zero, List.getElem_cons_succ, List.setIfInBounds_toArray, List.set_cons_zero, List.set_cons_succ])
      refine wpAnyH_take (i := 4) (v := ?_) rfl (by kernel_rfl) (by kernel_rfl) (by kernel_rfl) (fun _ _ _ h => h) (Or.inl ⟨by rfl, ?_⟩) (by assumption) ?_
      rotate_left
      · (intro w hSw; (try dsimp only at hSw); go_simp; try with_reducible rfl)
      (try simp only [Act.put, List.getElem_toArray, List.getElem_cons_zero, List.getElem_cons_succ, List.setIfInBounds_toArray, List.set_cons_zero, List.set_cons_succ])
      refine wpAnyH_take (i := 5) (v := ?_) rfl (by kernel_rfl) (by kernel_rfl) (by kernel_rfl) (fun _ _ _ h => h) (Or.inl ⟨by rfl, ?_⟩) (by assumption) ?_
      rotate_left
      · (intro w hSw; (try dsimp only at hSw); go_simp; try with_reducible rfl)
      (try simp only [Act.put, List.getElem_toArray, List.getElem_cons_zero, List.getElem_cons_succ, List.setIfInBounds_toArray, List.set_cons_zero, List.set_cons_succ])
      refine wpAnyH_take (i := 6) (v := ?_) rfl (by kernel_rfl) (by kernel_rfl) (by kernel_rfl) (fun _ _ _ h => h) (Or.inl ⟨by rfl, ?_⟩) (by assumption) ?_
      rotate_left
      · (intro w hSw; (try dsimp only at hSw); go_simp; try with_reducible rfl)
      (try simp only [Act.put, List.getElem_toArray, List.getElem_cons_zero, List.getElem_cons_succ, List.setIfInBounds_toArray, List.set_cons_zero, List.set_cons_succ])
      refine wpAnyH_take (i := 7) (v := ?_) rfl (by kernel_rfl) (by kernel_rfl) (by kernel_rfl) (fun _ _ _ h => h) (Or.inl ⟨by rfl, ?_⟩) (by assumption) ?_
      rotate_left
      · (intro w hSw; (try dsimp only at hSw); go_simp; try with_reducible rfl)
      (try simp only [Act.put, List.getElem_toArray, List.getElem_cons_zero, List.getElem_cons_succ, List.setIfInBounds_toArray, List.set_cons_zero, List.set_cons_succ])
      refine wpAnyH_ready (rs := [8]) (by kernel_rfl) (by simp) ?_
      refine AllReadyH.cons (o := _) rfl (fun K hK => ?_) AllReadyH.nil
      go_simp
      refine (Rows_same ar nr cr _ ar2 nr2 cr2 _ Y_11.out Y2_11.out).mono ?_
      rintro e y10 ⟨rfl, hb⟩
      have C_12 := Lib.hid (Ints.below C_11.out hb)
      have E_12 := Lib.hid (Evs.below E_11.out hb)
      have B_12 := Lib.hid (B_11.out.trans (Below.mono hb B_11.out.size))
      have S_12 := Lib.hid (Sls.below S_11.out hb)
      have W_12 := Lib.hid (Ints.below W_11.out hb)
      have F_12 := Lib.hid (Ints.below F_11.out hb)
      have O_12 := Lib.hid (OwnZ.below O_11.out hb)
      have F2_12 := Lib.hid (Ints.below F2_11.out hb)
      have H_12 := Lib.hid (H_11.out.trans (Below.mono hb H_11.out.size))
      have X_12 := Lib.hid (Cl.below X_11.out hb)
      have Y_12 := Lib.hid (Ints.below Y_11.out hb)
      have X2_12 := Lib.hid (Cl.below X2_11.out hb)
      have Y2_12 := Lib.hid (Ints.below Y2_11.out hb)
      clear hb C_11 E_11 B_11 S_11 W_11 F_11 O_11 F2_11 H_11 X_11 Y_11 X2_11 Y2_11
      clear hHeld
      refine hK.out _ _ ⟨X_12.out, X2_12.out⟩ (fun hHeld => ?_)
      clear hK K
      (try simp only [Act.put, List.getElem_toArray, List.getElem_cons_zero, List.getElem_cons_succ, List.setIfInBounds_toArray, List.set_cons_zero, List.set_cons_succ])
      refine wpAnyH_take (i := 9) (v := ?_) rfl (by kernel_rfl) (by kernel_rfl) (by kernel_rfl) (fun _ _ _ h => h) (Or.inl ⟨by rfl, ?_⟩) (by assumption) ?_
      rotate_left
      · (intro w hSw; (try dsimp only at hSw); go_simp; try with_reducible rfl)
      (try simp only [Act.put, List.getElem_toArray, List.getElem_cons_zero, List.getElem_cons_succ, List.setIfInBounds_toArray, List.set_cons_zero, List.set_cons_succ])
      refine wpAnyH_done (by kernel_rfl) ?_ _
      clear hHeld
      go_wp2_with fail
      go_roundw
      case rel => exact ⟨q + 1, by omega, by go_num, H_12.out⟩
      case measure => simp [intOf]; omega
    · have hqe : q = n2 := by omega
      subst hqe
      obtain ⟨gz, cp, ar2, nr2, cr2, hve, hy5, hR2⟩ := O_10.out.at k hkn
      have hR3 := hR2.ints
      injection hve with e1 e2 e3
      subst e1
      clear hR2 e3
      have HY2 := Lib.hid hR3
      clear hR3
      go_wp2_with fail
      refine (Rows_same ao no co _ ar2 nr2 cr2 _ W_10.out HY2.out).mono ?_
      rintro e y10 ⟨rfl, hb⟩
      have C_11 := Lib.hid (Ints.below C_10.out hb)
      have E_11 := Lib.hid (Evs.below E_10.out hb)
      have B_11 := Lib.hid (B_10.out.trans (Below.mono hb B_10.out.size))
      have S_11 := Lib.hid (Sls.below S_10.out hb)
      have W_11 := Lib.hid (Ints.below W_10.out hb)
      have F_11 := Lib.hid (Ints.below F_10.out hb)
      have O_11 := Lib.hid (OwnZ.below O_10.out hb)
      have F2_11 := Lib.hid (Ints.below F2_10.out hb)
      have H_11 := Lib.hid (HH0.out.trans (Below.mono hb HH0.out.size))
      have Y2_11 := Lib.hid (Ints.below HY2.out hb)
      clear hb C_10 E_10 B_10 S_10 W_10 F_10 O_10 F2_10 HH0 HY2
      clear hy5
      go_wp2_with fail
      go_ret
      exact ⟨ret_bool (by first | rfl | simp), B_11.out⟩
theorem tells_any (ca : Option Addr) (cn cc : Nat) (caps0 : List Int) (a : Option Addr) (n c : Nat) (L0 : List Ev) (i : Int) (w : World) (hC : Ints w ca cn cc caps0) (hE : Evs w a n c L0) :
    Calls Try.prog 4 #[.slice ca cn cc, .slice a n c, .int .i64 i] w (Says w) := by
  cases hmay : mayE (caps0.take 6) (L0.take 100) with
  | false => exact tells_bad ca cn cc caps0 a n c L0 i w hC hE hmay
  | true =>
    by_cases hi : i < 0
    · exact tells_ok_neg ca cn cc caps0 a n c L0 i w hC hE hmay hi
    · by_cases hi2 : ((min n 100 : Nat) : Int) ≤ i
      · exact tells_ok_big ca cn cc caps0 a n c L0 i w hC hE hmay hi hi2
      · exact tells_ok_in ca cn cc caps0 a n c L0 i w hC hE hmay hi hi2
end Go.Proofs.Ytjkbmenmpnidhaa
/- What came in: slices of numbers and of events. -/
namespace Go.Proofs.Ytjkbmenmpnidhaa
open Go.ChangeShapes Go.WideShapes Go.ChangeAt Go.RowKit Go.Joins Go.Deep
set_option linter.unusedSimpArgs false
set_option linter.unusedVariables false

section
variable {H : Type} {enc : TypeId × Value → H} {P : Program} {w : World} {base : Nat} {spare : Nat → Bool} {held : Bool}
theorem open_slice_cells {t e : TypeId} {fuel : Nat} {cs : List Value} {x : DataW H × List MemPlace} (ht : P.underlying t = some (.slice e)) (h : DataW.trod enc P w base spare held fuel t cs = some x) :
    (cs = [.slice none 0 0]) ∨
    ∃ (a : Addr) (len cap : Nat), cs = [.slice (some a) len cap] ∧ len ≤ cap ∧ cap ≤ maxLen ∧
      ∀ i, i < len → ∃ (cs' : List Value) (y : DataW H × List MemPlace) (n : Nat), cs'.length = P.cellsOf e ∧ (∀ (j : Nat) u, cs'[j]? = some u → w.cell? (a.add (i * P.cellsOf e + j)) = some u) ∧ DataW.trod enc P w base spare held n e cs' = some y := by
  rcases open_slice ht h with h0 | ⟨a, len, cap, m, n, D, Pl, hcs, hb, hl, hm, hmm, hx, hi⟩
  · exact .inl h0.1
  · refine .inr ⟨a, len, cap, hcs, hl, hm, fun i him => ?_⟩
    obtain ⟨cs', hc, ht'⟩ := hi i (by rw [hmm]; split <;> omega)
    obtain ⟨_, hcl, hat⟩ := World.cells?_some hc
    refine ⟨cs', _, _, hcl, fun j u hu => ?_, ht'⟩
    have hj : j < cs'.length := (List.getElem?_eq_some_iff.1 hu).1
    rw [← Go.Deep.add_add, hat j (by omega), hu]
theorem struct_cells {e : TypeId} {fs : Array Field} {fuel : Nat} {cs : List Value} {x : DataW H × List MemPlace} (he : P.underlying e = some (.struct fs)) (hone : oneCellFields P fs = true) (hl : cs.length = fs.size)
    (h : DataW.trod enc P w base spare held fuel e cs = some x) : ∀ (j : Nat) (f : Field), fs[j]? = some f → ∃ (v : Value) (y : DataW H × List MemPlace) (n : Nat), cs[j]? = some v ∧ DataW.trod enc P w base spare held n f.type [v] = some y := by
  intro j f hj
  obtain ⟨ys, n', hn', hy, hlen, hyl, hf⟩ := DataW.trod_struct he h
  obtain ⟨ho, hk⟩ := hone_of hone j f hj
  have hjl : j < fs.size := (Array.getElem?_eq_some_iff.1 hj).1
  have h1 := hf j f hj
  rw [ho, hk] at h1
  have hone' : (cs.drop j).take 1 = [cs[j]'(by omega)] := by
    rw [List.drop_eq_getElem_cons (by omega)]
    rfl
  rw [hone'] at h1
  have hys : ys[j]? = some (ys[j]'(by omega)) := List.getElem?_eq_getElem (by omega)
  exact ⟨_, _, _, List.getElem?_eq_getElem (by omega), h1.trans hys⟩
theorem agg_cells {r : Reach} {b0 : Nat} {t : TypeId} {fs : Array Field} {v : Value} {d : DataW H} {p : List MemPlace} (hs : P.underlying t = some (.struct fs)) (hone : oneCellFields P fs = true) (hC : P.cellsOf t = fs.size)
    (hv : Value.okWide P w r b0 t v) (h : DataW.Trod enc P w base spare held t v d p) :
    ∃ cs : Array Value, v = .agg cs ∧ cs.size = fs.size ∧ ∀ (j : Nat) (f : Field), fs[j]? = some f → ∃ (u : Value) (y : DataW H × List MemPlace) (n : Nat), cs.toList[j]? = some u ∧ DataW.trod enc P w base spare held n f.type [u] = some y := by
  obtain ⟨cs, rfl, hsz⟩ := okWide_struct hs hv
  obtain ⟨fuel, hf⟩ := h
  exact ⟨cs, rfl, hsz.trans hC, struct_cells hs hone (by simpa using hsz.trans hC) (by simpa [Value.cells] using hf)⟩
end
theorem recs_of {α : Type} {k : Nat} {enc : α → List Value} (hk : ∀ x, (enc x).length = k) (h0 : 0 < k) {w : World} {a : Addr} {len cap : Nat} (hl : len ≤ cap) (hm : cap ≤ maxLen) (P : α → Prop)
    (key : ∀ i, i < len → ∃ x, P x ∧ ∀ j u, (enc x)[j]? = some u → w.cell? (a.add (i * k + j)) = some u) : ∃ L, Recs k enc w (some a) len cap L ∧ ∀ x ∈ L, P x := by
  classical
  refine ⟨List.ofFn (fun i : Fin len => Classical.choose (key i i.2)), ⟨by simp, hl, hm, fun e => by simp at e, fun i x hx => ?_⟩, fun x hx => ?_⟩
  · have hi : i < len := by have := (List.getElem?_eq_some_iff.1 hx).1; simpa using this
    have hx' : x = Classical.choose (key i hi) := by simp [hi] at hx; exact hx.symm
    have hc := (Classical.choose_spec (key i hi)).2
    rw [← hx'] at hc
    obtain ⟨b, off, spot⟩ := a
    have hspot : spot = none := by
      obtain ⟨z, _, hz⟩ := key 0 (by omega)
      have h1 := hz 0 _ (List.getElem?_eq_getElem (by rw [hk]; exact h0))
      rw [Nat.zero_mul] at h1
      simpa [Addr.add] using World.cell?_spot h1
    subst hspot
    refine ⟨b, off, rfl, fun j u hu => ?_⟩
    have := hc j u hu
    rw [Addr.add_lit, ← Nat.add_assoc] at this
    exact this
  · obtain ⟨i, rfl⟩ := List.mem_ofFn.1 hx
    exact (Classical.choose_spec (key i i.2)).1

section
variable {H : Type} {enc : TypeId × Value → H} {w : World} {base : Nat} {spare : Nat → Bool} {held : Bool}
theorem ints_open {fuel : Nat} {v : Value} {x : DataW H × List MemPlace}
    (h : DataW.trod enc Try.prog w base spare held fuel 22 [v] = some x) : ∃ a len cap l, v = .slice a len cap ∧ Ints w a len cap l := by
  rcases open_ints Try.underlying22 Try.underlying3 (by kernel_rfl) h with ⟨hcs, _⟩ | ⟨a, l, c, zs, hcs, _, hl, hm, hz, _, hcell, hwz⟩
  · simp only [List.cons.injEq, and_true] at hcs
    exact ⟨none, 0, 0, [], hcs, Ints.nil w⟩
  · simp only [List.cons.injEq, and_true] at hcs
    have hzl : l ≤ zs.length := by rw [hz]; split <;> omega
    have hlen : (zs.take l).length = l := by rw [List.length_take]; omega
    have hen : ∀ i, i < l → en (zs.take l) i = zs.getD i 0 := by
      intro i hi
      rw [en_get _ i (by omega), List.getElem_take]
      rw [List.getD_eq_getElem?_getD, List.getElem?_eq_getElem (by omega)]; rfl
    obtain ⟨b, off, spot⟩ := a
    refine ⟨some ⟨b, off, spot⟩, l, c, zs.take l, hcs, hlen, hl, hm, fun e => by simp at e, fun i => ?_, fun i hi => ?_⟩
    · by_cases hi : i < l
      · rw [en_get _ i (by omega)]
        exact wf_i64_bounds (hwz _ (List.mem_of_mem_take (List.getElem_mem _)))
      · rw [en_of_le _ i (by omega)]; exact ⟨by omega, by omega⟩
    · have hc := hcell i (by omega)
      have hspot : spot = none := by simpa [Addr.add] using World.cell?_spot (hcell 0 (by omega))
      subst hspot
      refine ⟨b, off, rfl, ?_⟩
      rw [Addr.add_lit] at hc
      rw [hen i hi]; exact hc

theorem cells48 : Try.prog.cellsOf 48 = 5 := by kernel_rfl
theorem evs_open {fuel : Nat} {v : Value} {x : DataW H × List MemPlace} (h : DataW.trod enc Try.prog w base spare held fuel 23 [v] = some x) : ∃ a len cap L, v = .slice a len cap ∧ Evs w a len cap L := by
  rcases open_slice_cells Try.underlying23 h with hcs | ⟨a, len, cap, hcs, hl, hm, hf⟩
  · simp only [List.cons.injEq, and_true] at hcs
    exact ⟨none, 0, 0, [], hcs, Evs.nil w⟩
  · simp only [List.cons.injEq, and_true] at hcs
    rw [cells48] at hf
    have key : ∀ i, i < len → ∃ x : Ev, EvOk x ∧ ∀ j u, (encE x)[j]? = some u → w.cell? (a.add (i * 5 + j)) = some u := by
      intro i hi
      obtain ⟨cs', y, n, hcl, hcell, ht⟩ := hf i hi
      have hS := struct_cells Try.underlying48 (by kernel_rfl) (by rw [hcl]; rfl) ht
      obtain ⟨v0, y0, n0, c0, t0⟩ := hS 0 _ rfl
      obtain ⟨m0, e0, _, b0⟩ := DataW.trod_int Try.underlying3 t0
      simp only [List.cons.injEq, and_true] at e0
      subst e0
      have d0 := hcell 0 _ c0
      obtain ⟨v1, y1, n1, c1, t1⟩ := hS 1 _ rfl
      obtain ⟨m1, e1, _, b1⟩ := DataW.trod_int Try.underlying3 t1
      simp only [List.cons.injEq, and_true] at e1
      subst e1
      have d1 := hcell 1 _ c1
      obtain ⟨v2, y2, n2, c2, t2⟩ := hS 2 _ rfl
      obtain ⟨m2, e2, _, b2⟩ := DataW.trod_int Try.underlying3 t2
      simp only [List.cons.injEq, and_true] at e2
      subst e2
      have d2 := hcell 2 _ c2
      obtain ⟨v3, y3, n3, c3, t3⟩ := hS 3 _ rfl
      obtain ⟨m3, e3, _, b3⟩ := DataW.trod_int Try.underlying3 t3
      simp only [List.cons.injEq, and_true] at e3
      subst e3
      have d3 := hcell 3 _ c3
      obtain ⟨v4, y4, n4, c4, t4⟩ := hS 4 _ rfl
      obtain ⟨m4, e4, _, b4⟩ := DataW.trod_int Try.underlying3 t4
      simp only [List.cons.injEq, and_true] at e4
      subst e4
      have d4 := hcell 4 _ c4
      refine ⟨⟨m0, m1, m2, m3, m4⟩, ⟨wf_i64_bounds b0, wf_i64_bounds b1, wf_i64_bounds b2, wf_i64_bounds b3, wf_i64_bounds b4⟩, fun j u hu => ?_⟩
      match j, hu with
      | 0, hu => simp [encE] at hu; subst hu; exact d0
      | 1, hu => simp [encE] at hu; subst hu; exact d1
      | 2, hu => simp [encE] at hu; subst hu; exact d2
      | 3, hu => simp [encE] at hu; subst hu; exact d3
      | 4, hu => simp [encE] at hu; subst hu; exact d4
    obtain ⟨L, hL, hP⟩ := recs_of (k := 5) (enc := encE) encE_len (by decide) hl hm EvOk key
    exact ⟨some a, len, cap, L, hcs, hL, hP⟩
end
end Go.Proofs.Ytjkbmenmpnidhaa
/- StampTells returns true for all arguments, and leaves them as they were. No conditions. -/
namespace Go.Proofs.Ytjkbmenmpnidhaa.stampTells
open Go.ChangeShapes Go.WideShapes Go.ChangeAt Go.RowKit
open Go.ChangeMaps (open_string shut_string)
set_option linter.unusedVariables false

theorem own : ownKnob Try.prog.godebug = none := by kernel_rfl
theorem laidOut : laidOutB Try.prog = true := by kernel_rfl

/-! the row -/
set_option maxRecDepth 100000 in
theorem lifted (os : Os) (started : os.Started) (H : Type) (enc : TypeId × Value → H) :
    ReturnsInHanded {} Try.checked os 4 .any (Rows.stampTellsSpec.pre6 enc Try.prog Try.f4 Rows.stampTellsRow.domain false) (Rows.stampTellsSpec.post enc Try.prog Try.f4 false true false false) := by
  refine returnsInHanded_of_change (C := Try.checked) own started (by kernel_rfl) Try.func4
    (ChangeSpec.witness6 (enc := enc) (C := Try.checked) false ⟨#[], #[.slice none 0 0, .slice none 0 0, .int .i64 0], []⟩ 8 (by kernel_rfl) (by kernel_rfl) (by kernel_rfl) (by kernel_rfl)) ?_
  intro W base args ds gs before hval0 hW hcnd _
  have hval : ∀ (j : Nat) t v, Try.f4.params[j]? = some t → args[j]? = some v → Value.okWide Try.prog W .any base t v := hval0
  have hW' := hW
  obtain ⟨p, q, hA0, hV, rfl, hfz, hnd⟩ := hW
  have hA : DataW.TrodAll enc Try.prog W 0 (fun _ => true) true Try.f4.params.toList args.toList ds p := hA0
  rw [Try.params4] at hA hval
  obtain ⟨v0, vs0, d0, ds0, p0, q0, hargs, rfl, rfl, h0, r0⟩ := trodAll_cons hA
  obtain ⟨v1, vs1, d1, ds1, p1, q1, rfl, rfl, rfl, h1, r1⟩ := trodAll_cons r0
  obtain ⟨v2, vs2, d2, ds2, p2, q2, rfl, rfl, rfl, h2, r2⟩ := trodAll_cons r1
  obtain ⟨rfl, rfl, rfl⟩ := trodAll_nil r2
  obtain rfl : args = #[v0, v1, v2] := by cases args; simp_all
  obtain ⟨rfl, rfl⟩ := trodVars_none hV
  have lt0 : ∀ x ∈ p0, x.block < W.heap.size := by obtain ⟨m, hm⟩ := h0; exact DataW.trod_lt m _ _ _ hm
  have lt1 : ∀ x ∈ p1, x.block < W.heap.size := by obtain ⟨m, hm⟩ := h1; exact DataW.trod_lt m _ _ _ hm
  have lt2 : ∀ x ∈ p2, x.block < W.heap.size := by obtain ⟨m, hm⟩ := h2; exact DataW.trod_lt m _ _ _ hm
  have i0 : ∃ a n c l, v0 = .slice a n c ∧ Ints W a n c l := by obtain ⟨a, l, c, rfl⟩ := okWide_slice Try.underlying22 (hval 0 22 v0 rfl rfl); obtain ⟨m, hm⟩ := h0; exact ints_open hm
  obtain ⟨a0, n0, c0, l0, rfl, w0⟩ := i0
  have i1 : ∃ a n c L, v1 = .slice a n c ∧ Evs W a n c L := by obtain ⟨a, l, c, rfl⟩ := okWide_slice Try.underlying23 (hval 1 23 v1 rfl rfl); obtain ⟨m, hm⟩ := h1; exact evs_open hm
  obtain ⟨a1, n1, c1, L1, rfl, w1⟩ := i1
  have i2 : ∃ n : Int, v2 = .int .i64 n ∧ I64 n := by obtain ⟨n, e, _, _, w⟩ := open_int Try.underlying3 (hval 2 3 v2 rfl rfl) h2; exact ⟨n, e, wf_i64_bounds w⟩
  obtain ⟨n2, rfl, w2⟩ := i2
  clear hA0 hval0
  refine (tells_any a0 n0 c0 l0 a1 n1 c1 L1 n2 W w0 w1).mono fun e W' ⟨he, bel⟩ => ?_
  subst he
  exact ⟨_, rfl, _, _, _, [], _, [], hW', trodAll_mk1 (shut_bool Try.underlying4 _), (trodAll_cons_mk (Below.trod laidOut (by kernel_rfl) (of_decide_eq_true (by kernel_rfl)) h0 bel lt0) (trodAll_cons_mk (Below.trod laidOut (by kernel_rfl) (of_decide_eq_true (by kernel_rfl)) h1 bel lt1) (trodAll_cons_mk (Below.trod laidOut (by kernel_rfl) (of_decide_eq_true (by kernel_rfl)) h2 bel lt2) trodAll_mk0))), rfl, bel.frame _, fun h => by cases h⟩

theorem over : Rows.stampTellsRow.holds Try.pinned (OpenSpec.ofChange Rows.stampTellsSpec) :=
  OpenClaim.holds_of_wide 4 Try.f4 rfl rfl rfl rfl rfl rfl rfl ⟨rfl, rfl, rfl, rfl, rfl⟩ rfl rfl rfl rfl rfl (by kernel_rfl) Try.func4 (by kernel_rfl)
    (of_decide_eq_true (by kernel_rfl)) (by unfold Func.isWrapper; first | (rw [if_pos (by decide +kernel)]; kernel_rfl) | (rw [if_neg (by decide +kernel)]; exact ⟨rfl, rfl⟩))
    (fun os started H enc _ => lifted os started H enc)

/-- the statement -/
theorem proved : Rows.StampTellsSaid := over
#print axioms proved
end Go.Proofs.Ytjkbmenmpnidhaa.stampTells
