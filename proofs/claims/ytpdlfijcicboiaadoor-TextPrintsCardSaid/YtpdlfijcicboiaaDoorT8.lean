/- The text of instructions: the program's. -/
import Derived.Test.YtpdlfijcicboiaaDoorT7
namespace Go.Proofs.YtpdlfijcicboiaaDoor
open Go.RowKit
set_option linter.unusedSimpArgs false
set_option linter.unusedVariables false
theorem set_at {W : World} {B j : Nat} {cs : Array Value} {t : TypeId} (h : W.heap[B]? = some (.cells cs t (0, 0))) (v : Value) : (W.setCell ⟨B, j, none⟩ v).heap[B]? = some (.cells (cs.setIfInBounds j v) t (0, 0)) := by
  obtain ⟨hlt, hk⟩ := Array.getElem?_eq_some_iff.1 h
  show (W.heap.modify B _)[B]? = _
  rw [Array.getElem?_eq_getElem (by rw [Array.size_modify]; exact hlt), Array.getElem_modify_self, hk]
  rfl
theorem Bx.set {W : World} {B : Nat} {cs : Array Value} {t : TypeId} (h : Bx W B cs t) (j : Nat) (v : Value) : Bx (W.setCell ⟨B, j, none⟩ v) B (cs.setIfInBounds j v) t := set_at h v
theorem Bx.other {W W' : World} {B : Nat} {cs : Array Value} {t : TypeId} (h : Bx W B cs t) {row : Option Nat} (hg : W.grownBy W' row) (hne : some B ≠ row) : Bx W' B cs t := (hg.block B h.lt hne).trans h
theorem grow_setCell (w : World) (b i : Nat) (v : Value) : w.grownBy (w.setCell ⟨b, i, none⟩ v) (some b) :=
  ⟨((Below.refl 0 w).setCell (p := ⟨b, i, none⟩) (Nat.zero_le _) v).os, ((Below.refl 0 w).setCell (p := ⟨b, i, none⟩) (Nat.zero_le _) v).tape, ((Below.refl 0 w).setCell (p := ⟨b, i, none⟩) (Nat.zero_le _) v).output, ((Below.refl 0 w).setCell (p := ⟨b, i, none⟩) (Nat.zero_le _) v).size, fun k hk hne => Below.heap_setCell _ _ _ _ (fun e => hne (by rw [e]))⟩
theorem Tryd.info9 : (Tryd.prog.info? 9).map (fun i => (i.zero, i.size, i.bytes)) = some (some (.string ⟨#[]⟩), 1, 16) := by kernel_rfl
def prZ (L : List Ins) : ByteArray × Int := if 24 < L.length then (⟨#[]⟩, 2) else if L.all mayZ = true then (prB L, 0) else (⟨#[]⟩, 1)
theorem pair_eq {p : ByteArray × Int} {s : ByteArray} {n : Int} (h : p = (s, n)) : Ending.returned (.tuple #[.string s, .int .i64 n]) = .returned (.tuple #[.string p.1, .int .i64 p.2]) := by rw [h]
theorem join_snoc (xs : List (List UInt8)) (x sep : List UInt8) : Lib.join (xs ++ [x]) sep = if xs = [] then x else Lib.join xs sep ++ sep ++ x := by
  cases xs with
  | nil => exact Lib.join_one x sep
  | cons y r =>
    rw [if_neg (by simp), List.cons_append, Lib.join_cons, Lib.join_cons]
    simp [Lib.joinTail, List.append_assoc]
theorem prB_join : ∀ (n : Nat) (L : List Ins), L.length = n → Lib.join ((L.map oneB).map (·.data.toList)) sepB.data.toList = (prB L).data.toList
  | 0, L, h => by rw [List.eq_nil_of_length_eq_zero h]; rfl
  | n + 1, L, h => by
    rcases List.eq_nil_or_concat L with rfl | ⟨A, x, rfl⟩
    · simp at h
    · rw [List.concat_eq_append] at h ⊢
      have hA : A.length = n := by simpa using h
      rw [List.map_append, List.map_append, List.map_cons, List.map_nil, List.map_cons, List.map_nil, join_snoc, prB_join n A hA, prB_snoc]
      by_cases h0 : A = []
      · subst h0
        show (oneB x).data.toList = (prB [] ++ oneB x).data.toList
        have e : prB [] = ⟨#[]⟩ := rfl
        rw [e, ByteArray.data_append]; simp
      · have h1 : 0 < A.length := List.length_pos_iff.2 h0
        rw [if_neg (by simpa using h0), if_pos h1, ByteArray.data_append, ByteArray.data_append]
        simp
def strs (L : List Ins) (n k : Nat) : Array Value := (((L.take k).map fun x => Value.string (oneB x)) ++ List.replicate (n - k) (Value.string ⟨#[]⟩)).toArray
theorem strs_set (L : List Ins) (n k : Nat) (x : Ins) (hx : L[k]? = some x) (hn : L.length = n) : (strs L n k).setIfInBounds k (.string (oneB x)) = strs L n (k + 1) := by
  have hk : k < L.length := (List.getElem?_eq_some_iff.1 hx).1
  unfold strs
  have e1 : n - k = (n - (k + 1)) + 1 := by omega
  have hl : ((L.take k).map fun x => Value.string (oneB x)).length = k := by simp; omega
  rw [e1, List.replicate_succ, List.setIfInBounds_toArray, List.take_add_one, hx, List.set_append_right _ _ (by omega), hl, Nat.sub_self]
  simp
theorem strs_old (L : List Ins) (n k : Nat) (hk : k < n) (hn : L.length = n) : (strs L n k)[k]? = some (.string ⟨#[]⟩) := by
  unfold strs
  have hl : ((L.take k).map fun x => Value.string (oneB x)).length = k := by simp; omega
  rw [List.getElem?_toArray, List.getElem?_append_right (by omega), hl, Nat.sub_self, List.getElem?_replicate, if_pos (by omega)]
theorem strs_full (L : List Ins) (n j : Nat) (s : ByteArray) (hn : L.length = n) (h : (L.map oneB)[j]? = some s) : (strs L n n)[j]? = some (.string s) := by
  unfold strs
  rw [List.take_of_length_le (by omega), Nat.sub_self, List.replicate_zero, List.append_nil, List.getElem?_toArray]
  rw [List.getElem?_map] at h ⊢
  cases hx : L[j]? with
  | none => rw [hx] at h; simp at h
  | some x => rw [hx] at h; simp at h; subst h; rfl
set_option maxRecDepth 100000 in
set_option maxHeartbeats 4000000 in
theorem Print_big (a : Option Addr) (n c : Nat) (w : World) (hn : 24 < n) : Calls Tryd.prog 8 #[.slice a n c] w (PairTo w ⟨#[]⟩ 2) := by
  have h1 : (24 : Int) < (n : Int) := by omega
  go_enter Tryd.func8, Tryd.ntmps8
  go_wp2_with fail
  go_ret2
  exact ⟨rfl, Below.refl _ _⟩
set_option maxRecDepth 100000 in
set_option maxHeartbeats 8000000 in
theorem Print_few (a : Option Addr) (n c : Nat) (L : List Ins) (w : World) (h : Blk w a n c L) (hE : Env w) (hn : n ≤ 24) : Calls Tryd.prog 8 #[.slice a n c] w (PairTo w (prZ L).1 (prZ L).2) := by
  have HLE := Lib.hid h.recs.len_eq
  have HR1 : Hid (L.all mayZ = true → prZ L = (prB L, 0)) := Lib.hid (fun hm => by unfold prZ; rw [if_neg (by have := HLE.out; omega), if_pos hm])
  have HR0 : Hid (∀ x k, L[k]? = some x → mayZ x = false → prZ L = (⟨#[]⟩, 1)) := Lib.hid (fun x k hx hm => by
    unfold prZ
    rw [if_neg (by have := HLE.out; omega), if_neg]
    intro hall
    rw [List.all_eq_true.1 hall x (List.mem_of_getElem? hx)] at hm
    cases hm)
  have HJ : Hid (∀ (W : World) (b : Nat), Bx W b (strs L n n) 9 → Calls Tryd.prog 19 #[.slice (some ⟨b, 0, none⟩) n n, .string ⟨#[59, 32]⟩] W (StrTo W (prB L))) := Lib.hid (fun W b hx => join_any b n n _ (L.map oneB) sepB (prB L) W (by rw [List.length_map]; exact HLE.out) hx (fun j s hs => strs_full L n j s HLE.out hs) (Nat.le_refl _) (prB_join _ L rfl) (by
      have := prB_size L n
      rw [List.take_of_length_le (by have := HLE.out; omega)] at this
      omega) (by omega))
  unfold StrTo at HJ
  unfold PairTo
  have H := Lib.hid h
  have HE := Lib.hid hE
  have h1 : ¬ (24 : Int) < (n : Int) := by omega
  obtain ⟨i0, hi, hz0, hz1, hz2⟩ := info_parts Tryd.info9
  clear h hE
  go_enter Tryd.func8, Tryd.ntmps8
  go_wp2_with (at_make; refine wpList_make_full _ rfl _ _ 40 rfl w.heap.size 9 i0 (.string ⟨#[]⟩) 1 Tryd.underlying40 hi hz0 hz1 .i64 .i64 _ _ n rfl rfl (by omega) (by omega) (by rw [hz2]; omega) (by unfold maxLen; omega) (Nat.le_refl _) ?_)
  intro w1 hown hgrow
  have B1 := Lib.hid ((Below.refl w.heap.size w).grown hgrow (Nat.le_refl _) (fun k hk => by cases hk))
  have hrow := row_of_own hown
  have P1 : Hid (Bx w1 w.heap.size (strs L n 0) 9) := Lib.hid (by
    unfold Bx; rw [hrow]; unfold strs; simp [toList_madeCells_one])
  clear hown hgrow hrow hi hz0 hz1 hz2
  obtain ⟨P, hP⟩ : ∃ P, P = w.heap.size := ⟨_, rfl⟩
  rw [← hP] at P1 ⊢
  have HP0 := Lib.hid hP
  clear hP
  go_wp2_with fail
  go_loopw [15] (fun i wr => ∃ k : Nat, k ≤ n ∧ i = .int .i64 k ∧ Bx wr P (strs L n k) 9 ∧ (L.take k).all mayZ = true ∧ Below w.heap.size w wr) (fun i _ => n - (intOf i).toNat)
  case atStart => exact ⟨0, Nat.zero_le _, rfl, P1.out, rfl, B1.out⟩
  case round =>
    obtain ⟨k, hk, rfl, hp, hall, hb⟩ := hrel
    by_cases hlt : k < n
    · have hlt' : (k : Int) < (n : Int) := by omega
      obtain ⟨x, b, off, hx, _, ha, c0, c1, c2⟩ := (H.out.below hb).at k hlt
      have HM := Lib.hid (fun W => may_any x W)
      have HX := Lib.hid hx
      have HT := Lib.hid (show mayZ x = true → (L.take (k + 1)).all mayZ = true by
        intro hm; rw [List.take_add_one, hx, List.all_append, hall]; simp [hm])
      have HPR : Hid (∀ W, mayZ x = true → Env W → Calls Tryd.prog 18 #[insV x] W (StrTo W (oneB x))) := Lib.hid (fun W hm hE => printed_any x W hm hE)
      unfold StrTo at HPR
      have HST := Lib.hid (strs_set L n k x hx HLE.out)
      have HSO := Lib.hid (strs_old L n k hlt HLE.out)
      have BA := below_alloc wr (.cells #[.int .i64 x.op, .int .i64 x.a, .int .i64 x.b] 31)
      have K2 := Lib.hid (Bx.new wr #[.int .i64 x.op, .int .i64 x.a, .int .i64 x.b] 31)
      have B2 := Lib.hid (hb.trans (Below.mono BA hb.size))
      have P2 := Lib.hid (hp.below BA)
      have E2 := Lib.hid ((HE.out.below hb).below BA)
      have HPw : Hid (w.heap.size ≤ P) := Lib.hid (by rw [HP0.out]; exact Nat.le_refl _)
      rw [ha]
      clear ha BA hx hall hb hp
      obtain ⟨b0, hb0⟩ : ∃ z, z = wr.heap.size := ⟨_, rfl⟩
      obtain ⟨v0, hv0⟩ : ∃ z, z = wr.alloc (.cells #[.int .i64 x.op, .int .i64 x.a, .int .i64 x.b] 31) := ⟨_, rfl⟩
      rw [← hv0] at K2 B2 P2 E2
      rw [← hb0] at K2
      have HB0 := Lib.hid hb0; have HV0 := Lib.hid hv0
      clear hb0 hv0
      go_upto_region 7 with (fail)
      rw [← HV0.out, ← HB0.out]
      clear c0 c1 c2
      obtain ⟨x0, x1, x2⟩ := Bx.cells3 K2.out
      go_wp2_with fail
      clear x0 x1 x2
      refine (HM.out _).mono ?_
      rintro e w2 ⟨rfl, hb⟩
      have K3 := Lib.hid (K2.out.below hb); have B3 := Lib.hid (B2.out.trans (Below.mono hb B2.out.size)); have P3 := Lib.hid (P2.out.below hb); have E3 := Lib.hid (E2.out.below hb)
      clear hb
      cases hm : mayZ x with
      | false =>
        have HZ := Lib.hid (HR0.out x k HX.out hm)
        clear hm
        go_wp2_with fail
        go_ret2
        exact ⟨pair_eq HZ.out, B3.out⟩
      | true =>
        have HMT := Lib.hid hm
        clear hm
        obtain ⟨x0, x1, x2⟩ := Bx.cells3 K3.out
        go_wp2_with fail
        clear x0 x1 x2
        refine (HPR.out _ HMT.out E3.out).mono ?_
        rintro e w3 ⟨rfl, hb⟩
        have P4 := Lib.hid (P3.out.below hb); have B4 := Lib.hid (B3.out.trans (Below.mono hb B3.out.size))
        clear hb
        have lP := Bx.lt P4.out
        have fP := Bx.froz P4.out k
        have cP := Bx.cell P4.out k HSO.out
        have G4 := Lib.hid (grow_setCell w3 P k (.string (oneB x)))
        go_wp2_with fail
        go_roundw
        case rel => exact ⟨k + 1, by omega, by go_num, by rw [← HST.out]; exact Bx.set P4.out k _, HT.out HMT.out, B4.out.grown G4.out B4.out.size (fun j hj => by cases hj; exact HPw.out)⟩
        case measure => simp [intOf]; omega
    · have hke : k = n := by omega
      subst hke
      have HZ := Lib.hid (HR1.out (by rw [← hall, List.take_of_length_le (by have := HLE.out; omega)]))
      have HC := Lib.hid (HJ.out _ _ hp)
      have HB := Lib.hid hb
      clear hp hall hb
      go_wp2_with fail
      refine HC.out.mono ?_
      rintro e w2 ⟨rfl, hb⟩
      have B3 := Lib.hid (HB.out.trans (Below.mono hb HB.out.size))
      clear hb
      go_wp2_with fail
      go_ret2
      exact ⟨pair_eq HZ.out, B3.out⟩
theorem Print_any (a : Option Addr) (n c : Nat) (L : List Ins) (w : World) (h : Blk w a n c L) (hE : Env w) : Calls Tryd.prog 8 #[.slice a n c] w (PairTo w (prZ L).1 (prZ L).2) := by
  by_cases hn : 24 < n
  · have e : prZ L = (⟨#[]⟩, 2) := by unfold prZ; rw [if_pos (by rw [h.recs.len_eq]; exact hn)]
    rw [e]; exact Print_big a n c w hn
  · exact Print_few a n c L w h hE (by omega)
end Go.Proofs.YtpdlfijcicboiaaDoor
