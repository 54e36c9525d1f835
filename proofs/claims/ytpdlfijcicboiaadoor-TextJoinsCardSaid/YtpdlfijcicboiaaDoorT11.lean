/- The reference's op; numbers that are read. -/
import Derived.Test.YtpdlfijcicboiaaDoorT10
namespace Go.Proofs.YtpdlfijcicboiaaDoor
open Go.RowKit
set_option linter.unusedSimpArgs false
set_option linter.unusedVariables false
theorem opS_none (x : ByteArray) : ∀ k, (∀ j : Nat, j < k → ¬ wordB (j : Int) = x) → opS k x = none
  | 0, _ => rfl
  | k + 1, h => by
    unfold opS
    rw [if_neg (fun e => h k (by omega) e.symm)]
    exact opS_none x k (fun j hj => h j (by omega))
theorem opS_word : ∀ k : Fin 14, opS 14 (wordB (k.val : Int)) = some k.val := by decide +kernel
def opZ (x : ByteArray) : Int := match opS 14 x with | some j => (j : Int) | none => -1
set_option maxRecDepth 100000 in
set_option maxHeartbeats 8000000 in
theorem refOp_any (x : ByteArray) (w : World) : Calls Tryd.prog 36 #[.string x] w fun e w' => e = .returned (.int .i64 (opZ x)) ∧ Below w.heap.size w w' := by
  have HW := Lib.hid (words_any w)
  have R0 := Lib.hid (Bx.new w (wordsB.map Value.string).toArray 9)
  have B0 := Lib.hid (below_alloc w (.cells (wordsB.map Value.string).toArray 9))
  obtain ⟨R, hR⟩ : ∃ B, B = w.heap.size := ⟨_, rfl⟩
  rw [← hR] at R0 HW
  have HR := Lib.hid hR
  clear hR
  go_enter Tryd.func36, Tryd.ntmps36
  go_wp2_with fail
  refine HW.out.mono ?_
  rintro e w1 ⟨rfl, hw1⟩
  obtain ⟨W, hW⟩ : ∃ W, W = w.alloc (.cells (wordsB.map Value.string).toArray 9) := ⟨_, rfl⟩
  rw [← hW] at R0 B0 hw1
  subst hw1
  clear hW
  go_wp2_with fail
  go_loopw [7] (fun i wr => ∃ k : Nat, k ≤ 14 ∧ i = .int .i64 k ∧ (∀ j : Nat, j < k → ¬ wordB (j : Int) = x) ∧ wr = w1) (fun i _ => 14 - (intOf i).toNat)
  case atStart => exact ⟨0, Nat.zero_le _, rfl, fun j hj => absurd hj (Nat.not_lt_zero _), rfl⟩
  case round =>
    obtain ⟨k, hk, rfl, hno, rfl⟩ := hrel
    have HN := Lib.hid hno
    clear hno
    by_cases hlt : k < 14
    · have hlt' : (k : Int) < 14 := by omega
      have c0 := R0.out.cell k (words_at k hlt)
      by_cases he : wordB (k : Int) = x
      · have he2 := eqT he
        have HZ := Lib.hid (show opZ x = (k : Int) by unfold opZ; rw [← he, opS_word ⟨k, hlt⟩])
        have HE := Lib.hid he
        clear he
        go_wp2_with fail
        go_ret
        exact ⟨ret_int HZ.out.symm, B0.out⟩
      · have he2 := neT he
        have HE := Lib.hid he
        clear he
        go_wp2_with fail
        go_roundw
        case rel => exact ⟨k + 1, by omega, by go_num, fun j hj => by
          by_cases e : j = k
          · subst e; exact HE.out
          · exact HN.out j (by omega), trivial⟩
        case measure => simp [intOf]; omega
    · have hke : k = 14 := by omega
      subst hke
      have HZ := Lib.hid (show opZ x = -1 by unfold opZ; rw [opS_none x 14 HN.out])
      go_wp2_with fail
      go_ret
      exact ⟨ret_int HZ.out.symm, B0.out⟩
/-- the number of some digits -/
def valL (l : List Int) : Int := l.foldl (fun a b => 10 * a + (b - 48)) 0
def digL (l : List Int) : Bool := l.all fun b => decide (48 ≤ b ∧ b ≤ 57)
def okL (l : List Int) : Bool := decide (1 ≤ l.length) && decide (l.length ≤ 3) && digL l && (decide (l.length = 1) || decide (¬ en l 0 = 48))
def NumTo (w : World) (s : ByteArray) (e : Ending) (w' : World) : Prop := ∃ v : Int, e = .returned (.tuple #[.int .i64 v, .bool (okL (tx s))]) ∧ I64 v ∧ (okL (tx s) = true → v = valL (tx s)) ∧ Below w.heap.size w w'
theorem pair_ib {v : Int} {b b' : Bool} (h : b = b') : Ending.returned (.tuple #[.int .i64 v, .bool b]) = .returned (.tuple #[.int .i64 v, .bool b']) := by rw [h]
theorem valL_take (l : List Int) (k : Nat) (h : k < l.length) : valL (l.take (k + 1)) = 10 * valL (l.take k) + (en l k - 48) := by
  rw [List.take_add_one, List.getElem?_eq_getElem h, en_get l k h]
  unfold valL
  show List.foldl _ 0 (List.take k l ++ [l[k]]) = _
  rw [List.foldl_append]
  rfl
theorem valL_bound (l : List Int) (h : digL l = true) : ∀ k, 0 ≤ valL (l.take k) ∧ valL (l.take k) < 10 ^ k
  | 0 => by simp [valL]
  | k + 1 => by
    have ih := valL_bound l h k
    by_cases hk : k < l.length
    · rw [valL_take l k hk, Int.pow_succ]
      have := of_decide_eq_true (List.all_eq_true.1 h _ (en_mem l k hk))
      omega
    · rw [List.take_of_length_le (by omega)]
      rw [List.take_of_length_le (by omega)] at ih
      rw [Int.pow_succ]; omega
theorem okL_bad (l : List Int) (k : Nat) (hk : k < l.length) (h : en l k < 48 ∨ 57 < en l k) : okL l = false := by
  have hd : digL l = false := by
    rw [Bool.eq_false_iff]
    intro hd
    have := of_decide_eq_true (List.all_eq_true.1 hd _ (en_mem l k hk))
    omega
  unfold okL; rw [hd]; simp
theorem digL_take (l : List Int) (k : Nat) (hk : k < l.length) (h : digL (l.take k) = true) (h1 : 48 ≤ en l k) (h2 : en l k ≤ 57) : digL (l.take (k + 1)) = true := by
  rw [List.take_add_one, List.getElem?_eq_getElem hk]
  unfold digL at h ⊢
  rw [List.all_append, h, ← en_get l k hk]
  simp [h1, h2]
theorem zero_list : (⟨#[48]⟩ : ByteArray).toList = [48] := by rw [← data_toList]
theorem toList_nil {s : ByteArray} (h : ¬ s = ⟨#[]⟩) : ¬ s.toList = [] := fun e => h (bytes_ext (by rw [data_toList, e]))
theorem size_pos {s : ByteArray} (h : ¬ s = ⟨#[]⟩) : 0 < s.size := by
  rcases Nat.eq_zero_or_pos s.size with h0 | h0
  · exact absurd (bytes_ext (by rw [Lib.size_eq] at h0; rw [List.eq_nil_of_length_eq_zero h0])) h
  · exact h0
theorem one_zero {s : ByteArray} (h1 : s.size = 1) (h0 : en (tx s) 0 = 48) : s = ⟨#[48]⟩ := by
  have hl : (tx s).length = 1 := by rw [tx_len, h1]
  match ht : tx s, hl with
  | [x], _ =>
    rw [ht] at h0
    have : x = 48 := by simpa [en] using h0
    subst this
    rw [← strOf_tx s, ht]; decide
set_option maxRecDepth 100000 in
set_option maxHeartbeats 8000000 in
theorem number_any (s : ByteArray) (w : World) (hs : s.size ≤ 10000) : Calls Tryd.prog 35 #[.string s] w (NumTo w s) := by
  by_cases h0 : s = ⟨#[]⟩
  · subst h0
    go_enter Tryd.func35, Tryd.ntmps35
    go_wp2_with fail
    go_ret2
    exact ⟨0, pair_ib (show false = okL (tx ⟨#[]⟩) by decide +kernel), ⟨by omega, by omega⟩, fun h => absurd h (by decide +kernel), Below.refl _ _⟩
  · have h0b := toList_nil h0
    have hp := size_pos h0
    have h0c : s.toList.isEmpty = false := by rw [List.isEmpty_eq_false_iff]; exact h0b
    have hp' : (0 : Int) < (s.size : Int) := by omega
    by_cases h3 : 3 < s.size
    · have h3' : (3 : Int) < (s.size : Int) := by omega
      have HK := Lib.hid (show okL (tx s) = false by unfold okL; rw [tx_len, decide_eq_false (by omega : ¬ s.size ≤ 3)]; simp)
      clear h0
      go_enter Tryd.func35, Tryd.ntmps35
      go_wp2_with fail
      go_ret2
      exact ⟨0, pair_ib HK.out.symm, ⟨by omega, by omega⟩, fun h => absurd h (by rw [HK.out]; decide), Below.refl _ _⟩
    · have h3' : ¬ (3 : Int) < (s.size : Int) := by omega
      have hSe : ∀ (i : Nat) (h : i < s.size), ((s[i]'h).toNat : Int) = en (tx s) i := fun i h => by rw [PlainAid.get_bt s _ h, bt_en]
      obtain ⟨S, hS⟩ : ∃ S, S = tx s := ⟨_, rfl⟩
      have hlen : S.length = s.size := by rw [hS, tx_len]
      have hby : Byt S := by rw [hS]; exact tx_byt s
      unfold NumTo
      rw [← hS] at hSe ⊢
      have HS := Lib.hid hS
      have HB := Lib.hid hby
      have HLN := Lib.hid hlen
      clear hS hby hlen
      by_cases hz : en S 0 = 48 ∧ ¬ s = ⟨#[48]⟩
      · have HK := Lib.hid (show okL S = false by
          have h1 : ¬ S.length = 1 := fun e => hz.2 (one_zero (by rw [← HLN.out, e]) (by rw [← HS.out]; exact hz.1))
          unfold okL; rw [decide_eq_false h1, decide_eq_false (show ¬ ¬ en S 0 = 48 from fun h => h hz.1)]; simp)
        obtain ⟨z1, z2⟩ := hz
        have z2b := neT z2
        rw [zero_list] at z2b
        have z1b : (en S 0 == 48) = true := by rw [z1]; rfl
        clear h0 z2
        go_enter Tryd.func35, Tryd.ntmps35
        go_wp2_with fail
        go_ret2
        exact ⟨0, pair_ib HK.out.symm, ⟨by omega, by omega⟩, fun h => absurd h (by rw [HK.out]; decide), Below.refl _ _⟩
      · have HL := Lib.hid (show (decide (S.length = 1) || decide (¬ en S 0 = 48)) = true by
          by_cases e : en S 0 = 48
          · have e2 : s = ⟨#[48]⟩ := Classical.byContradiction fun h => hz ⟨e, h⟩
            rw [HLN.out, e2]; rfl
          · rw [decide_eq_true e]; simp)
        have hz2 : ¬ en S 0 = 48 ∨ (en S 0 = 48 ∧ (s.toList == [48]) = true) := by
          by_cases e : en S 0 = 48
          · have e2 : s = ⟨#[48]⟩ := Classical.byContradiction fun h => hz ⟨e, h⟩
            exact .inr ⟨e, by rw [e2, zero_list]; rfl⟩
          · exact .inl e
        clear hz h0
        rcases hz2 with z1 | ⟨z1, z2⟩
        all_goals
          (try have z1b : (en S 0 == 48) = false := by rw [beq_eq_false_iff_ne]; exact z1)
          (try have z1c : (en S 0 == 48) = true := by rw [z1]; rfl)
          go_enter Tryd.func35, Tryd.ntmps35
          go_wp2_with fail
          clear z1
          (try clear z1b)
          (try clear z1c)
          (try clear z2)
          go_loopw [4, 24] (fun n i wr => ∃ k : Nat, k ≤ s.size ∧ i = .int .i64 k ∧ n = .int .i64 (valL (S.take k)) ∧ digL (S.take k) = true ∧ wr = w) (fun _ i _ => s.size - (intOf i).toNat)
          case atStart => exact ⟨0, Nat.zero_le _, rfl, rfl, rfl, rfl⟩
          case round =>
            obtain ⟨k, hk, rfl, rfl, hd, rfl⟩ := hrel
            by_cases hlt : k < s.size
            · have hlt' : (k : Int) < (s.size : Int) := by omega
              have hV := valL_bound (S.take k) hd k
              rw [List.take_take, Nat.min_self] at hV
              have hV0 := hV.1
              have hV1 : valL (S.take k) < 100 := by
                rcases (show k = 0 ∨ k = 1 ∨ k = 2 by omega) with e | e | e <;> rw [e] at hV ⊢ <;> simp at hV ⊢ <;> omega
              have hkl : k < S.length := by rw [HLN.out]; exact hlt
              have HT := Lib.hid (valL_take S k hkl)
              have HBAD := Lib.hid (fun h => okL_bad S k hkl h)
              have HDT := Lib.hid (fun h1 h2 => digL_take S k hkl hd h1 h2)
              have hcb := en_byt HB.out k
              obtain ⟨hc0, hc1⟩ := hcb
              have HSK := hSe k hlt
              clear hSe hV hd hkl
              obtain ⟨c, hc⟩ : ∃ c, c = en S k := ⟨_, rfl⟩
              obtain ⟨V, hV⟩ : ∃ V, V = valL (S.take k) := ⟨_, rfl⟩
              rw [← hc] at HT HBAD HDT hc0 hc1 HSK
              rw [← hV] at HT hV0 hV1 ⊢
              clear hc hV
              by_cases hlo : c < 48
              · have HK := Lib.hid (HBAD.out (.inl hlo))
                go_wp2_with fail
                go_ret2
                exact ⟨0, pair_ib HK.out.symm, ⟨by omega, by omega⟩, fun h => absurd h (by rw [HK.out]; decide), Below.refl _ _⟩
              · by_cases hhi : 57 < c
                · have HK := Lib.hid (HBAD.out (.inr hhi))
                  go_wp2_with fail
                  go_ret2
                  exact ⟨0, pair_ib HK.out.symm, ⟨by omega, by omega⟩, fun h => absurd h (by rw [HK.out]; decide), Below.refl _ _⟩
                · have HDN := Lib.hid (HDT.out (by omega) (by omega))
                  go_wp2_with fail
                  go_roundw
                  case rel => exact ⟨k + 1, by omega, by go_num, by rw [HT.out], HDN.out, trivial⟩
                  case measure => simp [intOf]; omega
            · have hke : k = s.size := by omega
              have hall : S.take k = S := List.take_of_length_le (by rw [HLN.out]; omega)
              have hV := valL_bound S (by rw [← hall]; exact hd) k
              rw [hall] at hV
              have HV : Hid (I64 (valL S)) := Lib.hid (by
                have : (10 : Int) ^ k ≤ 1000 := by
                  rcases (show k = 0 ∨ k = 1 ∨ k = 2 ∨ k = 3 by omega) with e | e | e | e <;> rw [e] <;> decide
                exact ⟨by omega, by omega⟩)
              have HK := Lib.hid (show okL S = true by
                unfold okL
                rw [decide_eq_true (by rw [HLN.out]; omega : 1 ≤ S.length), decide_eq_true (by rw [HLN.out]; omega : S.length ≤ 3), HL.out, ← hall, hd]; rfl)
              rw [hall]
              clear hV hd hall hSe
              subst hke
              go_wp2_with fail
              go_ret2
              exact ⟨valL S, pair_ib HK.out.symm, HV.out, fun _ => rfl, Below.refl _ _⟩
end Go.Proofs.YtpdlfijcicboiaaDoor
