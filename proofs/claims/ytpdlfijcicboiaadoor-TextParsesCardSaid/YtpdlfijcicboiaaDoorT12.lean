/- Numbers that are read: the reference. -/
import Derived.Test.YtpdlfijcicboiaaDoorT11
namespace Go.Proofs.YtpdlfijcicboiaaDoor
open Go.RowKit
set_option linter.unusedSimpArgs false
set_option linter.unusedVariables false
theorem digF_yes (S : List Int) (hd : digL S = true) (h1 : 1 ≤ S.length) (h3 : S.length ≤ 3) (h : S.length = 1 ∨ ¬ en S 0 = 48) : digF 2 (valL S) = S := by
  match S, h1, h3 with
  | [a], _, _ =>
    simp [digL] at hd
    simp only [valL, List.foldl_cons, List.foldl_nil]
    rw [digF_one 2 _ (by omega)]
    congr 1; omega
  | [a, b], _, _ =>
    simp [digL] at hd
    simp [en] at h
    simp only [valL, List.foldl_cons, List.foldl_nil]
    rw [digF_more 1 _ (by omega), digF_one 1 _ (by omega)]
    simp only [List.cons_append, List.nil_append, List.cons.injEq, and_true]
    omega
  | [a, b, c], _, _ =>
    simp [digL] at hd
    simp [en] at h
    simp only [valL, List.foldl_cons, List.foldl_nil]
    rw [digF_more 1 _ (by omega), digF_more 0 _ (by omega), digF_one 0 _ (by omega)]
    simp only [List.cons_append, List.nil_append, List.cons.injEq, and_true]
    omega
theorem digF_no (S : List Int) (hd : digL S = true) (h1 : 1 ≤ S.length) (h3 : S.length ≤ 3) (h : ¬ S.length = 1) (h0 : en S 0 = 48) : (digF 2 (valL S)).length < S.length := by
  match S, h1, h3 with
  | [a], _, _ => exact absurd rfl h
  | [a, b], _, _ =>
    simp [digL] at hd
    simp [en] at h0
    simp only [valL, List.foldl_cons, List.foldl_nil]
    rw [digF_one 2 _ (by omega)]; show 1 < 2; decide
  | [a, b, c], _, _ =>
    simp [digL] at hd
    simp [en] at h0
    simp only [valL, List.foldl_cons, List.foldl_nil]
    by_cases hn : 10 * (10 * (10 * 0 + (a - 48)) + (b - 48)) + (c - 48) < 10
    · rw [digF_one 2 _ hn]; show 1 < 3; decide
    · rw [digF_more 1 _ hn, digF_one 1 _ (by omega)]; show 2 < 3; decide
theorem digB_same (s : ByteArray) (hd : digL (tx s) = true) (h1 : 1 ≤ s.size) (h3 : s.size ≤ 3) : ((digB (valL (tx s))).toList == s.toList) = okL (tx s) := by
  have e1 : okL (tx s) = (decide ((tx s).length = 1) || decide (¬ en (tx s) 0 = 48)) := by
    unfold okL
    rw [tx_len, decide_eq_true h1, decide_eq_true h3, hd]; rfl
  rw [e1]
  by_cases h : (tx s).length = 1 ∨ ¬ en (tx s) 0 = 48
  · have e2 : digB (valL (tx s)) = s := by
      unfold digB
      rw [digF_yes (tx s) hd (by rw [tx_len]; exact h1) (by rw [tx_len]; exact h3) h, strOf_tx]
    rw [eqT e2]
    rcases h with h | h
    · rw [decide_eq_true h]; rfl
    · rw [decide_eq_true h]; simp
  · have ha : ¬ (tx s).length = 1 := fun e => h (.inl e)
    have hb : en (tx s) 0 = 48 := Classical.byContradiction fun e => h (.inr e)
    rw [decide_eq_false ha, decide_eq_false (fun e => e hb), neT]; rfl
    intro e
    have := digF_no (tx s) hd (by rw [tx_len]; exact h1) (by rw [tx_len]; exact h3) ha hb
    have e3 : (digB (valL (tx s))).size = s.size := by rw [e]
    unfold digB at e3
    rw [strOf_size, ← tx_len s] at e3
    omega
set_option maxRecDepth 100000 in
set_option maxHeartbeats 8000000 in
theorem refNumber_any (s : ByteArray) (w : World) (hs : s.size ≤ 10000) : Calls Tryd.prog 37 #[.string s] w (NumTo w s) := by
  by_cases hbad : s.size < 1 ∨ 3 < s.size
  · have HK := Lib.hid (show okL (tx s) = false by
      unfold okL; rw [tx_len]
      rcases hbad with h | h
      · rw [decide_eq_false (by omega : ¬ 1 ≤ s.size)]; simp
      · rw [decide_eq_false (by omega : ¬ s.size ≤ 3)]; simp)
    rcases hbad with h | h
    · have h' : (s.size : Int) < 1 := by omega
      go_enter Tryd.func37, Tryd.ntmps37
      go_wp2_with fail
      go_ret2
      exact ⟨0, pair_ib HK.out.symm, ⟨by omega, by omega⟩, fun h => absurd h (by rw [HK.out]; decide), Below.refl _ _⟩
    · have h1' : ¬ (s.size : Int) < 1 := by omega
      have h' : (3 : Int) < (s.size : Int) := by omega
      go_enter Tryd.func37, Tryd.ntmps37
      go_wp2_with fail
      go_ret2
      exact ⟨0, pair_ib HK.out.symm, ⟨by omega, by omega⟩, fun h => absurd h (by rw [HK.out]; decide), Below.refl _ _⟩
  · have h1 : ¬ (s.size : Int) < 1 := by omega
    have h3 : ¬ (3 : Int) < (s.size : Int) := by omega
    have g1 : 1 ≤ s.size := by omega
    have g3 : s.size ≤ 3 := by omega
    clear hbad
    have hSe : ∀ (i : Nat) (h : i < s.size), ((s[i]'h).toNat : Int) = en (tx s) i := fun i h => by rw [PlainAid.get_bt s _ h, bt_en]
    have HSM := Lib.hid (digB_same s)
    obtain ⟨S, hS⟩ : ∃ S, S = tx s := ⟨_, rfl⟩
    have hlen : S.length = s.size := by rw [hS, tx_len]
    have hby : Byt S := by rw [hS]; exact tx_byt s
    unfold NumTo
    rw [← hS] at hSe HSM ⊢
    have HB := Lib.hid hby
    have HLN := Lib.hid hlen
    clear hS hby hlen
    go_enter Tryd.func37, Tryd.ntmps37
    go_wp2_with fail
    go_loopw [4, 5] (fun n i wr => ∃ k : Nat, k ≤ s.size ∧ i = .int .i64 k ∧ n = .int .i64 (valL (S.take k)) ∧ digL (S.take k) = true ∧ wr = w) (fun _ i _ => s.size - (intOf i).toNat)
    case atStart => exact ⟨0, Nat.zero_le _, rfl, rfl, rfl, rfl⟩
    case round =>
      obtain ⟨k, hk, rfl, rfl, hd, rfl⟩ := hrel
      by_cases hlt : k < s.size
      · have hlt' : (k : Int) < (s.size : Int) := by omega
        have hV := valL_bound (S.take k) hd k
        rw [List.take_take, Nat.min_self] at hV
        have hV0 := hV.1
        have hV1 : valL (S.take k) < 100 := by
          rcases (show k = 0 ∨ k = 1 ∨ k = 2 by omega) with e | e | e <;> rw [e] at hV ⊢ <;> simp at hV ⊢ <;> omega
        have hkl : k < S.length := by rw [HLN.out]; exact hlt
        have HT := Lib.hid (valL_take S k hkl)
        have HBAD := Lib.hid (fun h => okL_bad S k hkl h)
        have HDT := Lib.hid (fun h1 h2 => digL_take S k hkl hd h1 h2)
        have hcb := en_byt HB.out k
        obtain ⟨hc0, hc1⟩ := hcb
        have HSK := hSe k hlt
        clear hSe hV hd hkl
        obtain ⟨c, hc⟩ : ∃ c, c = en S k := ⟨_, rfl⟩
        obtain ⟨V, hV⟩ : ∃ V, V = valL (S.take k) := ⟨_, rfl⟩
        rw [← hc] at HT HBAD HDT hc0 hc1 HSK
        rw [← hV] at HT hV0 hV1 ⊢
        clear hc hV
        by_cases hlo : c < 48
        · have HK := Lib.hid (HBAD.out (.inl hlo))
          go_wp2_with fail
          go_ret2
          exact ⟨0, pair_ib HK.out.symm, ⟨by omega, by omega⟩, fun h => absurd h (by rw [HK.out]; decide), Below.refl _ _⟩
        · by_cases hhi : 57 < c
          · have HK := Lib.hid (HBAD.out (.inr hhi))
            go_wp2_with fail
            go_ret2
            exact ⟨0, pair_ib HK.out.symm, ⟨by omega, by omega⟩, fun h => absurd h (by rw [HK.out]; decide), Below.refl _ _⟩
          · have HDN := Lib.hid (HDT.out (by omega) (by omega))
            go_wp2_with fail
            go_roundw
            case rel => exact ⟨k + 1, by omega, by go_num, by rw [HT.out], HDN.out, trivial⟩
            case measure => simp [intOf]; omega
      · have hke : k = s.size := by omega
        have hall : S.take k = S := List.take_of_length_le (by rw [HLN.out]; omega)
        have hV := valL_bound S (by rw [← hall]; exact hd) k
        rw [hall] at hV
        have hV' : valL S < 1000 := by
          have : (10 : Int) ^ k ≤ 1000 := by
            rcases (show k = 0 ∨ k = 1 ∨ k = 2 ∨ k = 3 by omega) with e | e | e | e <;> rw [e] <;> decide
          omega
        have HV : Hid (I64 (valL S)) := Lib.hid ⟨by omega, by omega⟩
        have HD := Lib.hid (fun W => dig_any (valL S) W hV.1 hV')
        unfold StrTo at HD
        have hK := HSM.out (by rw [← hall]; exact hd) g1 g3
        rw [hall]
        clear hV hd hall hSe hV' g1 g3
        subst hke
        go_wp2_with fail
        refine (HD.out _).mono ?_
        rintro e w2 ⟨rfl, hb⟩
        have HBB := Lib.hid hb
        clear hb
        go_wp2_with fail
        go_ret2
        exact ⟨valL S, rfl, HV.out, fun _ => rfl, HBB.out⟩
end Go.Proofs.YtpdlfijcicboiaaDoor
