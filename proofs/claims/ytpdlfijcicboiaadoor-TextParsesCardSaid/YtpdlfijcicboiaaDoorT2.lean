/- The digits of a number: the reference. -/
import Derived.Test.YtpdlfijcicboiaaDoorT1
import Derived.Test.YtpdlfijcicboiaaDoorVPlain
import Derived.Laws.IdiomStrings
namespace Go.Proofs.YtpdlfijcicboiaaDoor
open Go.RowKit
set_option linter.unusedSimpArgs false
set_option linter.unusedVariables false
def StrTo (w : World) (S : ByteArray) (e : Ending) (w' : World) : Prop := e = .returned (.string S) ∧ Below w.heap.size w w'
theorem ret_str {s s' : ByteArray} (h : s = s') : Ending.returned (.string s) = .returned (.string s') := by rw [h]
theorem u8s_get (L : List Int) (j : Nat) (hj : j < (u8s L).length) (hb : Byt L) : (((u8s L)[j].toNat : Nat) : Int) = en L j := by
  have hj' : j < L.length := by simpa [u8s] using hj
  have h := hb _ (List.getElem_mem hj')
  rw [en_get L j hj']
  simp [u8s]
  omega
set_option maxRecDepth 100000 in
theorem conv1 (W : World) (g : Nat) (x : Int) (h0 : 0 ≤ x) (h1 : x < 256) (hc : W.cell? ⟨g, 0, none⟩ = some (.int .u8 x)) :
    (convert 52 9 (.slice (some ⟨g, 0, none⟩) 1 1)).run Tryd.prog W = .ok (.string (strOf [x])) W := by
  have := run_convert_bytes_back (P := Tryd.prog) W 52 9 5 ⟨g, 0, none⟩ 1 (u8s [x]) Tryd.underlying52 Tryd.underlying5 Tryd.underlying9 (fun j hj => by
    have hj0 : j = 0 := by simpa [u8s] using hj
    subst hj0
    rw [Addr.add_lit, Nat.zero_add, hc, u8s_get [x] 0 hj (by intro b hb; simp at hb; omega)]; simp [en])
  exact this
def digF : Nat → Int → List Int
  | 0, n => [48 + n]
  | f + 1, n => if n < 10 then [48 + n] else digF f (n / 10) ++ [48 + n % 10]
theorem digF_one (f : Nat) (n : Int) (h : n < 10) : digF f n = [48 + n] := by cases f <;> simp [digF, h]
theorem digF_more (f : Nat) (n : Int) (h : ¬ n < 10) : digF (f + 1) n = digF f (n / 10) ++ [48 + n % 10] := by rw [digF, if_neg h]
theorem digF_len (f : Nat) (n : Int) : 1 ≤ (digF f n).length ∧ (digF f n).length ≤ f + 1 := by
  induction f generalizing n with
  | zero => simp [digF]
  | succ f ih =>
    rw [digF]
    split
    · simp
    · have := ih (n / 10); simp; omega
set_option maxRecDepth 100000 in
set_option maxHeartbeats 4000000 in
theorem digit_any (n : Int) (w : World) (h0 : 0 ≤ n) (h1 : n < 10) : Calls Tryd.prog 34 #[.int .i64 n] w (StrTo w (strOf [48 + n])) := by
  have hc := conv1 (w.alloc (.cells #[.int .u8 (48 + n)] 5)) w.heap.size (48 + n) (by omega) (by omega) (by rw [cell_of_row _ _ 0 _ 5 (0, 0) (heap_alloc_new w _)]; rfl)
  go_enter Tryd.func34, Tryd.ntmps34
  go_wp2_with fail
  go_ret
  exact ⟨rfl, below_alloc _ _⟩
set_option maxRecDepth 100000 in
set_option maxHeartbeats 4000000 in
theorem refDigits_any (f : Nat) : ∀ (n : Int) (w : World), 0 ≤ n → n < 10 ^ (f + 1) → f ≤ 3 → Calls Tryd.prog 34 #[.int .i64 n] w (StrTo w (strOf (digF f n))) := by
  induction f with
  | zero => intro n w h0 h1 _; exact digit_any n w h0 (by simpa using h1)
  | succ f ih =>
    intro n w h0 h1 hf
    by_cases h2 : n < 10
    · rw [digF_one _ _ h2]; exact digit_any n w h0 h2
    · have hpn : (10 : Int) ^ (f + 1 + 1) ≤ 10000 := by
        rcases (show f = 0 ∨ f = 1 ∨ f = 2 by omega) with rfl | rfl | rfl <;> decide
      have hn1 : n < 10000 := by omega
      have HI : Hid (∀ W, Calls Tryd.prog 34 #[.int .i64 (n / 10)] W (StrTo W (strOf (digF f (n / 10))))) := Lib.hid (fun W => ih (n / 10) W (by omega) (by rw [Int.pow_succ] at h1; omega) (by omega))
      have HJ : Hid (∀ W, Calls Tryd.prog 34 #[.int .i64 (n % 10)] W (StrTo W (strOf [48 + n % 10]))) := Lib.hid (fun W => digit_any (n % 10) W (by omega) (by omega))
      unfold StrTo at HI HJ
      have hs1 : (strOf (digF f (n / 10))).size ≤ 5 := by rw [strOf_size]; have := (digF_len f (n / 10)).2; omega
      have hs2 : (strOf [48 + n % 10]).size ≤ 1 := by rw [strOf_size]; exact Nat.le_refl _
      have HR := Lib.hid (show strOf (digF f (n / 10)) ++ strOf [48 + n % 10] = strOf (digF (f + 1) n) by rw [digF_more f n h2, strOf_append])
      obtain ⟨S1, hS1⟩ : ∃ S, S = strOf (digF f (n / 10)) := ⟨_, rfl⟩
      obtain ⟨S2, hS2⟩ : ∃ S, S = strOf [48 + n % 10] := ⟨_, rfl⟩
      rw [← hS1] at HI hs1 HR
      rw [← hS2] at HJ hs2 HR
      rw [← HR.out]
      clear hS1 hS2 ih h1 hpn HR
      go_enter Tryd.func34, Tryd.ntmps34
      go_wp2_with fail
      refine (HI.out _).mono ?_
      rintro e w1 ⟨rfl, hb⟩
      have B1 := Lib.hid hb
      clear hb
      go_wp2_with fail
      refine (HJ.out _).mono ?_
      rintro e w2 ⟨rfl, hb⟩
      have B2 := Lib.hid (B1.out.trans (Below.mono hb B1.out.size))
      clear hb
      go_wp2_with fail
      go_ret
      exact ⟨rfl, B2.out⟩
end Go.Proofs.YtpdlfijcicboiaaDoor
