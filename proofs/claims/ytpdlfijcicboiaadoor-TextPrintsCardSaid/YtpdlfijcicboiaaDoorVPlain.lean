/- Plain facts on numbers in few bytes: texts are lists of bytes, told as integers. -/
import Derived.Test.YtpdlfijcicboiaaDoorPlain
import Derived.PlainAid
import Derived.Laws.Strings
namespace Go.Proofs.YtpdlfijcicboiaaDoor
set_option linter.unusedSimpArgs false
set_option linter.unusedVariables false

/-! ### texts as lists of integers -/
def Byt (l : List Int) : Prop := ∀ b ∈ l, 0 ≤ b ∧ b < 256
def u8s (l : List Int) : List UInt8 := l.map fun b => UInt8.ofNat b.toNat
def strOf (l : List Int) : ByteArray := ⟨(u8s l).toArray⟩
def tx (s : ByteArray) : List Int := s.toList.map fun b => (b.toNat : Int)
theorem data_toList (s : ByteArray) : s.data.toList = s.toList := (ByteArray.toList_eq s).symm
theorem toList_mk (l : List UInt8) : (⟨l.toArray⟩ : ByteArray).toList = l := by rw [ByteArray.toList_eq]
theorem tx_len (s : ByteArray) : (tx s).length = s.size := by unfold tx; rw [List.length_map, ← data_toList]; rfl
theorem tx_byt (s : ByteArray) : Byt (tx s) := by
  intro b hb
  obtain ⟨u, _, rfl⟩ := List.mem_map.1 hb
  have := u.toNat_lt; omega
theorem u8s_tx (l : List UInt8) : u8s (l.map fun b => (b.toNat : Int)) = l := by
  simp only [u8s, List.map_map]
  conv => rhs; rw [← List.map_id l]
  refine List.map_congr_left fun b _ => ?_
  simp
theorem strOf_tx (s : ByteArray) : strOf (tx s) = s := by
  apply ByteArray.ext
  unfold strOf tx
  rw [u8s_tx, ← data_toList]
theorem tx_strOf (l : List Int) (h : Byt l) : tx (strOf l) = l := by
  unfold tx strOf
  rw [toList_mk]
  simp only [u8s, List.map_map]
  conv => rhs; rw [← List.map_id l]
  refine List.map_congr_left fun b hb => ?_
  have := h b hb
  simp only [Function.comp, id]
  rw [UInt8.toNat_ofNat']; omega
theorem bt_en (s : ByteArray) (k : Nat) : PlainAid.bt s k = en (tx s) k := by
  by_cases h : k < s.size
  · rw [← PlainAid.get_bt s k h, en_get _ _ (by rw [tx_len]; exact h)]
    simp only [tx, List.getElem_map]
    have e : s.toList = s.data.toList := (data_toList s).symm
    congr 2
    simp only [e, Array.getElem_toList]
    rfl
  · rw [PlainAid.bt_end s (by omega), en_of_le _ _ (by rw [tx_len]; omega)]
theorem strOf_append (l m : List Int) : strOf (l ++ m) = strOf l ++ strOf m := by
  apply ByteArray.ext
  rw [ByteArray.data_append]
  simp [strOf, u8s]
theorem strOf_size (l : List Int) : (strOf l).size = l.length := by simp [strOf, u8s, ByteArray.size]
theorem strOf_inj {l m : List Int} (hl : Byt l) (hm : Byt m) (h : strOf l = strOf m) : l = m := by
  rw [← tx_strOf l hl, ← tx_strOf m hm, h]
theorem byt_append {l m : List Int} (hl : Byt l) (hm : Byt m) : Byt (l ++ m) := by
  intro b hb
  rcases List.mem_append.1 hb with h | h
  · exact hl b h
  · exact hm b h
theorem byt_drop {l : List Int} (hl : Byt l) (n : Nat) : Byt (l.drop n) := fun b hb => hl b (List.mem_of_mem_drop hb)
theorem byt_take {l : List Int} (hl : Byt l) (n : Nat) : Byt (l.take n) := fun b hb => hl b (List.mem_of_mem_take hb)
theorem en_byt {l : List Int} (hl : Byt l) (i : Nat) : 0 ≤ en l i ∧ en l i < 256 := by
  by_cases h : i < l.length
  · exact hl _ (en_mem l i h)
  · rw [en_of_le _ _ (by omega)]; omega
theorem tx_take (s : ByteArray) (n : Nat) : tx (s.extract 0 n) = (tx s).take n := by
  unfold tx; rw [← data_toList, ← data_toList]
  simp [List.map_take]

/-! ### what is put -/
def putF : Nat → Int → List Int
  | 0, n => [n]
  | f + 1, n => if n < 128 then [n] else (n % 128 + 128) :: putF f (n / 128)
def putL (n : Int) : List Int := putF 4 n
def smallB (n : Int) : Bool := decide (0 ≤ n ∧ n ≤ 2147483647)

theorem putF_byt (f : Nat) (n : Int) (h0 : 0 ≤ n) (h : n < 128 ^ (f + 1)) : Byt (putF f n) := by
  induction f generalizing n with
  | zero => intro b hb; simp [putF] at hb; subst hb; simp at h; omega
  | succ f ih =>
    unfold putF
    split
    · intro b hb; simp at hb; subst hb; omega
    · intro b hb
      rcases List.mem_cons.1 hb with rfl | hb
      · omega
      · refine ih (n / 128) (by omega) ?_ b hb
        rw [Int.pow_succ] at h
        omega
theorem putF_one (f : Nat) (n : Int) (h : n < 128) : putF f n = [n] := by cases f <;> simp [putF, h]
theorem putF_more (f : Nat) (n : Int) (h : ¬ n < 128) : putF (f + 1) n = (n % 128 + 128) :: putF f (n / 128) := by rw [putF, if_neg h]
/-- enough fuel is enough -/
theorem putF_fuel (f : Nat) (n : Int) (h : n < 128 ^ (f + 1)) : putF (f + 1) n = putF f n := by
  induction f generalizing n with
  | zero => simp at h; rw [putF_one _ _ h, putF_one _ _ h]
  | succ f ih =>
    by_cases hn : n < 128
    · rw [putF_one _ _ hn, putF_one _ _ hn]
    · rw [putF_more _ _ hn, putF_more _ _ hn, ih (n / 128) (by rw [Int.pow_succ] at h; omega)]
theorem putL_one {n : Int} (h : n < 128) : putL n = [n] := putF_one 4 n h
theorem putL_more {n : Int} (h : ¬ n < 128) (hb : n ≤ 34359738367) : putL n = (n % 128 + 128) :: putL (n / 128) := by
  unfold putL
  rw [putF_more 3 n h, putF_fuel 3 (n / 128) (by show _ < (268435456 : Int); omega)]
theorem putL_byt {n : Int} (h0 : 0 ≤ n) (hb : n ≤ 34359738367) : Byt (putL n) := putF_byt 4 n h0 (by show _ < (34359738368 : Int); omega)
theorem putF_len (f : Nat) (n : Int) : 1 ≤ (putF f n).length ∧ (putF f n).length ≤ f + 1 := by
  induction f generalizing n with
  | zero => simp [putF]
  | succ f ih => unfold putF; split <;> simp; have := ih (n / 128); omega
theorem putL_len (n : Int) : 1 ≤ (putL n).length ∧ (putL n).length ≤ 5 := putF_len 4 n
end Go.Proofs.YtpdlfijcicboiaaDoor
