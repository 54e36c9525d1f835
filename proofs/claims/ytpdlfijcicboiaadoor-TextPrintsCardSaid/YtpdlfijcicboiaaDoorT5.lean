/- The text of instructions: the reference. -/
import Derived.Test.YtpdlfijcicboiaaDoorT4
namespace Go.Proofs.YtpdlfijcicboiaaDoor
open Go.RowKit
set_option linter.unusedSimpArgs false
set_option linter.unusedVariables false
abbrev sepB : ByteArray := ⟨#[59, 32]⟩
def prStep (acc : ByteArray × Bool) (x : Ins) : ByteArray × Bool := (if acc.2 = true then acc.1 ++ sepB ++ oneB x else acc.1 ++ oneB x, true)
def prB (L : List Ins) : ByteArray := (L.foldl prStep (⟨#[]⟩, false)).1
theorem pr_flag (L : List Ins) : (L.foldl prStep (⟨#[]⟩, false)).2 = decide (0 < L.length) := by
  rcases List.eq_nil_or_concat L with rfl | ⟨A, x, rfl⟩
  · rfl
  · simp [prStep]
theorem prB_snoc (L : List Ins) (x : Ins) : prB (L ++ [x]) = if 0 < L.length then prB L ++ sepB ++ oneB x else prB L ++ oneB x := by
  unfold prB
  rw [List.foldl_append]
  show (prStep (L.foldl prStep (⟨#[]⟩, false)) x).1 = _
  have hf := pr_flag L
  generalize L.foldl prStep (⟨#[]⟩, false) = acc at hf ⊢
  obtain ⟨s, f⟩ := acc
  simp only at hf
  subst hf
  show (if decide (0 < L.length) = true then s ++ sepB ++ oneB x else s ++ oneB x) = _
  simp only [decide_eq_true_eq]
theorem oneB_size (x : Ins) : (oneB x).size ≤ 15 := by
  have z0 := wordB_size x.op
  have z1 := digB_size x.a
  have z2 := digB_size x.b
  have e : spB.size = 1 := rfl
  unfold oneB
  split
  · omega
  · split
    · rw [ByteArray.size_append, ByteArray.size_append, e]; omega
    · rw [ByteArray.size_append, ByteArray.size_append, ByteArray.size_append, ByteArray.size_append, e]; omega
theorem prB_size (L : List Ins) : ∀ k, (prB (L.take k)).size ≤ 17 * k
  | 0 => by show (prB []).size ≤ 0; decide
  | k + 1 => by
    have ih := prB_size L k
    by_cases h : k < L.length
    · rw [List.take_add_one, List.getElem?_eq_getElem h]
      show (prB (L.take k ++ [L[k]])).size ≤ _
      rw [prB_snoc]
      have h1 := oneB_size L[k]
      have e : sepB.size = 2 := rfl
      split
      · rw [ByteArray.size_append, ByteArray.size_append, e]; omega
      · rw [ByteArray.size_append]; omega
    · rw [List.take_of_length_le (by omega : L.length ≤ k + 1)]
      rw [List.take_of_length_le (by omega : L.length ≤ k)] at ih
      omega
set_option maxRecDepth 100000 in
set_option maxHeartbeats 8000000 in
theorem refPrint_any (a : Option Addr) (n c : Nat) (L : List Ins) (w : World) (h : Blk w a n c L) (hm : ∀ x ∈ L, mayZ x = true) (hn : n ≤ 30) : Calls Tryd.prog 13 #[.slice a n c] w (StrTo w (prB L)) := by
  have H := Lib.hid h
  have HLE := Lib.hid h.recs.len_eq
  have HM := Lib.hid hm
  clear h hm
  go_enter Tryd.func13, Tryd.ntmps13
  go_wp2_with fail
  go_loopw [3, 8] (fun v i wr => ∃ k : Nat, k ≤ n ∧ i = .int .i64 k ∧ v = .string (prB (L.take k)) ∧ Below w.heap.size w wr) (fun _ i _ => n - (intOf i).toNat)
  case atStart => exact ⟨0, Nat.zero_le _, rfl, rfl, Below.refl _ _⟩
  case round =>
    obtain ⟨k, hk, rfl, rfl, hb⟩ := hrel
    by_cases hlt : k < n
    · have hlt' : (k : Int) < (n : Int) := by omega
      obtain ⟨x, b, off, hx, _, ha, c0, c1, c2⟩ := (H.out.below hb).at k hlt
      have HO := Lib.hid (fun W => refOne_any x W (HM.out x (List.mem_of_getElem? hx)))
      unfold StrTo at HO
      have HR := Lib.hid (show prB (L.take (k + 1)) = if 0 < k then prB (L.take k) ++ sepB ++ oneB x else prB (L.take k) ++ oneB x by
        rw [List.take_add_one, hx]
        show prB (L.take k ++ [x]) = _
        rw [prB_snoc, List.length_take, Nat.min_eq_left (by rw [HLE.out]; omega)])
      have z1 := prB_size L k
      have z2 := oneB_size x
      have z1' : (prB (L.take k)).size ≤ 600 := by omega
      obtain ⟨S, hS⟩ : ∃ S, S = prB (L.take k) := ⟨_, rfl⟩
      obtain ⟨O, hO⟩ : ∃ O, O = oneB x := ⟨_, rfl⟩
      rw [← hS] at z1' HR ⊢
      rw [← hO] at HO z2 HR
      have y1 : (S ++ sepB).size ≤ 602 := by rw [ByteArray.size_append]; show S.size + 2 ≤ 602; omega
      have HB := Lib.hid hb
      have BA := Lib.hid (below_alloc wr (.cells #[.int .i64 x.op, .int .i64 x.a, .int .i64 x.b] 31))
      clear hS hO hb hx z1
      rw [ha]
      clear ha
      by_cases hk0 : 0 < k
      · have hk0' : (0 : Int) < (k : Int) := by omega
        have HR1 := Lib.hid (HR.out.trans (if_pos hk0))
        go_wp2_with fail
        refine (HO.out _).mono ?_
        rintro e w1 ⟨rfl, hb⟩
        have B1 := Lib.hid ((HB.out.trans (Below.mono BA.out HB.out.size)).trans (Below.mono hb (Nat.le_trans HB.out.size BA.out.size)))
        clear hb
        go_wp2_with fail
        go_roundw
        case rel => exact ⟨k + 1, by omega, by go_num, by rw [HR1.out], B1.out⟩
        case measure => simp [intOf]; omega
      · have hk0' : ¬ (0 : Int) < (k : Int) := by omega
        have HR1 := Lib.hid (HR.out.trans (if_neg hk0))
        go_wp2_with fail
        refine (HO.out _).mono ?_
        rintro e w1 ⟨rfl, hb⟩
        have B1 := Lib.hid ((HB.out.trans (Below.mono BA.out HB.out.size)).trans (Below.mono hb (Nat.le_trans HB.out.size BA.out.size)))
        clear hb
        go_wp2_with fail
        go_roundw
        case rel => exact ⟨k + 1, by omega, by go_num, by rw [HR1.out], B1.out⟩
        case measure => simp [intOf]; omega
    · have hke : k = n := by omega
      subst hke
      have HT := Lib.hid (show L.take k = L from List.take_of_length_le (by rw [HLE.out]; exact Nat.le_refl _))
      go_wp2_with fail
      go_ret
      exact ⟨ret_str (by rw [HT.out]), hb⟩
end Go.Proofs.YtpdlfijcicboiaaDoor
