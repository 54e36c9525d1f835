/- Contracts of Bytes, and of the reference's. -/
import Derived.Test.YtdlmfpofedfcdaaLawTurns
import Derived.Laws.IdiomStrings
namespace Go.Proofs.Ytdlmfpofedfcdaa
open Go.RowKit

/-- byte number i of eight, the highest first -/
def byteN (e : Int) (i : Nat) : Int := e / 2 ^ (56 - 8 * i) % 256
def byteU (e : Int) (i : Nat) : UInt8 := UInt8.ofNat (byteN e i).toNat
theorem byteN_bd (e : Int) (i : Nat) : 0 ≤ byteN e i ∧ byteN e i < 256 := by unfold byteN; omega
theorem byteU_int (e : Int) (i : Nat) : ((byteU e i).toNat : Int) = byteN e i := by
  have := byteN_bd e i
  unfold byteU
  rw [UInt8.toNat_ofNat']; omega
def bytesL (e : Int) : List UInt8 := (List.range 8).map (byteU e)
def rowB (e : Int) (k : Nat) : List Value := (List.range 8).map fun i => if i < k then .int .u8 (byteN e i) else .int .u8 0
theorem rowB_len (e : Int) (k : Nat) : (rowB e k).length = 8 := by simp [rowB]
theorem rowB_at (e : Int) (k i : Nat) (h : i < 8) : (rowB e k)[i]? = some (if i < k then .int .u8 (byteN e i) else .int .u8 0) := by
  simp [rowB, h]
theorem rowB_set (e : Int) (k : Nat) (hk : k < 8) : (rowB e k).toArray.setIfInBounds k (.int .u8 (byteN e k)) = (rowB e (k + 1)).toArray := by
  apply Array.ext'
  rw [Array.toList_setIfInBounds]
  refine List.ext_getElem? fun i => ?_
  rw [List.getElem?_set]
  by_cases hi : i < 8
  · rw [rowB_at _ _ _ hi]
    by_cases hik : k = i
    · subst hik; rw [if_pos rfl, if_pos (by simp [rowB_len]; omega)]; show _ = (rowB e (k + 1))[k]?; rw [rowB_at _ _ _ hi, if_pos (by omega)]
    · rw [if_neg hik, rowB_at _ _ _ hi]
      by_cases h2 : i < k
      · rw [if_pos h2, if_pos (by omega)]
      · rw [if_neg h2, if_neg (by omega)]
  · rw [if_neg (by omega), List.getElem?_eq_none (by rw [rowB_len]; omega), List.getElem?_eq_none (by rw [rowB_len]; omega)]

set_option maxRecDepth 100000 in
theorem bytes_ok (e : Int) (w : World) (hi : I64 e) (he : isEp e) :
    Calls Try.prog 12 #[.int .i64 e] w fun e' w' => e' = .returned (.tuple #[.string ⟨(bytesL e).toArray⟩, .int .i64 0]) ∧ Below w.heap.size w w' := by
  have hu := Lib.hid (unpackE_ok he)
  have HI := Lib.hid hi
  obtain ⟨b1, b2⟩ := hi
  clear he
  go_enter Try.func12, Try.ntmps12
  go_wp2_with fail
  refine (unpack_any _ _ HI.out).mono ?_
  rintro e' w' ⟨rfl, rfl⟩
  rw [hu.out]
  go_wp2_with fail
  go_loopw [18] (fun i wr => ∃ k : Nat, k ≤ 8 ∧ i = .int .i64 k ∧ wr.heap[w.heap.size]? = some (.cells (rowB e k).toArray 51 (0, 0)) ∧ Below w.heap.size w wr) (fun i _ => 8 - (intOf i).toNat)
  case atStart => exact ⟨0, Nat.zero_le _, rfl, heap_alloc_new w _, below_alloc _ _⟩
  case round =>
    obtain ⟨k, hk, rfl, hr, hb⟩ := hrel
    have HR := Lib.hid hr; have HB := Lib.hid hb; clear hr hb
    by_cases hlt : k < 8
    · have hcell : wr.cell? ⟨w.heap.size, k, none⟩ = some (.int .u8 0) := by
        rw [cell_of_row wr _ k _ 51 (0, 0) HR.out, List.getElem?_toArray, rowB_at _ _ _ hlt, if_neg (by omega)]
      have hfr : wr.frozen? ⟨w.heap.size, k, none⟩ = false := frozen_of_row wr _ k _ 51 HR.out
      go_wp2_with fail
      go_roundw
      case rel =>
        refine ⟨k + 1, by omega, by go_num, ?_, HB.out.setCell (Nat.le_refl _) _⟩
        have e1 := heap_setCell_same wr _ k _ 51 (.int .u8 (byteN e k)) HR.out
        rw [rowB_set e k hlt] at e1
        exact e1
      case measure => simp [intOf]; omega
    · obtain rfl : k = 8 := by omega
      have hcv := run_convert_bytes_back (P := Try.prog) wr 52 9 5 ⟨w.heap.size, 0, none⟩ 8 (bytesL e) Try.underlying52 Try.underlying5 Try.underlying9 (fun j hj => by
        have hj8 : j < 8 := by simpa [bytesL] using hj
        rw [Addr.add_lit, Nat.zero_add, cell_of_row wr _ j _ 51 (0, 0) HR.out, List.getElem?_toArray, rowB_at _ _ _ hj8, if_pos hj8]
        simp only [bytesL, List.getElem_map, List.getElem_range]
        rw [byteU_int])
      rw [show (bytesL e).length = 8 by simp [bytesL]] at hcv
      go_wp2_with fail
      go_ret2
      exact ⟨rfl, HB.out⟩

set_option maxRecDepth 100000 in
theorem bytes_bad (e : Int) (w : World) (hi : I64 e) (he : ¬ isEp e) :
    Calls Try.prog 12 #[.int .i64 e] w fun e' w' => e' = .returned (.tuple #[.string ⟨#[]⟩, .int .i64 1]) ∧ w = w' := by
  have hu := Lib.hid (unpackE_bad he)
  have HI := Lib.hid hi
  clear he hi
  go_enter Try.func12, Try.ntmps12
  go_wp2_with fail
  refine (unpack_any _ _ HI.out).mono ?_
  rintro e' w' ⟨rfl, rfl⟩
  rw [hu.out]
  go_wp2_with fail
  go_ret2
  exact ⟨rfl, rfl⟩

/-! ### the reference's -/
def tailB (e : Int) (k : Nat) : List UInt8 := (bytesL e).drop (8 - k)
theorem tailB_succ (e : Int) (k : Nat) (hk : k < 8) : tailB e (k + 1) = byteU e (7 - k) :: tailB e k := by
  unfold tailB
  rw [show 8 - (k + 1) = 7 - k by omega, show 8 - k = (7 - k) + 1 by omega]
  rw [List.drop_eq_getElem_cons (by simp [bytesL]; omega)]
  simp [bytesL]
theorem tailB_len (e : Int) (k : Nat) (hk : k ≤ 8) : (tailB e k).length = k := by simp [tailB, bytesL]; omega
theorem div256 (e : Int) (k : Nat) : e / 2 ^ (8 * (k + 1)) = e / 2 ^ (8 * k) / 256 := by
  rw [show 8 * (k + 1) = 8 * k + 8 by omega, Int.pow_add, Int.ediv_ediv_of_nonneg (by exact Int.pow_nonneg (by omega))]; rfl
theorem byte_low (e : Int) (k : Nat) (hk : k < 8) : e / 2 ^ (8 * k) % 256 = byteN e (7 - k) := by
  unfold byteN; rw [show 56 - 8 * (7 - k) = 8 * k by omega]
theorem div_bd (e : Int) (k : Nat) (h0 : 0 ≤ e) (h1 : e < 17592186044432) : 0 ≤ e / 2 ^ (8 * k) ∧ e / 2 ^ (8 * k) < 17592186044432 := by
  induction k with
  | zero => simp; omega
  | succ k ih => rw [div256]; omega

set_option maxRecDepth 100000 in
theorem refbytes_any (e : Int) (w : World) (he : isEp e) :
    Calls Try.prog 16 #[.int .i64 e] w fun e' w' => e' = .returned (.string ⟨(bytesL e).toArray⟩) ∧ Below w.heap.size w w' := by
  have HE := Lib.hid he; clear he
  go_enter Try.func16, Try.ntmps16
  go_wp2_with fail
  go_loopw [0, 3, 4] (fun x s i wr => ∃ (k : Nat) (S : ByteArray), k ≤ 8 ∧ i = .int .i64 k ∧ x = .int .i64 (e / 2 ^ (8 * k)) ∧ s = .string S ∧ S = ⟨(tailB e k).toArray⟩ ∧ S.size = k ∧ Below w.heap.size w wr) (fun _ _ i _ => 8 - (intOf i).toNat)
  case atStart => exact ⟨0, _, Nat.zero_le _, rfl, by simp, rfl, by simp [tailB, bytesL], rfl, Below.refl _ _⟩
  case round =>
    obtain ⟨k, S, hk, rfl, rfl, rfl, hS, hSs, hb⟩ := hrel
    have HB := Lib.hid hb; have HS := Lib.hid hS; have HSS := Lib.hid hSs; clear hb hS hSs
    by_cases hlt : k < 8
    · obtain ⟨d1, d2⟩ := div_bd e k HE.out.1 HE.out.2
      have HD := Lib.hid (div256 e k)
      have HL := Lib.hid (byte_low e k hlt)
      obtain ⟨y, hy⟩ : ∃ y, y = e / 2 ^ (8 * k) := ⟨_, rfl⟩
      rw [← hy] at d1 d2 HD HL ⊢
      clear hy
      have hu := byteU_int e (7 - k)
      rw [← HL.out] at hu
      have hcv := run_convert_bytes_back (P := Try.prog) (wr.alloc (.cells #[.int .u8 (y % 256)] 5)) 52 9 5 ⟨wr.heap.size, 0, none⟩ 1 [byteU e (7 - k)] Try.underlying52 Try.underlying5 Try.underlying9 (fun j hj => by
        have hj0 : j = 0 := by simpa using hj
        subst hj0
        have hr : (wr.alloc (.cells #[.int .u8 (y % 256)] 5)).heap[wr.heap.size]? = some (.cells #[.int .u8 (y % 256)] 5) := heap_alloc_new wr _
        rw [Addr.add_lit, cell_of_row _ _ _ _ 5 (0, 0) hr]
        simp only [List.getElem_cons_zero]; rw [hu]; rfl)
      have hsz : S.size ≤ 8 := by rw [HSS.out]; exact hk
      have hT := tailB_succ e k hlt
      obtain ⟨b, hb⟩ : ∃ b, b = byteU e (7 - k) := ⟨_, rfl⟩
      rw [← hb] at hcv hT
      have HT := Lib.hid hT; clear hT hb hu
      obtain ⟨b1, hb1⟩ : ∃ b1 : ByteArray, b1 = ⟨[b].toArray⟩ := ⟨_, rfl⟩
      rw [← hb1] at hcv
      have hb1s : b1.size ≤ 1 := by rw [hb1]; exact Nat.le_refl _
      have HB1 := Lib.hid hb1; clear hb1
      simp only [List.length_cons, List.length_nil, Nat.zero_add] at hcv
      go_wp2_with fail
      go_roundw
      case rel =>
        refine ⟨k + 1, b1 ++ S, by omega, by go_num, by rw [HD.out], rfl, ?_, ?_, HB.out.alloc HB.out.size _⟩
        · rw [HB1.out, HS.out, HT.out]
          apply ByteArray.ext
          rw [ByteArray.data_append]
          simp
        · rw [ByteArray.size_append, HSS.out, HB1.out]; show 1 + k = k + 1; omega
      case measure => simp [intOf]; omega
    · obtain rfl : k = 8 := by omega
      go_wp2_with fail
      go_ret
      exact ⟨by rw [HS.out]; rfl, HB.out⟩
end Go.Proofs.Ytdlmfpofedfcdaa
