/- The words of the ops: the reference. -/
import Derived.Test.YtpdlfijcicboiaaDoorT2
namespace Go.Proofs.YtpdlfijcicboiaaDoor
open Go.RowKit
set_option linter.unusedSimpArgs false
set_option linter.unusedVariables false
def wordsB : List ByteArray := [⟨#[110, 111, 112]⟩, ⟨#[115, 101, 110, 100]⟩, ⟨#[114, 101, 99, 118]⟩, ⟨#[99, 108, 111, 115, 101]⟩, ⟨#[115, 101, 108, 101, 99, 116]⟩, ⟨#[108, 111, 99, 107]⟩, ⟨#[117, 110, 108, 111, 99, 107]⟩, ⟨#[111, 110, 99, 101]⟩, ⟨#[101, 110, 100]⟩, ⟨#[103, 111]⟩, ⟨#[114, 101, 97, 100]⟩, ⟨#[119, 114, 105, 116, 101]⟩, ⟨#[106, 117, 109, 112]⟩, ⟨#[101, 108, 115, 101]⟩]
def wordB (op : Int) : ByteArray := wordsB.getD op.toNat ⟨#[]⟩
set_option maxRecDepth 100000 in
set_option maxHeartbeats 4000000 in
theorem words_any (w : World) : Calls Tryd.prog 21 #[] w fun e w' => e = .returned (.slice (some ⟨w.heap.size, 0, none⟩) 14 14) ∧ w' = w.alloc (.cells (wordsB.map Value.string).toArray 9) := by
  go_enter Tryd.func21, Tryd.ntmps21
  go_wp2_with fail
  go_ret
  exact ⟨rfl, rfl⟩
set_option maxRecDepth 100000 in
set_option maxHeartbeats 4000000 in
theorem refName_any (k : Nat) (w : World) (hk : k < 14) : Calls Tryd.prog 10 #[.int .i64 (k : Int)] w (StrTo w (wordB (k : Int))) := by
  have hc : (w.alloc (.cells (wordsB.map Value.string).toArray 9)).cell? ⟨w.heap.size, k, none⟩ = some (.string (wordB (k : Int))) := by
    rw [cell_of_row _ _ k _ 9 (0, 0) (heap_alloc_new w _)]
    have hl : k < wordsB.length := hk
    simp only [List.getElem?_toArray, List.getElem?_map, wordB, Int.toNat_natCast, List.getD_eq_getElem?_getD]
    rw [List.getElem?_eq_getElem hl]; rfl
  have HW := Lib.hid (words_any w)
  have hk' : (k : Int) < 14 := by omega
  go_enter Tryd.func10, Tryd.ntmps10
  go_wp2_with fail
  refine HW.out.mono ?_
  rintro e w1 ⟨rfl, rfl⟩
  obtain ⟨W, hW⟩ : ∃ W, W = w.alloc (.cells (wordsB.map Value.string).toArray 9) := ⟨_, rfl⟩
  have hb := below_alloc w (.cells (wordsB.map Value.string).toArray 9)
  rw [← hW] at hc hb ⊢
  clear hW
  go_wp2_with fail
  go_ret
  exact ⟨rfl, hb⟩
end Go.Proofs.YtpdlfijcicboiaaDoor
