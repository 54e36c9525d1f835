/- What the library's calls lean on of the world; the word of an op, the program's. -/
import Derived.Test.YtpdlfijcicboiaaDoorT5
import Derived.Test.YtpdlfijcicboiaaDoorShelf
namespace Go.Proofs.YtpdlfijcicboiaaDoor
open Go.RowKit
set_option linter.unusedSimpArgs false
set_option linter.unusedVariables false
def EnvS (w : World) : Prop := ∃ m, w.cell? ⟨0, 0, none⟩ = some (.int .i64 m)
def Env (w : World) : Prop := EnvS w ∧ Lib.TabIs Tryd.prog w "internal/strconv.uint64pow10" .u64 Lib.pow10Tab
theorem cell_lt {w : World} {a : Addr} {v : Value} (h : w.cell? a = some v) : a.block < w.heap.size := by
  rcases Nat.lt_or_ge a.block w.heap.size with h' | h'
  · exact h'
  · simp [World.cell?, Array.getElem?_eq_none h'] at h
theorem tab_below {w w' : World} (h : Lib.TabIs Tryd.prog w "internal/strconv.uint64pow10" .u64 Lib.pow10Tab) (hb : Below w.heap.size w w') : Lib.TabIs Tryd.prog w' "internal/strconv.uint64pow10" .u64 Lib.pow10Tab := by
  obtain ⟨g, hgn⟩ : ∃ g, Tryd.prog.globalNamed "internal/strconv.uint64pow10" = some g := Option.isSome_iff_exists.1 (by kernel_rfl)
  unfold Lib.TabIs World.var? at h ⊢
  rw [hgn] at h ⊢
  simp only [Option.bind_some] at h ⊢
  have hlt : g < w.heap.size := by
    rcases Nat.lt_or_ge g w.heap.size with h' | h'
    · exact h'
    · rw [Array.getElem?_eq_none h'] at h; cases h
  rw [hb.block g hlt]
  exact h
theorem EnvS.below {w w' : World} (h : EnvS w) (hb : Below w.heap.size w w') : EnvS w' := by
  obtain ⟨m, hm⟩ := h
  exact ⟨m, by rw [hb.cell (cell_lt hm)]; exact hm⟩
theorem Env.below {w w' : World} (h : Env w) (hb : Below w.heap.size w w') : Env w' := by
  obtain ⟨⟨m, hm⟩, ht⟩ := h
  exact ⟨⟨m, by rw [hb.cell (cell_lt hm)]; exact hm⟩, tab_below ht hb⟩
def wordsText : ByteArray := ⟨([110, 111, 112, 32, 115, 101, 110, 100, 32, 114, 101, 99, 118, 32, 99, 108, 111, 115, 101, 32, 115, 101, 108, 101, 99, 116, 32, 108, 111, 99, 107, 32, 117, 110, 108].append [111, 99, 107, 32, 111, 110, 99, 101, 32, 101, 110, 100, 32, 103, 111, 32, 114, 101, 97, 100, 32, 119, 114, 105, 116, 101, 32, 106, 117, 109, 112, 32, 101, 108, 115, 101]).toArray⟩
theorem words_count : Lib.countB wordsText ⟨#[32]⟩ = 13 := by decide +kernel
theorem words_split : Lib.splitB ⟨#[32]⟩ 0 13 wordsText = wordsB := by decide +kernel
theorem splitWords (w : World) (hE : EnvS w) : Calls Tryd.prog 20 #[.string wordsText, .string ⟨#[32]⟩] w fun e w' => e = .returned (.slice (some ⟨w.heap.size, 0, none⟩) 14 14) ∧ w' = w.alloc (.cells (wordsB.map Value.string).toArray 9) := by
  obtain ⟨m, hm⟩ := hE
  have := Tryd.strings_Split wordsText ⟨#[32]⟩ m w (by decide +kernel) hm (by decide +kernel)
  rw [words_count, words_split] at this
  exact this
def PairTo (w : World) (S : ByteArray) (why : Int) (e : Ending) (w' : World) : Prop := e = .returned (.tuple #[.string S, .int .i64 why]) ∧ Below w.heap.size w w'
def nameZ (op : Int) : ByteArray × Int := if 0 ≤ op ∧ op < 14 then (wordB op, 0) else (⟨#[]⟩, 1)
set_option maxRecDepth 100000 in
set_option maxHeartbeats 4000000 in
theorem Name_bad (op : Int) (w : World) (h : op < 0 ∨ 14 ≤ op) : Calls Tryd.prog 9 #[.int .i64 op] w (PairTo w ⟨#[]⟩ 1) := by
  by_cases h0 : op < 0
  · go_enter Tryd.func9, Tryd.ntmps9
    go_wp2_with fail
    go_ret2
    exact ⟨rfl, Below.refl _ _⟩
  · have h1 : 14 ≤ op := by omega
    go_enter Tryd.func9, Tryd.ntmps9
    go_wp2_with fail
    go_ret2
    exact ⟨rfl, Below.refl _ _⟩
set_option maxRecDepth 100000 in
set_option maxHeartbeats 4000000 in
theorem Name_ok (k : Nat) (w : World) (hk : k < 14) (hE : Env w) : Calls Tryd.prog 9 #[.int .i64 (k : Int)] w (PairTo w (wordB (k : Int)) 0) := by
  have hc : (w.alloc (.cells (wordsB.map Value.string).toArray 9)).cell? ⟨w.heap.size, k, none⟩ = some (.string (wordB (k : Int))) := by
    rw [cell_of_row _ _ k _ 9 (0, 0) (heap_alloc_new w _)]
    have hl : k < wordsB.length := hk
    simp only [List.getElem?_toArray, List.getElem?_map, wordB, Int.toNat_natCast, List.getD_eq_getElem?_getD]
    rw [List.getElem?_eq_getElem hl]; rfl
  have HW := splitWords w hE.1
  unfold wordsText at HW
  have HW' := Lib.hid HW
  clear HW
  have hk' : (k : Int) < 14 := by omega
  have hk2 : ¬ (14 : Int) ≤ (k : Int) := by omega
  have hk3 : ¬ (k : Int) < 0 := by omega
  clear hE
  go_enter Tryd.func9, Tryd.ntmps9
  go_wp2_with fail
  refine HW'.out.mono ?_
  rintro e w1 ⟨rfl, rfl⟩
  obtain ⟨W, hW⟩ : ∃ W, W = w.alloc (.cells (wordsB.map Value.string).toArray 9) := ⟨_, rfl⟩
  have hb := below_alloc w (.cells (wordsB.map Value.string).toArray 9)
  rw [← hW] at hc hb ⊢
  clear hW
  go_wp2_with fail
  go_ret2
  exact ⟨rfl, hb⟩
end Go.Proofs.YtpdlfijcicboiaaDoor
