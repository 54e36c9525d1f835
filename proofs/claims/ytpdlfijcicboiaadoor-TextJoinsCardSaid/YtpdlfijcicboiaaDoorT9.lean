/- The pieces of a text, plainly; the reference that cuts. -/
import Derived.Test.YtpdlfijcicboiaaDoorT8
import Derived.Lib.SplitLaws
namespace Go.Proofs.YtpdlfijcicboiaaDoor
open Go.RowKit
set_option linter.unusedSimpArgs false
set_option linter.unusedVariables false
theorem bytes_ext {a b : ByteArray} (h : a.data.toList = b.data.toList) : a = b := by
  apply ByteArray.ext
  exact Array.toList_inj.1 h
theorem neT {a b : ByteArray} (h : ¬ a = b) : (a.toList == b.toList) = false := by
  rw [beq_eq_false_iff_ne]; intro e; exact h (bytes_ext (by rw [data_toList, data_toList, e]))
theorem eqT {a b : ByteArray} (h : a = b) : (a.toList == b.toList) = true := by rw [h]; simp
def pcB (s sep : ByteArray) : List ByteArray := Lib.splitB sep 0 (Lib.countB s sep) s
theorem pcB_hit (s sep : ByteArray) (i : Nat) (h1 : 1 ≤ sep.size) (h : Lib.indexB s sep = i) : pcB s sep = s.extract 0 i :: pcB (s.extract (i + sep.size) s.size) sep := by
  unfold pcB
  rw [Lib.countB_hit s sep i h1 h, Nat.add_comm 1, Lib.splitB_hit _ _ _ _ i h]; rfl
theorem pcB_miss (s sep : ByteArray) (h : Lib.indexB s sep = -1) : pcB s sep = [s] := by unfold pcB; rw [Lib.splitB_miss _ _ _ _ h]
theorem pcB_len (s sep : ByteArray) (h1 : 1 ≤ sep.size) : (pcB s sep).length = Lib.countB s sep + 1 := Lib.splitB_all sep h1 0 _ s rfl
theorem ex_zero (s : ByteArray) : s.extract 0 s.size = s := bytes_ext (by rw [Lib.extract_to_end]; rfl)
theorem ex_ex (s : ByteArray) (a b c d : Nat) (hd : a + d ≤ b) : (s.extract a b).extract c d = s.extract (a + c) (a + d) := bytes_ext (by
  rw [Lib.extract_data, Lib.extract_data, Lib.extract_data, List.drop_take, List.drop_drop, List.take_take]
  congr 1; omega)
theorem ex_size (s : ByteArray) (a : Nat) : (s.extract a s.size).size = s.size - a := by
  rw [Lib.size_eq, Lib.extract_to_end, List.length_drop, ← Lib.size_eq]
structure CutAt (s sep : ByteArray) (out : List ByteArray) (fr i : Nat) : Prop where
  pc : pcB s sep = out ++ pcB (s.extract fr s.size) sep
  le : fr ≤ i
  top : i ≤ s.size
  no : Lib.NoOcc (s.data.toList.drop fr) sep.data.toList (i - fr)
  len : out.length ≤ fr
theorem occ_ex (s sep : ByteArray) (fr i : Nat) (h : fr ≤ i) (hi : i + sep.size ≤ s.size) : Lib.occAt (s.data.toList.drop fr) sep.data.toList (i - fr) = decide (s.extract i (i + sep.size) = sep) := by
  have hl : s.data.toList.length = s.size := (Lib.size_eq s).symm
  have hm : sep.data.toList.length = sep.size := (Lib.size_eq sep).symm
  rw [Lib.occAt_iff_take _ _ _ (by rw [List.length_drop, hl, hm]; omega), List.drop_drop, show fr + (i - fr) = i by omega, hm]
  have e : (s.extract i (i + sep.size)).data.toList = (s.data.toList.drop i).take sep.size := by rw [Lib.extract_data, Nat.add_sub_cancel_left]
  by_cases hc : s.extract i (i + sep.size) = sep
  · rw [decide_eq_true hc, ← e, hc]; simp
  · rw [decide_eq_false hc, ← e, beq_eq_false_iff_ne]; exact fun h => hc (bytes_ext h)
theorem CutAt.start (s sep : ByteArray) : CutAt s sep [] 0 0 := ⟨by rw [ex_zero]; rfl, Nat.le_refl _, Nat.zero_le _, Lib.NoOcc.zero _ _, Nat.le_refl _⟩
theorem CutAt.hit {s sep : ByteArray} {out : List ByteArray} {fr i : Nat} (h : CutAt s sep out fr i) (h1 : 1 ≤ sep.size) (hi : i + sep.size ≤ s.size) (he : s.extract i (i + sep.size) = sep) : CutAt s sep (out ++ [s.extract fr i]) (i + sep.size) (i + sep.size) := by
  have hx : Lib.indexB (s.extract fr s.size) sep = ((i - fr : Nat) : Int) := by
    show Lib.index _ _ = _
    rw [Lib.extract_to_end]
    refine Lib.index_hit h.no ?_ (by rw [occ_ex s sep fr i h.le hi]; exact decide_eq_true he)
    have := h.le
    rw [List.length_drop, ← Lib.size_eq]; omega
  refine ⟨?_, Nat.le_refl _, hi, by rw [Nat.sub_self]; exact Lib.NoOcc.zero _ _, by have := h.len; have := h.le; simp; omega⟩
  rw [h.pc, pcB_hit _ _ _ h1 hx, List.append_assoc, List.singleton_append, ex_size]
  have := h.le
  rw [ex_ex s fr s.size 0 (i - fr) (by omega), ex_ex s fr s.size (i - fr + sep.size) (s.size - fr) (by omega), Nat.add_zero, show fr + (i - fr) = i by omega, show fr + (i - fr + sep.size) = i + sep.size by omega, show fr + (s.size - fr) = s.size by omega]
theorem CutAt.miss {s sep : ByteArray} {out : List ByteArray} {fr i : Nat} (h : CutAt s sep out fr i) (h1 : 1 ≤ sep.size) (hi : i + sep.size ≤ s.size) (he : ¬ s.extract i (i + sep.size) = sep) : CutAt s sep out fr (i + 1) := by
  have := h.le
  refine ⟨h.pc, by omega, by omega, ?_, h.len⟩
  rw [show i + 1 - fr = (i - fr) + 1 by omega]
  exact Lib.NoOcc.succ h.no (by rw [occ_ex s sep fr i h.le hi]; exact decide_eq_false he)
theorem CutAt.done {s sep : ByteArray} {out : List ByteArray} {fr i : Nat} (h : CutAt s sep out fr i) (h1 : 1 ≤ sep.size) (hi : ¬ i + sep.size ≤ s.size) : out ++ [s.extract fr s.size] = pcB s sep := by
  have := h.le; have := h.top
  have hx : Lib.indexB (s.extract fr s.size) sep = -1 := by
    show Lib.index _ _ = _
    rw [Lib.extract_to_end]
    refine Lib.index_past (fun e => by rw [Lib.size_eq, e] at h1; exact absurd h1 (by decide)) h.no ?_
    rw [List.length_drop, ← Lib.size_eq, ← Lib.size_eq]; omega
  rw [h.pc, pcB_miss _ _ hx]
def encT (x : ByteArray) : List Value := [.string x]
theorem encT_len (x : ByteArray) : (encT x).length = 1 := rfl
theorem encT_one (x : ByteArray) : ∀ u ∈ encT x, u.oneCell' = true := by intro u hu; simp [encT] at hu; subst hu; rfl
theorem ownT_nil (w : World) : OwnR 9 1 encT (w.alloc (.cells #[] 9)) w.heap.size (.slice (some ⟨w.heap.size, 0, none⟩) 0 0) ([] : List ByteArray) :=
  World.ownsRow_lit w #[] 0 (Nat.le_refl _) (by decide) rfl
def Txts (w : World) (a : Option Addr) (n c : Nat) (L : List ByteArray) : Prop := Recs 1 encT w a n c L
def GotT (w : World) (L : List ByteArray) (e : Ending) (w' : World) : Prop := ∃ a n c, e = .returned (.slice a n c) ∧ Txts w' a n c L ∧ Below w.heap.size w w'
def GotTB (w : World) (L : List ByteArray) (e : Ending) (w' : World) : Prop := ∃ g n c cs, e = .returned (.slice (some ⟨g, 0, none⟩) n c) ∧ Txts w' (some ⟨g, 0, none⟩) n c L ∧ Bx w' g cs 9 ∧ Below w.heap.size w w'
theorem OwnR.boxed {w : World} {base : Nat} {v : Value} {L : List ByteArray} (h : OwnR 9 1 encT w base v L) (hL : 0 < L.length) : ∃ g c cs, v = .slice (some ⟨g, 0, none⟩) L.length c ∧ Txts w (some ⟨g, 0, none⟩) L.length c L ∧ Bx w g cs 9 := by
  obtain ⟨a, c, hv, hr⟩ := OwnR.recs encT_len h
  rcases h.2 with ⟨_, hn⟩ | ⟨g, cap, cur, hv2, _, hh, _⟩
  · omega
  · rw [hv] at hv2
    injection hv2 with e1 e2 e3
    subst e1; subst e3
    exact ⟨g, c, cur, hv, hr, hh⟩
set_option maxRecDepth 100000 in
set_option maxHeartbeats 8000000 in
theorem refCut_own (s sep : ByteArray) (w : World) (h1 : 1 ≤ sep.size) (hs : s.size ≤ 10000) (hm : sep.size ≤ 10) : Calls Tryd.prog 26 #[.string s, .string sep] w (GotTB w (pcB s sep)) := by
  have H1 := Lib.hid h1
  have HO0 := Lib.hid (ownT_nil w)
  have B0 := Lib.hid (below_alloc w (.cells #[] 9))
  clear h1
  go_enter Tryd.func26, Tryd.ntmps26
  go_wp2_with fail
  go_loopw [5, 6, 7] (fun v fr i wr => ∃ (L : List ByteArray) (f k : Nat), fr = .int .i64 f ∧ i = .int .i64 k ∧ CutAt s sep L f k ∧ OwnR 9 1 encT wr w.heap.size v L ∧ Below w.heap.size w wr) (fun _ _ i _ => s.size + 1 - (intOf i).toNat)
  case atStart => exact ⟨[], 0, 0, rfl, rfl, CutAt.start s sep, HO0.out, B0.out⟩
  case round =>
    obtain ⟨L, f, k, rfl, rfl, hc, ho, hb⟩ := hrel
    have HC := Lib.hid hc
    have HO := Lib.hid ho
    have HB := Lib.hid hb
    have hle := hc.le
    have htop := hc.top
    have hll := hc.len
    clear hc ho hb
    by_cases hi : k + sep.size ≤ s.size
    · have hi' : (k : Int) + (sep.size : Int) ≤ (s.size : Int) := by omega
      have hk0 : (0 : Int) ≤ (k : Int) := by omega
      by_cases he : s.extract k (k + sep.size) = sep
      · have HN := Lib.hid (HC.out.hit H1.out hi he)
        have BA := below_alloc wr (.cells #[.string (s.extract f k)] 9)
        have S2 := Lib.hid (recs_oneG (k := 1) (enc := encT) (x := s.extract f k) (t := 9) (heap_alloc_new wr (.cells #[.string (s.extract f k)] 9)))
        have O2 := Lib.hid (HO.out.below BA)
        have B2 := Lib.hid (HB.out.trans (Below.mono BA HB.out.size))
        have HZ := Lib.hid B2.out.size
        have HL1 := Lib.hid (show L.length ≤ 100000 by omega)
        clear BA
        go_wp2_with (at_builtin; refine wpList_appG encT_len (by decide) encT_one 40 9 16 _ Tryd.underlying40 Tryd.info9 rfl (by decide) rfl _ _ rfl w.heap.size _ L rfl O2.out ⟨wr.heap.size, 0, none⟩ 1 1 [s.extract f k] rfl S2.out HL1.out (by decide) HZ.out ?_; intro v3 w3 ho3 hg3)
        have B3 := Lib.hid (Below.grown B2.out hg3.out HZ.out (fun r hr => OwnR.lt O2.out r hr))
        go_roundw
        case rel => exact ⟨L ++ [s.extract f k], k + sep.size, k + sep.size, by go_num, by go_num, HN.out, ho3.out, B3.out⟩
        case measure => simp [intOf]; have := H1.out; omega
      · have HN := Lib.hid (HC.out.miss H1.out hi he)
        have he2 := neT he
        go_wp2_with fail
        go_roundw
        case rel => exact ⟨L, f, k + 1, rfl, by go_num, HN.out, HO.out, HB.out⟩
        case measure => simp [intOf]; omega
    · have hi' : ¬ (k : Int) + (sep.size : Int) ≤ (s.size : Int) := by omega
      have HD := Lib.hid (HC.out.done H1.out hi)
      have BA := below_alloc wr (.cells #[.string (s.extract f s.size)] 9)
      have S2 := Lib.hid (recs_oneG (k := 1) (enc := encT) (x := s.extract f s.size) (t := 9) (heap_alloc_new wr (.cells #[.string (s.extract f s.size)] 9)))
      have O2 := Lib.hid (HO.out.below BA)
      have B2 := Lib.hid (HB.out.trans (Below.mono BA HB.out.size))
      have HZ := Lib.hid B2.out.size
      have HL1 := Lib.hid (show L.length ≤ 100000 by omega)
      clear BA
      go_wp2_with (at_builtin; refine wpList_appG encT_len (by decide) encT_one 40 9 16 _ Tryd.underlying40 Tryd.info9 rfl (by decide) rfl _ _ rfl w.heap.size _ L rfl O2.out ⟨wr.heap.size, 0, none⟩ 1 1 [s.extract f s.size] rfl S2.out HL1.out (by decide) HZ.out ?_; intro v3 w3 ho3 hg3)
      obtain ⟨g, c, cs, rfl, hr, hx⟩ := OwnR.boxed ho3.out (by simp)
      have B3 := Lib.hid (Below.grown B2.out hg3.out HZ.out (fun r hr => OwnR.lt O2.out r hr))
      go_ret
      exact ⟨g, _, c, cs, rfl, by rw [← HD.out]; exact hr, hx, B3.out⟩
theorem refCut_any (s sep : ByteArray) (w : World) (h1 : 1 ≤ sep.size) (hs : s.size ≤ 10000) (hm : sep.size ≤ 10) : Calls Tryd.prog 26 #[.string s, .string sep] w (GotT w (pcB s sep)) := by
  refine (refCut_own s sep w h1 hs hm).mono ?_
  rintro e w' ⟨g, n, c, cs, rfl, ht, _, hb⟩
  exact ⟨_, n, c, rfl, ht, hb⟩
end Go.Proofs.YtpdlfijcicboiaaDoor
