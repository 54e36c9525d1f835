/- RingGrows: the walk. -/
import Derived.Test.YtamaocnehneilaaHelp
namespace Go.Proofs.Ytamaocnehneilaa
open Go.RowKit
structure GInv (w : World) (A n cnt : Nat) (sa : Option Addr) (scap : Nat) (zs L : List Int) (W : World) : Prop where
  box : Box4 W A (.int .i64 n) (.int .i64 0) (.slice sa n scap) (.int .i64 cnt)
  slots : Ints W sa n scap zs
  tak : takenL n 0 cnt zs = L
  below : Below w.heap.size w W
  base : w.heap.size ≤ A
theorem GInv.later {w W W' : World} {A n cnt : Nat} {sa : Option Addr} {scap : Nat} {zs L : List Int} (h : GInv w A n cnt sa scap zs L W) (hb : Below W.heap.size W W') : GInv w A n cnt sa scap zs L W' :=
  ⟨h.box.below hb, h.slots.below hb, h.tak, h.below.trans (hb.mono h.below.size), h.base⟩
theorem ginv_set {w W : World} {A n cnt : Nat} {sa : Option Addr} {scap : Nat} {zs L : List Int} {x0 x1 x2 x3 : Value} (hbox : Box4 W A x0 x1 x2 x3) (hs : Ints W sa n scap zs) (hsR : ∀ x, sa = some x → x.block ≠ A) (ht : takenL n 0 cnt zs = L) (hb : Below w.heap.size w W) (hA : w.heap.size ≤ A) :
    GInv w A n cnt sa scap zs L (set4 W A (.int .i64 n) (.int .i64 0) (.slice sa n scap) (.int .i64 cnt)) := by
  refine ⟨set4_at hbox _ _ _ _, ⟨hs.len_eq, hs.le_cap, hs.cap_le, hs.none_, hs.bound, fun i hi => ?_⟩, ht, set4_below hb hA _ _ _ _, hA⟩
  obtain ⟨b, off, e, hc⟩ := hs.cell i hi
  exact ⟨b, off, e, (World.cell?_of_block (a := ⟨b, off + i, none⟩) (set4_other _ _ _ _ _ _ _ (hsR ⟨b, off, none⟩ e))).trans hc⟩
theorem Ints.lt2 {w : World} {a : Option Addr} {len cap : Nat} {l : List Int} (h : Ints w a len cap l) : ∀ x, a = some x → 0 < len → x.block < w.heap.size := by
  intro x hx hp
  obtain ⟨b, off, ha, hc⟩ := h.cell 0 hp
  rw [hx] at ha; cases ha
  exact World.block_lt_of_cell? _ _ hc
theorem Ints.kept4 {w : World} {a : Option Addr} {len cap : Nat} {l : List Int} (h : Ints w a len cap l) (A : Nat) (hk : ∀ x, a = some x → 0 < len → x.block ≠ A) (v0 v1 v2 v3 : Value) : Ints (set4 w A v0 v1 v2 v3) a len cap l := by
  refine ⟨h.len_eq, h.le_cap, h.cap_le, h.none_, h.bound, fun i hi => ?_⟩
  obtain ⟨b, off, e, hc⟩ := h.cell i hi
  exact ⟨b, off, e, (World.cell?_of_block (a := ⟨b, off + i, none⟩) (set4_other _ _ _ _ _ _ _ (hk ⟨b, off, none⟩ e (by omega)))).trans hc⟩
theorem head_snoc {k : Nat} {M : List Int} {v y : Int} (h : 0 < k → M.head? = some v) (hl : M.length = k) (hy : k = 0 → y = v) : (M ++ [y]).head? = some v := by
  cases M with
  | nil => simp at hl; simp [hy hl.symm]
  | cons x xs => simp at hl; simpa using h (by omega)
theorem wrap64_i64 (z : Int) : I64 (wrap64 z) := by unfold wrap64 I64; omega
theorem head_of {n cnt k1 : Nat} {zs T M : List Int} {v : Int} (hl : zs.length = n) (ht : takenL n 0 cnt zs = T ++ M) (hc : cnt = k1 + 1) (hn : cnt ≤ n) (hM : T = [] → M.head? = some v) : en zs 0 = if 0 < T.length then en T 0 else v := by
  have h := taken_pop n 0 k1 zs hl (by omega) (by omega)
  rw [← hc, ht] at h
  cases T with
  | nil =>
    have := hM rfl
    rw [List.nil_append] at h
    rw [h] at this
    simp at this; simp [this]
  | cons y ys =>
    simp at h
    simp [en_cons_zero, h.1]
set_option maxRecDepth 100000 in
set_option maxHeartbeats 4000000 in
theorem grows_bad (c first count : Int) (a : Option Addr) (len l2 cap : Nat) (L : List Int) (n v : Int) (w : World) (hc : I64 c) (hf : I64 first) (hk : I64 count) (hl2 : l2 = min len 12) (hI : Ints w a l2 cap L) (hlc : len ≤ cap) (hbad : rightZ c first l2 count = false) :
    Calls Try.prog 5 #[ringV c first (.slice a len cap) count, .int .i64 n, .int .i64 v] w (Says w) := by
  have hcm := hI.cap_le
  unfold maxLen at hcm
  have hll := hI.len_le
  have hFew := Lib.hid (fun W => few_any c first count a len cap W hlc (by omega))
  rw [← hl2] at hFew
  have HI := Lib.hid hI; clear hI
  have hIt := Lib.hid (fun W => Items_bad c first count a l2 cap W hc hf hk (by omega) hbad)
  have hGr := Lib.hid (fun W => Grow_bad c first count a l2 cap n W hc hf hk (by omega) hbad)
  have hEm := Lib.hid empty_zero
  clear hbad hl2
  unfold NoRing at hGr
  unfold NoItems at hIt
  unfold ringV at *
  go_enter Try.func5, Try.ntmps5
  go_wp2_with fail
  refine (hFew.out _).mono ?_
  rintro e w1 ⟨rfl, hb1⟩
  obtain ⟨h1, hB, hsz⟩ := box1 _ _ hb1
  obtain ⟨q0, q1, q2, q3⟩ := cells4 h1
  obtain ⟨f0, f1, f2, f3⟩ := froz4 h1
  have hR2 := set4_at h1 (.int .i64 c) (.int .i64 first) (.slice a l2 cap) (.int .i64 count)
  have hb2 := set4_below hB (Nat.le_refl _) (.int .i64 c) (.int .i64 first) (.slice a l2 cap) (.int .i64 count)
  have RI_0 := Lib.hid (HI.out.below hb2)
  have BR_0 : Hid (Box4 _ _ _ _ _ _) := Lib.hid hR2
  have BEL_0 := Lib.hid hb2
  clear h1 hB hb1 hb2 hR2
  go_wp2_with fail
  clear q0 q1 q2 q3 f0 f1 f2 f3
  obtain ⟨X0, hX0⟩ : ∃ x, x = set4 w1 w.heap.size (.int .i64 c) (.int .i64 first) (.slice a l2 cap) (.int .i64 count) := ⟨_, rfl⟩
  rw [← hX0] at RI_0 BR_0 BEL_0
  unfold set4 at hX0
  rw [← hX0]
  clear hX0
  refine (hIt.out _).mono ?_
  rintro e w1 ⟨rfl, hb⟩
  have RI_1 := Lib.hid (RI_0.out.below hb)
  have BR_1 := Lib.hid (BR_0.out.below hb)
  have BEL_1 := Lib.hid (BEL_0.out.trans (Below.mono hb BEL_0.out.size))
  clear RI_0 BR_0 BEL_0
  clear hb
  obtain ⟨pBR0, pBR1, pBR2, pBR3⟩ := BR_1.out.cells
  have lBR := BR_1.out.lt
  go_wp2_with fail
  clear pBR0 pBR1 pBR2 pBR3 lBR
  refine (hGr.out _).mono ?_
  rintro e w2 ⟨rfl, hb⟩
  have RI_2 := Lib.hid (RI_1.out.below hb)
  have BR_2 := Lib.hid (BR_1.out.below hb)
  have BEL_2 := Lib.hid (BEL_1.out.trans (Below.mono hb BEL_1.out.size))
  clear RI_1 BR_1 BEL_1
  clear hb
  obtain ⟨pBR0, pBR1, pBR2, pBR3⟩ := BR_2.out.cells
  have lBR := BR_2.out.lt
  go_wp2_with fail
  have hb := below_alloc w2 (.cells #[.int .i64 0, .int .i64 0, .slice none 0 0, .int .i64 0] 24)
  have RI_3 := Lib.hid (RI_2.out.below hb)
  have BR_3 := Lib.hid (BR_2.out.below hb)
  have BEL_3 := Lib.hid (BEL_2.out.trans (Below.mono hb BEL_2.out.size))
  clear RI_2 BR_2 BEL_2
  have BA_3 := Lib.hid (Box4.new w2 (.int .i64 0) (.int .i64 0) (.slice none 0 0) (.int .i64 0))
  clear hb
  clear pBR0 pBR1 pBR2 pBR3 lBR
  obtain ⟨X3, hX3⟩ : ∃ x, x = w2.alloc (.cells #[.int .i64 0, .int .i64 0, .slice none 0 0, .int .i64 0] 24) := ⟨_, rfl⟩
  obtain ⟨BBA, hBBA⟩ : ∃ x, x = w2.heap.size := ⟨_, rfl⟩
  rw [← hX3] at RI_3 BR_3 BA_3 BEL_3 ⊢
  rw [← hBBA] at BA_3 ⊢
  clear hX3 hBBA
  refine (alive_any _).mono ?_
  rintro e w4 ⟨rfl, hb⟩
  have RI_4 := Lib.hid (RI_3.out.below hb)
  have BR_4 := Lib.hid (BR_3.out.below hb)
  have BA_4 := Lib.hid (BA_3.out.below hb)
  have BEL_4 := Lib.hid (BEL_3.out.trans (Below.mono hb BEL_3.out.size))
  clear RI_3 BR_3 BA_3 BEL_3
  clear hb
  obtain ⟨pBA0, pBA1, pBA2, pBA3⟩ := BA_4.out.cells
  have lBA := BA_4.out.lt
  go_wp2_with fail
  clear pBA0 pBA1 pBA2 pBA3 lBA
  refine (hEm.out _).mono ?_
  rintro e w5 ⟨rfl, hb⟩
  have RI_5 := Lib.hid (RI_4.out.below hb)
  have BR_5 := Lib.hid (BR_4.out.below hb)
  have BA_5 := Lib.hid (BA_4.out.below hb)
  have BEL_5 := Lib.hid (BEL_4.out.trans (Below.mono hb BEL_4.out.size))
  clear RI_4 BR_4 BA_4 BEL_4
  clear hb
  go_wp2_with fail
  go_ret
  exact ⟨ret_bool rfl, BEL_5.out⟩
set_option maxRecDepth 100000 in
set_option maxHeartbeats 4000000 in
theorem grows_small (c first count : Nat) (a : Option Addr) (len cap : Nat) (zs : List Int) (n v : Int) (w : World) (hl2 : c = min len 12) (hI : Ints w a c cap zs) (hlc : len ≤ cap) (hc8 : c ≤ 8) (hf : first < max c 1) (hkc : count ≤ c) (hn : n < count ∨ 8 < n) (hnI : I64 n) :
    Calls Try.prog 5 #[ringV c first (.slice a len cap) count, .int .i64 n, .int .i64 v] w (Says w) := by
  have hcm := hI.cap_le
  unfold maxLen at hcm
  have hFew := Lib.hid (fun W => few_any c first count a len cap W hlc (by omega))
  rw [← hl2] at hFew
  have HI := Lib.hid hI; clear hI
  have hIt := Lib.hid (fun W (h : Ints W a c cap zs) => Items_ok c first count a cap zs W h hc8 hf hkc)
  have hGr := Lib.hid (fun W => Grow_size c first count a cap n W hc8 hf (by omega) hn hnI)
  have HTL := Lib.hid (taken_len c first count zs)
  have HTB := Lib.hid (taken_i64 (c := c) (first := first) (count := count) HI.out.bound)
  obtain ⟨T, hT⟩ : ∃ T, T = takenL c first count zs := ⟨_, rfl⟩
  rw [← hT] at hIt HTL HTB
  have HT := Lib.hid hT
  clear hT hl2
  unfold GotItems at hIt
  unfold NoRing at hGr
  have hEm := Lib.hid empty_zero
  clear hn
  unfold ringV at *
  go_enter Try.func5, Try.ntmps5
  go_wp2_with fail
  refine (hFew.out _).mono ?_
  rintro e w1 ⟨rfl, hb1⟩
  obtain ⟨h1, hB, hsz⟩ := box1 _ _ hb1
  obtain ⟨q0, q1, q2, q3⟩ := cells4 h1
  obtain ⟨f0, f1, f2, f3⟩ := froz4 h1
  have hR2 := set4_at h1 (.int .i64 c) (.int .i64 first) (.slice a c cap) (.int .i64 count)
  have hb2 := set4_below hB (Nat.le_refl _) (.int .i64 c) (.int .i64 first) (.slice a c cap) (.int .i64 count)
  have RI_0 := Lib.hid (HI.out.below hb2)
  have BR_0 : Hid (Box4 _ _ _ _ _ _) := Lib.hid hR2
  have BEL_0 := Lib.hid hb2
  clear h1 hB hb1 hb2 hR2
  go_wp2_with fail
  clear q0 q1 q2 q3 f0 f1 f2 f3
  obtain ⟨X0, hX0⟩ : ∃ x, x = set4 w1 w.heap.size (.int .i64 c) (.int .i64 first) (.slice a c cap) (.int .i64 count) := ⟨_, rfl⟩
  rw [← hX0] at RI_0 BR_0 BEL_0
  unfold set4 at hX0
  rw [← hX0]
  clear hX0
  refine (hIt.out _ RI_0.out).mono ?_
  rintro e w1 ⟨ia, inn, icap, rfl, hi, hb⟩
  have RI_1 := Lib.hid (RI_0.out.below hb)
  have BR_1 := Lib.hid (BR_0.out.below hb)
  have BEL_1 := Lib.hid (BEL_0.out.trans (Below.mono hb BEL_0.out.size))
  clear RI_0 BR_0 BEL_0
  have II_1 := Lib.hid (hi)
  clear hb hi
  obtain ⟨pBR0, pBR1, pBR2, pBR3⟩ := BR_1.out.cells
  have lBR := BR_1.out.lt
  go_wp2_with fail
  clear pBR0 pBR1 pBR2 pBR3 lBR
  refine (hGr.out _).mono ?_
  rintro e w2 ⟨rfl, hb⟩
  have RI_2 := Lib.hid (RI_1.out.below hb)
  have BR_2 := Lib.hid (BR_1.out.below hb)
  have II_2 := Lib.hid (II_1.out.below hb)
  have BEL_2 := Lib.hid (BEL_1.out.trans (Below.mono hb BEL_1.out.size))
  clear RI_1 BR_1 II_1 BEL_1
  clear hb
  obtain ⟨pBR0, pBR1, pBR2, pBR3⟩ := BR_2.out.cells
  have lBR := BR_2.out.lt
  go_wp2_with fail
  have hb := below_alloc w2 (.cells #[.int .i64 0, .int .i64 0, .slice none 0 0, .int .i64 0] 24)
  have RI_3 := Lib.hid (RI_2.out.below hb)
  have BR_3 := Lib.hid (BR_2.out.below hb)
  have II_3 := Lib.hid (II_2.out.below hb)
  have BEL_3 := Lib.hid (BEL_2.out.trans (Below.mono hb BEL_2.out.size))
  clear RI_2 BR_2 II_2 BEL_2
  have BA_3 := Lib.hid (Box4.new w2 (.int .i64 0) (.int .i64 0) (.slice none 0 0) (.int .i64 0))
  clear hb
  clear pBR0 pBR1 pBR2 pBR3 lBR
  obtain ⟨X3, hX3⟩ : ∃ x, x = w2.alloc (.cells #[.int .i64 0, .int .i64 0, .slice none 0 0, .int .i64 0] 24) := ⟨_, rfl⟩
  obtain ⟨BBA, hBBA⟩ : ∃ x, x = w2.heap.size := ⟨_, rfl⟩
  rw [← hX3] at RI_3 BR_3 II_3 BA_3 BEL_3 ⊢
  rw [← hBBA] at BA_3 ⊢
  clear hX3 hBBA
  refine (alive_any _).mono ?_
  rintro e w4 ⟨rfl, hb⟩
  have RI_4 := Lib.hid (RI_3.out.below hb)
  have BR_4 := Lib.hid (BR_3.out.below hb)
  have II_4 := Lib.hid (II_3.out.below hb)
  have BA_4 := Lib.hid (BA_3.out.below hb)
  have BEL_4 := Lib.hid (BEL_3.out.trans (Below.mono hb BEL_3.out.size))
  clear RI_3 BR_3 II_3 BA_3 BEL_3
  clear hb
  obtain ⟨pBA0, pBA1, pBA2, pBA3⟩ := BA_4.out.cells
  have lBA := BA_4.out.lt
  go_wp2_with fail
  clear pBA0 pBA1 pBA2 pBA3 lBA
  refine (hEm.out _).mono ?_
  rintro e w5 ⟨rfl, hb⟩
  have RI_5 := Lib.hid (RI_4.out.below hb)
  have BR_5 := Lib.hid (BR_4.out.below hb)
  have II_5 := Lib.hid (II_4.out.below hb)
  have BA_5 := Lib.hid (BA_4.out.below hb)
  have BEL_5 := Lib.hid (BEL_4.out.trans (Below.mono hb BEL_4.out.size))
  clear RI_4 BR_4 II_4 BA_4 BEL_4
  clear hb
  go_wp2_with fail
  go_ret
  exact ⟨ret_bool rfl, BEL_5.out⟩
end Go.Proofs.Ytamaocnehneilaa
