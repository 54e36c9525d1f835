/- New; the laws' few. -/
import Derived.Test.YtfolhgpbplfilaaD2
namespace Go.Proofs.Ytfolhgpbplfilaa
open Go.RowKit
def GotN (w : World) (c : Chn) (why : Int) (e : Ending) (w' : World) : Prop := ∃ q, e = .returned (.tuple #[chV c q, .int .i64 why]) ∧ Cha w' c q ∧ (∀ B, B < w.heap.size → Ap q B) ∧ Below w.heap.size w w'
def newC (n : Int) : Chn := ⟨n, false, max n 0, 0, List.replicate (max n 0).toNat 0, 0, 0, 0, [], []⟩
set_option maxRecDepth 100000 in
set_option maxHeartbeats 4000000 in
theorem CNew_no (n : Int) (w : World) (h : n < -1 ∨ 3 < n) (hn : I64 n) : Calls Try.prog 8 #[.int .i64 n] w (GotN w zeroC 2) := by
  unfold I64 at hn
  rcases h with h | h
  all_goals
    go_enter Try.func8, Try.ntmps8
    go_wp2_with fail
    exact bodyPost_ret (v := .tuple #[.agg zero10, .int .i64 2]) (by rw [res_c1 Try.results8 _ (by rfl) ((Bx.new w zero10 27).load Try.underlying27 infC)]; rfl) rfl ⟨zeroA, rfl, Cha.zero _, fun _ _ => ⟨(fun y h => by cases h), (fun y h => by cases h), (fun y h => by cases h)⟩, below_alloc w _⟩
set_option maxRecDepth 100000 in
set_option maxHeartbeats 4000000 in
theorem CNew_ok (n : Int) (w : World) (h : -1 ≤ n) (h3 : n ≤ 3) : Calls Try.prog 8 #[.int .i64 n] w (GotN w (newC n) 0) := by
  obtain ⟨k, hk⟩ : ∃ k : Nat, (k : Int) = max n 0 := ⟨(max n 0).toNat, by omega⟩
  have HC := Lib.hid (show newC n = ⟨n, false, (k : Int), 0, List.replicate k 0, 0, 0, 0, [], []⟩ by unfold newC; rw [← hk]; rfl)
  have A0 := Lib.hid (below_alloc w (.cells zero10 27))
  have K0 := Lib.hid (Bx.new w zero10 27)
  have hcn : (n < 0 ∧ (k : Int) = 0) ∨ (0 ≤ n ∧ (k : Int) = n) := by omega
  have HNI := Lib.hid (show I64 n from ⟨by omega, by omega⟩)
  have HK3 := Lib.hid (show k ≤ 3 by omega)
  clear hk
  rcases hcn with ⟨hc, hkk⟩ | ⟨hc, hkk⟩
  · obtain rfl : k = 0 := by omega
    clear hkk
    have HNW := Lib.hid (show ∀ W, Calls Try.prog 28 #[.int .i64 0] W (fun e w' => ∃ a cap, e = .returned (.tuple #[.agg #[.int .i64 0, .int .i64 0, .slice a 0 cap, .int .i64 0], .int .i64 0]) ∧ Ints w' a 0 cap (List.replicate 0 0) ∧ Below W.heap.size W w' ∧ ∀ x, a = some x → W.heap.size ≤ x.block) from fun W => New_ok 0 W (by omega))
    go_enter Try.func8, Try.ntmps8
    go_wp2_with fail
    refine (HNW.out (w.alloc (.cells zero10 27))).mono ?_
    rintro e w1 ⟨a, cp, rfl, hz, hb, hf⟩
    have A1 := Lib.hid (A0.out.trans (Below.mono hb A0.out.size)); have K1 := Lib.hid (K0.out.below hb); have HZ := Lib.hid hz
    have HF := Lib.hid (show ∀ x, a = some x → 0 < 0 → x.block ≠ w.heap.size from fun x hx _ he => by have := hf x hx; have := K0.out.lt; omega)
    have HFW := Lib.hid (show ∀ x, a = some x → w.heap.size ≤ x.block from fun x hx => Nat.le_trans A0.out.size (hf x hx))
    clear hb hz hf
    have lw := K1.out.lt
    have A2 := Lib.hid (A1.out.alloc A1.out.size (.cells #[.int .i64 0, .int .i64 0, .slice a 0 cp, .int .i64 0] 24))
    have K2 := Lib.hid (K1.out.below (below_alloc w1 (.cells #[.int .i64 0, .int .i64 0, .slice a 0 cp, .int .i64 0] 24)))
    have HZ2 := Lib.hid (HZ.out.below (below_alloc w1 (.cells #[.int .i64 0, .int .i64 0, .slice a 0 cp, .int .i64 0] 24)))
    have Y2 := Lib.hid (Bx.new w1 #[.int .i64 0, .int .i64 0, .slice a 0 cp, .int .i64 0] 24)
    go_upto_region 4 with (fail)
    obtain ⟨X, hX⟩ : ∃ X, X = w1.alloc (.cells #[.int .i64 0, .int .i64 0, .slice a 0 cp, .int .i64 0] 24) := ⟨_, rfl⟩
    obtain ⟨bz, hbz⟩ : ∃ b, b = w1.heap.size := ⟨_, rfl⟩
    obtain ⟨b0, hb0⟩ : ∃ b, b = w.heap.size := ⟨_, rfl⟩
    have HB0 := Lib.hid (show w.heap.size ≤ b0 by omega)
    rw [← hX] at A2 K2 HZ2 Y2 ⊢
    rw [← hbz] at Y2 lw ⊢
    rw [← hb0] at K2 HF lw ⊢
    have nz0 : bz ≠ b0 := by omega
    clear hX hbz hb0 lw
    obtain ⟨t0, t1, t2, t3, t4, t5, t6, t7, t8, t9⟩ := K2.out.cells10
    obtain ⟨y0, y1, y2, y3⟩ := Y2.out.cells4
    have lx0 := K2.out.lt; have lxz := Y2.out.lt
    have f0 := K2.out.froz 0; have f1 := K2.out.froz 1; have f2 := K2.out.froz 2; have f3 := K2.out.froz 3; have f4 := K2.out.froz 4; have f5 := K2.out.froz 5; have f6 := K2.out.froz 6; have f7 := K2.out.froz 7; have f8 := K2.out.froz 8; have f9 := K2.out.froz 9
    have E1 := Lib.hid (K2.out.st10 (.int .i64 n) (.bool false) (.int .i64 0) (.int .i64 0) (.slice a 0 cp) (.int .i64 0) (.int .i64 0) (.int .i64 0) (.slice none 0 0) (.slice none 0 0))
    have E3 := Lib.hid (below_st10 A2.out HB0.out (.int .i64 n) (.bool false) (.int .i64 0) (.int .i64 0) (.slice a 0 cp) (.int .i64 0) (.int .i64 0) (.int .i64 0) (.slice none 0 0) (.slice none 0 0))
    have E4 := Lib.hid (HZ2.out.other HF.out (grown_st10 (World.grownBy.refl _ (some b0)) (.int .i64 n) (.bool false) (.int .i64 0) (.int .i64 0) (.slice a 0 cp) (.int .i64 0) (.int .i64 0) (.int .i64 0) (.slice none 0 0) (.slice none 0 0)))
    go_wp2_with fail
    exact bodyPost_ret (v := .tuple #[chV ⟨n, false, 0, 0, List.replicate 0 0, 0, 0, 0, [], []⟩ ⟨a, 0, cp, none, 0, 0, none, 0, 0⟩, .int .i64 0]) (by rw [res_c1 Try.results8 _ (by rfl) (E1.out.load Try.underlying27 infC)]; rfl) rfl ⟨⟨a, 0, cp, none, 0, 0, none, 0, 0⟩, (by rw [HC.out]; try rfl), by rw [HC.out]; exact ⟨HNI.out, ⟨by have := HK3.out; simp only; omega, by have := HK3.out; simp only; omega⟩, ⟨by simp, by simp⟩, ⟨by simp, by simp⟩, ⟨by simp, by simp⟩, ⟨by simp, by simp⟩, E4.out, Wts.nil _, Wts.nil _⟩, fun B hB => ⟨fun x hx h0 he => by have := HFW.out x hx; omega, (fun y h => by cases h), (fun y h => by cases h)⟩, E3.out⟩
  · obtain rfl : n = (k : Int) := hkk.symm
    clear hkk
    have HNW := Lib.hid (show ∀ W, Calls Try.prog 28 #[.int .i64 (k : Int)] W (fun e w' => ∃ a cap, e = .returned (.tuple #[.agg #[.int .i64 (k : Int), .int .i64 0, .slice a k cap, .int .i64 0], .int .i64 0]) ∧ Ints w' a k cap (List.replicate k 0) ∧ Below W.heap.size W w' ∧ ∀ x, a = some x → W.heap.size ≤ x.block) from fun W => New_ok k W (by omega))
    go_enter Try.func8, Try.ntmps8
    go_wp2_with fail
    refine (HNW.out (w.alloc (.cells zero10 27))).mono ?_
    rintro e w1 ⟨a, cp, rfl, hz, hb, hf⟩
    have A1 := Lib.hid (A0.out.trans (Below.mono hb A0.out.size)); have K1 := Lib.hid (K0.out.below hb); have HZ := Lib.hid hz
    have HF := Lib.hid (show ∀ x, a = some x → 0 < k → x.block ≠ w.heap.size from fun x hx _ he => by have := hf x hx; have := K0.out.lt; omega)
    have HFW := Lib.hid (show ∀ x, a = some x → w.heap.size ≤ x.block from fun x hx => Nat.le_trans A0.out.size (hf x hx))
    clear hb hz hf
    have lw := K1.out.lt
    have A2 := Lib.hid (A1.out.alloc A1.out.size (.cells #[.int .i64 (k : Int), .int .i64 0, .slice a k cp, .int .i64 0] 24))
    have K2 := Lib.hid (K1.out.below (below_alloc w1 (.cells #[.int .i64 (k : Int), .int .i64 0, .slice a k cp, .int .i64 0] 24)))
    have HZ2 := Lib.hid (HZ.out.below (below_alloc w1 (.cells #[.int .i64 (k : Int), .int .i64 0, .slice a k cp, .int .i64 0] 24)))
    have Y2 := Lib.hid (Bx.new w1 #[.int .i64 (k : Int), .int .i64 0, .slice a k cp, .int .i64 0] 24)
    go_upto_region 4 with (fail)
    obtain ⟨X, hX⟩ : ∃ X, X = w1.alloc (.cells #[.int .i64 (k : Int), .int .i64 0, .slice a k cp, .int .i64 0] 24) := ⟨_, rfl⟩
    obtain ⟨bz, hbz⟩ : ∃ b, b = w1.heap.size := ⟨_, rfl⟩
    obtain ⟨b0, hb0⟩ : ∃ b, b = w.heap.size := ⟨_, rfl⟩
    have HB0 := Lib.hid (show w.heap.size ≤ b0 by omega)
    rw [← hX] at A2 K2 HZ2 Y2 ⊢
    rw [← hbz] at Y2 lw ⊢
    rw [← hb0] at K2 HF lw ⊢
    have nz0 : bz ≠ b0 := by omega
    clear hX hbz hb0 lw
    obtain ⟨t0, t1, t2, t3, t4, t5, t6, t7, t8, t9⟩ := K2.out.cells10
    obtain ⟨y0, y1, y2, y3⟩ := Y2.out.cells4
    have lx0 := K2.out.lt; have lxz := Y2.out.lt
    have f0 := K2.out.froz 0; have f1 := K2.out.froz 1; have f2 := K2.out.froz 2; have f3 := K2.out.froz 3; have f4 := K2.out.froz 4; have f5 := K2.out.froz 5; have f6 := K2.out.froz 6; have f7 := K2.out.froz 7; have f8 := K2.out.froz 8; have f9 := K2.out.froz 9
    have E1 := Lib.hid (K2.out.st10 (.int .i64 k) (.bool false) (.int .i64 (k : Int)) (.int .i64 0) (.slice a k cp) (.int .i64 0) (.int .i64 0) (.int .i64 0) (.slice none 0 0) (.slice none 0 0))
    have E3 := Lib.hid (below_st10 A2.out HB0.out (.int .i64 k) (.bool false) (.int .i64 (k : Int)) (.int .i64 0) (.slice a k cp) (.int .i64 0) (.int .i64 0) (.int .i64 0) (.slice none 0 0) (.slice none 0 0))
    have E4 := Lib.hid (HZ2.out.other HF.out (grown_st10 (World.grownBy.refl _ (some b0)) (.int .i64 k) (.bool false) (.int .i64 (k : Int)) (.int .i64 0) (.slice a k cp) (.int .i64 0) (.int .i64 0) (.int .i64 0) (.slice none 0 0) (.slice none 0 0)))
    go_wp2_with fail
    exact bodyPost_ret (v := .tuple #[chV ⟨k, false, k, 0, List.replicate k 0, 0, 0, 0, [], []⟩ ⟨a, k, cp, none, 0, 0, none, 0, 0⟩, .int .i64 0]) (by rw [res_c1 Try.results8 _ (by rfl) (E1.out.load Try.underlying27 infC)]; rfl) rfl ⟨⟨a, k, cp, none, 0, 0, none, 0, 0⟩, (by rw [HC.out]; try rfl), by rw [HC.out]; exact ⟨HNI.out, ⟨by have := HK3.out; simp only; omega, by have := HK3.out; simp only; omega⟩, ⟨by simp, by simp⟩, ⟨by simp, by simp⟩, ⟨by simp, by simp⟩, ⟨by simp, by simp⟩, E4.out, Wts.nil _, Wts.nil _⟩, fun B hB => ⟨fun x hx h0 he => by have := HFW.out x hx; omega, (fun y h => by cases h), (fun y h => by cases h)⟩, E3.out⟩
end Go.Proofs.Ytfolhgpbplfilaa
