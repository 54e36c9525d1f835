/- What locks are asked: the three questions. -/
import Derived.Test.YtipjdkaibkmciaaTold
namespace Go.Proofs.Ytipjdkaibkmciaa
open Go.RowKit
theorem Wts.zero (w : World) (a : Addr) : Wts w (some a) 0 0 [] := ⟨⟨rfl, Nat.le_refl _, by decide, fun _ => rfl, fun i x h => by simp at h⟩, fun x h => by simp at h⟩
theorem Wts.tail {w : World} {bb off len cap : Nat} {y : Wt} {ys : List Wt} (h : Wts w (some ⟨bb, off, none⟩) len cap (y :: ys)) (hk : (1 : Int) < cap) : Wts w (some ⟨bb, off + 3, none⟩) (len - 1) (cap - 1) ys := by
  have h1 := h.recs.len_eq
  have h2 := h.recs.le_cap
  have h3 := h.recs.cap_le
  simp at h1
  refine ⟨⟨by omega, by omega, by omega, fun e => by simp at e, fun i x hx => ?_⟩, fun x hx => h.ok x (List.mem_cons_of_mem _ hx)⟩
  obtain ⟨b, o, e, hc⟩ := h.recs.cell (i + 1) x (by simpa using hx)
  cases e
  refine ⟨bb, off + 3, rfl, fun j v hv => ?_⟩
  have := hc j v hv
  rw [show off + (i + 1) * 3 + j = off + 3 + i * 3 + j by omega] at this
  exact this
theorem own_wts {w : World} {base : Nat} {v : Value} {L : List Wt} (h : OwnW w base v L) (hok : ∀ x ∈ L, WtOk x) : ∃ a n c, v = .slice a n c ∧ Wts w a n c L := by
  obtain ⟨a, c, e, hr⟩ := OwnR.recs wcells_len h
  exact ⟨a, _, c, e, hr, hok⟩
abbrev turnV (h : Bool) (a : Option Addr) (len cap : Nat) (x : Wt) : Value := .agg #[.bool h, .slice a len cap, .int .i64 x.g, .int .i64 x.c, .int .i64 x.s]
set_option maxRecDepth 100000 in
set_option maxHeartbeats 4000000 in
theorem take_arg (h : Bool) (a : Option Addr) (len cap : Nat) (x : Wt) (w : World) (hx : WtOk x) (hm : mayW x = false) :
    Calls Try.prog 17 #[turnV h a len cap x] w (GotA w false [] zeroW false 0 1) := by
  obtain ⟨⟨_, _⟩, ⟨_, _⟩, ⟨_, _⟩⟩ := hx
  have hc : x.g < 0 ∨ (0 ≤ x.g ∧ x.c < 0) ∨ (0 ≤ x.g ∧ 0 ≤ x.c ∧ x.s < 0) := by
    simp [mayW] at hm; omega
  clear hm
  rcases hc with hc | ⟨_, hc⟩ | ⟨_, _, hc⟩
  all_goals
    go_enter Try.func17, Try.ntmps17
    go_wp2_with fail
    refine bodyPost_ret (v := .tuple #[.agg zans, .int .i64 1]) (by first | (rw [res_c1 Try.results17 _ (by rfl) ((Bx.new2 w _ zans 45).load Try.underlying45 inf45)]; rfl)) rfl ⟨none, 0, 0, rfl, Wts.nil _, ?_, fun x hx => by cases hx⟩
    exact (below_alloc w _).alloc (by simp) _
set_option maxRecDepth 100000 in
set_option maxHeartbeats 4000000 in
theorem take_free (a : Option Addr) (len cap : Nat) (x : Wt) (w : World) (hx : WtOk x) (hm : mayW x = true) :
    Calls Try.prog 17 #[turnV false a len cap x] w (GotA w true [] zeroW true 0 0) := by
  obtain ⟨⟨_, _⟩, ⟨_, _⟩, ⟨_, _⟩⟩ := hx
  have hc : 0 ≤ x.g ∧ 0 ≤ x.c ∧ 0 ≤ x.s := by simpa [mayW] using hm
  clear hm
  obtain ⟨_, _, _⟩ := hc
  go_enter Try.func17, Try.ntmps17
  go_wp2_with fail
  refine bodyPost_ret (v := .tuple #[.agg (ansV true (.slice none 0 0) zeroW true 0), .int .i64 0]) (by first | (rw [res_c1 Try.results17 _ (by rfl) ((Bx.new2 w _ #[.bool true, .slice none 0 0, .int .i64 0, .int .i64 0, .int .i64 0, .bool true, .int .i64 0] 45).load Try.underlying45 inf45)]; rfl)) rfl ⟨none, 0, 0, rfl, Wts.nil _, ?_, fun x hx => by cases hx⟩
  exact (below_alloc w _).alloc (by simp) _
set_option maxRecDepth 100000 in
set_option maxHeartbeats 4000000 in
theorem take_twice (a : Option Addr) (len cap : Nat) (L : List Wt) (x : Wt) (w : World) (hL : Wts w a len cap L) (hx : WtOk x) (hr : rightW L = true) (hm : mayW x = true) (hh : hasW L x.g x.c = true) :
    Calls Try.prog 17 #[turnV true a len cap x] w (GotA w true [] zeroW false 0 7) := by
  have HP := Lib.hid (fun W (H : Wts W a len cap L) => Push_twice a len cap L x W H hx hr hm hh)
  unfold NoL at HP
  have L_0 := Lib.hid (hL.below ((below_alloc w (.cells #[.bool true, .slice a len cap, .int .i64 x.g, .int .i64 x.c, .int .i64 x.s] 50)).alloc (by simp) (.cells zans 45)))
  have Y_0 := Lib.hid (Bx.new2 w (.cells #[.bool true, .slice a len cap, .int .i64 x.g, .int .i64 x.c, .int .i64 x.s] 50) zans 45)
  have B_0 := Lib.hid ((below_alloc w (.cells #[.bool true, .slice a len cap, .int .i64 x.g, .int .i64 x.c, .int .i64 x.s] 50)).alloc (by simp) (.cells zans 45))
  obtain ⟨⟨_, _⟩, ⟨_, _⟩, ⟨_, _⟩⟩ := hx
  have hc : 0 ≤ x.g ∧ 0 ≤ x.c ∧ 0 ≤ x.s := by simpa [mayW] using hm
  clear hm hr hL hh
  obtain ⟨_, _, _⟩ := hc
  go_enter Try.func17, Try.ntmps17
  go_wp2_with fail
  refine (HP.out _ L_0.out).mono ?_
  rintro e w1 ⟨rfl, hb⟩
  have Y_1 := Lib.hid (Y_0.out.below hb); have B_1 := Lib.hid (B_0.out.trans (Below.mono hb B_0.out.size))
  have hY := Y_0.out.lt

  clear hb hY
  obtain ⟨BX, hBX⟩ : ∃ x, x = w.heap.size + 1 := ⟨_, rfl⟩
  have HBW := Lib.hid (show w.heap.size ≤ BX by omega)
  rw [← hBX] at Y_1 ⊢
  clear hBX
  have hlt := Y_1.out.lt
  obtain ⟨c0, c1, c2, c3, c4, c5, c6⟩ := Y_1.out.cells7
  have f0 := Y_1.out.froz 0; have f1 := Y_1.out.froz 1; have f2 := Y_1.out.froz 2; have f3 := Y_1.out.froz 3; have f4 := Y_1.out.froz 4; have f5 := Y_1.out.froz 5; have f6 := Y_1.out.froz 6
  go_wp2_with fail
  have ST := Lib.hid (Y_1.out.set7 (.bool true) (.slice none 0 0) (.int .i64 0) (.int .i64 0) (.int .i64 0) (.bool false) (.int .i64 0))
  refine bodyPost_ret (v := .tuple #[.agg (ansV true (.slice none 0 0) zeroW false 0), .int .i64 7]) (by first | (rw [res_c1 Try.results17 _ (by rfl) (ST.out.load Try.underlying45 inf45)]; rfl)) rfl ⟨none, 0, 0, rfl, Wts.nil _, ?_, fun x hx => by cases hx⟩
  exact below_set7 B_1.out HBW.out _ _ _ _ _ _ _
set_option maxRecDepth 100000 in
set_option maxHeartbeats 4000000 in
theorem take_full (a : Option Addr) (len cap : Nat) (L : List Wt) (x : Wt) (w : World) (hL : Wts w a len cap L) (hx : WtOk x) (hr : rightW L = true) (hm : mayW x = true) (hh : hasW L x.g x.c = false) (hf : len = 64) :
    Calls Try.prog 17 #[turnV true a len cap x] w (GotA w true [] zeroW false 0 5) := by
  have HP := Lib.hid (fun W (H : Wts W a len cap L) => Push_full a len cap L x W H hx hr hm hh hf)
  unfold NoL at HP
  have L_0 := Lib.hid (hL.below ((below_alloc w (.cells #[.bool true, .slice a len cap, .int .i64 x.g, .int .i64 x.c, .int .i64 x.s] 50)).alloc (by simp) (.cells zans 45)))
  have Y_0 := Lib.hid (Bx.new2 w (.cells #[.bool true, .slice a len cap, .int .i64 x.g, .int .i64 x.c, .int .i64 x.s] 50) zans 45)
  have B_0 := Lib.hid ((below_alloc w (.cells #[.bool true, .slice a len cap, .int .i64 x.g, .int .i64 x.c, .int .i64 x.s] 50)).alloc (by simp) (.cells zans 45))
  obtain ⟨⟨_, _⟩, ⟨_, _⟩, ⟨_, _⟩⟩ := hx
  have hc : 0 ≤ x.g ∧ 0 ≤ x.c ∧ 0 ≤ x.s := by simpa [mayW] using hm
  clear hm hr hL hh hf
  obtain ⟨_, _, _⟩ := hc
  go_enter Try.func17, Try.ntmps17
  go_wp2_with fail
  refine (HP.out _ L_0.out).mono ?_
  rintro e w1 ⟨rfl, hb⟩
  have Y_1 := Lib.hid (Y_0.out.below hb); have B_1 := Lib.hid (B_0.out.trans (Below.mono hb B_0.out.size))
  have hY := Y_0.out.lt

  clear hb hY
  obtain ⟨BX, hBX⟩ : ∃ x, x = w.heap.size + 1 := ⟨_, rfl⟩
  have HBW := Lib.hid (show w.heap.size ≤ BX by omega)
  rw [← hBX] at Y_1 ⊢
  clear hBX
  have hlt := Y_1.out.lt
  obtain ⟨c0, c1, c2, c3, c4, c5, c6⟩ := Y_1.out.cells7
  have f0 := Y_1.out.froz 0; have f1 := Y_1.out.froz 1; have f2 := Y_1.out.froz 2; have f3 := Y_1.out.froz 3; have f4 := Y_1.out.froz 4; have f5 := Y_1.out.froz 5; have f6 := Y_1.out.froz 6
  go_wp2_with fail
  have ST := Lib.hid (Y_1.out.set7 (.bool true) (.slice none 0 0) (.int .i64 0) (.int .i64 0) (.int .i64 0) (.bool false) (.int .i64 0))
  refine bodyPost_ret (v := .tuple #[.agg (ansV true (.slice none 0 0) zeroW false 0), .int .i64 5]) (by first | (rw [res_c1 Try.results17 _ (by rfl) (ST.out.load Try.underlying45 inf45)]; rfl)) rfl ⟨none, 0, 0, rfl, Wts.nil _, ?_, fun x hx => by cases hx⟩
  exact below_set7 B_1.out HBW.out _ _ _ _ _ _ _
set_option maxRecDepth 100000 in
set_option maxHeartbeats 4000000 in
theorem take_ok (a : Option Addr) (len cap : Nat) (L : List Wt) (x : Wt) (w : World) (hL : Wts w a len cap L) (hx : WtOk x) (hr : rightW L = true) (hm : mayW x = true) (hh : hasW L x.g x.c = false) (hf : len ≠ 64) :
    Calls Try.prog 17 #[turnV true a len cap x] w (GotA w true (L ++ [x]) zeroW false 0 0) := by
  have HP := Lib.hid (fun W (H : Wts W a len cap L) => Push_okF a len cap L x W H hx hr hm hh hf)
  unfold GotF at HP
  have L_0 := Lib.hid (hL.below ((below_alloc w (.cells #[.bool true, .slice a len cap, .int .i64 x.g, .int .i64 x.c, .int .i64 x.s] 50)).alloc (by simp) (.cells zans 45)))
  have Y_0 := Lib.hid (Bx.new2 w (.cells #[.bool true, .slice a len cap, .int .i64 x.g, .int .i64 x.c, .int .i64 x.s] 50) zans 45)
  have B_0 := Lib.hid ((below_alloc w (.cells #[.bool true, .slice a len cap, .int .i64 x.g, .int .i64 x.c, .int .i64 x.s] 50)).alloc (by simp) (.cells zans 45))
  obtain ⟨⟨_, _⟩, ⟨_, _⟩, ⟨_, _⟩⟩ := hx
  have hc : 0 ≤ x.g ∧ 0 ≤ x.c ∧ 0 ≤ x.s := by simpa [mayW] using hm
  clear hm hr hL hh hf
  obtain ⟨_, _, _⟩ := hc
  go_enter Try.func17, Try.ntmps17
  go_wp2_with fail
  refine (HP.out _ L_0.out).mono ?_
  rintro e w1 ⟨qa, ql, qc, rfl, hq, hb, hfr⟩
  have Y_1 := Lib.hid (Y_0.out.below hb); have B_1 := Lib.hid (B_0.out.trans (Below.mono hb B_0.out.size))
  have hY := Y_0.out.lt
  have HFR := Lib.hid (fun y hy => Nat.lt_of_lt_of_le hY (hfr y hy)); have HF0 := Lib.hid (fun y hy => Nat.le_trans B_0.out.size (hfr y hy)); have HQ := Lib.hid hq
  clear hb hY hfr hq
  obtain ⟨BX, hBX⟩ : ∃ x, x = w.heap.size + 1 := ⟨_, rfl⟩
  have HBW := Lib.hid (show w.heap.size ≤ BX by omega)
  rw [← hBX] at Y_1 HFR ⊢
  clear hBX
  have hlt := Y_1.out.lt
  obtain ⟨c0, c1, c2, c3, c4, c5, c6⟩ := Y_1.out.cells7
  have f0 := Y_1.out.froz 0; have f1 := Y_1.out.froz 1; have f2 := Y_1.out.froz 2; have f3 := Y_1.out.froz 3; have f4 := Y_1.out.froz 4; have f5 := Y_1.out.froz 5; have f6 := Y_1.out.froz 6
  go_wp2_with fail
  have ST := Lib.hid (Y_1.out.set7 (.bool true) (.slice qa ql qc) (.int .i64 0) (.int .i64 0) (.int .i64 0) (.bool false) (.int .i64 0))
  refine bodyPost_ret (v := .tuple #[.agg (ansV true (.slice qa ql qc) zeroW false 0), .int .i64 0]) (by first | (rw [res_c1 Try.results17 _ (by rfl) (ST.out.load Try.underlying45 inf45)]; rfl)) rfl ⟨qa, ql, qc, rfl, (HQ.out).other _ (fun x hx e => by have := HFR.out x hx; omega) (fun g hg => set7_other _ _ _ _ _ _ _ _ _ g hg), ?_, HF0.out⟩
  exact below_set7 B_1.out HBW.out _ _ _ _ _ _ _
set_option maxRecDepth 100000 in
set_option maxHeartbeats 4000000 in
theorem give_free (a : Option Addr) (len cap : Nat) (x : Wt) (w : World) :
    Calls Try.prog 18 #[turnV false a len cap x] w (GotA w false [] zeroW false 0 6) := by
  go_enter Try.func18, Try.ntmps18
  go_wp2_with fail
  refine bodyPost_ret (v := .tuple #[.agg zans, .int .i64 6]) (by first | (rw [res_c1 Try.results18 _ (by rfl) ((Bx.new2 w _ zans 45).load Try.underlying45 inf45)]; rfl)) rfl ⟨none, 0, 0, rfl, Wts.nil _, ?_, fun x hx => by cases hx⟩
  exact (below_alloc w _).alloc (by simp) _
set_option maxRecDepth 100000 in
set_option maxHeartbeats 4000000 in
theorem give_none (a : Option Addr) (cap : Nat) (x : Wt) (w : World) :
    Calls Try.prog 18 #[turnV true a 0 cap x] w (GotA w false [] zeroW false 0 0) := by
  go_enter Try.func18, Try.ntmps18
  go_wp2_with fail
  refine bodyPost_ret (v := .tuple #[.agg zans, .int .i64 0]) (by first | (rw [res_c1 Try.results18 _ (by rfl) ((Bx.new2 w _ zans 45).load Try.underlying45 inf45)]; rfl)) rfl ⟨none, 0, 0, rfl, Wts.nil _, ?_, fun x hx => by cases hx⟩
  exact (below_alloc w _).alloc (by simp) _
set_option maxRecDepth 100000 in
set_option maxHeartbeats 4000000 in
theorem give_ok (a : Option Addr) (len cap : Nat) (y : Wt) (ys : List Wt) (x : Wt) (w : World) (hL : Wts w a len cap (y :: ys)) (hl : len ≤ 64) :
    Calls Try.prog 18 #[turnV true a len cap x] w (GotA w true ys y true 0 0) := by
  have hlen : ys.length + 1 = len := by have := hL.recs.len_eq; simpa using this
  have hcap := hL.recs.le_cap
  have hcm := hL.recs.len_le
  have HCM := Lib.hid hL.recs.cap_le
  have hz : ((len : Int) == 0) = false := by rw [beq_eq_false_iff_ne]; omega
  have h1 : 1 ≤ len := by omega
  have h1' : (0 : Int) < (len : Int) := by omega
  have h1'' : (1 : Int) ≤ (len : Int) := by omega
  have HOK := Lib.hid hL.ok
  have L_0 := Lib.hid (hL.below ((below_alloc w (.cells #[.bool true, .slice a len cap, .int .i64 x.g, .int .i64 x.c, .int .i64 x.s] 50)).alloc (by simp) (.cells zans 45)))
  have X_0 := Lib.hid ((Bx.new w #[.bool true, .slice a len cap, .int .i64 x.g, .int .i64 x.c, .int .i64 x.s] 50).below (below_alloc _ (.cells zans 45)))
  have Y_0 := Lib.hid (Bx.new2 w (.cells #[.bool true, .slice a len cap, .int .i64 x.g, .int .i64 x.c, .int .i64 x.s] 50) zans 45)
  have B_0 := Lib.hid ((below_alloc w (.cells #[.bool true, .slice a len cap, .int .i64 x.g, .int .i64 x.c, .int .i64 x.s] 50)).alloc (by simp) (.cells zans 45))
  obtain ⟨y', bb, off, hy, _, rfl, c0, c1, c2⟩ := L_0.out.at 0 (by omega)
  obtain rfl : y = y' := by simpa using hy
  rw [Nat.zero_mul, Nat.add_zero] at c0 c1 c2
  have HC := Lib.hid (And.intro c0 (And.intro c1 c2))
  clear hy c0 c1 c2 hL
  have HCl := Lib.hid (fun W a2 n2 c2 (H : Wts W a2 n2 c2 ys) (h : n2 ≤ 1000000) => Clone_any a2 n2 c2 ys W H h)
  have HT := Lib.hid (fun W (H : Wts W (some ⟨bb, off, none⟩) len cap (y :: ys)) => H.tail)
  by_cases hk : cap = 1
  all_goals
    first
    | (obtain rfl : ys = [] := List.eq_nil_of_length_eq_zero (by omega)
       obtain rfl : len = 1 := by omega
       subst hk)
    | (have hk' : (1 : Int) < (cap : Int) := by omega)
    go_enter Try.func18, Try.ntmps18
    go_wp2_with fail
    first
    | (refine (HCl.out _ _ _ _ (Wts.zero _ _) (by omega)).mono ?_; have _tok := True.intro)
    | (refine (HCl.out _ _ _ _ (HT.out _ L_0.out hk') (by omega)).mono ?_)
    rintro e w1 ⟨v, rfl, ho, hb⟩
    obtain ⟨qa, ql, qc, rfl, hrec⟩ := own_wts ho (fun z hz => HOK.out z (List.mem_cons_of_mem _ hz))
    have HQ := Lib.hid hrec
    have HF0 := Lib.hid (fun z (hz : qa = some z) => show w.heap.size ≤ z.block from Nat.le_trans B_0.out.size (OwnR.lt ho z.block (by rw [hz]; rfl)))
    have HFR := Lib.hid (fun z (hz : qa = some z) => Nat.lt_of_lt_of_le Y_0.out.lt (OwnR.lt ho z.block (by rw [hz]; rfl)))
    have X_1 := Lib.hid (X_0.out.below hb); have Y_1 := Lib.hid (Y_0.out.below hb); have B_1 := Lib.hid (B_0.out.trans (Below.mono hb B_0.out.size)); have L_1 := Lib.hid (L_0.out.below hb)
    clear hb ho hrec
    obtain ⟨y'', bb', off', hy, _, he, c0, c1, c2⟩ := L_1.out.at 0 (by omega)
    obtain rfl : y = y'' := by simpa using hy
    cases he
    rw [Nat.zero_mul, Nat.add_zero] at c0 c1 c2
    clear hy
    obtain ⟨BX, hBX⟩ : ∃ x, x = w.heap.size + 1 := ⟨_, rfl⟩
    have HBW := Lib.hid (show w.heap.size ≤ BX by omega)
    obtain ⟨BT, hBT⟩ : ∃ x, x = w.heap.size := ⟨_, rfl⟩
    rw [← hBX] at Y_1 HFR ⊢
    rw [← hBT] at X_1 ⊢
    clear hBX hBT
    have hlt := Y_1.out.lt
    obtain ⟨x0, x1, x2, x3, x4⟩ := X_1.out.cells5
    obtain ⟨d0, d1, d2, d3, d4, d5, d6⟩ := Y_1.out.cells7
    have f0 := Y_1.out.froz 0; have f1 := Y_1.out.froz 1; have f2 := Y_1.out.froz 2; have f3 := Y_1.out.froz 3; have f4 := Y_1.out.froz 4; have f5 := Y_1.out.froz 5; have f6 := Y_1.out.froz 6
    go_wp2_with fail
    have ST := Lib.hid (Y_1.out.set7 (.bool true) (.slice qa ql qc) (.int .i64 y.g) (.int .i64 y.c) (.int .i64 y.s) (.bool true) (.int .i64 0))
    refine bodyPost_ret (v := .tuple #[.agg (ansV true (.slice qa ql qc) y true 0), .int .i64 0]) (by first | (rw [res_c1 Try.results18 _ (by rfl) (ST.out.load Try.underlying45 inf45)]; rfl)) rfl ⟨qa, ql, qc, rfl, (HQ.out).other _ (fun x hx e => by have := HFR.out x hx; omega) (fun g hg => set7_other _ _ _ _ _ _ _ _ _ g hg), ?_, HF0.out⟩
    exact below_set7 B_1.out HBW.out _ _ _ _ _ _ _
set_option maxRecDepth 100000 in
set_option maxHeartbeats 4000000 in
theorem waiting_any (h : Bool) (a : Option Addr) (len cap : Nat) (x : Wt) (w : World) :
    Calls Try.prog 19 #[turnV h a len cap x] w (GotA w false [] zeroW false len 0) := by
  go_enter Try.func19, Try.ntmps19
  go_wp2_with fail
  refine bodyPost_ret (v := .tuple #[.agg (ansV false (.slice none 0 0) zeroW false len), .int .i64 0]) (by first | (rw [res_c1 Try.results19 _ (by rfl) ((Bx.new2 w _ #[.bool false, .slice none 0 0, .int .i64 0, .int .i64 0, .int .i64 0, .bool false, .int .i64 len] 45).load Try.underlying45 inf45)]; rfl)) rfl ⟨none, 0, 0, rfl, Wts.nil _, ?_, fun x hx => by cases hx⟩
  exact (below_alloc w _).alloc (by simp) _
end Go.Proofs.Ytipjdkaibkmciaa
