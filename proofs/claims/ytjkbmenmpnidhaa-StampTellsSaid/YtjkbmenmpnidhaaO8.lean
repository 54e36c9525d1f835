import Derived.Test.YtjkbmenmpnidhaaO4
import Derived.Test.YtjkbmenmpnidhaaVJoin
/- A book is opened: the events are right. -/
namespace Go.Proofs.Ytjkbmenmpnidhaa
open Go.RowKit Go.Maps
set_option linter.unusedSimpArgs false
set_option linter.unusedVariables false
theorem Mp.other {w w' : World} {B n : Nat} {S : Int → Int → Int → Option Int} {b : Nat} (h : Mp w B n S) (hg : w.grownBy w' (some b)) (hne : B ≠ b) : Mp w' B n S := h.kept hg (fun e => hne (by cases e; rfl))
theorem Evs.other {w w' : World} {a : Option Addr} {n c : Nat} {L : List Ev} {N0 : Nat} (w0 : World) (h : Evs w0 a n c L) (hb : Below w0.heap.size w0 w') : Evs w' a n c L := h.below hb
theorem ev_i64 {L : List Ev} {i : Nat} {w : World} {a : Option Addr} {n c : Nat} (h : Evs w a n c L) (hi : i < n) : EvOk (evAt L i) := by
  obtain ⟨_, _, hok, _⟩ := h.at i hi
  exact hok
set_option maxRecDepth 100000 in
set_option maxHeartbeats 8000000 in
theorem opened_ok (ca : Option Addr) (cn cc : Nat) (caps : List Int) (a : Option Addr) (n c : Nat) (L : List Ev) (w : World) (hcp : Ints w ca cn cc caps) (h : Evs w a n c L) (hok : capsB caps = true) (hz : wrongZ caps L = -1) (hn : n ≤ 1000) :
    Calls Try.prog 19 #[.slice ca cn cc, .slice a n c] w fun e w' => ∃ M, e = .returned (.tuple #[.agg #[.slice ca cn cc, .slice a n c, .map (some M)], .int .i64 0]) ∧ Book w' ⟨ca, cn, cc, a, n, c, M⟩ caps L ∧ Below w.heap.size w w' := by
  have B_0 := Lib.hid (below_alloc w (.cells #[.slice none 0 0, .slice none 0 0, .map none] 41))
  have K_0 := Lib.hid (Bx.new w #[.slice none 0 0, .slice none 0 0, .map none] 41)
  have HW := Lib.hid (Wrong_ok ca cn cc caps a n c L _ (hcp.below B_0.out) hok (h.below B_0.out) hn)
  rw [hz] at HW
  have HC := Lib.hid hcp; have HE := Lib.hid h
  have hll := h.recs.len_eq
  clear hcp h hz
  have hmm := fun W => makeMap_hint W (n : Int) (by omega) (by omega)
  have hm0 := @run_makeMap Try.prog
  go_enter Try.func19, Try.ntmps19
  go_wp2_with fail
  refine HW.out.mono ?_
  rintro e w1 ⟨rfl, hb⟩
  have B_1 := Lib.hid (B_0.out.trans (Below.mono hb B_0.out.size))
  have K_1 := Lib.hid (K_0.out.below hb)
  clear hb K_0 B_0 HW
  obtain ⟨b0, hb0⟩ : ∃ b, b = w.heap.size := ⟨_, rfl⟩
  have HB0 := Lib.hid (show w.heap.size ≤ b0 by omega)
  rw [← hb0] at K_1 ⊢
  clear hb0
  go_wp2_with fail
  obtain ⟨M, hM⟩ : ∃ M, M = w1.heap.size := ⟨_, rfl⟩
  obtain ⟨X, hX⟩ : ∃ X, X = (((w1.alloc (.map #[] 0)).alloc (.cells #[.slice ca cn cc, .slice a n c, .map (some w1.heap.size)] 41)).alloc (.map #[] 0)) := ⟨_, rfl⟩
  have DX := Lib.hid (show Below w1.heap.size w1 X by rw [hX]; exact ((below_alloc w1 _).alloc (by simp) _).alloc (by simp; omega) _)
  have MX := Lib.hid (show Mp X M 0 (plS L 0) by rw [hX, hM, plS_none]; exact ((Mp.made w1).below (below_alloc _ _)).below (below_alloc _ _))
  have BKX := Lib.hid (show Bx X (M + 1) #[.slice ca cn cc, .slice a n c, .map (some M)] 41 by
    rw [hX, hM]; have := (Bx.new (w1.alloc (.map #[] 0)) #[.slice ca cn cc, .slice a n c, .map (some w1.heap.size)] 41).below (below_alloc _ (.map #[] 0)); simpa using this)
  have AX := Lib.hid (show Mp X (M + 1 + 1) 0 (ahS L 0) by
    rw [hX, hM, ahS_none]; have := Mp.made ((w1.alloc (.map #[] 0)).alloc (.cells #[.slice ca cn cc, .slice a n c, .map (some w1.heap.size)] 41)); simpa using this)
  have KX := Lib.hid (K_1.out.below DX.out); have BX := Lib.hid (B_1.out.trans (Below.mono DX.out B_1.out.size))
  have hb0M : b0 < M := by rw [hM]; exact K_1.out.lt
  have hwM : w.heap.size ≤ M := by rw [hM]; exact B_1.out.size
  rw [← hX, ← hM]
  clear hX hM DX K_1 B_1
  go_loopw [36] (fun j wr => ∃ i : Nat, i ≤ n ∧ j = .int .i64 i ∧ (∃ q, q ≤ i ∧ Mp wr M q (plS L i)) ∧ (∃ q, q ≤ i ∧ Mp wr (M + 1 + 1) q (ahS L i)) ∧ Bx wr (M + 1) #[.slice ca cn cc, .slice a n c, .map (some M)] 41 ∧ Bx wr b0 #[.slice none 0 0, .slice none 0 0, .map none] 41 ∧ Below w.heap.size w wr) (fun j _ => n - (intOf j).toNat)
  case atStart => exact ⟨0, Nat.zero_le _, rfl, ⟨0, Nat.le_refl _, MX.out⟩, ⟨0, Nat.le_refl _, AX.out⟩, BKX.out, KX.out, BX.out⟩
  case round =>
    obtain ⟨i, hi, rfl, ⟨q, hq, hm⟩, ⟨q2, hq2, ha⟩, hk, hr, hb⟩ := hrel
    by_cases hlt : i < n
    · have hlt' : (i : Int) < (n : Int) := by omega
      have HEW := Lib.hid (HE.out.below hb)
      obtain ⟨b', off', hok2, he, c0, c1, c2, c3, c4⟩ := HEW.out.at i hlt
      subst he
      obtain ⟨x, hx⟩ : ∃ x, x = evAt L i := ⟨_, rfl⟩
      have hcz := cntZ_le L x.kind x.obj i
      have HA := Lib.hid (fun V (h : Mp V (M + 1 + 1) q2 (ahS L i)) (hk : I64 x.kind) (ho : I64 x.obj) => h.look x.kind x.obj 0 hk ho ⟨by decide, by decide⟩)
      have HAS := Lib.hid (ahS_get L i x.kind x.obj)
      have HP := Lib.hid (plS_step L i x hx.symm); have HQ := Lib.hid (ahS_step L i x hx.symm)
      rw [← hx] at hok2 c0 c1 c2 c3 c4
      obtain ⟨nn, hnn⟩ : ∃ z, z = cntZ L x.kind x.obj i := ⟨_, rfl⟩
      rw [← hnn] at hcz HAS HP HQ
      clear hx hnn
      obtain ⟨x0, x1, x2, x3, x4⟩ := x
      obtain ⟨j0, j1, j2, j3, j4⟩ := hok2
      dsimp only at c0 c1 c2 c3 c4 j0 j1 j2 j3 j4 HA HAS HP HQ
      have DR := Lib.hid ((below_alloc wr (.cells #[.int .i64 x0, .int .i64 x1, .int .i64 x2, .int .i64 x3, .int .i64 x4] 48)).alloc (by simp) (.cells #[.int .i64 x1, .int .i64 x2, .int .i64 0] 59))
      have M1 := Lib.hid (hm.below DR.out); have A1 := Lib.hid (ha.below DR.out); have K1 := Lib.hid (hk.below DR.out); have R1 := Lib.hid (hr.below DR.out); have B1 := Lib.hid (hb.trans (Below.mono DR.out hb.size))
      have Z1 := Lib.hid (Bx.new2 wr (.cells #[.int .i64 x0, .int .i64 x1, .int .i64 x2, .int .i64 x3, .int .i64 x4] 48) #[.int .i64 x1, .int .i64 x2, .int .i64 0] 59)
      have hwl := hb.size; have hMl := hm.lt; have hAl := ha.lt; have hKl := hk.lt; have hRl := hr.lt
      clear hm ha hk hr hb DR
      go_upto_region 10 with (fail)
      obtain ⟨mb, hmb⟩ : ∃ z, z = wr.heap.size + 1 := ⟨_, rfl⟩
      obtain ⟨X1, hX1⟩ : ∃ X, X = (wr.alloc (.cells #[.int .i64 x0, .int .i64 x1, .int .i64 x2, .int .i64 x3, .int .i64 x4] 48)).alloc (.cells #[.int .i64 x1, .int .i64 x2, .int .i64 0] 59) := ⟨_, rfl⟩
      rw [← hX1] at M1 A1 K1 R1 B1 Z1 ⊢
      rw [← hmb] at Z1 ⊢
      have n1 : M ≠ mb := by omega
      have n2 : M + 1 + 1 ≠ mb := by omega
      have n3 : M + 1 ≠ mb := by omega
      have n4 : b0 ≠ mb := by omega
      have n5 : w.heap.size ≤ mb := by omega
      clear hX1 hmb hMl hAl hKl hRl c0 c1 c2 c3 c4
      have hl := HA.out X1 A1.out j1 j2
      rw [HAS.out] at hl
      obtain ⟨t0, t1, t2⟩ := Z1.out.cells3
      go_upto_region 11 with (fail)
      obtain ⟨hz1, hz2⟩ := hcz
      have hnI : I64 nn := ⟨by omega, by omega⟩
      have hiI : I64 (i : Int) := ⟨by omega, by omega⟩
      have hq6 : q ≤ 1000000 := by omega
      go_wp2_with (at_mapUpdate; refine wpList_mp_store rfl (.tmp 49) (.tmp 50) (.tmp 52) rfl (M + 1 + 1) q2 (ahS L i) rfl A1.out (by omega) x1 x2 0 (nn + 1) rfl rfl j1 j2 ⟨by decide, by decide⟩ ⟨by omega, by omega⟩ ?_; intro X2 ha2 hg2; have M2 := Lib.hid (M1.out.other hg2.out (by omega)); have K2 := Lib.hid (K1.out.other hg2.out (some_ne (by omega))); have R2 := Lib.hid (R1.out.other hg2.out (some_ne (by omega))); have Z2 := Lib.hid (Z1.out.other hg2.out (some_ne (Ne.symm n2))); have B2 := Lib.hid (B1.out.grown hg2.out B1.out.size (fun k hk => by cases hk; omega)); rw [HQ.out] at ha2; clear hg2 M1 A1 K1 R1 Z1 B1 hl t0 t1 t2 HA HAS HQ; obtain ⟨t0, t1, t2⟩ := Z2.out.cells3; have f2 := Z2.out.froz 2; have zl := Z2.out.lt; obtain ⟨u0, u1, u2⟩ := K2.out.cells3)
      go_upto_region 13 with (fail)
      have G3 := Lib.hid (grow_setCell X2 mb 2 (.int .i64 nn))
      have Z3 := Lib.hid (Z2.out.set 2 (.int .i64 nn))
      have M3 := Lib.hid (M2.out.other G3.out n1); have A3 := Lib.hid (ha2.out.other G3.out n2); have K3 := Lib.hid (K2.out.other G3.out (some_ne n3)); have R3 := Lib.hid (R2.out.other G3.out (some_ne n4))
      have B3 := Lib.hid (B2.out.grown G3.out B2.out.size (fun k hk => by cases hk; omega))
      obtain ⟨X3, hX3⟩ : ∃ X, X = X2.setCell ⟨mb, 2, none⟩ (.int .i64 nn) := ⟨_, rfl⟩
      rw [← hX3] at Z3 M3 A3 K3 R3 B3 ⊢
      clear hX3 G3 M2 K2 R2 Z2 B2 ha2 t0 t1 t2 u0 u1 u2 f2 zl
      change Hid (Bx X3 mb #[.int .i64 x1, .int .i64 x2, .int .i64 nn] 59) at Z3
      obtain ⟨t0, t1, t2⟩ := Z3.out.cells3
      obtain ⟨u0, u1, u2⟩ := K3.out.cells3
      obtain ⟨X4, hrun, hm4, hg4⟩ := M3.out.store (by unfold maxLen; omega) x1 x2 nn (i : Int) j1 j2 hnI hiI
      rw [HP.out] at hm4
      have HM4 := Lib.hid hm4
      have A4 := Lib.hid (A3.out.other hg4 (by omega)); have K4 := Lib.hid (K3.out.other hg4 (some_ne (by omega))); have R4 := Lib.hid (R3.out.other hg4 (some_ne (by omega))); have B4 := Lib.hid (B3.out.grown hg4 B3.out.size (fun k hk => by cases hk; omega))
      clear hm4 hg4 M3 A3 K3 R3 B3 Z3
      unfold mkV at hrun
      go_wp2_with fail
      rw [hrun]
      dsimp only [Result.andThen]
      go_wp2_with fail
      go_roundw
      case rel => exact ⟨i + 1, by omega, by go_num, ⟨q + 1, by omega, HM4.out⟩, ⟨q2 + 1, by omega, A4.out⟩, K4.out, R4.out, B4.out⟩
      case measure => simp [intOf]; omega
    · have hie : i = n := by omega
      have HBK := Lib.hid (show Book wr ⟨ca, cn, cc, a, n, c, M⟩ caps L from ⟨HC.out.below hb, HE.out.below hb, ⟨q, by rw [hll, ← hie]; exact hm⟩⟩)
      subst hie
      obtain ⟨t0, t1, t2⟩ := Bx.cells3 hr
      have f0 := Bx.froz hr 0; have f1 := Bx.froz hr 1; have f2 := Bx.froz hr 2; have rl := Bx.lt hr
      obtain ⟨u0, u1, u2⟩ := Bx.cells3 hk
      have HR := Lib.hid hr; have HB := Lib.hid hb
      clear hm ha hk hr hb
      go_wp2_with fail
      have G := Lib.hid (grown_st3 (World.grownBy.refl wr (some b0)) (.slice ca cn cc) (.slice a i c) (.map (some M)))
      refine bodyPost_ret (bk_res rfl _ rfl (HR.out.st3 (.slice ca cn cc) (.slice a i c) (.map (some M)))) rfl ?_
      have hbs := HB.out.size
      have BF := HB.out.grown G.out HB.out.size (fun k hk => by cases hk; exact HB0.out)
      have hmp := HBK.out.mp
      obtain ⟨q3, hq3⟩ := hmp
      exact ⟨M, rfl, ⟨HC.out.below BF, HE.out.below BF, ⟨q3, hq3.other G.out (by show M ≠ b0; omega)⟩⟩, BF⟩
end Go.Proofs.Ytjkbmenmpnidhaa
/- Of: the edges of an event. -/
namespace Go.Proofs.Ytjkbmenmpnidhaa
open Go.RowKit Go.Maps
set_option linter.unusedSimpArgs false
set_option linter.unusedVariables false
/-- may they be judged: the caps are right, and no event is wrong -/
def mayE (caps : List Int) (L : List Ev) : Bool := capsB caps && decide (wrongZ caps L < 0)
theorem wrongZ_ge (caps : List Int) (L : List Ev) : -1 ≤ wrongZ caps L := by
  unfold wrongZ
  split
  · omega
  · omega
theorem good_of {caps : List Int} {L : List Ev} {cn : Nat} (h : mayE caps L = true) (hc : caps.length = cn) (hl : L.length ≤ 1000) : Good cn caps L := by
  unfold mayE at h
  rw [Bool.and_eq_true, decide_eq_true_eq] at h
  have := wrongZ_ge caps L
  exact ⟨h.1, hc, by omega, hl⟩
theorem opened_no (ca : Option Addr) (cn cc : Nat) (caps : List Int) (a : Option Addr) (n c : Nat) (L : List Ev) (w : World) (hcp : Ints w ca cn cc caps) (h : Evs w a n c L) (hn : n ≤ 1000) (hno : mayE caps L = false) :
    Calls Try.prog 19 #[.slice ca cn cc, .slice a n c] w fun e w' => e = .returned (.tuple #[.agg #[.slice none 0 0, .slice none 0 0, .map none], .int .i64 1]) ∧ Below w.heap.size w w' := by
  cases hok : capsB caps with
  | false => exact opened_bad ca cn cc caps a n c L w hcp h hok
  | true =>
    have hz := wrongZ_ge caps L
    unfold mayE at hno
    rw [hok, Bool.true_and, decide_eq_false_iff_not] at hno
    exact opened_wrong ca cn cc caps a n c L w hcp h hok (wrongZ caps L).toNat (by omega) hn
theorem opened_yes (ca : Option Addr) (cn cc : Nat) (caps : List Int) (a : Option Addr) (n c : Nat) (L : List Ev) (w : World) (hcp : Ints w ca cn cc caps) (h : Evs w a n c L) (hg : Good cn caps L) :
    Calls Try.prog 19 #[.slice ca cn cc, .slice a n c] w fun e w' => ∃ M, e = .returned (.tuple #[.agg #[.slice ca cn cc, .slice a n c, .map (some M)], .int .i64 0]) ∧ Book w' ⟨ca, cn, cc, a, n, c, M⟩ caps L ∧ Below w.heap.size w w' :=
  opened_ok ca cn cc caps a n c L w hcp h hg.capsOk hg.right (by have := h.recs.len_eq; have := hg.few; omega)
set_option maxRecDepth 100000 in
set_option maxHeartbeats 8000000 in
theorem Of_no (ca : Option Addr) (cn cc : Nat) (caps : List Int) (a : Option Addr) (n c : Nat) (L : List Ev) (i : Int) (w : World) (hcp : Ints w ca cn cc caps) (h : Evs w a n c L) (hn : n ≤ 1000) (hno : mayE caps L = false) :
    Calls Try.prog 6 #[.slice ca cn cc, .slice a n c, .int .i64 i] w fun e w' => e = .returned (.tuple #[.slice none 0 0, .int .i64 1]) ∧ Below w.heap.size w w' := by
  have HO := Lib.hid (opened_no ca cn cc caps a n c L w hcp h hn hno)
  clear hcp h hno
  go_enter Try.func6, Try.ntmps6
  go_wp2_with fail
  refine HO.out.mono ?_
  rintro e w1 ⟨rfl, hb⟩
  have B_1 := Lib.hid (hb.alloc hb.size (.cells #[.slice none 0 0, .slice none 0 0, .map none] 41))
  clear hb
  go_wp2_with fail
  go_ret2
  exact ⟨rfl, B_1.out⟩
set_option maxRecDepth 100000 in
set_option maxHeartbeats 8000000 in
theorem Of_out (ca : Option Addr) (cn cc : Nat) (caps : List Int) (a : Option Addr) (n c : Nat) (L : List Ev) (i : Int) (w : World) (hcp : Ints w ca cn cc caps) (h : Evs w a n c L) (hg : Good cn caps L) (hi : i < 0 ∨ (¬ i < 0 ∧ (n : Int) ≤ i)) :
    Calls Try.prog 6 #[.slice ca cn cc, .slice a n c, .int .i64 i] w fun e w' => e = .returned (.tuple #[.slice none 0 0, .int .i64 3]) ∧ Below w.heap.size w w' := by
  have HO := Lib.hid (opened_yes ca cn cc caps a n c L w hcp h hg)
  clear hcp h hg
  go_enter Try.func6, Try.ntmps6
  go_wp2_with fail
  refine HO.out.mono ?_
  rintro e w1 ⟨M, rfl, _, hb⟩
  have B_1 := Lib.hid (hb.alloc hb.size (.cells #[.slice ca cn cc, .slice a n c, .map (some M)] 41))
  clear hb HO
  rcases hi with hi | ⟨hi, hi2⟩ <;> (go_wp2_with fail; go_ret2; exact ⟨rfl, B_1.out⟩)
set_option maxRecDepth 100000 in
set_option maxHeartbeats 8000000 in
theorem Of_ok (ca : Option Addr) (cn cc : Nat) (caps : List Int) (a : Option Addr) (n c : Nat) (L : List Ev) (i : Nat) (w : World) (hcp : Ints w ca cn cc caps) (h : Evs w a n c L) (hg : Good cn caps L) (hi : i < n) :
    Calls Try.prog 6 #[.slice ca cn cc, .slice a n c, .int .i64 (i : Int)] w (GotIntsErr w (edgesZ caps L i)) := by
  have HO := Lib.hid (opened_yes ca cn cc caps a n c L w hcp h hg)
  have HR := Lib.hid (fun p W hcn hb hi2 => rising_any p cn caps L i W hcn hb hi2 hg)
  clear hcp h hg
  have hi0 : ¬ (i : Int) < 0 := by omega
  have hi1 : ¬ (n : Int) ≤ (i : Int) := by omega
  go_enter Try.func6, Try.ntmps6
  go_wp2_with fail
  refine HO.out.mono ?_
  rintro e w1 ⟨M, rfl, hbk, hb⟩
  have DX := Lib.hid (below_alloc w1 (.cells #[.slice ca cn cc, .slice a n c, .map (some M)] 41))
  have B_1 := Lib.hid (hb.trans (Below.mono DX.out hb.size))
  have K_1 := Lib.hid (Bx.new w1 #[.slice ca cn cc, .slice a n c, .map (some M)] 41)
  have BB := Lib.hid (hbk.below DX.out)
  clear hb hbk HO DX
  go_upto_region 1 with (fail)
  obtain ⟨b0, hb0⟩ : ∃ b, b = w1.heap.size := ⟨_, rfl⟩
  obtain ⟨v1, hv1⟩ : ∃ v, v = w1.alloc (.cells #[.slice ca cn cc, .slice a n c, .map (some M)] 41) := ⟨_, rfl⟩
  rw [← hv1] at B_1 K_1 BB ⊢
  rw [← hb0] at K_1 ⊢
  clear hb0 hv1
  obtain ⟨t0, t1, t2⟩ := K_1.out.cells3
  go_wp2_with fail
  refine (HR.out ⟨ca, cn, cc, a, n, c, M⟩ _ rfl BB.out hi).mono ?_
  rintro e w2 ⟨a2, n2, c2, rfl, hI, hb⟩
  have B_2 := Lib.hid (B_1.out.trans (Below.mono hb B_1.out.size))
  have HI := Lib.hid hI
  clear hb hI t0 t1 t2 BB K_1 B_1
  go_wp2_with fail
  go_ret2
  exact ⟨_, _, _, rfl, HI.out, B_2.out⟩
end Go.Proofs.Ytjkbmenmpnidhaa
/- All: the edges of each event. -/
namespace Go.Proofs.Ytjkbmenmpnidhaa
open Go.RowKit Go.Maps
set_option linter.unusedSimpArgs false
set_option linter.unusedVariables false
theorem Try.info22s : (Try.prog.info? 22).map (fun i => (i.zero, i.size, i.bytes)) = some (some (.slice none 0 0), 1, 24) := by kernel_rfl
def isSl (v : Value) : Prop := ∃ a n c, v = .slice a n c
/-- a row of slices at R, those ahead of i being what they shall be -/
def Sls (w : World) (R n : Nat) (Z : Nat → List Int) (i : Nat) : Prop :=
  ∃ cs : List Value, cs.length = n ∧ Bx w R cs.toArray 22 ∧ (∀ v ∈ cs, isSl v) ∧ ∀ j, j < i → ∃ a m c, cs[j]? = some (.slice a m c) ∧ Ints w a m c (Z j)
theorem Ints.away {w w' : World} {a : Option Addr} {n c R : Nat} {L : List Int} (h : Ints w a n c L) (hg : w.grownBy w' (some R)) (hs : ∀ off v, w.cell? ⟨R, off, none⟩ = some v → isSl v) : Ints w' a n c L := by
  refine ⟨h.len_eq, h.le_cap, h.cap_le, h.none_, h.bound, fun i hi => ?_⟩
  obtain ⟨b, off, ha, hc⟩ := h.cell i hi
  refine ⟨b, off, ha, ?_⟩
  have hne : b ≠ R := by
    rintro rfl
    obtain ⟨x, y, z, e⟩ := hs _ _ hc
    cases e
  have hb : w'.heap[b]? = w.heap[b]? := hg.block b (cell_lt hc) (some_ne hne)
  simp only [World.cell?] at hc ⊢
  rw [hb]; exact hc
theorem Evs.away {w w' : World} {a : Option Addr} {n c R : Nat} {L : List Ev} (h : Evs w a n c L) (hg : w.grownBy w' (some R)) (hs : ∀ off v, w.cell? ⟨R, off, none⟩ = some v → isSl v) : Evs w' a n c L := by
  refine ⟨⟨h.recs.len_eq, h.recs.le_cap, h.recs.cap_le, h.recs.none_, fun i x hx => ?_⟩, h.ok⟩
  obtain ⟨b, off, e, hc⟩ := h.recs.cell i x hx
  refine ⟨b, off, e, fun j v hv => ?_⟩
  have h1 := hc j v hv
  have h0 := hc 0 (.int .i64 x.g) rfl
  have hne : b ≠ R := by
    rintro rfl
    obtain ⟨x, y, z, e⟩ := hs _ _ h0
    cases e
  have hb : w'.heap[b]? = w.heap[b]? := hg.block b (cell_lt h1) (some_ne hne)
  simp only [World.cell?] at h1 ⊢
  rw [hb]; exact h1
theorem Sls.below {w w' : World} {R n : Nat} {Z : Nat → List Int} {i : Nat} (h : Sls w R n Z i) (hb : Below w.heap.size w w') : Sls w' R n Z i := by
  obtain ⟨cs, h1, h2, h3, h4⟩ := h
  refine ⟨cs, h1, Bx.below h2 hb, h3, fun j hj => ?_⟩
  obtain ⟨a, m, c, h5, h6⟩ := h4 j hj
  exact ⟨a, m, c, h5, h6.below hb⟩
theorem Sls.cells {w : World} {R n : Nat} {Z : Nat → List Int} {i : Nat} (h : Sls w R n Z i) : ∀ off v, w.cell? ⟨R, off, none⟩ = some v → isSl v := by
  obtain ⟨cs, h1, h2, h3, h4⟩ := h
  intro off v hv
  rw [cell_of_row w R off _ 22 (0, 0) h2] at hv
  simp only [List.getElem?_toArray] at hv
  exact h3 v (List.mem_of_getElem? hv)
theorem Sls.slot {w : World} {R n : Nat} {Z : Nat → List Int} {i : Nat} (h : Sls w R n Z i) (j : Nat) (hj : j < n) : (∃ v, w.cell? ⟨R, j, none⟩ = some v) ∧ w.frozen? ⟨R, j, none⟩ = false := by
  obtain ⟨cs, h1, h2, h3, h4⟩ := h
  refine ⟨⟨cs[j]'(by omega), ?_⟩, Bx.froz h2 j⟩
  exact Bx.cell h2 j (by simp)
theorem Sls.lt {w : World} {R n : Nat} {Z : Nat → List Int} {i : Nat} (h : Sls w R n Z i) : R < w.heap.size := by
  obtain ⟨cs, h1, h2, h3, h4⟩ := h
  exact Bx.lt h2
theorem Sls.step {w : World} {R n : Nat} {Z : Nat → List Int} {i : Nat} (h : Sls w R n Z i) (hi : i < n) {a : Option Addr} {m c : Nat} (hI : Ints w a m c (Z i)) : Sls (w.setCell ⟨R, i, none⟩ (.slice a m c)) R n Z (i + 1) := by
  have hc := h.cells
  obtain ⟨cs, h1, h2, h3, h4⟩ := h
  have hg := grow_setCell w R i (.slice a m c)
  refine ⟨cs.set i (.slice a m c), by simpa using h1, by simpa using Bx.set h2 i (.slice a m c), fun v hv => ?_, fun j hj => ?_⟩
  · rcases List.mem_or_eq_of_mem_set hv with hv | rfl
    · exact h3 v hv
    · exact ⟨a, m, c, rfl⟩
  · by_cases e : j = i
    · subst e
      exact ⟨a, m, c, by rw [List.getElem?_set_self (by omega)], hI.away hg hc⟩
    · obtain ⟨a2, m2, c2, h5, h6⟩ := h4 j (by omega)
      exact ⟨a2, m2, c2, by rw [List.getElem?_set_ne (fun x => e x.symm)]; exact h5, h6.away hg hc⟩
/-- two results: the rows, and no fault -/
def GotSls (w : World) (n : Nat) (Z : Nat → List Int) (e : Ending) (w' : World) : Prop := ∃ R, e = .returned (.tuple #[.slice (some ⟨R, 0, none⟩) n n, .int .i64 0]) ∧ Sls w' R n Z n ∧ Below w.heap.size w w'
set_option maxRecDepth 100000 in
set_option maxHeartbeats 8000000 in
theorem All_no (ca : Option Addr) (cn cc : Nat) (caps : List Int) (a : Option Addr) (n c : Nat) (L : List Ev) (w : World) (hcp : Ints w ca cn cc caps) (h : Evs w a n c L) (hn : n ≤ 1000) (hno : mayE caps L = false) :
    Calls Try.prog 7 #[.slice ca cn cc, .slice a n c] w fun e w' => e = .returned (.tuple #[.slice none 0 0, .int .i64 1]) ∧ Below w.heap.size w w' := by
  have HO := Lib.hid (opened_no ca cn cc caps a n c L w hcp h hn hno)
  clear hcp h hno
  go_enter Try.func7, Try.ntmps7
  go_wp2_with fail
  refine HO.out.mono ?_
  rintro e w1 ⟨rfl, hb⟩
  have B_1 := Lib.hid (hb.alloc hb.size (.cells #[.slice none 0 0, .slice none 0 0, .map none] 41))
  clear hb
  go_wp2_with fail
  go_ret2
  exact ⟨rfl, B_1.out⟩
set_option maxRecDepth 100000 in
set_option maxHeartbeats 8000000 in
theorem All_ok (ca : Option Addr) (cn cc : Nat) (caps : List Int) (a : Option Addr) (n c : Nat) (L : List Ev) (w : World) (hcp : Ints w ca cn cc caps) (h : Evs w a n c L) (hg : Good cn caps L) :
    Calls Try.prog 7 #[.slice ca cn cc, .slice a n c] w (GotSls w n (edgesZ caps L)) := by
  have HO := Lib.hid (opened_yes ca cn cc caps a n c L w hcp h hg)
  have HR := Lib.hid (fun p W i hcn hb hi2 => rising_any p cn caps L i W hcn hb hi2 hg)
  have hn1 : n ≤ 1000 := by have := h.recs.len_eq; have := hg.few; omega
  obtain ⟨i0, hi, hz0, hz1, hz2⟩ := info_parts Try.info22s
  clear hcp h hg
  go_enter Try.func7, Try.ntmps7
  go_wp2_with fail
  refine HO.out.mono ?_
  rintro e w1 ⟨M, rfl, hbk, hb⟩
  have DX := Lib.hid (below_alloc w1 (.cells #[.slice ca cn cc, .slice a n c, .map (some M)] 41))
  have B_1 := Lib.hid (hb.trans (Below.mono DX.out hb.size))
  have K_1 := Lib.hid (Bx.new w1 #[.slice ca cn cc, .slice a n c, .map (some M)] 41)
  have BB := Lib.hid (hbk.below DX.out)
  clear hb hbk HO DX
  go_upto_region 1 with (fail)
  obtain ⟨b0, hb0⟩ : ∃ b, b = w1.heap.size := ⟨_, rfl⟩
  obtain ⟨v1, hv1⟩ : ∃ v, v = w1.alloc (.cells #[.slice ca cn cc, .slice a n c, .map (some M)] 41) := ⟨_, rfl⟩
  rw [← hv1] at B_1 K_1 BB ⊢
  rw [← hb0] at K_1 ⊢
  clear hb0 hv1
  obtain ⟨w2, hrun, hown, hgrow⟩ := run_make_full (P := Try.prog) v1 v1.heap.size 28 22 i0 (.slice none 0 0) 1 Try.underlying28 hi hz0 hz1 .i64 .i64 n (by rw [hz2]; omega) (by unfold maxLen; omega) (Nat.le_refl _)
  have D2 := Lib.hid ((Below.refl v1.heap.size v1).grown hgrow (Nat.le_refl _) (fun k hk => by cases hk))
  have hrow : w2.heap[v1.heap.size]? = some (.cells _ 22 (0, 0)) := row_of_own hown
  have S0 := Lib.hid (show Sls w2 v1.heap.size n (edgesZ caps L) 0 from ⟨List.replicate n (.slice none 0 0), by simp, by have h2 := hrow; simp [toList_madeCells_one, Value.cells] at h2; simpa [Bx] using h2, fun v hv => ⟨none, 0, 0, (List.mem_replicate.1 hv).2⟩, fun j hj => absurd hj (by omega)⟩)
  have K2 := Lib.hid (K_1.out.below D2.out); have BB2 := Lib.hid (BB.out.below D2.out); have B2 := Lib.hid (B_1.out.trans (Below.mono D2.out B_1.out.size))
  have hRw : w.heap.size ≤ v1.heap.size := B_1.out.size
  have hRb : b0 < v1.heap.size := K_1.out.lt
  have hMR : M < v1.heap.size := by obtain ⟨q, hq⟩ := BB.out.mp; exact hq.lt
  obtain ⟨R, hR⟩ : ∃ R, R = v1.heap.size := ⟨_, rfl⟩
  rw [← hR] at S0 hRw hRb hMR hrun
  clear hown hgrow hrow D2 K_1 BB B_1 hR
  go_wp2_with fail
  rw [hrun]
  dsimp only [Result.andThen]
  clear hrun
  go_wp2_with fail
  go_loopw [24] (fun j wr => ∃ i : Nat, i ≤ n ∧ j = .int .i64 i ∧ Sls wr R n (edgesZ caps L) i ∧ Bx wr b0 #[.slice ca cn cc, .slice a n c, .map (some M)] 41 ∧ Book wr ⟨ca, cn, cc, a, n, c, M⟩ caps L ∧ Below w.heap.size w wr) (fun j _ => n - (intOf j).toNat)
  case atStart => exact ⟨0, Nat.zero_le _, rfl, S0.out, K2.out, BB2.out, B2.out⟩
  case round =>
    obtain ⟨i, hi, rfl, hs, hk, hbk, hb⟩ := hrel
    have S := Lib.hid hs; have K := Lib.hid hk; have BB := Lib.hid hbk; have B := Lib.hid hb
    clear hs hk hbk hb S0 K2 BB2 B2
    by_cases hlt : i < n
    · have hlt' : (i : Int) < (n : Int) := by omega
      obtain ⟨t0, t1, t2⟩ := K.out.cells3
      go_wp2_with fail
      refine (HR.out ⟨ca, cn, cc, a, n, c, M⟩ _ i rfl BB.out hlt).mono ?_
      rintro e w3 ⟨a2, n2, c2, rfl, hI, hb3⟩
      have S3 := Lib.hid (S.out.below hb3); have K3 := Lib.hid (K.out.below hb3); have BB3 := Lib.hid (BB.out.below hb3); have B3 := Lib.hid (B.out.trans (Below.mono hb3 B.out.size))
      have HI := Lib.hid hI
      clear hI hb3 S K BB B t0 t1 t2
      obtain ⟨⟨v, hv⟩, hf⟩ := S3.out.slot i hlt
      have hRl := S3.out.lt
      have G := Lib.hid (grow_setCell w3 R i (.slice a2 n2 c2))
      have B4 := Lib.hid (B3.out.grown G.out B3.out.size (fun k hk => by cases hk; exact hRw))
      have S4 := Lib.hid (S3.out.step hlt HI.out)
      have K4 := Lib.hid (K3.out.other G.out (some_ne (by omega)))
      have BB4 := Lib.hid (show Book (w3.setCell ⟨R, i, none⟩ (.slice a2 n2 c2)) ⟨ca, cn, cc, a, n, c, M⟩ caps L from ⟨BB3.out.caps.away G.out S3.out.cells, BB3.out.evs.away G.out S3.out.cells, by obtain ⟨q, hq⟩ := BB3.out.mp; exact ⟨q, hq.other G.out (show M ≠ R by omega)⟩⟩)
      clear G S3 K3 BB3 B3 HI
      go_wp2_with fail
      go_roundw
      case rel => exact ⟨i + 1, by omega, by go_num, S4.out, K4.out, BB4.out, B4.out⟩
      case measure => simp [intOf]; omega
    · have hie : i = n := by omega
      subst hie
      go_wp2_with fail
      go_ret2
      exact ⟨R, rfl, S.out, B.out⟩
end Go.Proofs.Ytjkbmenmpnidhaa
