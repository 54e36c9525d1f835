/- Contracts of Every, the reference's Every, and alive. -/
import Derived.Test.YtmmhjdpodagkhaaAll
namespace Go.Proofs.Ytmmhjdpodagkhaa
open Go.RowKit

def everyF : Nat → List Int → List Int × Int
  | 0, _ => ([], 0)
  | f + 1, S => if S = [] then ([], 0) else if (getS S).2.2 = 0 then (if (everyF f (S.drop (getS S).2.1)).2 = 0 then ((getS S).1 :: (everyF f (S.drop (getS S).2.1)).1, 0) else ([], (everyF f (S.drop (getS S).2.1)).2)) else ([], (getS S).2.2)
def everyL (T : List Int) : List Int × Int := everyF (T.length + 1) T
def behind (L : List Int) (r : List Int × Int) : List Int × Int := if r.2 = 0 then (L ++ r.1, 0) else ([], r.2)

theorem every_nil (f : Nat) : everyF f [] = ([], 0) := by cases f <;> simp [everyF]
theorem behind_nil (r : List Int × Int) (h : r.2 ≠ 0 → r.1 = []) : behind [] r = r := by
  unfold behind; split
  · rename_i h0; rw [List.nil_append]; exact Prod.ext rfl h0.symm
  · rename_i h0; exact Prod.ext (h h0).symm rfl
theorem every_bad (f : Nat) (S : List Int) : (everyF f S).2 ≠ 0 → (everyF f S).1 = [] := by
  cases f with
  | zero => intro _; rfl
  | succ f =>
    by_cases hS : S = []
    · rw [everyF, if_pos hS]; simp
    · by_cases hg : (getS S).2.2 = 0
      · by_cases h2 : (everyF f (S.drop (getS S).2.1)).2 = 0
        · rw [everyF, if_neg hS, if_pos hg, if_pos h2]; simp
        · rw [everyF, if_neg hS, if_pos hg, if_neg h2]; simp
      · rw [everyF, if_neg hS, if_neg hg]; simp
theorem every_err (f : Nat) (S : List Int) (L : List Int) (hS : S ≠ []) (h : (getS S).2.2 ≠ 0) : behind L (everyF (f + 1) S) = ([], (getS S).2.2) := by
  rw [everyF, if_neg hS, if_neg h, behind, if_neg h]
theorem every_more (f : Nat) (S : List Int) (L : List Int) (hS : S ≠ []) (h : (getS S).2.2 = 0) : behind L (everyF (f + 1) S) = behind (L ++ [(getS S).1]) (everyF f (S.drop (getS S).2.1)) := by
  rw [everyF, if_neg hS, if_pos h]
  by_cases h2 : (everyF f (S.drop (getS S).2.1)).2 = 0
  · rw [if_pos h2, behind, if_pos rfl, behind, if_pos h2, List.append_assoc]; rfl
  · rw [if_neg h2, behind, if_neg h2, behind, if_neg h2]

theorem ret_slice_err {a : Option Addr} {n m : Nat} {c c' : Int} (h : c = c') : Ending.returned (.tuple #[.slice a n m, .int .i64 c]) = .returned (.tuple #[.slice a n m, .int .i64 c']) := by rw [h]
def GotIntsE (w : World) (L : List Int) (c : Int) (e : Ending) (w' : World) : Prop := ∃ a n cap, e = .returned (.tuple #[.slice a n cap, .int .i64 c]) ∧ Ints w' a n cap L ∧ Below w.heap.size w w'
def Smalls (L : List Int) : Prop := ∀ n ∈ L, smallB n = true
theorem Smalls.i64 {L : List Int} (h : Smalls L) (i : Nat) : I64 (en L i) := by
  by_cases hi : i < L.length
  · have := smallB_iff.1 (h _ (en_mem L i hi)); unfold I64; omega
  · rw [en_of_le L i (by omega)]; exact ⟨by omega, by omega⟩
theorem Smalls.more {L : List Int} (h : Smalls L) {n : Int} (hn : smallB n = true) : Smalls (L ++ [n]) := by
  intro x hx
  rcases List.mem_append.1 hx with h1 | h1
  · exact h x h1
  · rw [List.mem_singleton.1 h1]; exact hn

set_option maxRecDepth 100000 in
set_option maxHeartbeats 1000000 in
theorem every_any (s : ByteArray) (w : World) (hs : s.size ≤ 1000000) :
    Calls Try.prog 20 #[.string s] w (GotIntsE w (everyL (tx s)).1 (everyL (tx s)).2) := by
  have TL := Lib.hid (tx_len s)
  have TB := Lib.hid (tx_byt s)
  have START : Hid (behind [] (everyF (s.size + 1) ((tx s).drop 0)) = everyL (tx s)) := by
    show _ = _
    rw [List.drop_zero, behind_nil _ (every_bad _ _), everyL, tx_len]
  obtain ⟨T, hT⟩ : ∃ T, T = tx s := ⟨_, rfl⟩
  have GET := Lib.hid (fun (p : Nat) (W : World) => get_any s (p : Int) W hs)
  rw [← hT] at TL TB START GET
  rw [← hT]
  clear hT
  go_enter Try.func20, Try.ntmps20
  go_wp2_with fail
  go_loopw [4, 5] (fun v i wr => ∃ (p f : Nat) (L : List Int), p ≤ s.size ∧ s.size - p < f ∧ i = .int .i64 p ∧ Own wr w.heap.size v L ∧ Below w.heap.size w wr ∧ L.length ≤ p ∧ Hid (Smalls L) ∧ Hid (behind L (everyF f (T.drop p)) = everyL T)) (fun _ i _ => s.size - (intOf i).toNat)
  case atStart => exact ⟨0, s.size + 1, [], Nat.zero_le _, by omega, rfl, World.ownsRow_nil _ _ _ _, Below.refl _ _, by simp, fun n hn => absurd hn (by simp), START.out⟩
  case round =>
    obtain ⟨p, f, L, hp, hf, rfl, ho, hb, hLp, SM, EQ⟩ := hrel
    have HO := Lib.hid ho; have HB := Lib.hid hb; clear ho hb
    obtain ⟨f, rfl⟩ : ∃ g, f = g + 1 := ⟨f - 1, by omega⟩
    by_cases hlt : p < s.size
    · have hlt' : (p : Int) < (s.size : Int) := by omega
      have hne : T.drop p ≠ [] := by
        intro h; have := congrArg List.length h; rw [List.length_drop, TL.out] at this; simp at this; omega
      have GZ := Lib.hid (getZ_in T p (by rw [TL.out]; omega))
      have ERR := Lib.hid (every_err f (T.drop p) L hne)
      have MORE := Lib.hid (every_more f (T.drop p) L hne)
      have PG := Lib.hid (put_get (T.drop p) (byt_drop TB.out p))
      have DL : (T.drop p).length = s.size - p := by rw [List.length_drop, TL.out]
      clear hne
      cases hg : getS (T.drop p) with
      | mk v r =>
        obtain ⟨k, c⟩ := r
        by_cases hc : c = 0
        · subst hc
          have GZ2 := Lib.hid (show getZ T p = (v, (p : Int) + k, 0) by rw [GZ.out, hg]; rfl)
          obtain ⟨_, k1, kl, _, v0, v1⟩ := PG.out v k hg
          have MO := Lib.hid (MORE.out (by rw [hg]))
          rw [hg, List.drop_drop] at MO
          clear GZ ERR MORE PG hg
          have HSV := Lib.hid (smallB_iff.2 ⟨v0, v1⟩)
          have hL6 : L.length ≤ 1000000 := by omega
          have hsz := HB.out.size
          go_wp2_with fail
          refine (GET.out _ _).mono ?_
          rintro e w' ⟨rfl, rfl⟩
          rw [GZ2.out]
          go_wp2_with (at_builtin; refine app1 rfl (.tmp 23) (.tmp 25) rfl w.heap.size _ _ rfl HO.out v rfl hL6 w HB.out hsz ?_; intro v' w3 ho3 hb3)
          go_roundw
          case rel => exact ⟨p + k, f, L ++ [v], by omega, by omega, by go_num, ho3.out, hb3.out, by rw [List.length_append, List.length_singleton]; omega, SM.out.more HSV.out, by show _ = _; rw [← EQ.out, MO.out]⟩
          case measure => simp [intOf]; omega
        · have GZ2 := Lib.hid (show getZ T p = (v, 0, c) by rw [GZ.out, hg]; simp only []; rw [if_neg hc])
          have EO := Lib.hid (ERR.out (by rw [hg]; exact hc))
          rw [hg] at EO
          clear GZ ERR MORE PG hg
          have hcb : (c != 0) = true := by rw [bne_iff_ne]; exact hc
          clear hc
          go_wp2_with fail
          refine (GET.out _ _).mono ?_
          rintro e w' ⟨rfl, rfl⟩
          rw [GZ2.out]
          go_wp2_with fail
          go_ret2
          exact ⟨none, 0, 0, ret_slice_err (by rw [← EQ.out, EO.out]), by rw [← EQ.out, EO.out]; exact Ints.nil _, HB.out⟩
    · have hd : T.drop p = [] := List.drop_of_length_le (by rw [TL.out]; omega)
      have E0 := Lib.hid (show behind L (everyF (f + 1) (T.drop p)) = (L, 0) by rw [hd, every_nil, behind, if_pos rfl, List.append_nil])
      clear hd
      obtain ⟨a, cap, rfl, hi⟩ := HO.out.ints SM.out.i64
      have HI := Lib.hid hi; clear hi
      go_wp2_with fail
      go_ret2
      exact ⟨a, _, cap, ret_slice_err (by rw [← EQ.out, E0.out]), by rw [← EQ.out, E0.out]; exact HI.out, HB.out⟩
set_option maxRecDepth 100000 in
set_option maxHeartbeats 1000000 in
theorem refevery_any (s : ByteArray) (w : World) (hs : s.size ≤ 1000000) :
    Calls Try.prog 22 #[.string s] w (GotIntsE w (everyL (tx s)).1 (everyL (tx s)).2) := by
  have TL := Lib.hid (tx_len s)
  have TB := Lib.hid (tx_byt s)
  have START : Hid (behind [] (everyF (s.size + 1) ((tx s).drop 0)) = everyL (tx s)) := by
    show _ = _
    rw [List.drop_zero, behind_nil _ (every_bad _ _), everyL, tx_len]
  obtain ⟨T, hT⟩ : ∃ T, T = tx s := ⟨_, rfl⟩
  have GET := Lib.hid (fun (p : Nat) (W : World) (hp : p ≤ s.size) => refget_in s p W hp hs)
  rw [← hT] at TL TB START GET
  rw [← hT]
  clear hT
  go_enter Try.func22, Try.ntmps22
  go_wp2_with fail
  go_loopw [4, 5] (fun v i wr => ∃ (p f : Nat) (L : List Int), p ≤ s.size ∧ s.size - p < f ∧ i = .int .i64 p ∧ Own wr w.heap.size v L ∧ Below w.heap.size w wr ∧ L.length ≤ p ∧ Hid (Smalls L) ∧ Hid (behind L (everyF f (T.drop p)) = everyL T)) (fun _ i _ => s.size - (intOf i).toNat)
  case atStart => exact ⟨0, s.size + 1, [], Nat.zero_le _, by omega, rfl, own_nil w, below_alloc _ _, by simp, fun n hn => absurd hn (by simp), START.out⟩
  case round =>
    obtain ⟨p, f, L, hp, hf, rfl, ho, hb, hLp, SM, EQ⟩ := hrel
    have HO := Lib.hid ho; have HB := Lib.hid hb; clear ho hb
    obtain ⟨f, rfl⟩ : ∃ g, f = g + 1 := ⟨f - 1, by omega⟩
    by_cases hlt : p < s.size
    · have hlt' : (p : Int) < (s.size : Int) := by omega
      have hne : T.drop p ≠ [] := by
        intro h; have := congrArg List.length h; rw [List.length_drop, TL.out] at this; simp at this; omega
      have GZ := Lib.hid (getZ_in T p (by rw [TL.out]; omega))
      have ERR := Lib.hid (every_err f (T.drop p) L hne)
      have MORE := Lib.hid (every_more f (T.drop p) L hne)
      have PG := Lib.hid (put_get (T.drop p) (byt_drop TB.out p))
      have DL : (T.drop p).length = s.size - p := by rw [List.length_drop, TL.out]
      clear hne
      cases hg : getS (T.drop p) with
      | mk v r =>
        obtain ⟨k, c⟩ := r
        by_cases hc : c = 0
        · subst hc
          have GZ2 := Lib.hid (show getZ T p = (v, (p : Int) + k, 0) by rw [GZ.out, hg]; rfl)
          obtain ⟨_, k1, kl, _, v0, v1⟩ := PG.out v k hg
          have MO := Lib.hid (MORE.out (by rw [hg]))
          rw [hg, List.drop_drop] at MO
          clear GZ ERR MORE PG hg
          have HSV := Lib.hid (smallB_iff.2 ⟨v0, v1⟩)
          have hL6 : L.length ≤ 1000000 := by omega
          have hsz := HB.out.size
          go_wp2_with fail
          refine (GET.out _ _ hp).mono ?_
          rintro e w' ⟨rfl, rfl⟩
          rw [GZ2.out]
          go_wp2_with (at_builtin; refine app1 rfl (.tmp 24) (.tmp 26) rfl w.heap.size _ _ rfl HO.out v rfl hL6 w HB.out hsz ?_; intro v' w3 ho3 hb3)
          go_roundw
          case rel => exact ⟨p + k, f, L ++ [v], by omega, by omega, by go_num, ho3.out, hb3.out, by rw [List.length_append, List.length_singleton]; omega, SM.out.more HSV.out, by show _ = _; rw [← EQ.out, MO.out]⟩
          case measure => simp [intOf]; omega
        · have GZ2 := Lib.hid (show getZ T p = (v, 0, c) by rw [GZ.out, hg]; simp only []; rw [if_neg hc])
          have EO := Lib.hid (ERR.out (by rw [hg]; exact hc))
          rw [hg] at EO
          clear GZ ERR MORE PG hg
          have hcb : (c != 0) = true := by rw [bne_iff_ne]; exact hc
          clear hc
          go_wp2_with fail
          refine (GET.out _ _ hp).mono ?_
          rintro e w' ⟨rfl, rfl⟩
          rw [GZ2.out]
          go_wp2_with fail
          go_ret2
          exact ⟨none, 0, 0, ret_slice_err (by rw [← EQ.out, EO.out]), by rw [← EQ.out, EO.out]; exact Ints.nil _, HB.out⟩
    · have hd : T.drop p = [] := List.drop_of_length_le (by rw [TL.out]; omega)
      have E0 := Lib.hid (show behind L (everyF (f + 1) (T.drop p)) = (L, 0) by rw [hd, every_nil, behind, if_pos rfl, List.append_nil])
      clear hd
      obtain ⟨a, cap, rfl, hi⟩ := HO.out.ints SM.out.i64
      have HI := Lib.hid hi; clear hi
      go_wp2_with fail
      go_ret2
      exact ⟨a, _, cap, ret_slice_err (by rw [← EQ.out, E0.out]), by rw [← EQ.out, E0.out]; exact HI.out, HB.out⟩

/-! ### alive -/
theorem alive_put : strOf (putL 300) = ⟨#[172, 2]⟩ := by decide
theorem alive_get : signedZ (tx ⟨#[5]⟩) 0 = (-3, 1, 0) := by
  rw [show (⟨#[5]⟩ : ByteArray) = strOf [5] by decide, tx_strOf [5] (by intro b hb; simp at hb; omega)]
  decide
set_option maxRecDepth 100000 in
set_option maxHeartbeats 1000000 in
theorem alive_any (w : World) : Calls Try.prog 13 #[] w fun e w' => e = .returned (.bool true) ∧ Below w.heap.size w w' := by
  have AP := Lib.hid alive_put
  have AG := Lib.hid alive_get
  go_enter Try.func13, Try.ntmps13
  go_wp2_with fail
  refine (Put_ok 300 _ (by omega) (by omega)).mono ?_
  rintro e w1 ⟨rfl, hb⟩
  have HB := Lib.hid hb; clear hb
  rw [AP.out]
  go_wp2_with fail
  refine (signed_any ⟨#[5]⟩ 0 _ (by decide)).mono ?_
  rintro e w2 ⟨rfl, rfl⟩
  rw [AG.out]
  go_wp2_with fail
  go_ret
  exact ⟨rfl, HB.out⟩
end Go.Proofs.Ytmmhjdpodagkhaa
