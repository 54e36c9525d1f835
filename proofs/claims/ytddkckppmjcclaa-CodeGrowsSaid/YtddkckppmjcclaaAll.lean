/- Contracts of All, Every, the reference's All and Every, and alive. -/
import Derived.Test.YtddkckppmjcclaaRef2
namespace Go.Proofs.Ytddkckppmjcclaa
open Go.RowKit
set_option linter.unusedSimpArgs false
set_option linter.unusedVariables false

def allL (l : List Int) : List Int := l.flatMap putL
def AllOk (w : World) (S : ByteArray) (e : Ending) (w' : World) : Prop := e = .returned (.tuple #[.string S, .int .i64 0]) ∧ Below w.heap.size w w'
def AllNo (w : World) (e : Ending) (w' : World) : Prop := e = .returned (.tuple #[.string ⟨#[]⟩, .int .i64 1]) ∧ Below w.heap.size w w'

theorem smallB_iff {n : Int} : smallB n = true ↔ 0 ≤ n ∧ n ≤ 2147483647 := by rw [smallB, decide_eq_true_eq]
theorem allL_append (l m : List Int) : allL (l ++ m) = allL l ++ allL m := by simp [allL]
theorem allL_byt (l : List Int) (h : ∀ n ∈ l, smallB n = true) : Byt (allL l) := by
  intro b hb
  obtain ⟨n, hn, hb⟩ := List.mem_flatMap.1 hb
  have := smallB_iff.1 (h n hn)
  exact putL_byt this.1 (by omega) b hb
theorem allL_len (l : List Int) : (allL l).length ≤ 5 * l.length := by
  induction l with
  | nil => simp [allL]
  | cons n l ih =>
    have := (putL_len n).2
    have e : allL (n :: l) = putL n ++ allL l := rfl
    rw [e, List.length_append, List.length_cons]; omega
theorem allL_succ (l : List Int) (k : Nat) (h : k < l.length) : allL (l.take (k + 1)) = allL (l.take k) ++ putL (en l k) := by
  rw [List.take_add_one, List.getElem?_eq_getElem h, allL_append, en_get _ _ h]; simp [allL]

theorem all_get {l : List Int} (h : l.all smallB = true) (k : Nat) (hk : k < l.length) : smallB (en l k) = true := by
  rw [List.all_eq_true] at h; exact h _ (en_mem l k hk)
theorem own8_nilB (w : World) (base : Nat) : Own8 w base (.slice none 0 0) [] := World.ownsRow_nil _ _ _ _

set_option maxRecDepth 100000 in
set_option maxHeartbeats 1000000 in
theorem all_ok (a : Option Addr) (len cap : Nat) (l : List Int) (w : World) (h : Ints w a len cap l) (hl : len ≤ 1000) (hs : l.all smallB = true) :
    Calls Try.prog 18 #[.slice a len cap] w (AllOk w (strOf (allL l))) := by
  have LE := Lib.hid h.len_eq
  have AG := Lib.hid (all_get hs)
  have AB := Lib.hid (allL_byt l (by rw [List.all_eq_true] at hs; exact hs))
  have H := Lib.hid h; clear h hs
  go_enter Try.func18, Try.ntmps18
  go_wp2_with fail
  go_loopw [4, 9] (fun v i wr => ∃ k : Nat, k ≤ len ∧ i = .int .i64 k ∧ Own8 wr w.heap.size v (allL (l.take k)) ∧ Below w.heap.size w wr) (fun _ i _ => len - (intOf i).toNat)
  case atStart => exact ⟨0, Nat.zero_le _, rfl, own8_nilB _ _, Below.refl _ _⟩
  case round =>
    obtain ⟨k, hk, rfl, ho, hb⟩ := hrel
    have HO := Lib.hid ho; have HB := Lib.hid hb; clear ho hb
    by_cases hlt : k < len
    · obtain ⟨b, off, rfl, hc⟩ := (H.out.below HB.out).cell k hlt
      have hlt' : (k : Int) < (len : Int) := by omega
      have hsm := AG.out k (by rw [LE.out]; exact hlt)
      have SUC := Lib.hid (allL_succ l k (by rw [LE.out]; exact hlt))
      have hlen : (allL (l.take k)).length ≤ 999000 := by
        have := allL_len (l.take k); rw [List.length_take] at this; omega
      obtain ⟨n, hn⟩ : ∃ n, n = en l k := ⟨_, rfl⟩
      rw [← hn] at hc hsm SUC
      obtain ⟨n0, n1⟩ := smallB_iff.1 hsm
      have HS := Lib.hid hsm; clear hn hsm
      have HL := Lib.hid hlen; clear hlen
      go_wp2_with fail
      have HO2 := HO
      have HB2 := HB
      refine (small_any _ _).mono ?_
      rintro e w' ⟨rfl, rfl⟩
      rw [HS.out]
      go_wp2_with fail
      refine (put_any _ _ _ _ _ HO2.out HB2.out.size n0 n1 HL.out).mono ?_
      rintro e w1 ⟨v1, rfl, ho1, hb1⟩
      have HO1 := Lib.hid ho1; have HB1 := Lib.hid (HB2.out.trans hb1); clear ho1 hb1
      go_wp2_with fail
      go_roundw
      case rel => exact ⟨k + 1, by omega, by go_num, by rw [SUC.out]; exact HO1.out, HB1.out⟩
      case measure => simp [intOf]; omega
    · have hkm : l.take k = l := List.take_of_length_le (by rw [LE.out]; omega)
      rw [hkm] at HO
      obtain ⟨a2, cap2, rfl, hcv⟩ := HO.out.str AB.out
      clear hkm
      go_wp2_with fail
      go_ret2
      exact ⟨rfl, HB.out⟩

set_option maxRecDepth 100000 in
set_option maxHeartbeats 1000000 in
theorem all_no (a : Option Addr) (len cap : Nat) (l : List Int) (w : World) (h : Ints w a len cap l) (hl : len ≤ 1000) (hs : l.all smallB = false) :
    Calls Try.prog 18 #[.slice a len cap] w (AllNo w) := by
  have LE := Lib.hid h.len_eq
  have BAD : Hid (¬ ∀ j, j < len → smallB (en l j) = true) := fun hj => by
    rw [List.all_eq_false] at hs
    obtain ⟨x, hx, hn⟩ := hs
    obtain ⟨j, hjl, rfl⟩ := List.getElem_of_mem hx
    exact hn (by have := hj j (by rw [← h.len_eq]; exact hjl); rwa [en_get l j hjl] at this)
  have H := Lib.hid h; clear h hs
  go_enter Try.func18, Try.ntmps18
  go_wp2_with fail
  go_loopw [4, 9] (fun v i wr => ∃ k : Nat, k ≤ len ∧ i = .int .i64 k ∧ Own8 wr w.heap.size v (allL (l.take k)) ∧ Below w.heap.size w wr ∧ Hid (∀ j, j < k → smallB (en l j) = true)) (fun _ i _ => len - (intOf i).toNat)
  case atStart => exact ⟨0, Nat.zero_le _, rfl, own8_nilB _ _, Below.refl _ _, fun j hj => absurd hj (by omega)⟩
  case round =>
    obtain ⟨k, hk, rfl, ho, hb, HS⟩ := hrel
    have HO := Lib.hid ho; have HB := Lib.hid hb; clear ho hb
    by_cases hlt : k < len
    · obtain ⟨b, off, rfl, hc⟩ := (H.out.below HB.out).cell k hlt
      have hlt' : (k : Int) < (len : Int) := by omega
      have SUC := Lib.hid (allL_succ l k (by rw [LE.out]; exact hlt))
      have hlen : (allL (l.take k)).length ≤ 999000 := by
        have := allL_len (l.take k); rw [List.length_take] at this; omega
      obtain ⟨n, hn⟩ : ∃ n, n = en l k := ⟨_, rfl⟩
      rw [← hn] at hc SUC
      have HN := Lib.hid hn; clear hn
      have HL := Lib.hid hlen; clear hlen
      cases hsm : smallB n with
      | true =>
        obtain ⟨n0, n1⟩ := smallB_iff.1 hsm
        have HSM := Lib.hid hsm; clear hsm
        go_wp2_with fail
        refine (small_any _ _).mono ?_
        rintro e w' ⟨rfl, rfl⟩
        rw [HSM.out]
        go_wp2_with fail
        refine (put_any _ _ _ _ _ HO.out HB.out.size n0 n1 HL.out).mono ?_
        rintro e w1 ⟨v1, rfl, ho1, hb1⟩
        have HO1 := Lib.hid ho1; have HB1 := Lib.hid (HB.out.trans hb1); clear ho1 hb1
        go_wp2_with fail
        go_roundw
        case rel =>
          refine ⟨k + 1, by omega, by go_num, by rw [SUC.out]; exact HO1.out, HB1.out, fun j hj => ?_⟩
          by_cases hjk : j = k
          · rw [hjk, ← HN.out]; exact HSM.out
          · exact HS.out j (by omega)
        case measure => simp [intOf]; omega
      | false =>
        have HSM := Lib.hid hsm; clear hsm
        go_wp2_with fail
        refine (small_any _ _).mono ?_
        rintro e w' ⟨rfl, rfl⟩
        rw [HSM.out]
        go_wp2_with fail
        go_ret2
        exact ⟨rfl, HB.out⟩
    · exact absurd (fun j hj => HS.out j (by omega)) BAD.out

/-! ### the reference's All -/
set_option maxRecDepth 100000 in
set_option maxHeartbeats 1000000 in
theorem refall_any (a : Option Addr) (len cap : Nat) (l : List Int) (w : World) (h : Ints w a len cap l) (hl : len ≤ 1000) (hs : l.all smallB = true) :
    Calls Try.prog 21 #[.slice a len cap] w (StrTo w (strOf (allL l))) := by
  have LE := Lib.hid h.len_eq
  have AG := Lib.hid (all_get hs)
  have H := Lib.hid h; clear h hs
  go_enter Try.func21, Try.ntmps21
  go_wp2_with fail
  go_loopw [3, 8] (fun v i wr => ∃ k : Nat, k ≤ len ∧ i = .int .i64 k ∧ v = .string (strOf (allL (l.take k))) ∧ Below w.heap.size w wr) (fun _ i _ => len - (intOf i).toNat)
  case atStart => exact ⟨0, Nat.zero_le _, rfl, rfl, Below.refl _ _⟩
  case round =>
    obtain ⟨k, hk, rfl, rfl, hb⟩ := hrel
    have HB := Lib.hid hb; clear hb
    by_cases hlt : k < len
    · obtain ⟨b, off, rfl, hc⟩ := (H.out.below HB.out).cell k hlt
      have hlt' : (k : Int) < (len : Int) := by omega
      have hsm := AG.out k (by rw [LE.out]; exact hlt)
      have SUC := Lib.hid (allL_succ l k (by rw [LE.out]; exact hlt))
      have hlen : (strOf (allL (l.take k))).size ≤ 5000 := by
        have := allL_len (l.take k); rw [List.length_take] at this; rw [strOf_size]; omega
      have hn5 : (strOf (putL (en l k))).size ≤ 5 := by rw [strOf_size]; exact (putL_len _).2
      have APP := Lib.hid (strOf_append (allL (l.take k)) (putL (en l k)))
      rw [← SUC.out] at APP
      obtain ⟨n, hn⟩ : ∃ n, n = en l k := ⟨_, rfl⟩
      rw [← hn] at hc hsm hn5 APP
      obtain ⟨n0, n1⟩ := smallB_iff.1 hsm
      obtain ⟨S1, hS1⟩ : ∃ S, S = strOf (allL (l.take k)) := ⟨_, rfl⟩
      rw [← hS1] at hlen APP ⊢
      clear SUC hn hsm hS1
      have RP := fun W : World => refput_any 4 n W n0 (by show n < (34359738368 : Int); omega) (by omega)
      obtain ⟨S2, hS2⟩ : ∃ S, S = strOf (putL n) := ⟨_, rfl⟩
      rw [show putF 4 n = putL n from rfl, ← hS2] at RP
      rw [← hS2] at hn5 APP
      have HRP := Lib.hid RP
      clear hS2 RP
      go_wp2_with fail
      refine (HRP.out _).mono ?_
      rintro e w1 ⟨rfl, hb1⟩
      have HB1 := Lib.hid (HB.out.trans (hb1.mono HB.out.size)); clear hb1
      go_wp2_with fail
      go_roundw
      case rel => exact ⟨k + 1, by omega, by go_num, by rw [APP.out], HB1.out⟩
      case measure => simp [intOf]; omega
    · have hkm : l.take k = l := List.take_of_length_le (by rw [LE.out]; omega)
      have HKM := Lib.hid hkm
      clear hkm
      go_wp2_with fail
      go_ret
      exact ⟨ret_str (by rw [HKM.out]), HB.out⟩
end Go.Proofs.Ytddkckppmjcclaa
