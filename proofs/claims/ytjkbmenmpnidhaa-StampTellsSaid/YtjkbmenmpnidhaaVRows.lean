/- Contract of the reference's Rows: it reads two rows in an open order. -/
import Derived.Test.YtjkbmenmpnidhaaVRead
namespace Go.Proofs.Ytjkbmenmpnidhaa
open Go.RowKit

theorem list_ext_en {l m : List Int} (hlen : l.length = m.length) (h : ∀ j, j < l.length → en l j = en m j) : l = m := by
  refine List.ext_getElem hlen fun i h1 h2 => ?_
  have := h i h1
  rwa [en_get l i h1, en_get m i h2] at this

set_option maxRecDepth 100000 in
theorem rows_any (a : Option Addr) (len cap : Nat) (l : List Int) (a2 : Option Addr) (len2 cap2 : Nat) (l2 : List Int) (w : World) (h : Ints w a len cap l) (h2 : Ints w a2 len2 cap2 l2) :
    Calls Try.prog 10 #[.slice a len cap, .slice a2 len2 cap2] w fun e w' => e = .returned (.bool (decide (l = l2))) ∧ Below w.heap.size w w' := by
  have hle := h.len_le
  have hle2 := h2.len_le
  have Hl := Lib.hid h.len_eq
  have Hl2 := Lib.hid h2.len_eq
  have H := Lib.hid h; have H2 := Lib.hid h2; clear h h2
  by_cases hne : len = len2
  · subst hne
    go_enter Try.func10, Try.ntmps10
    go_wp2_with fail
    go_loopw [13] (fun i wr => ∃ k : Nat, k ≤ len ∧ i = .int .i64 k ∧ (∀ j, j < k → en l j = en l2 j) ∧ Below w.heap.size w wr) (fun i _ => len - (intOf i).toNat)
    case atStart => exact ⟨0, Nat.zero_le _, rfl, fun j hj => absurd hj (by omega), Below.refl _ _⟩
    case round =>
      obtain ⟨k, hk, rfl, hall, hb⟩ := hrel
      have Ha := Lib.hid hall; clear hall
      by_cases hlt : k < len
      · obtain ⟨b, off, rfl, hc⟩ := (H.out.below hb).cell k hlt
        obtain ⟨b2, off2, rfl, hc2⟩ := (H2.out.below hb).cell k hlt
        have hlt' : (k : Int) < (len : Int) := by omega
        obtain ⟨n, hn⟩ : ∃ n, n = en l k := ⟨_, rfl⟩
        obtain ⟨m, hm⟩ : ∃ n, n = en l2 k := ⟨_, rfl⟩
        rw [← hn] at hc
        rw [← hm] at hc2
        have Hn := Lib.hid hn; have Hm := Lib.hid hm; clear hn hm
        go_wp2_with fail
        go_quiet (fail)
        have hb' := below_drewN hb nq
        clear hb
        by_cases hc : n = m
        · subst hc
          go_wp2_with fail
          go_roundw
          case rel =>
            refine ⟨k + 1, by omega, by go_num, fun j hj => ?_, hb'⟩
            by_cases hjk : j = k
            · rw [hjk, ← Hn.out, ← Hm.out]
            · exact Ha.out j (by omega)
          case measure => simp [intOf]; omega
        · have hcb : (n != m) = true := by simpa using hc
          go_wp2_with fail
          go_ret
          exact ⟨ret_bool (by symm; rw [decide_eq_false_iff_not]; intro hx; exact hc (by rw [Hn.out, Hm.out, hx])), hb'⟩
      · have hx : l = l2 := list_ext_en (by rw [Hl.out, Hl2.out]) (fun j hj => Ha.out j (by rw [Hl.out] at hj; omega))
        have Hx := Lib.hid hx; clear hx
        go_wp2_with fail
        go_ret
        exact ⟨ret_bool (by symm; rw [decide_eq_true_eq]; exact Hx.out), hb⟩
  · have hx : l ≠ l2 := fun hx => hne (by rw [← Hl.out, ← Hl2.out, hx])
    have hx' : decide (l = l2) = false := by simpa using hx
    have Hx := Lib.hid hx'; clear hx hx'
    have hne' : ((len : Int) != (len2 : Int)) = true := by rw [bne_iff_ne]; omega
    go_enter Try.func10, Try.ntmps10
    go_wp2_with fail
    go_ret
    exact ⟨ret_bool Hx.out.symm, Below.refl _ _⟩
end Go.Proofs.Ytjkbmenmpnidhaa
