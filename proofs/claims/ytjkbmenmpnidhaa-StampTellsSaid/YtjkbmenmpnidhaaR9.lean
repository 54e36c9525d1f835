/- bad, Wrong: the reference. -/
import Derived.Test.YtjkbmenmpnidhaaR5
import Derived.Test.YtjkbmenmpnidhaaR6
import Derived.Test.YtjkbmenmpnidhaaR8
namespace Go.Proofs.Ytjkbmenmpnidhaa
open Go.RowKit
set_option linter.unusedSimpArgs false
set_option linter.unusedVariables false
theorem shape_no {L : List Ev} {i : Nat} (h : shapeZ L i = false) : -1 ≤ (evAt L i).start ∧ (evAt L i).start < (i : Int) := by
  unfold shapeZ at h
  have := of_decide_eq_false h
  omega
theorem fields_obj {caps : List Int} {L : List Ev} {i : Nat} (h : fieldsZ caps L i = false) (hk : (evAt L i).kind = 3 ∨ (5 ≤ (evAt L i).kind ∧ (evAt L i).kind ≤ 7)) : 0 ≤ (evAt L i).obj ∧ (evAt L i).obj < (caps.length : Int) := by
  unfold fieldsZ at h
  split at h
  · cases h
  · rw [if_neg (by omega)] at h
    have := of_decide_eq_false h
    have hm : mostZ caps.length (evAt L i).kind = caps.length := by unfold mostZ; rw [if_pos (by omega)]
    rw [hm] at this
    omega
theorem caps_le {caps : List Int} (h : capsB caps = true) (q : Nat) : en caps q ≤ 3 := by
  by_cases hq : q < caps.length
  · unfold capsB at h
    rw [Bool.and_eq_true] at h
    have := of_decide_eq_true (List.all_eq_true.1 h.1 _ (en_mem caps q hq))
    exact this.2
  · rw [en_of_le caps q (by omega)]; decide
set_option maxRecDepth 100000 in
set_option maxHeartbeats 8000000 in
theorem bad_any (ca : Option Addr) (cn cc : Nat) (caps : List Int) (a : Option Addr) (n c : Nat) (L : List Ev) (i : Nat) (w : World) (hcp : Ints w ca cn cc caps) (hok : capsB caps = true) (h : Evs w a n c L) (hi : i < n) (hn : n ≤ 1000) : Calls Try.prog 32 #[.slice ca cn cc, .slice a n c, .int .i64 (i : Int)] w (BoolTo w (badZ caps L i)) := by
  have HCP := Lib.hid hcp
  have hcl := hcp.len_eq
  have hcb := hcp.bound
  have HS := Lib.hid (fun W (h : Evs W a n c L) => shape_any a n c L i W h hi)
  have HB := Lib.hid (fun W (h : Evs W a n c L) hsh => begun_any a n c L i W h hi hsh)
  have HF := Lib.hid (fun W (h : Evs W a n c L) => fields_any ca cn cc caps a n c L i W hcl h hi)
  have HG := Lib.hid (fun W (h : Evs W a n c L) hsh => began_any a n c L i W h hi hsh)
  have HC := Lib.hid (fun W (h : Evs W a n c L) (k : Ints W ca cn cc caps) hob => channel_any ca cn cc caps a n c L i W k hcb (caps_le hok) h hi hn hob)
  have HY := Lib.hid (fun W (h : Evs W a n c L) => sync_any a n c L i W h hi hn)
  unfold BoolTo at HS HB HF HG HC HY
  have H_0 := Lib.hid h
  have C_0 := Lib.hid hcp
  have B_0 := Lib.hid (Below.refl w.heap.size w)
  have HBAD := Lib.hid (show badZ caps L i = (shapeZ L i || begunZ L i || fieldsZ caps L i || beganZ L i || channelZ caps L i || syncZ L i) from rfl)
  have HOB := Lib.hid (fun h => fields_obj (caps := caps) (L := L) (i := i) h)
  rw [hcl] at HOB
  have HSH := Lib.hid (fun h => shape_no (L := L) (i := i) h)
  clear h hcp hcb
  cases hs : shapeZ L i with
  | true =>
    have R0 := Lib.hid hs
    have HZ := Lib.hid (show badZ caps L i = true by rw [HBAD.out, R0.out]; simp)
    go_enter Try.func32, Try.ntmps32
    go_wp2_with fail
    refine (HS.out _ H_0.out ).mono ?_
    rw [R0.out]
    rintro e y1 ⟨rfl, hb⟩
    have B_1 := Lib.hid (B_0.out.trans (Below.mono hb B_0.out.size))
    have H_1 := Lib.hid (Evs.below H_0.out hb)
    have C_1 := Lib.hid (Ints.below C_0.out hb)
    clear hb B_0 H_0 C_0
    go_wp2_with fail
    go_ret
    exact ⟨ret_bool HZ.out.symm, B_1.out⟩
  | false =>
    cases hbg : begunZ L i with
    | true =>
      have R0 := Lib.hid hs
      have R1 := Lib.hid hbg
      have HZ := Lib.hid (show badZ caps L i = true by rw [HBAD.out, R0.out, R1.out]; simp)
      go_enter Try.func32, Try.ntmps32
      go_wp2_with fail
      refine (HS.out _ H_0.out ).mono ?_
      rw [R0.out]
      rintro e y1 ⟨rfl, hb⟩
      have B_1 := Lib.hid (B_0.out.trans (Below.mono hb B_0.out.size))
      have H_1 := Lib.hid (Evs.below H_0.out hb)
      have C_1 := Lib.hid (Ints.below C_0.out hb)
      clear hb B_0 H_0 C_0
      go_wp2_with fail
      refine (HB.out _ H_1.out (HSH.out R0.out)).mono ?_
      rw [R1.out]
      rintro e y2 ⟨rfl, hb⟩
      have B_2 := Lib.hid (B_1.out.trans (Below.mono hb B_1.out.size))
      have H_2 := Lib.hid (Evs.below H_1.out hb)
      have C_2 := Lib.hid (Ints.below C_1.out hb)
      clear hb B_1 H_1 C_1
      go_wp2_with fail
      go_ret
      exact ⟨ret_bool HZ.out.symm, B_2.out⟩
    | false =>
      cases hf : fieldsZ caps L i with
      | true =>
        have R0 := Lib.hid hs
        have R1 := Lib.hid hbg
        have R2 := Lib.hid hf
        have HZ := Lib.hid (show badZ caps L i = true by rw [HBAD.out, R0.out, R1.out, R2.out]; simp)
        go_enter Try.func32, Try.ntmps32
        go_wp2_with fail
        refine (HS.out _ H_0.out ).mono ?_
        rw [R0.out]
        rintro e y1 ⟨rfl, hb⟩
        have B_1 := Lib.hid (B_0.out.trans (Below.mono hb B_0.out.size))
        have H_1 := Lib.hid (Evs.below H_0.out hb)
        have C_1 := Lib.hid (Ints.below C_0.out hb)
        clear hb B_0 H_0 C_0
        go_wp2_with fail
        refine (HB.out _ H_1.out (HSH.out R0.out)).mono ?_
        rw [R1.out]
        rintro e y2 ⟨rfl, hb⟩
        have B_2 := Lib.hid (B_1.out.trans (Below.mono hb B_1.out.size))
        have H_2 := Lib.hid (Evs.below H_1.out hb)
        have C_2 := Lib.hid (Ints.below C_1.out hb)
        clear hb B_1 H_1 C_1
        go_wp2_with fail
        refine (HF.out _ H_2.out ).mono ?_
        rw [R2.out]
        rintro e y3 ⟨rfl, hb⟩
        have B_3 := Lib.hid (B_2.out.trans (Below.mono hb B_2.out.size))
        have H_3 := Lib.hid (Evs.below H_2.out hb)
        have C_3 := Lib.hid (Ints.below C_2.out hb)
        clear hb B_2 H_2 C_2
        go_wp2_with fail
        go_ret
        exact ⟨ret_bool HZ.out.symm, B_3.out⟩
      | false =>
        cases hgn : beganZ L i with
        | true =>
          have R0 := Lib.hid hs
          have R1 := Lib.hid hbg
          have R2 := Lib.hid hf
          have R3 := Lib.hid hgn
          have HZ := Lib.hid (show badZ caps L i = true by rw [HBAD.out, R0.out, R1.out, R2.out, R3.out]; simp)
          go_enter Try.func32, Try.ntmps32
          go_wp2_with fail
          refine (HS.out _ H_0.out ).mono ?_
          rw [R0.out]
          rintro e y1 ⟨rfl, hb⟩
          have B_1 := Lib.hid (B_0.out.trans (Below.mono hb B_0.out.size))
          have H_1 := Lib.hid (Evs.below H_0.out hb)
          have C_1 := Lib.hid (Ints.below C_0.out hb)
          clear hb B_0 H_0 C_0
          go_wp2_with fail
          refine (HB.out _ H_1.out (HSH.out R0.out)).mono ?_
          rw [R1.out]
          rintro e y2 ⟨rfl, hb⟩
          have B_2 := Lib.hid (B_1.out.trans (Below.mono hb B_1.out.size))
          have H_2 := Lib.hid (Evs.below H_1.out hb)
          have C_2 := Lib.hid (Ints.below C_1.out hb)
          clear hb B_1 H_1 C_1
          go_wp2_with fail
          refine (HF.out _ H_2.out ).mono ?_
          rw [R2.out]
          rintro e y3 ⟨rfl, hb⟩
          have B_3 := Lib.hid (B_2.out.trans (Below.mono hb B_2.out.size))
          have H_3 := Lib.hid (Evs.below H_2.out hb)
          have C_3 := Lib.hid (Ints.below C_2.out hb)
          clear hb B_2 H_2 C_2
          go_wp2_with fail
          refine (HG.out _ H_3.out (HSH.out R0.out)).mono ?_
          rw [R3.out]
          rintro e y4 ⟨rfl, hb⟩
          have B_4 := Lib.hid (B_3.out.trans (Below.mono hb B_3.out.size))
          have H_4 := Lib.hid (Evs.below H_3.out hb)
          have C_4 := Lib.hid (Ints.below C_3.out hb)
          clear hb B_3 H_3 C_3
          go_wp2_with fail
          go_ret
          exact ⟨ret_bool HZ.out.symm, B_4.out⟩
        | false =>
          cases hch : channelZ caps L i with
          | true =>
            have R0 := Lib.hid hs
            have R1 := Lib.hid hbg
            have R2 := Lib.hid hf
            have R3 := Lib.hid hgn
            have R4 := Lib.hid hch
            have HZ := Lib.hid (show badZ caps L i = true by rw [HBAD.out, R0.out, R1.out, R2.out, R3.out, R4.out]; simp)
            go_enter Try.func32, Try.ntmps32
            go_wp2_with fail
            refine (HS.out _ H_0.out ).mono ?_
            rw [R0.out]
            rintro e y1 ⟨rfl, hb⟩
            have B_1 := Lib.hid (B_0.out.trans (Below.mono hb B_0.out.size))
            have H_1 := Lib.hid (Evs.below H_0.out hb)
            have C_1 := Lib.hid (Ints.below C_0.out hb)
            clear hb B_0 H_0 C_0
            go_wp2_with fail
            refine (HB.out _ H_1.out (HSH.out R0.out)).mono ?_
            rw [R1.out]
            rintro e y2 ⟨rfl, hb⟩
            have B_2 := Lib.hid (B_1.out.trans (Below.mono hb B_1.out.size))
            have H_2 := Lib.hid (Evs.below H_1.out hb)
            have C_2 := Lib.hid (Ints.below C_1.out hb)
            clear hb B_1 H_1 C_1
            go_wp2_with fail
            refine (HF.out _ H_2.out ).mono ?_
            rw [R2.out]
            rintro e y3 ⟨rfl, hb⟩
            have B_3 := Lib.hid (B_2.out.trans (Below.mono hb B_2.out.size))
            have H_3 := Lib.hid (Evs.below H_2.out hb)
            have C_3 := Lib.hid (Ints.below C_2.out hb)
            clear hb B_2 H_2 C_2
            go_wp2_with fail
            refine (HG.out _ H_3.out (HSH.out R0.out)).mono ?_
            rw [R3.out]
            rintro e y4 ⟨rfl, hb⟩
            have B_4 := Lib.hid (B_3.out.trans (Below.mono hb B_3.out.size))
            have H_4 := Lib.hid (Evs.below H_3.out hb)
            have C_4 := Lib.hid (Ints.below C_3.out hb)
            clear hb B_3 H_3 C_3
            go_wp2_with fail
            refine (HC.out _ H_4.out C_4.out (HOB.out R2.out)).mono ?_
            rw [R4.out]
            rintro e y5 ⟨rfl, hb⟩
            have B_5 := Lib.hid (B_4.out.trans (Below.mono hb B_4.out.size))
            have H_5 := Lib.hid (Evs.below H_4.out hb)
            have C_5 := Lib.hid (Ints.below C_4.out hb)
            clear hb B_4 H_4 C_4
            go_wp2_with fail
            go_ret
            exact ⟨ret_bool HZ.out.symm, B_5.out⟩
          | false =>
            have R0 := Lib.hid hs
            have R1 := Lib.hid hbg
            have R2 := Lib.hid hf
            have R3 := Lib.hid hgn
            have R4 := Lib.hid hch
            have HZ := Lib.hid (show badZ caps L i = syncZ L i by rw [HBAD.out, R0.out, R1.out, R2.out, R3.out, R4.out]; simp)
            go_enter Try.func32, Try.ntmps32
            go_wp2_with fail
            refine (HS.out _ H_0.out ).mono ?_
            rw [R0.out]
            rintro e y1 ⟨rfl, hb⟩
            have B_1 := Lib.hid (B_0.out.trans (Below.mono hb B_0.out.size))
            have H_1 := Lib.hid (Evs.below H_0.out hb)
            have C_1 := Lib.hid (Ints.below C_0.out hb)
            clear hb B_0 H_0 C_0
            go_wp2_with fail
            refine (HB.out _ H_1.out (HSH.out R0.out)).mono ?_
            rw [R1.out]
            rintro e y2 ⟨rfl, hb⟩
            have B_2 := Lib.hid (B_1.out.trans (Below.mono hb B_1.out.size))
            have H_2 := Lib.hid (Evs.below H_1.out hb)
            have C_2 := Lib.hid (Ints.below C_1.out hb)
            clear hb B_1 H_1 C_1
            go_wp2_with fail
            refine (HF.out _ H_2.out ).mono ?_
            rw [R2.out]
            rintro e y3 ⟨rfl, hb⟩
            have B_3 := Lib.hid (B_2.out.trans (Below.mono hb B_2.out.size))
            have H_3 := Lib.hid (Evs.below H_2.out hb)
            have C_3 := Lib.hid (Ints.below C_2.out hb)
            clear hb B_2 H_2 C_2
            go_wp2_with fail
            refine (HG.out _ H_3.out (HSH.out R0.out)).mono ?_
            rw [R3.out]
            rintro e y4 ⟨rfl, hb⟩
            have B_4 := Lib.hid (B_3.out.trans (Below.mono hb B_3.out.size))
            have H_4 := Lib.hid (Evs.below H_3.out hb)
            have C_4 := Lib.hid (Ints.below C_3.out hb)
            clear hb B_3 H_3 C_3
            go_wp2_with fail
            refine (HC.out _ H_4.out C_4.out (HOB.out R2.out)).mono ?_
            rw [R4.out]
            rintro e y5 ⟨rfl, hb⟩
            have B_5 := Lib.hid (B_4.out.trans (Below.mono hb B_4.out.size))
            have H_5 := Lib.hid (Evs.below H_4.out hb)
            have C_5 := Lib.hid (Ints.below C_4.out hb)
            clear hb B_4 H_4 C_4
            go_wp2_with fail
            refine (HY.out _ H_5.out).mono ?_
            rintro e y6 ⟨rfl, hb⟩
            have B_6 := Lib.hid (B_5.out.trans (Below.mono hb B_5.out.size))
            have H_6 := Lib.hid (Evs.below H_5.out hb)
            have C_6 := Lib.hid (Ints.below C_5.out hb)
            clear hb B_5 H_5 C_5
            go_wp2_with fail
            go_ret
            exact ⟨ret_bool HZ.out.symm, B_6.out⟩
set_option maxRecDepth 100000 in
set_option maxHeartbeats 8000000 in
theorem refWrong_any (ca : Option Addr) (cn cc : Nat) (caps : List Int) (a : Option Addr) (n c : Nat) (L : List Ev) (w : World) (hcp : Ints w ca cn cc caps) (hok : capsB caps = true) (h : Evs w a n c L) (hn : n ≤ 1000) : Calls Try.prog 22 #[.slice ca cn cc, .slice a n c] w (IntTo w (wrongZ caps L)) := by
  have HL := Lib.hid h.recs.len_eq
  have H := Lib.hid h
  have C := Lib.hid hcp
  have HB := Lib.hid (fun (i : Nat) W (hi : i < n) (k : Ints W ca cn cc caps) (h : Evs W a n c L) => bad_any ca cn cc caps a n c L i W k hok h hi hn)
  unfold BoolTo at HB
  clear h hcp hok
  go_enter Try.func22, Try.ntmps22
  go_wp2_with fail
  go_loopw [8] (fun j wr => ∃ k : Nat, k ≤ n ∧ j = .int .i64 k ∧ (∀ j, j < k → badZ caps L j = false) ∧ Below w.heap.size w wr) (fun j _ => n - (intOf j).toNat)
  case atStart => exact ⟨0, Nat.zero_le _, rfl, fun j hj => absurd hj (Nat.not_lt_zero _), Below.refl _ _⟩
  case round =>
    obtain ⟨k, hk, rfl, hno, hb⟩ := hrel
    have HN := Lib.hid hno
    have HW := Lib.hid hb
    clear hno hb
    by_cases hlt : k < n
    · have hlt' : (k : Int) < (n : Int) := by omega
      have HC := Lib.hid (HB.out k wr hlt (C.out.below HW.out) (H.out.below HW.out))
      cases hbd : badZ caps L k with
      | true =>
        rw [hbd] at HC
        have HZ := Lib.hid (wrong_at HN.out (by rw [HL.out]; exact hlt) hbd)
        clear hbd
        go_wp2_with fail
        refine HC.out.mono ?_
        rintro e y1 ⟨rfl, hb⟩
        have B1 := Lib.hid (HW.out.trans (Below.mono hb HW.out.size))
        clear hb
        go_wp2_with fail
        go_ret
        exact ⟨ret_int HZ.out.symm, B1.out⟩
      | false =>
        rw [hbd] at HC
        have HZ := Lib.hid hbd
        clear hbd
        go_wp2_with fail
        refine HC.out.mono ?_
        rintro e y1 ⟨rfl, hb⟩
        have B1 := Lib.hid (HW.out.trans (Below.mono hb HW.out.size))
        clear hb
        go_wp2_with fail
        go_roundw
        case rel => exact ⟨k + 1, by omega, by go_num, fun j hj => by
          by_cases e : j = k
          · subst e; exact HZ.out
          · exact HN.out j (by omega), B1.out⟩
        case measure => simp [intOf]; omega
    · have hke : k = n := by omega
      have HZ := Lib.hid (wrong_none (caps := caps) (l := L) (fun j hj => HN.out j (by rw [HL.out] at hj; omega)))
      go_wp2_with fail
      go_ret
      exact ⟨ret_int HZ.out.symm, HW.out⟩
end Go.Proofs.Ytjkbmenmpnidhaa
