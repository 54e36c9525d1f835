/- Parse: the reference. -/
import Derived.Test.YtpdlfijcicboiaaDoorT15
namespace Go.Proofs.YtpdlfijcicboiaaDoor
open Go.RowKit
set_option linter.unusedSimpArgs false
set_option linter.unusedVariables false
theorem ownR_apart {α : Type} {k e : Nat} {enc : α → List Value} {w : World} {base : Nat} {v : Value} {L : List α} {b : Nat} {cs : Array Value} {t : TypeId} (h : OwnR e k enc w base v L) (hb : Bx w b cs t) (ht : t ≠ e) : some b ≠ v.ownBlock := by
  intro hr
  rcases h.2 with ⟨hv, _⟩ | ⟨g, cap, cur, hv, _, hh, _⟩
  · rw [hv] at hr; cases hr
  · rw [hv] at hr; cases hr
    unfold Bx at hb
    rw [hb] at hh
    cases hh
    exact ht rfl
theorem ownI_nil (w : World) : OwnR 31 3 encI (w.alloc (.cells #[] 31)) w.heap.size (.slice (some ⟨w.heap.size, 0, none⟩) 0 0) ([] : List Ins) :=
  World.ownsRow_lit w #[] 0 (Nat.le_refl _) (by decide) rfl
theorem Blk.empty (w : World) (a : Addr) : Blk w (some a) 0 0 [] := ⟨⟨rfl, Nat.le_refl _, by decide, fun h => by simp at h, fun i x h => by simp at h⟩, fun x h => by simp at h⟩
set_option maxRecDepth 100000 in
set_option maxHeartbeats 8000000 in
theorem refParse_any (s : ByteArray) (w : World) (hs : s.size ≤ 10000) : Calls Tryd.prog 15 #[.string s] w (ParTo w (peZ s)) := by
  by_cases h1 : 1000 < s.size
  · have h1' : (1000 : Int) < (s.size : Int) := by omega
    have HZ := Lib.hid (show peZ s = ([], 0, 10) from if_pos h1)
    go_enter Tryd.func15, Tryd.ntmps15
    go_wp2_with fail
    go_ret3
    exact ParTo.bad HZ.out (Below.refl _ _)
  · have h1' : ¬ (1000 : Int) < (s.size : Int) := by omega
    by_cases h0 : s = ⟨#[]⟩
    · subst h0
      have HZ := Lib.hid (show peZ ⟨#[]⟩ = ([], 0, 0) by unfold peZ; rw [if_neg h1, if_pos rfl])
      have B0 := Lib.hid (below_alloc w (.cells #[] 31))
      go_enter Tryd.func15, Tryd.ntmps15
      go_wp2_with fail
      go_ret3
      exact ⟨_, _, _, ret_par HZ.out, by rw [HZ.out]; exact Blk.empty _ _, B0.out⟩
    · have h0b := toList_nil h0
      have h0c : s.toList.isEmpty = false := by rw [List.isEmpty_eq_false_iff]; exact h0b
      have HZ := Lib.hid (show peZ s = peF (pcB s sepB) 0 [] by unfold peZ; rw [if_neg h1, if_neg h0])
      have HS := Lib.hid (refCut_own s sepB (w.alloc (.cells #[] 31)) (by decide) hs (by decide))
      have HPL : Hid (∀ x ∈ pcB s sepB, x.size ≤ 10000) := Lib.hid (fun x hx => by have := pcB_le hx; omega)
      unfold GotTB at HS
      have B1 := Lib.hid (below_alloc w (.cells #[] 31))
      have O1 := Lib.hid (ownI_nil w)
      clear h0
      go_enter Tryd.func15, Tryd.ntmps15
      go_wp2_with fail
      refine HS.out.mono ?_
      rintro e w2 ⟨g, n, c, cs, rfl, hT, hx, hb⟩
      have hn := Recs.len_eq hT
      have hnl := Recs.len_le hT
      have B2 := Lib.hid (B1.out.trans (Below.mono hb B1.out.size))
      have O2 := Lib.hid (OwnR.below O1.out hb)
      have X2 := Lib.hid hx
      obtain ⟨W, hW⟩ : ∃ W, W = pcB s sepB := ⟨_, rfl⟩
      rw [← hW] at hT hn HPL HZ
      have T2 := Lib.hid hT
      have HN := Lib.hid hn
      clear hb hW hT hn HS hx
      go_wp2_with fail
      go_loopw [5, 20] (fun v i wr => ∃ (k : Nat) (acc : List Ins), k ≤ n ∧ i = .int .i64 k ∧ k ≤ 24 ∧ peF (W.drop k) k acc = peZ s ∧ acc.length = k ∧ (∀ x ∈ acc, InsOk x) ∧ OwnR 31 3 encI wr w.heap.size v acc ∧ Txts wr (some ⟨g, 0, none⟩) n c W ∧ Bx wr g cs 9 ∧ Below w.heap.size w wr) (fun _ i _ => n - (intOf i).toNat)
      case atStart => exact ⟨0, [], Nat.zero_le _, rfl, by decide, HZ.out.symm, rfl, fun x hx => by simp at hx, O2.out, T2.out, X2.out, B2.out⟩
      case round =>
        obtain ⟨k, acc, hk, rfl, hk24, hpe, hal, hok, hown, hT, hX, hb⟩ := hrel
        have HPE := Lib.hid hpe; have HAL := Lib.hid hal; have HOK := Lib.hid hok; have HO := Lib.hid hown; have HB := Lib.hid hb; have TT := Lib.hid hT; have XX := Lib.hid hX
        clear hpe hal hok hown hb hT hX
        by_cases hlt : k < n
        · have hlt' : (k : Int) < (n : Int) := by omega
          obtain ⟨ab, off, he, hc, hmem⟩ := Txts.at TT.out k hlt
          cases he
          rw [Nat.zero_add] at hc
          have HST := Lib.hid (HPE.out.symm.trans (peF_step W k acc (by rw [HN.out]; exact hlt)))
          have HSZ := Lib.hid (HPL.out _ hmem)
          obtain ⟨y, hy⟩ : ∃ y, y = wat W k := ⟨_, rfl⟩
          rw [← hy] at hc HST HSZ
          clear hy hmem
          by_cases h24 : k = 24
          · have h24' : (k : Int) = 24 := by omega
            have h24b : ((k : Int) == 24) = true := by rw [beq_iff_eq]; exact h24'
            have HR := Lib.hid (HST.out.trans (if_pos h24))
            subst h24
            go_wp2_with fail
            go_ret3
            exact ParTo.bad HR.out HB.out
          · have h24b : ((k : Int) == 24) = false := by rw [beq_eq_false_iff_ne]; omega
            have h24' : ¬ (k : Int) = 24 := by omega
            have HR := Lib.hid (HST.out.trans (if_neg h24))
            have HC := Lib.hid (piece_any y wr HSZ.out)
            unfold InsTo at HC
            have HM := Lib.hid (show (paZ y).2 = 0 → mayZ (paZ y).1 = true from fun h => paW_may _ h)
            have hpi := paZ_i64 y
            unfold I64 at hpi
            obtain ⟨⟨x, why⟩, hp⟩ : ∃ p, p = paZ y := ⟨_, rfl⟩
            rw [← hp] at HC HR HM hpi
            dsimp only at HC HR HM hpi
            clear hp
            have hk64 : (k : Int) ≤ 24 := by omega
            by_cases hw : why = 0
            · subst hw
              have HR2 := Lib.hid (HR.out.trans (if_pos rfl))
              have HX := Lib.hid (may_ok (HM.out rfl))
              have K4 := Lib.hid (fun V => Bx.new V #[.int .i64 x.op, .int .i64 x.a, .int .i64 x.b] 31)
              have HLA := Lib.hid (show acc.length ≤ 100000 by rw [HAL.out]; omega)
              have HAX := Lib.hid (show (acc ++ [x]).length = k + 1 by rw [List.length_append, HAL.out]; rfl)
              have HNK := Lib.hid (show k + 1 ≤ 24 by omega)
              go_wp2_with fail
              refine HC.out.mono ?_
              rintro e w3 ⟨rfl, hb⟩
              have BL3 := Lib.hid (HB.out.trans (Below.mono hb HB.out.size))
              have O3 := Lib.hid (OwnR.below HO.out hb); have T3 := Lib.hid (show Txts _ _ _ _ _ from Recs.below TT.out hb); have X3 := Lib.hid (Bx.below XX.out hb)
              have BA := below_alloc w3 (.cells #[.int .i64 x.op, .int .i64 x.a, .int .i64 x.b] 31)
              have B4 := Lib.hid (BL3.out.trans (Below.mono BA BL3.out.size))
              have O4 := Lib.hid (OwnR.below O3.out BA); have T4 := Lib.hid (show Txts _ _ _ _ _ from Recs.below T3.out BA); have X4 := Lib.hid (Bx.below X3.out BA)
              have KK := Lib.hid (K4.out w3)
              clear hb hc BA K4
              obtain ⟨b0, hb0⟩ : ∃ z, z = w3.heap.size := ⟨_, rfl⟩
              obtain ⟨v4, hv4⟩ : ∃ z, z = w3.alloc (.cells #[.int .i64 x.op, .int .i64 x.a, .int .i64 x.b] 31) := ⟨_, rfl⟩
              rw [← hv4] at B4 O4 KK T4 X4
              rw [← hb0] at KK
              have HB0 := Lib.hid hb0; have HV4 := Lib.hid hv4
              clear hb0 hv4
              go_upto_region 12 with (fail)
              rw [← HV4.out, ← HB0.out]
              obtain ⟨x0, x1, x2⟩ := Bx.cells3 KK.out
              have BA := below_alloc v4 (.cells #[.int .i64 x.op, .int .i64 x.a, .int .i64 x.b] 31)
              have S5 := Lib.hid (recs_oneG (k := 3) (enc := encI) (x := x) (t := 31) (heap_alloc_new v4 (.cells #[.int .i64 x.op, .int .i64 x.a, .int .i64 x.b] 31)))
              have O5 := Lib.hid (OwnR.below O4.out BA); have T5 := Lib.hid (show Txts _ _ _ _ _ from Recs.below T4.out BA); have X5 := Lib.hid (Bx.below X4.out BA)
              have B5 := Lib.hid (B4.out.trans (Below.mono BA B4.out.size))
              have HSZ5 := Lib.hid B5.out.size
              clear BA
              go_wp2_with (at_builtin; refine wpList_appG encI_len (by decide) encI_one 22 31 24 _ Tryd.underlying22 inf43 rfl (by decide) rfl _ _ rfl w.heap.size _ acc rfl O5.out ⟨v4.heap.size, 0, none⟩ 1 1 [x] rfl S5.out HLA.out (by decide) HSZ5.out ?_; intro v6 w6 ho6 hg6)
              have hne := ownR_apart O5.out X5.out (by decide)
              have T6 := Lib.hid (T5.out.other hg6.out hne); have X6 := Lib.hid (X5.out.other hg6.out hne)
              clear hne
              have B6 := Lib.hid (Below.grown B5.out hg6.out HSZ5.out (fun r hr => OwnR.lt O5.out r hr))
              go_roundw
              case rel => exact ⟨k + 1, acc ++ [x], by omega, by go_num, HNK.out, HR2.out.symm, HAX.out, fun z hz => by rcases List.mem_append.1 hz with h1 | h1; exact HOK.out z h1; simp at h1; subst h1; exact HX.out, ho6.out, T6.out, X6.out, B6.out⟩
              case measure => simp [intOf]; omega
            · have hwb : (why == 0) = false := by rw [beq_eq_false_iff_ne]; exact hw
              have hwc : (why != 0) = true := by simp [hwb, bne]
              have HR2 := Lib.hid (HR.out.trans (if_neg hw))
              go_wp2_with fail
              refine HC.out.mono ?_
              rintro e w3 ⟨rfl, hb⟩
              have B3 := Lib.hid (HB.out.trans (Below.mono hb HB.out.size))
              have B4 := Lib.hid (B3.out.trans (Below.mono (below_alloc w3 (.cells #[.int .i64 x.op, .int .i64 x.a, .int .i64 x.b] 31)) B3.out.size))
              clear hb hc
              go_wp2_with fail
              go_ret3
              exact ParTo.bad HR2.out B4.out
        · have hke : k = n := by omega
          have HR := Lib.hid (HPE.out.symm.trans (peF_end W k acc (by rw [HN.out]; omega)))
          subst hke
          obtain ⟨a', c', rfl, hr⟩ := OwnR.recs encI_len HO.out
          go_wp2_with fail
          go_ret3
          exact ⟨_, _, _, ret_par HR.out, by rw [HR.out]; exact ⟨hr, HOK.out⟩, HB.out⟩
end Go.Proofs.YtpdlfijcicboiaaDoor
