/- Parse: the program. -/
import Derived.Test.YtpdlfijcicboiaaDoorT14
namespace Go.Proofs.YtpdlfijcicboiaaDoor
open Go.RowKit
set_option linter.unusedSimpArgs false
set_option linter.unusedVariables false
theorem valL_ok {l : List Int} (h : okL l = true) : 0 ≤ valL l ∧ valL l < 1000 := by
  unfold okL at h
  simp only [Bool.and_eq_true, decide_eq_true_eq] at h
  obtain ⟨⟨⟨h1, h3⟩, hd⟩, _⟩ := h
  have := valL_bound l hd l.length
  rw [List.take_of_length_le (Nat.le_refl _)] at this
  refine ⟨this.1, ?_⟩
  rcases (show l.length = 1 ∨ l.length = 2 ∨ l.length = 3 by omega) with e | e | e <;> rw [e] at this <;> simp at this <;> omega
theorem okUp_at {W : List ByteArray} {k i : Nat} (h : okUp W k = true) (hi : i < k) : okL (tx (wat W (i + 1))) = true := List.all_eq_true.1 h i (List.mem_range.2 hi)
theorem numAt_bound {W : List ByteArray} {k i : Nat} (h : okUp W k = true) : 0 ≤ numAt W k i ∧ numAt W k i < 1000 := by
  unfold numAt
  by_cases hi : i < k
  · rw [if_pos hi]; exact valL_ok (okUp_at h hi)
  · rw [if_neg hi]; omega
theorem paW_may (W : List ByteArray) (h : (paW W).2 = 0) : mayZ (paW W).1 = true := by
  unfold paW at h ⊢
  cases hop : opS 14 (wat W 0) with
  | none => rw [hop] at h; exact absurd h (show ¬ (11 : Int) = 0 by decide)
  | some j =>
    rw [hop] at h
    simp only at h ⊢
    by_cases hn : (W.length : Int) = 1 + numZ (j : Int)
    · rw [if_pos hn] at h ⊢
      by_cases hk : okUp W (W.length - 1) = true
      · rw [if_pos hk]
        have hj := opS_lt _ 14 j hop
        have ha := numAt_bound (i := 0) hk
        have hb := numAt_bound (i := 1) hk
        unfold mayZ
        apply decide_eq_true
        refine ⟨by dsimp only; omega, by dsimp only; omega, ha.1, ha.2, hb.1, hb.2, fun h0 => ?_, fun h7 => ?_⟩
        · dsimp only at h0 ⊢
          unfold numAt; rw [if_neg]
          unfold numZ at hn; rw [if_pos h0] at hn; omega
        · dsimp only at h7 ⊢
          unfold numAt; rw [if_neg]
          unfold numZ at hn; rw [if_neg h7] at hn; split at hn <;> omega
      · rw [if_neg hk] at h; exact absurd h (show ¬ (12 : Int) = 0 by decide)
    · rw [if_neg hn] at h; exact absurd h (show ¬ (12 : Int) = 0 by decide)
theorem may_ok {x : Ins} (h : mayZ x = true) : InsOk x := by
  unfold mayZ at h
  have h := of_decide_eq_true h
  unfold InsOk I64; omega
theorem paZ_i64 (s : ByteArray) : I64 (paZ s).2 := by
  unfold paZ paW I64
  split
  · simp
  · split
    · split <;> simp
    · simp
def peF : List ByteArray → Nat → List Ins → List Ins × Int × Int
  | [], _, acc => (acc, 0, 0)
  | p :: ps, k, acc => if k = 24 then ([], 24, 2) else if (paZ p).2 = 0 then peF ps (k + 1) (acc ++ [(paZ p).1]) else ([], (k : Int), (paZ p).2)
def peZ (s : ByteArray) : List Ins × Int × Int := if 1000 < s.size then ([], 0, 10) else if s = ⟨#[]⟩ then ([], 0, 0) else peF (pcB s sepB) 0 []
theorem peF_step (W : List ByteArray) (k : Nat) (acc : List Ins) (h : k < W.length) : peF (W.drop k) k acc = if k = 24 then ([], 24, 2) else if (paZ (wat W k)).2 = 0 then peF (W.drop (k + 1)) (k + 1) (acc ++ [(paZ (wat W k)).1]) else ([], (k : Int), (paZ (wat W k)).2) := by
  rw [List.drop_eq_getElem_cons h]
  have e : W[k] = wat W k := by unfold wat; rw [List.getD_eq_getElem?_getD, List.getElem?_eq_getElem h]; rfl
  rw [e]; rfl
theorem peF_end (W : List ByteArray) (k : Nat) (acc : List Ins) (h : W.length ≤ k) : peF (W.drop k) k acc = (acc, 0, 0) := by
  rw [List.drop_of_length_le h]; rfl
def ParTo (w : World) (p : List Ins × Int × Int) (e : Ending) (w' : World) : Prop := ∃ a n c, e = .returned (.tuple #[.slice a n c, .int .i64 p.2.1, .int .i64 p.2.2]) ∧ Blk w' a n c p.1 ∧ Below w.heap.size w w'
theorem ret_par {a : Option Addr} {n c : Nat} {p : List Ins × Int × Int} {L : List Ins} {i j : Int} (h : p = (L, i, j)) : Ending.returned (.tuple #[.slice a n c, .int .i64 i, .int .i64 j]) = .returned (.tuple #[.slice a n c, .int .i64 p.2.1, .int .i64 p.2.2]) := by rw [h]
theorem encI_one (x : Ins) : ∀ u ∈ encI x, u.oneCell' = true := by intro u hu; simp [encI] at hu; rcases hu with rfl | rfl | rfl <;> rfl
theorem ParTo.bad {w w' : World} {p : List Ins × Int × Int} {i j : Int} (h : p = ([], i, j)) (hb : Below w.heap.size w w') : ParTo w p (.returned (.tuple #[.slice none 0 0, .int .i64 i, .int .i64 j])) w' := ⟨none, 0, 0, ret_par h, by rw [h]; exact Blk.nil w', hb⟩
set_option maxRecDepth 100000 in
set_option maxHeartbeats 8000000 in
theorem Parse_any (s : ByteArray) (w : World) (hs : s.size ≤ 10000) (hE : EnvS w) : Calls Tryd.prog 14 #[.string s] w (ParTo w (peZ s)) := by
  by_cases h1 : 1000 < s.size
  · have h1' : (1000 : Int) < (s.size : Int) := by omega
    have HZ := Lib.hid (show peZ s = ([], 0, 10) from if_pos h1)
    go_enter Tryd.func14, Tryd.ntmps14
    go_wp2_with fail
    go_ret3
    exact ParTo.bad HZ.out (Below.refl _ _)
  · have h1' : ¬ (1000 : Int) < (s.size : Int) := by omega
    by_cases h0 : s = ⟨#[]⟩
    · subst h0
      have HZ := Lib.hid (show peZ ⟨#[]⟩ = ([], 0, 0) by unfold peZ; rw [if_neg h1, if_pos rfl])
      go_enter Tryd.func14, Tryd.ntmps14
      go_wp2_with fail
      go_ret3
      exact ParTo.bad HZ.out (Below.refl _ _)
    · have h0b := toList_nil h0
      have h0c : s.toList.isEmpty = false := by rw [List.isEmpty_eq_false_iff]; exact h0b
      have HZ := Lib.hid (show peZ s = peF (pcB s sepB) 0 [] by unfold peZ; rw [if_neg h1, if_neg h0])
      have HO := Lib.hid (ops_any w hE)
      have HS := Lib.hid (fun V (h : EnvS V) => split_any s sepB V (by decide) hs h)
      have HE := Lib.hid hE
      have HPL : Hid (∀ x ∈ pcB s sepB, x.size ≤ 10000) := Lib.hid (fun x hx => by have := pcB_le hx; omega)
      unfold GotT at HS
      clear h0 hE
      obtain ⟨F, hF⟩ : ∃ z, z = w.heap.size := ⟨_, rfl⟩
      rw [← hF] at HO
      have HF := Lib.hid hF
      clear hF
      go_enter Tryd.func14, Tryd.ntmps14
      go_wp2_with fail
      refine HO.out.mono ?_
      rintro e w1 ⟨rfl, hf, hb⟩
      rw [HF.out] at hb
      have F1 := Lib.hid hf
      have B1 := Lib.hid hb
      have E1 := Lib.hid (HE.out.below hb)
      clear hf hb
      go_wp2_with fail
      refine (HS.out _ E1.out).mono ?_
      rintro e w2 ⟨a, n, c, rfl, hT, hb⟩
      have hn := Recs.len_eq hT
      have hnl := Recs.len_le hT
      have F2 := Lib.hid (F1.out.below hb)
      have E2 := Lib.hid (E1.out.below hb)
      have B2 := Lib.hid (B1.out.trans (Below.mono hb B1.out.size))
      obtain ⟨W, hW⟩ : ∃ W, W = pcB s sepB := ⟨_, rfl⟩
      rw [← hW] at hT hn HPL HZ
      have T2 := Lib.hid hT
      have HN := Lib.hid hn
      clear hb hW hT hn HS HO
      go_wp2_with fail
      go_loopw [5, 20] (fun v i wr => ∃ (k : Nat) (acc : List Ins), k ≤ n ∧ i = .int .i64 k ∧ k ≤ 24 ∧ peF (W.drop k) k acc = peZ s ∧ acc.length = k ∧ (∀ x ∈ acc, InsOk x) ∧ OwnR 31 3 encI wr w2.heap.size v acc ∧ Below w2.heap.size w2 wr) (fun _ i _ => n - (intOf i).toNat)
      case atStart => exact ⟨0, [], Nat.zero_le _, rfl, by decide, HZ.out.symm, rfl, fun x hx => by simp at hx, ownG_nil _ _ _, Below.refl _ _⟩
      case round =>
        obtain ⟨k, acc, hk, rfl, hk24, hpe, hal, hok, hown, hb⟩ := hrel
        have HPE := Lib.hid hpe; have HAL := Lib.hid hal; have HOK := Lib.hid hok; have HO := Lib.hid hown; have HB := Lib.hid hb
        clear hpe hal hok hown hb
        by_cases hlt : k < n
        · have hlt' : (k : Int) < (n : Int) := by omega
          obtain ⟨ab, off, rfl, hc, hmem⟩ := Txts.at (Recs.below T2.out HB.out) k hlt
          have HST := Lib.hid (HPE.out.symm.trans (peF_step W k acc (by rw [HN.out]; exact hlt)))
          have HSZ := Lib.hid (HPL.out _ hmem)
          obtain ⟨y, hy⟩ : ∃ y, y = wat W k := ⟨_, rfl⟩
          rw [← hy] at hc HST HSZ
          clear hy hmem
          by_cases h24 : k = 24
          · have h24' : (k : Int) = 24 := by omega
            have h24b : ((k : Int) == 24) = true := by rw [beq_iff_eq]; exact h24'
            have HR := Lib.hid (HST.out.trans (if_pos h24))
            subst h24
            go_wp2_with fail
            go_ret3
            exact ParTo.bad HR.out (B2.out.trans (Below.mono HB.out B2.out.size))
          · have h24b : ((k : Int) == 24) = false := by rw [beq_eq_false_iff_ne]; omega
            have h24' : ¬ (k : Int) = 24 := by omega
            have HR := Lib.hid (HST.out.trans (if_neg h24))
            have HC := Lib.hid (parsed_any y F wr HSZ.out (E2.out.below HB.out) (F2.out.below HB.out))
            unfold InsTo at HC
            have HM := Lib.hid (show (paZ y).2 = 0 → mayZ (paZ y).1 = true from fun h => paW_may _ h)
            have hpi := paZ_i64 y
            unfold I64 at hpi
            obtain ⟨⟨x, why⟩, hp⟩ : ∃ p, p = paZ y := ⟨_, rfl⟩
            rw [← hp] at HC HR HM hpi
            dsimp only at HC HR HM hpi
            clear hp
            have hk64 : (k : Int) ≤ 24 := by omega
            by_cases hw : why = 0
            · subst hw
              have HR2 := Lib.hid (HR.out.trans (if_pos rfl))
              have HX := Lib.hid (may_ok (HM.out rfl))
              have K4 := Lib.hid (fun V => Bx.new V #[.int .i64 x.op, .int .i64 x.a, .int .i64 x.b] 31)
              have HLA := Lib.hid (show acc.length ≤ 100000 by rw [HAL.out]; omega)
              have HAX := Lib.hid (show (acc ++ [x]).length = k + 1 by rw [List.length_append, HAL.out]; rfl)
              have HNK := Lib.hid (show k + 1 ≤ 24 by omega)
              go_wp2_with fail
              refine HC.out.mono ?_
              rintro e w3 ⟨rfl, hb⟩
              have BL3 := Lib.hid (HB.out.trans (Below.mono hb HB.out.size))
              have O3 := Lib.hid (OwnR.below HO.out hb)
              have BA := below_alloc w3 (.cells #[.int .i64 x.op, .int .i64 x.a, .int .i64 x.b] 31)
              have B4 := Lib.hid (BL3.out.trans (Below.mono BA BL3.out.size))
              have O4 := Lib.hid (OwnR.below O3.out BA)
              have KK := Lib.hid (K4.out w3)
              clear hb hc BA K4
              obtain ⟨b0, hb0⟩ : ∃ z, z = w3.heap.size := ⟨_, rfl⟩
              obtain ⟨v4, hv4⟩ : ∃ z, z = w3.alloc (.cells #[.int .i64 x.op, .int .i64 x.a, .int .i64 x.b] 31) := ⟨_, rfl⟩
              rw [← hv4] at B4 O4 KK
              rw [← hb0] at KK
              have HB0 := Lib.hid hb0; have HV4 := Lib.hid hv4
              clear hb0 hv4
              go_upto_region 13 with (fail)
              rw [← HV4.out, ← HB0.out]
              obtain ⟨x0, x1, x2⟩ := Bx.cells3 KK.out
              have BA := below_alloc v4 (.cells #[.int .i64 x.op, .int .i64 x.a, .int .i64 x.b] 31)
              have S5 := Lib.hid (recs_oneG (k := 3) (enc := encI) (x := x) (t := 31) (heap_alloc_new v4 (.cells #[.int .i64 x.op, .int .i64 x.a, .int .i64 x.b] 31)))
              have O5 := Lib.hid (OwnR.below O4.out BA)
              have B5 := Lib.hid (B4.out.trans (Below.mono BA B4.out.size))
              have HSZ5 := Lib.hid B5.out.size
              clear BA
              go_wp2_with (at_builtin; refine wpList_appG encI_len (by decide) encI_one 22 31 24 _ Tryd.underlying22 inf43 rfl (by decide) rfl _ _ rfl w2.heap.size _ acc rfl O5.out ⟨v4.heap.size, 0, none⟩ 1 1 [x] rfl S5.out HLA.out (by decide) HSZ5.out ?_; intro v6 w6 ho6 hg6)
              have B6 := Lib.hid (Below.grown B5.out hg6.out HSZ5.out (fun r hr => OwnR.lt O5.out r hr))
              go_roundw
              case rel => exact ⟨k + 1, acc ++ [x], by omega, by go_num, HNK.out, HR2.out.symm, HAX.out, fun z hz => by rcases List.mem_append.1 hz with h1 | h1; exact HOK.out z h1; simp at h1; subst h1; exact HX.out, ho6.out, B6.out⟩
              case measure => simp [intOf]; omega
            · have hwb : (why == 0) = false := by rw [beq_eq_false_iff_ne]; exact hw
              have hwc : (why != 0) = true := by simp [hwb, bne]
              have HR2 := Lib.hid (HR.out.trans (if_neg hw))
              go_wp2_with fail
              refine HC.out.mono ?_
              rintro e w3 ⟨rfl, hb⟩
              have B3 := Lib.hid ((B2.out.trans (Below.mono HB.out B2.out.size)).trans (Below.mono hb (Nat.le_trans B2.out.size HB.out.size)))
              have B4 := Lib.hid (B3.out.trans (Below.mono (below_alloc w3 (.cells #[.int .i64 x.op, .int .i64 x.a, .int .i64 x.b] 31)) B3.out.size))
              clear hb hc
              go_wp2_with fail
              go_ret3
              exact ParTo.bad HR2.out B4.out
        · have hke : k = n := by omega
          have HR := Lib.hid (HPE.out.symm.trans (peF_end W k acc (by rw [HN.out]; omega)))
          subst hke
          obtain ⟨a', c', rfl, hr⟩ := OwnR.recs encI_len HO.out
          go_wp2_with fail
          go_ret3
          exact ⟨_, _, _, ret_par HR.out, by rw [HR.out]; exact ⟨hr, HOK.out⟩, B2.out.trans (Below.mono HB.out B2.out.size)⟩
end Go.Proofs.YtpdlfijcicboiaaDoor
