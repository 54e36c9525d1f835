/- Right. -/
import Derived.Test.YtfolhgpbplfilaaRight
namespace Go.Proofs.Ytfolhgpbplfilaa
open Go.RowKit Go.Maps

theorem beq_comm' (a b : Int) : (a == b) = (b == a) := by rw [Bool.eq_iff_iff, beq_iff_eq, beq_iff_eq]; exact eq_comm
theorem run_makeMap_hint (n : Int) (w : World) : (Instr.makeMap 90 (some (.int .i64 n))).run Try.prog w = .ok (.map (some w.heap.size)) (w.alloc (.map #[] 0)) := by
  simp [Instr.makeMap, run_underlying Try.underlying90, asInt, asIntOf]
set_option maxRecDepth 100000 in
set_option maxHeartbeats 2000000 in
theorem Right_any (a : Option Addr) (len cap : Nat) (L : List Wt) (w : World) (hL : Wts w a len cap L) :
    Calls Try.prog 36 #[.slice a len cap] w fun e w' => e = .returned (.bool (rightW L)) ∧ Below w.heap.size w w' := by
  have hll := hL.recs.len_eq
  have hcm := hL.recs.len_le
  have HL := Lib.hid hL; clear hL
  by_cases h64 : 64 < len
  · have h64' : (64 : Int) < (len : Int) := by omega
    have R := Lib.hid (rightW_long (L := L) (by omega))
    clear hll
    go_enter Try.func36, Try.ntmps36
    go_wp2
    go_ret
    exact ⟨ret_bool R.out.symm, Below.refl _ _⟩
  · have h64' : (len : Int) ≤ 64 := by omega
    have HLL := Lib.hid hll; clear hll
    have hmm := run_makeMap_hint
    go_enter Try.func36, Try.ntmps36
    go_wp2_with fail
    go_loopw [14] (fun i wr => ∃ k : Nat, k ≤ len ∧ i = .int .i64 k ∧ Seen wr w.heap.size k (hasW (L.take k)) ∧ GoodUpto L k ∧ Below w.heap.size w wr) (fun i _ => len - (intOf i).toNat)
    case atStart =>
      refine ⟨0, Nat.zero_le _, rfl, ?_, fun i x hi => absurd hi (by omega), below_alloc _ _⟩
      exact seen_made w
    case round =>
      obtain ⟨k, hk, rfl, hseen, hgood, hb⟩ := hrel
      have HS := Lib.hid hseen; have HG := Lib.hid hgood; have HB := Lib.hid hb
      clear hseen hgood hb
      by_cases hlt : k < len
      · have hlt' : (k : Int) < (len : Int) := by omega
        obtain ⟨x, b, off, hx, hok, rfl, c0, c1, c2⟩ := (HL.out.below HB.out).at k hlt
        have HX := Lib.hid hx; clear hx
        go_wp2_with fail
        have HBX := Lib.hid (Box3.new wr x)
        have HB0 := Lib.hid (HB.out.alloc HB.out.size (.cells #[.int .i64 x.g, .int .i64 x.c, .int .i64 x.s] 48))
        have HS0 := Lib.hid (HS.out.below (below_alloc wr (.cells #[.int .i64 x.g, .int .i64 x.c, .int .i64 x.s] 48)))
        clear c0 c1 c2
        refine (may_any x _ hok).mono ?_
        rintro e w1 ⟨rfl, hb1⟩
        have HBX1 := Lib.hid (HBX.out.below hb1)
        have HB1 := Lib.hid (HB0.out.trans (hb1.mono HB0.out.size))
        have HS1 := Lib.hid (HS0.out.below hb1)
        obtain ⟨B, hBB⟩ : ∃ B, B = wr.heap.size := ⟨_, rfl⟩
        rw [← hBB] at HBX1 ⊢
        have HBB := Lib.hid hBB
        clear hb1 hBB HBX HB0 HS0
        obtain ⟨c0, c1, c2⟩ := HBX1.out.cells
        cases hm : mayW x with
        | false =>
          have R := Lib.hid (rightW_bad HX.out (fun h => by rw [hm] at h; simp at h))
          clear hm
          go_wp2_with fail
          go_ret
          exact ⟨ret_bool R.out.symm, HB1.out⟩
        | true =>
          have HM := Lib.hid hm; clear hm
          go_wp2_with fail
          refine (of_any x _).mono ?_
          rintro e w2 ⟨rfl, hb2⟩
          have HBX2 := Lib.hid (HBX1.out.below hb2)
          have HB2 := Lib.hid (HB1.out.trans (hb2.mono HB1.out.size))
          have HS2 := Lib.hid (HS1.out.below hb2)
          have hlook := HS2.out.look x.g x.c hok.1 hok.2.1
          clear hb2 c0 c1 c2 HBX1 HS1
          obtain ⟨c0, c1, c2⟩ := HBX2.out.cells
          cases hh : hasW (L.take k) x.g x.c with
          | true =>
            have R := Lib.hid (rightW_bad HX.out (fun h => by rw [hh] at h; simp at h))
            rw [hh] at hlook
            clear hh
            go_wp2_with fail
            go_ret
            exact ⟨ret_bool R.out.symm, HB2.out⟩
          | false =>
            rw [hh] at hlook
            have HH := Lib.hid hh; clear hh
            go_wp2_with fail
            clear hlook c0 c1 c2
            refine (of_any x _).mono ?_
            rintro e w3 ⟨rfl, hb3⟩
            have HB3 := Lib.hid (HB2.out.trans (hb3.mono HB2.out.size))
            have HS3 := Lib.hid (HS2.out.below hb3)
            clear hb3
            go_wp2_with (at_mapUpdate; refine wpList_seen_store rfl _ _ _ rfl w.heap.size k _ rfl HS3.out (by omega) x.g x.c rfl rfl hok.1 hok.2.1 ?_; intro w4 hs4 hg4)
            have HB4 := Lib.hid (HB3.out.grown hg4.out HB3.out.size (fun r hr => by cases hr; exact Nat.le_refl _))
            go_roundw
            case rel =>
              refine ⟨k + 1, by omega, by go_num, ?_, good_succ HG.out HX.out HM.out HH.out, HB4.out⟩
              have := hs4.out
              rw [take_snoc' HX.out]
              have e : hasW (L.take k ++ [x]) = fun g' c' => hasW (L.take k) g' c' || (g' == x.g && c' == x.c) := by
                funext g' c'
                rw [hasW_snoc, beq_comm' x.g g', beq_comm' x.c c']
              rw [e]; exact this
            case measure => simp [intOf]; omega
      · have hkn : k = len := by omega
        subst hkn
        have R := Lib.hid (rightW_good (L := L) (by rw [HLL.out]; omega) (by rw [HLL.out]; exact HG.out))
        go_wp2_with fail
        go_ret
        exact ⟨ret_bool R.out.symm, HB.out⟩
end Go.Proofs.Ytfolhgpbplfilaa
