/- The tables: the reference's. -/
import Derived.Test.YtddkckppmjcclaaTables
namespace Go.Proofs.Ytddkckppmjcclaa
open Go.RowKit
set_option linter.unusedSimpArgs false
set_option linter.unusedVariables false
set_option maxRecDepth 100000 in
set_option maxHeartbeats 8000000 in
theorem refTables_good (p : Pr) (q : PAt) (w : World) (h : Prg w p q) (hns : ¬ (SizeA p ∨ SizeB p)) :
    Calls Try.prog 34 #[prV p q] w (Says2 w (tablesZ p).1 (tablesZ p).2) := by
  obtain ⟨a1, a2, a3, a4, a5⟩ := szA_not h.szs (fun hh => hns (.inl hh))
  obtain ⟨b1, b2, b3, b4, b5⟩ := szB_not h.szs (fun hh => hns (.inr hh))
  have X_0 := Lib.hid (Bx.new w (prC p q) 26)
  have B_0 := Lib.hid (below_alloc w (.cells (prC p q) 26))
  have P_0 := Lib.hid (h.below B_0.out)
  have HZ := Lib.hid h.szs
  have hca := h.caps.len_le
  have hs1 := h.sels.caps
  have hcl := Lib.hid h.caps.len_eq
  have hsl := Lib.hid h.sels.len
  have hcI := Lib.hid h.caps.bound
  have HNS := Lib.hid hns
  clear h hs1 hns
  go_enter Try.func34, Try.ntmps34
  have HSz := Lib.hid (fun W => refSizes_any p q W HZ.out)
  rw [sb_no HNS.out] at HSz
  go_wp2_with fail
  refine (HSz.out _).mono ?_
  rintro e X0 ⟨rfl, hb⟩
  have X_1 := Lib.hid (X_0.out.below hb); have P_1 := Lib.hid (P_0.out.below hb); have B_1 := Lib.hid (B_0.out.trans (Below.mono hb B_0.out.size))
  clear hb X_0 P_0 B_0 HSz
  have X_0 := X_1; have P_0 := P_1; have B_0 := B_1
  clear X_1 P_1 B_1
  obtain ⟨BX, hBX⟩ : ∃ x, x = w.heap.size := ⟨_, rfl⟩
  rw [← hBX] at X_0 ⊢
  clear hBX
  obtain ⟨x0, x1, x2, x3, x4, x5⟩ := X_0.out.cells6
  go_wp2_with fail
  clear x0 x1 x2 x3 x4 x5
  go_loop [15] (fun i => ∃ k : Nat, k ≤ q.cn ∧ i = .int .i64 k ∧ ∀ y ∈ p.caps.take k, capBad y = false) (fun i => q.cn - (intOf i).toNat)
  case atStart => exact ⟨0, Nat.zero_le _, rfl, fun y hy => by simp at hy⟩
  case round =>
    obtain ⟨k, hk, rfl, hno⟩ := hrel
    have HNO := Lib.hid hno; clear hno
    by_cases hlt : k < q.cn
    · have hlt' : (k : Int) < (q.cn : Int) := by omega
      obtain ⟨b, off, hca2, hc⟩ := P_0.out.caps.cell k hlt
      have HI := Lib.hid (hcI.out k)
      obtain ⟨n, hn⟩ : ∃ n, n = en p.caps k := ⟨_, rfl⟩
      have HNX := Lib.hid (show p.caps[k]? = some n by rw [hn, en_get _ k (by rw [hcl.out]; exact hlt)]; exact List.getElem?_eq_getElem _)
      rw [← hn] at hc
      clear hn
      by_cases hb1 : n < -1
      · have R := Lib.hid (tz_caps HNS.out (any_at (f := capBad) HNX.out (by simp [capBad, hb1])))
        rw [hca2]
        go_wp2_with fail
        go_ret2
        exact ⟨by rw [R.out]; rfl, B_0.out⟩
      · by_cases hb2 : 3 < n
        · have R := Lib.hid (tz_caps HNS.out (any_at (f := capBad) HNX.out (by simp [capBad, hb2])))
          rw [hca2]
          go_wp2_with fail
          go_ret2
          exact ⟨by rw [R.out]; rfl, B_0.out⟩
        · have HNB := Lib.hid (show capBad n = false by simp [capBad]; omega)
          rw [hca2]
          go_wp2_with fail
          go_round
          case rel => exact ⟨k + 1, by omega, by go_num, all_snoc HNO.out HNX.out HNB.out⟩
          case measure => simp [intOf]; omega
    · have hke : (q.cn : Int) ≤ (k : Int) := by omega
      have HCN := Lib.hid (any_no (f := capBad) HNO.out (by rw [hcl.out]; omega))
      obtain ⟨x0, x1, x2, x3, x4, x5⟩ := X_0.out.cells6
      go_wp2_with fail
      clear x0 x1 x2 x3 x4 x5
      go_loopw [29] (fun i wr => ∃ k : Nat, k ≤ q.sn ∧ i = .int .i64 k ∧ (∀ y ∈ p.sels.take k, selZ p.caps.length y = 0) ∧ Below X0.heap.size X0 wr) (fun i _ => q.sn - (intOf i).toNat)
      case atStart => exact ⟨0, Nat.zero_le _, rfl, fun y hy => by simp at hy, Below.refl _ _⟩
      case round =>
        obtain ⟨m, hm, rfl, hno2, hbl⟩ := hrel
        have HN2 := Lib.hid hno2; have HBW := Lib.hid hbl
        clear hno2 hbl
        by_cases hlm : m < q.sn
        · have hlm' : (m : Int) < (q.sn : Int) := by omega
          obtain ⟨x, b2, o2, ca, cn, cc, hx, hsa2, d0, d1, hcss⟩ := (P_0.out.sels.below HBW.out).at m hlm
          have HX := Lib.hid hx; have HC := Lib.hid hcss
          have HCL := Lib.hid hcss.recs.len_eq
          have hccm := hcss.recs.len_le
          clear hx hcss
          rw [hsa2]
          by_cases hbig : 4 < cn
          · have hbig' : (4 : Int) < (cn : Int) := by omega
            have R := Lib.hid (tz_sel HNS.out HCN.out HN2.out HX.out (by rw [sel_size (by rw [HCL.out]; exact hbig)]; decide))
            have R2 := Lib.hid (sel_size (nc := p.caps.length) (s := x) (by rw [HCL.out]; exact hbig))
            go_wp2_with fail
            go_ret2
            exact ⟨by rw [R.out, R2.out]; rfl, B_0.out.trans (Below.mono (belowX_alloc HBW.out _) B_0.out.size)⟩
          · have hbig' : (cn : Int) ≤ 4 := by omega
            go_wp2_with fail
            have HB1 := Lib.hid (belowX_alloc HBW.out (.cells #[.slice ca cn cc, .bool x.d] 47))
            have HC1 := Lib.hid (HC.out.below (below_alloc wr (.cells #[.slice ca cn cc, .bool x.d] 47)))
            obtain ⟨X1, hX1⟩ : ∃ y, y = wr.alloc (.cells #[.slice ca cn cc, .bool x.d] 47) := ⟨_, rfl⟩
            rw [← hX1] at HB1 HC1 ⊢
            clear hX1 d0 d1
            go_loopw [42] (fun i w3 => ∃ j : Nat, j ≤ cn ∧ i = .int .i64 j ∧ (∀ y ∈ x.cs.take j, casBad p.caps.length y = false) ∧ Below X1.heap.size X1 w3) (fun i _ => cn - (intOf i).toNat)
            case atStart => exact ⟨0, Nat.zero_le _, rfl, fun y hy => by simp at hy, Below.refl _ _⟩
            case round =>
              obtain ⟨j, hj, rfl, hno3, hb3⟩ := hrel
              have HN3 := Lib.hid hno3; have HB3 := Lib.hid hb3
              clear hno3 hb3
              have X_3 := Lib.hid (X_0.out.below (HB1.out.trans (Below.mono HB3.out HB1.out.size)))
              by_cases hlj : j < cn
              · have hlj' : (j : Int) < (cn : Int) := by omega
                obtain ⟨c, b3, o3, hc, hok, hca3, e0, e1⟩ := (HC1.out.below HB3.out).at j hlj
                have HCX := Lib.hid hc
                have hcI2 := hok
                unfold CasOk I64 at hcI2
                clear hc hok
                rw [hca3]
                obtain ⟨x0, x1, x2, x3, x4, x5⟩ := X_3.out.cells6
                have hlx := X_3.out.lt
                cases hbz : belowZ c.chan q.cn with
                | false =>
                  have HBZ := Lib.hid hbz
                  have HANY := Lib.hid (any_at (f := casBad p.caps.length) HCX.out (by unfold casBad; rw [hcl.out, hbz]; rfl))
                  have R2 := Lib.hid (sel_bad (nc := p.caps.length) (s := x) (by rw [HCL.out]; omega) HANY.out)
                  have R := Lib.hid (tz_sel HNS.out HCN.out HN2.out HX.out (by rw [R2.out]; decide))
                  clear hbz
                  have hz2 : c.chan < 0 ∨ (0 ≤ c.chan ∧ (q.cn : Int) ≤ c.chan) := by have := HBZ.out; simp [belowZ] at this; omega
                  rcases hz2 with hz2 | ⟨hz2, hz3⟩
                  all_goals
                    go_wp2_with fail
                    go_ret2
                    exact ⟨by rw [R.out, R2.out]; rfl, B_0.out.trans (Below.mono ((HB1.out.trans (Below.mono (belowX_alloc HB3.out _) HB1.out.size))) B_0.out.size)⟩
                | true =>
                  have HBZ := Lib.hid hbz
                  have HOKC := Lib.hid (show casBad p.caps.length c = false by unfold casBad; rw [hcl.out, hbz]; rfl)
                  have hz2 : 0 ≤ c.chan ∧ c.chan < (q.cn : Int) := by simpa [belowZ] using hbz
                  obtain ⟨hz2, hz3⟩ := hz2
                  clear hbz
                  go_wp2_with fail
                  go_roundw
                  case rel => exact ⟨j + 1, by omega, by go_num, all_snoc HN3.out HCX.out HOKC.out, belowX_alloc HB3.out _⟩
                  case measure => simp [intOf]; omega
              · have hje : (cn : Int) ≤ (j : Int) := by omega
                have HSO := Lib.hid (sel_ok (nc := p.caps.length) (s := x) (by rw [HCL.out]; omega) (any_no (f := casBad p.caps.length) HN3.out (by rw [HCL.out]; omega)))
                go_wp2_with fail
                go_roundw
                case rel => exact ⟨m + 1, by omega, by go_num, all_snoc HN2.out HX.out HSO.out, HB1.out.trans (Below.mono HB3.out HB1.out.size)⟩
                case measure => simp [intOf]; omega
        · have hme : (q.sn : Int) ≤ (m : Int) := by omega
          have R := Lib.hid (tz_ok HNS.out HCN.out (all_take HN2.out (by rw [hsl.out]; omega)))
          go_wp2_with fail
          go_ret2
          exact ⟨by rw [R.out]; rfl, B_0.out.trans (Below.mono HBW.out B_0.out.size)⟩
set_option maxRecDepth 100000 in
set_option maxHeartbeats 8000000 in
theorem refTables_bad (p : Pr) (q : PAt) (w : World) (h : Prg w p q) (hs : SizeA p ∨ SizeB p) :
    Calls Try.prog 34 #[prV p q] w (Says2 w (tablesZ p).1 (tablesZ p).2) := by
  have R := Lib.hid (tz_size hs)
  have HSz := Lib.hid (fun W => refSizes_any p q W h.szs)
  rw [sb_yes hs] at HSz
  have B_0 := Lib.hid (below_alloc w (.cells (prC p q) 26))
  clear h hs
  go_enter Try.func34, Try.ntmps34
  go_wp2_with fail
  refine (HSz.out _).mono ?_
  rintro e w1 ⟨rfl, hb⟩
  have B_1 := Lib.hid (B_0.out.trans (Below.mono hb B_0.out.size))
  clear hb
  go_wp2_with fail
  go_ret2
  exact ⟨by rw [R.out]; rfl, B_1.out⟩
theorem refTables_any (p : Pr) (q : PAt) (w : World) (h : Prg w p q) : Calls Try.prog 34 #[prV p q] w (Says2 w (tablesZ p).1 (tablesZ p).2) := by
  by_cases hs : SizeA p ∨ SizeB p
  · exact refTables_bad p q w h hs
  · exact refTables_good p q w h hs
end Go.Proofs.Ytddkckppmjcclaa
