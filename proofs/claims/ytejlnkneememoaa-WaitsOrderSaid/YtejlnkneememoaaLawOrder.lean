/- WaitsOrder: the walk. -/
import Derived.Test.YtejlnkneememoaaOrdPlain
import Derived.Deep.LoopGhost
import Derived.BigQuiet
import Derived.Deep.QuietTactic
namespace Go.Proofs.Ytejlnkneememoaa
open Go.RowKit
/-- what the loop keeps: what waits is told alike by both -/
def OInv (w0 wr : World) (l h : Value) (M : List Wt) : Prop := ∃ la ln lc ha hn hc, l = .slice la ln lc ∧ h = .slice ha hn hc ∧ Wts wr la ln lc M ∧ OwnW wr w0.heap.size h M ∧ Wts wr ha hn hc M ∧ rightW M = true ∧ SmallW M ∧ Below w0.heap.size w0 wr
theorem OInv.mk' {w0 wr : World} {la : Option Addr} {ln lc : Nat} {h : Value} {M : List Wt} (h1 : Wts wr la ln lc M) (h2 : OwnW wr w0.heap.size h M) (h3 : rightW M = true) (h4 : SmallW M) (h5 : Below w0.heap.size w0 wr) : OInv w0 wr (.slice la ln lc) h M := by
  obtain ⟨ha, hc, e, hr⟩ := OwnR.recs wcells_len h2
  exact ⟨la, ln, lc, ha, _, hc, rfl, e, h1, h2, ⟨hr, h1.ok⟩, h3, h4, h5⟩
theorem own_apart {w : World} {base B : Nat} {v : Value} {M : List Wt} (h : OwnW w base v M) (hB : w.heap.size ≤ B) : some B ≠ v.ownBlock := by
  intro e
  have := (World.ownsRow.lt h B e.symm).2
  omega
def HeadIs (M : List Wt) (g : Int) (w : World) (e : Ending) (w' : World) : Prop := GotFirst w (dropW M g).head? e w'
set_option maxRecDepth 100000 in
set_option maxHeartbeats 8000000 in
theorem order_any (a : Option Addr) (len0 cap : Nat) (L0 : List Wt) (w : World) (h0 : Wts w a len0 cap L0) :
    Calls Try.prog 4 #[.slice a len0 cap] w (Says w) := by
  have hlc := h0.recs.le_cap
  have hcm := h0.recs.cap_le
  unfold maxLen at hcm
  obtain ⟨l1, hl1⟩ : ∃ l1, l1 = min len0 100 := ⟨_, rfl⟩
  have h := h0.take 100
  rw [← hl1] at h
  obtain ⟨L, hL⟩ : ∃ L, L = L0.take 100 := ⟨_, rfl⟩
  rw [← hL] at h
  clear hL h0
  have hl100 : l1 ≤ 100 := by omega
  have HI := Lib.hid h; clear h
  have HMIN := Lib.hid hl1; clear hl1
  have HDr := Lib.hid (fun W la ln lc M g (h : Wts W la ln lc M) hr hg hgI => Drop_goF la ln lc M g W h hr hg hgI)
  have HRD := Lib.hid (fun W la ln lc M g (h : Wts W la ln lc M) hl hgI => refDrop_own la ln lc M g W h hl hgI)
  have HPT := Lib.hid (fun W la ln lc M x (h : Wts W la ln lc M) hx hr hm hh => Push_twice la ln lc M x W h hx hr hm hh)
  have HPO := Lib.hid (fun W la ln lc M x (h : Wts W la ln lc M) hx hr hm hh hf => Push_okF la ln lc M x W h hx hr hm hh hf)
  have HFi := Lib.hid (fun W la ln lc M g (h : Wts W la ln lc M) hr hg hgI => First_go la ln lc M g W h hr hg hgI)
  unfold GotF at HDr HPO
  unfold GotO at HRD
  unfold NoL at HPT
  go_enter Try.func4, Try.ntmps4
  go_upto_region 2 with (fail)
  go_cut [19, 20, 21] (fun s n i wx => s = .slice a l1 cap ∧ n = .int .i64 l1 ∧ i = .int .i64 0 ∧ w = wx)
  case first =>
    have hl1 := HMIN.out
    by_cases hs : len0 ≤ 100
    · have e : l1 = len0 := by omega
      subst e
      have h' : (l1 : Int) ≤ 100 := by omega
      clear hl1 HMIN
      go_wp2_with fail
      go_meet
      exact ⟨rfl, rfl, rfl, rfl⟩
    · have e : l1 = 100 := by omega
      subst e
      have h' : (100 : Int) < (len0 : Int) := by omega
      clear hl1 HMIN hs
      go_wp2_with fail
      go_meet
      exact ⟨rfl, rfl, rfl, rfl⟩
  case rest =>
    obtain ⟨rfl, rfl, rfl, rfl⟩ := hcut
    clear HMIN hlc
    go_wp2_with fail
    go_loopg [3, 4, 21] l1 (fun g l h i wr => ∃ (k : Nat) (M : List Wt), k + g = l1 ∧ i = .int .i64 k ∧ OInv w wr l h M)
    case atStart => exact ⟨0, [], by omega, rfl, OInv.mk' (Wts.nil _) (ownR_nil _ _) right_nil small_nil (Below.refl _ _)⟩
    case round =>
      obtain ⟨k, M, hk, rfl, hinv⟩ := hrel
      have HV := Lib.hid hinv; clear hinv
      obtain ⟨la, ln, lc, ha, hn, hc, rfl, rfl, hl, hh, hhr, hr, hsm, hbel⟩ := HV.out
      have HL := Lib.hid hl; have HH := Lib.hid hh; have HHR := Lib.hid hhr; have HR := Lib.hid hr; have HSM := Lib.hid hsm; have HB := Lib.hid hbel
      clear hl hh hhr hr hsm hbel HV
      by_cases hlt : k < l1
      · have hlt' : (k : Int) < (l1 : Int) := by omega
        obtain ⟨x, bb, off, hx, hok, rfl, c0, c1, c2⟩ := (HI.out.below HB.out).at k hlt
        clear hx
        obtain ⟨⟨_, _⟩, ⟨_, _⟩, ⟨_, _⟩⟩ := hok
        obtain ⟨m, hm1⟩ : ∃ m, x.g.tmod 5 = m := ⟨_, rfl⟩
        have hb1 : -5 < m := by rw [← hm1]; have := Int.lt_tmod_of_pos x.g (show (0:Int) < 5 by omega); omega
        have hb2 : m < 5 := by rw [← hm1]; exact Int.tmod_lt_of_pos x.g (by omega)
        obtain ⟨c, hc1⟩ : ∃ m, x.c.tmod 4 = m := ⟨_, rfl⟩
        have hb3 : -4 < c := by rw [← hc1]; have := Int.lt_tmod_of_pos x.c (show (0:Int) < 4 by omega); omega
        have hb4 : c < 4 := by rw [← hc1]; exact Int.tmod_lt_of_pos x.c (by omega)
        obtain ⟨s, hs1⟩ : ∃ m, x.s.tmod 9 = m := ⟨_, rfl⟩
        have hb5 : -9 < s := by rw [← hs1]; have := Int.lt_tmod_of_pos x.s (show (0:Int) < 9 by omega); omega
        have hb6 : s < 9 := by rw [← hs1]; exact Int.tmod_lt_of_pos x.s (by omega)
        go_upto_if 41 with (fail)
        clear hm1 hc1 hs1 c0 c1 c2
        obtain ⟨g, hg⟩ : ∃ g, m % 5 = g := ⟨_, rfl⟩
        obtain ⟨z, hz⟩ : ∃ z, s % 9 = z := ⟨_, rfl⟩
        have hg1 : 0 ≤ g := by omega
        have hgg : g < 5 := by omega
        have hz1 : 0 ≤ z := by omega
        have hz2 : z < 9 := by omega
        have YX := Lib.hid (Box3.new wr ⟨g, c, z⟩)
        have hba := below_alloc wr (.cells #[.int .i64 g, .int .i64 c, .int .i64 z] 24)
        have HLX := Lib.hid (HL.out.below hba); have HHX := Lib.hid (OwnR.below HH.out hba); have HHRX := Lib.hid (HHR.out.below hba); have HBX := Lib.hid (HB.out.trans (Below.mono hba HB.out.size))
        clear hba
        rw [hg, hz]
        clear hg hz hb1 hb2 hb5 hb6
        obtain ⟨X, hX⟩ : ∃ x, x = wr.alloc (.cells #[.int .i64 g, .int .i64 c, .int .i64 z] 24) := ⟨_, rfl⟩
        obtain ⟨BY, hBY⟩ : ∃ x, x = wr.heap.size := ⟨_, rfl⟩
        simp only [] at YX
        rw [← hX] at YX HLX HHX HHRX HBX ⊢
        rw [← hBY] at YX ⊢
        clear hX hBY HL HH HHR HB
        go_cut [3, 4] (fun l h wx => ∃ M', OInv w wx l h M')
        case first =>
          have h20 := small_len HR.out HSM.out
          have hln : ln ≤ 20 := by rw [← HLX.out.recs.len_eq]; exact h20
          have hhn : hn ≤ 20 := by rw [← HHRX.out.recs.len_eq]; exact h20
          clear h20
          by_cases hc0 : c < 0
          · obtain ⟨y0, y1, y2⟩ := YX.out.cells
            go_wp2_with fail
            refine (HDr.out X la ln lc M g HLX.out HR.out hg1 ⟨by omega, by omega⟩).mono ?_
            rintro e w1 ⟨na, nn, nc, rfl, hi, hb, _⟩
            clear y0 y1 y2
            have Y1 := Lib.hid (YX.out.below hb); have N1 := Lib.hid hi; have HHR1 := Lib.hid (HHRX.out.below hb); have HB1 := Lib.hid (HBX.out.trans (Below.mono hb HBX.out.size))
            clear hi hb
            obtain ⟨y0, y1, y2⟩ := Y1.out.cells
            go_wp2_with fail
            refine (HRD.out w1 ha hn hc M g HHR1.out (by omega) ⟨by omega, by omega⟩).mono ?_
            rintro e w2 ⟨v, rfl, ho, hb⟩
            clear y0 y1 y2
            have HV2 := Lib.hid (OInv.mk' (N1.out.below hb) (World.ownsRow.mono' ho HB1.out.size) (right_drop HR.out g) (small_drop HSM.out g) (HB1.out.trans (Below.mono hb HB1.out.size)))
            clear ho hb
            go_wp2_with fail
            go_meet
            exact ⟨_, HV2.out⟩
          · have hok : WtOk ⟨g, c, z⟩ := by unfold WtOk I64; simp only []; omega
            have HOK := Lib.hid hok
            have HM : Hid (mayW ⟨g, c, z⟩ = true) := Lib.hid (by simp [mayW]; omega)
            clear hok
            obtain ⟨y0, y1, y2⟩ := YX.out.cells
            simp only [] at y0 y1 y2
            have hc0' : (0 : Int) ≤ c := by omega
            cases hhas : hasW M g c with
            | true =>
              have HHW := Lib.hid hhas; clear hhas
              have HHas := Lib.hid (fun W (h : Wts W ha hn hc M) => refHas_any ha hn hc M g c W h)
              rw [HHW.out] at HHas
              go_wp2_with fail
              refine (HPT.out X la ln lc M ⟨g, c, z⟩ HLX.out HOK.out HR.out HM.out HHW.out).mono ?_
              rintro e w1 ⟨rfl, hb⟩
              clear y0 y1 y2
              have Y1 := Lib.hid (YX.out.below hb); have N1 := Lib.hid (HLX.out.below hb); have HH1 := Lib.hid (OwnR.below HHX.out hb); have HHR1 := Lib.hid (HHRX.out.below hb); have HB1 := Lib.hid (HBX.out.trans (Below.mono hb HBX.out.size))
              clear hb
              obtain ⟨y0, y1, y2⟩ := Y1.out.cells
              simp only [] at y0 y1 y2
              go_wp2_with fail
              refine (HHas.out w1 HHR1.out).mono ?_
              rintro e w2 ⟨rfl, hb⟩
              clear y0 y1 y2
              have HV2 := Lib.hid (OInv.mk' (N1.out.below hb) (OwnR.below HH1.out hb) HR.out HSM.out (HB1.out.trans (Below.mono hb HB1.out.size)))
              clear hb
              go_wp2_with fail
              go_meet
              exact ⟨_, HV2.out⟩
            | false =>
              have HHW := Lib.hid hhas; clear hhas
              have HHas := Lib.hid (fun W (h : Wts W ha hn hc M) => refHas_any ha hn hc M g c W h)
              rw [HHW.out] at HHas
              go_wp2_with fail
              refine (HPO.out X la ln lc M ⟨g, c, z⟩ HLX.out HOK.out HR.out HM.out HHW.out (by omega)).mono ?_
              rintro e w1 ⟨na, nn, nc, rfl, hi, hb, hfr⟩
              clear y0 y1 y2
              have Y1 := Lib.hid (YX.out.below hb); have N1 := Lib.hid hi; have HH1 := Lib.hid (OwnR.below HHX.out hb); have HHR1 := Lib.hid (HHRX.out.below hb); have HB1 := Lib.hid (HBX.out.trans (Below.mono hb HBX.out.size)); have HFR := Lib.hid hfr
              clear hb hi hfr
              obtain ⟨y0, y1, y2⟩ := Y1.out.cells
              simp only [] at y0 y1 y2
              go_wp2_with fail
              refine (HHas.out w1 HHR1.out).mono ?_
              rintro e w2 ⟨rfl, hb⟩
              clear y0 y1 y2
              have Y2 := Lib.hid (Y1.out.below hb); have N2 := Lib.hid (N1.out.below hb); have HH2 := Lib.hid (OwnR.below HH1.out hb); have HB2 := Lib.hid (HB1.out.trans (Below.mono hb HB1.out.size))
              clear hb
              obtain ⟨y0, y1, y2⟩ := Y2.out.cells
              simp only [] at y0 y1 y2
              go_wp2_with (at_builtin; refine wpList_appR rfl _ _ rfl w.heap.size _ M rfl (OwnR.below HH2.out (below_alloc w2 _)) _ 1 1 [⟨g, c, z⟩] rfl (recs_one (Box3.new w2 ⟨g, c, z⟩)) (by have := HHR1.out.recs.len_eq; omega) (by omega) (by have := HB2.out.size; simp; omega) ?_; intro v' w3 ho hg2)
              clear y0 y1 y2
              have HV3 := Lib.hid (OInv.mk' ((N2.out.below (below_alloc w2 (.cells #[.int .i64 g, .int .i64 c, .int .i64 z] 24))).grown hg2.out (fun x hx => own_apart HHX.out (HFR.out x hx))) ho.out (right_snoc HR.out (by rw [HLX.out.recs.len_eq]; omega) HM.out HHW.out) (small_snoc HSM.out hgg hb4) (Below.grown (belowX_alloc HB2.out _) hg2.out (by have := HB2.out.size; simp; omega) (fun r hr => OwnR.lt HH2.out r hr)))
              clear ho hg2
              go_wp2_with fail
              go_meet
              exact ⟨_, HV3.out⟩
        case rest =>
          clear HLX HHX HHRX HBX YX HR HSM
          obtain ⟨M', hinv⟩ := hcut
          have HV := Lib.hid hinv; clear hinv
          obtain ⟨la, ln, lc, ha, hn, hc, rfl, rfl, hl, hh, hhr, hr, hsm, hbel⟩ := HV.out
          have HL := Lib.hid hl; have HHR := Lib.hid hhr; have HR := Lib.hid hr; have HSM := Lib.hid hsm; have HB := Lib.hid hbel
          have h20 := small_len hr hsm
          have hhn : hn ≤ 20 := by rw [← hhr.recs.len_eq]; exact h20
          have HOKM := Lib.hid hl.ok
          clear hl hh hhr hr hsm hbel h20
          have HSa := Lib.hid (Same_any la ln lc M' ha hn hc M' wc HL.out HHR.out)
          rw [decide_eq_true (show M' = M' from rfl)] at HSa
          go_wp2_with fail
          refine HSa.out.mono ?_
          rintro e ws ⟨rfl, hb⟩
          have HVS := Lib.hid (show OInv w ws _ _ M' from let ⟨h1, h2, h3, h4, h5, h6, h7, h8, h9, h10, h11, h12, h13, h14⟩ := HV.out; ⟨h1, h2, h3, h4, h5, h6, h7, h8, h9.below hb, OwnR.below h10 hb, h11.below hb, h12, h13, h14.trans (Below.mono hb h14.size)⟩)
          have HLS := Lib.hid (HL.out.below hb); have HHS := Lib.hid (HHR.out.below hb)
          clear hb HSa HV HL HHR HB
          go_wp2_with fail
          go_loopg [90] 6 (fun g i wx => ∃ j : Nat, j + g = 6 ∧ i = .int .i64 j ∧ Below ws.heap.size ws wx)
          case atStart => exact ⟨0, by omega, rfl, Below.refl _ _⟩
          case round =>
            obtain ⟨j, hj, rfl, hbel⟩ := hrel
            have HBW := Lib.hid hbel; clear hbel
            by_cases hj6 : j < 6
            · have hj6' : (j : Int) < 6 := by omega
              have HF := Lib.hid (HFi.out wr la ln lc M' j (HLS.out.below HBW.out) HR.out (by omega) ⟨by omega, by omega⟩)
              rw [drop_head] at HF
              unfold GotFirst GotWait zeroW at HF
              have HD := Lib.hid (fun W (h : Wts W ha hn hc M') => HRD.out W ha hn hc M' j h (by omega) ⟨by omega, by omega⟩)
              cases hd : dropW M' j with
              | nil =>
                rw [hd] at HF HD
                simp only [List.head?_nil] at HF
                clear hd
                go_wp2_with fail
                refine HF.out.mono ?_
                rintro e w1 ⟨rfl, hb⟩
                have HB1 := Lib.hid (HBW.out.trans (Below.mono hb HBW.out.size))
                clear hb HF
                go_wp2_with fail
                refine (HD.out _ (HHS.out.below (belowX_alloc HB1.out _))).mono ?_
                rintro e w2 ⟨v, rfl, ho, hb⟩
                have HB2 := Lib.hid ((belowX_alloc HB1.out _).trans (Below.mono hb (belowX_alloc HB1.out _).size))
                obtain ⟨ra, rc, rfl, _⟩ := OwnR.recs wcells_len ho
                clear hb ho HD
                go_wp2_with fail
                go_quiet (fail)
                go_wp2_with fail
                go_roundg (gk - 1)
                case measure => omega
                case rel => exact ⟨j + 1, by omega, by go_num, below_drewN HB2.out nq⟩
              | cons y ys =>
                have HDW := Lib.hid hd
                rw [hd] at HF HD
                simp only [List.head?_cons] at HF
                clear hd
                have e1 : (y.g == y.g) = true := by simp
                have e2 : (y.c == y.c) = true := by simp
                have e3 : (y.s == y.s) = true := by simp
                have HOKY : Hid (∀ z ∈ y :: ys, WtOk z) := Lib.hid (by rw [← HDW.out]; exact fun z hz => HOKM.out z (List.mem_filter.1 hz).1)
                go_wp2_with fail
                refine HF.out.mono ?_
                rintro e w1 ⟨rfl, hb⟩
                have HB1 := Lib.hid (HBW.out.trans (Below.mono hb HBW.out.size))
                clear hb HF
                go_wp2_with fail
                have hbx := Box3.new w1 y
                refine (HD.out _ (HHS.out.below (belowX_alloc HB1.out _))).mono ?_
                rintro e w2 ⟨v, rfl, ho, hb⟩
                have HB2 := Lib.hid ((belowX_alloc HB1.out _).trans (Below.mono hb (belowX_alloc HB1.out _).size))
                have BX := Lib.hid (hbx.below hb)
                obtain ⟨ra, rc, rfl, hrec⟩ := OwnR.recs wcells_len ho
                have hwts : Wts w2 ra (y :: ys).length rc (y :: ys) := ⟨hrec, HOKY.out⟩
                obtain ⟨x0, b2, o2, hx0, _, rfl, c0, c1, c2⟩ := hwts.at 0 (by simp)
                obtain rfl : y = x0 := by simpa using hx0
                rw [Nat.zero_mul, Nat.add_zero] at c0 c1 c2
                obtain ⟨n, hn⟩ : ∃ n, n = (y :: ys).length := ⟨_, rfl⟩
                have hn0 : 0 < n := by rw [hn]; simp
                rw [← hn]
                clear hb ho HD hbx hrec hwts hx0 hn
                obtain ⟨z0, z1, z2⟩ := BX.out.cells
                have hnb : ((n : Int) == 0) = false := by rw [beq_eq_false_iff_ne]; omega
                have hn1 : (0 : Int) < (n : Int) := by omega
                go_wp2_with fail
                go_quiet (fail)
                go_wp2_with fail
                go_roundg (gk - 1)
                case measure => omega
                case rel => exact ⟨j + 1, by omega, by go_num, below_drewN HB2.out nq⟩
            · have hj6e : j = 6 := by omega
              subst hj6e
              go_wp2_with fail
              go_roundg (l1 - (k + 1))
              case measure => omega
              case rel => exact ⟨k + 1, M', by omega, by go_num, let ⟨h1, h2, h3, h4, h5, h6, h7, h8, h9, h10, h11, h12, h13, h14⟩ := HVS.out; ⟨h1, h2, h3, h4, h5, h6, h7, h8, h9.below HBW.out, OwnR.below h10 HBW.out, h11.below HBW.out, h12, h13, h14.trans (Below.mono HBW.out h14.size)⟩⟩
      · have hkn : k = l1 := by omega
        subst hkn
        go_wp2_with fail
        refine (alive_any _).mono ?_
        rintro e w1 ⟨rfl, hb⟩
        have HB1 := Lib.hid (HB.out.trans (Below.mono hb HB.out.size))
        clear hb
        go_wp2_with fail
        go_ret
        exact ⟨rfl, HB1.out⟩
end Go.Proofs.Ytejlnkneememoaa
