/- RingOrder: the walk, where the list is cut. -/
import Derived.Test.YtamaocnehneilaaLawOrder
namespace Go.Proofs.Ytamaocnehneilaa
open Go.RowKit
set_option maxRecDepth 100000 in
set_option maxHeartbeats 2000000 in
theorem order_walk2 (m0 : Int) (a : Option Addr) (len0 cap : Nat) (l0 : List Int) (w : World) (hm : I64 m0) (h0 : Ints w a len0 cap l0) (hlt : 200 < len0) : Calls Try.prog 4 #[.int .i64 m0, .slice a len0 cap] w (Says w) := by
  obtain ⟨m, hm1⟩ : ∃ m, m0.tmod 9 = m := ⟨_, rfl⟩
  have hb1 : -9 < m := by rw [← hm1]; have := Int.lt_tmod_of_pos m0 (show (0:Int) < 9 by omega); omega
  have hb2 : m < 9 := by rw [← hm1]; exact Int.tmod_lt_of_pos m0 (by omega)
  obtain ⟨n, hn⟩ : ∃ n : Nat, (m + 9) % 9 = (n : Int) := ⟨((m + 9) % 9).toNat, by omega⟩
  have hn9 : n < 9 := by omega
  have hle := h0.len_le
  have hlc := h0.le_cap
  have hcm := h0.cap_le
  have hnn := h0.none_
  unfold maxLen at hcm
  have hltI : (200 : Int) < (len0 : Int) := by omega
  have h := h0.take 200
  rw [Nat.min_eq_right (by omega)] at h
  obtain ⟨l, hl⟩ : ∃ l, l = l0.take 200 := ⟨_, rfl⟩
  rw [← hl] at h
  clear hl h0
  unfold I64 at hm
  have HNN := Lib.hid hnn
  have HI := Lib.hid h; clear h hnn
  have HNew := Lib.hid (fun W : World => New_ok n W (by omega))
  unfold GotRing ringV at HNew
  go_enter Try.func4, Try.ntmps4
  go_wp2_with fail
  refine (HNew.out _).mono ?_
  rintro e w1 ⟨sa, scap, rfl, hi, hb, hfr⟩
  have HB1 := Lib.hid hb; have HS1 := Lib.hid hi; have HFR := Lib.hid hfr
  clear hb hi hfr
  go_wp2_with fail
  have HR := Lib.hid (show w.heap.size ≤ w1.heap.size from HB1.out.size)
  have HINV := Lib.hid (oinv_start HS1.out HB1.out)
  obtain ⟨R, hR⟩ : ∃ R, R = w1.heap.size := ⟨_, rfl⟩
  rw [← hR] at HINV ⊢
  have HRR := Lib.hid hR; clear hR
  go_loopw [7, 34] (fun hv i wr => ∃ (k first count : Nat) (sa : Option Addr) (scap : Nat) (zs : List Int) (ha : Option Addr) (hcap : Nat), k ≤ 200 ∧ i = .int .i64 k ∧ hv = .slice ha count hcap ∧ OInv w R n first count sa scap zs ha hcap wr) (fun _ i _ => 200 - (intOf i).toNat)
  case atStart => exact ⟨0, 0, 0, _, _, _, none, 0, Nat.zero_le _, rfl, rfl, HINV.out⟩
  case round =>
    clear HINV
    obtain ⟨k, first, count, sa, scap, zs, ha, hcap, hk, rfl, rfl, hinv⟩ := hrel
    have HV := Lib.hid hinv; clear hinv
    by_cases hlt : k < 200
    · obtain ⟨b, off, rfl, hc⟩ := HI.out.cell k hlt
      have hc' := (HV.out.below.cell (p := ⟨b, off + k, none⟩) (World.block_lt_of_cell? _ _ hc)).trans hc
      clear hc
      have hv0 := HI.out.bound k
      obtain ⟨v, hv⟩ : ∃ v, v = en l k := ⟨_, rfl⟩
      rw [← hv] at hc' hv0
      clear hv
      unfold I64 at hv0
      have hlt' : (k : Int) < 200 := by omega
      obtain ⟨p0, p1, p2, p3⟩ := cells4 HV.out.box
      cases hev : (v.tmod 2 == 0) with
      | true =>
        by_cases hful : count = n
        · subst hful
          have hcn : ((count : Int) == (count : Int)) = true := by simp
          have HP := Lib.hid (Push_full count first sa scap v wr (by omega) HV.out.fst)
          unfold NoRing ringV at HP
          go_wp2_with fail
          refine HP.out.mono ?_
          rintro e w2 ⟨rfl, hb⟩
          have HV2 := Lib.hid (HV.out.later hb)
          have HV5 := Lib.hid (HV2.out.later (below_alloc w2 (.cells #[.int .i64 0, .int .i64 0, .slice none 0 0, .int .i64 0] 24)))
          have hR2 := (Array.getElem?_eq_some_iff.1 HV2.out.box).1
          clear hb p0 p1 p2 p3 hc' HP
          obtain ⟨p0, p1, p2, p3⟩ := cells4 HV2.out.box
          have HIt := Lib.hid (fun W (h : Ints W sa count scap zs) => Items_ok count first count sa scap zs W h (by omega) HV5.out.fst HV5.out.cnt)
          unfold ringV at HIt
          go_wp2_with fail
          refine (HIt.out _ HV5.out.slots).mono ?_
          rintro e w6 ⟨ia, inn, icap, rfl, hi, hb⟩
          have HV6 := Lib.hid (HV5.out.later hb); have HI6 := Lib.hid hi
          clear p0 p1 p2 p3 HIt hi hb
          obtain ⟨p0, p1, p2, p3⟩ := cells4 HV6.out.box
          go_wp2_with fail
          refine (rows_any _ _ _ _ _ _ _ _ _ HI6.out HV6.out.hasInts).mono ?_
          rintro e w7 ⟨rfl, hb⟩
          have HV7 := Lib.hid (HV6.out.later hb)
          clear p0 p1 p2 p3 hb
          obtain ⟨p0, p1, p2, p3⟩ := cells4 HV7.out.box
          rw [decide_eq_true (show takenL count first count zs = takenL count first count zs from rfl)]
          have HRi := Lib.hid (Right_any count first count sa count scap w7 ⟨by omega, by omega⟩ ⟨by have := HV7.out.fst; omega, by have := HV7.out.fst; omega⟩ ⟨by omega, by have := HV7.out.cnt; omega⟩ (by omega))
          have HRt := Lib.hid (show rightZ count first count count = true by have := HV7.out.fst; have := HV7.out.cnt; rw [rightZ, decide_eq_true_eq]; omega)
          rw [HRt.out] at HRi
          unfold ringV at HRi
          go_wp2_with fail
          refine HRi.out.mono ?_
          rintro e w8 ⟨rfl, hb⟩
          have HV8 := Lib.hid (HV7.out.later hb)
          clear p0 p1 p2 p3 hb HRi
          go_wp2_with fail
          go_roundw
          case rel => exact ⟨k + 1, first, count, _, _, _, _, _, by omega, by go_num, rfl, HV8.out⟩
          case measure => simp [intOf]; omega
        · have hcn : ((count : Int) == (n : Int)) = false := by rw [beq_eq_false_iff_ne]; omega
          have hkn : count < n := by have := HV.out.cnt; omega
          have HP := Lib.hid (Push_ok n first count sa scap zs v wr HV.out.slots (by omega) HV.out.fst hkn ⟨by omega, by omega⟩)
          unfold GotRing ringV at HP
          go_wp2_with fail
          refine HP.out.mono ?_
          rintro e w2 ⟨ga, gcap, rfl, hi, hb, hfr⟩
          have HB2 := Lib.hid hb; have HS2 := Lib.hid hi; have HFR2 := Lib.hid hfr
          clear hb hi hfr p0 p1 p2 p3 hc'
          go_wp2_with fail
          have hT : (w2.alloc (.cells #[.int .i64 n, .int .i64 first, .slice ga n gcap, .int .i64 ((count : Int) + 1)] 24)).heap[w2.heap.size]? = some (.cells #[.int .i64 n, .int .i64 first, .slice ga n gcap, .int .i64 ((count : Int) + 1)] 24 (0, 0)) := heap_alloc_new w2 _
          have hlt2 : R < w2.heap.size := Nat.lt_of_lt_of_le (Array.getElem?_eq_some_iff.1 HV.out.box).1 HB2.out.size
          have hRB : (w2.alloc (.cells #[.int .i64 n, .int .i64 first, .slice ga n gcap, .int .i64 ((count : Int) + 1)] 24)).heap[R]? = some (.cells #[.int .i64 n, .int .i64 first, .slice sa n scap, .int .i64 count] 24 (0, 0)) := (Below.heap_alloc _ _ _ hlt2).trans ((HB2.out.block _ (Array.getElem?_eq_some_iff.1 HV.out.box).1).trans HV.out.box)
          have hC : Cut (w2.alloc (.cells #[.int .i64 n, .int .i64 first, .slice ga n gcap, .int .i64 ((count : Int) + 1)] 24)) w.heap.size ha count hcap (takenL n first count zs) := (HV.out.has.below HB2.out).below (below_alloc _ _)
          have hS : Ints (w2.alloc (.cells #[.int .i64 n, .int .i64 first, .slice ga n gcap, .int .i64 ((count : Int) + 1)] 24)) ga n gcap (zs.set ((first + count) % n) v) := HS2.out.below (below_alloc _ _)
          have hB : Below w.heap.size w (w2.alloc (.cells #[.int .i64 n, .int .i64 first, .slice ga n gcap, .int .i64 ((count : Int) + 1)] 24)) := (HV.out.below.trans (HB2.out.mono HV.out.below.size)).alloc (Nat.le_trans HV.out.below.size HB2.out.size) _
          obtain ⟨W3, hW3⟩ : ∃ x, x = w2.alloc (.cells #[.int .i64 n, .int .i64 first, .slice ga n gcap, .int .i64 ((count : Int) + 1)] 24) := ⟨_, rfl⟩
          have hsz3 : w2.heap.size < W3.heap.size := by rw [hW3]; simp
          rw [← hW3] at hT hRB hC hS hB ⊢
          clear hW3
          obtain ⟨T, hTT⟩ : ∃ x, x = w2.heap.size := ⟨_, rfl⟩
          rw [← hTT] at hT hsz3 hlt2 ⊢
          have HT := Lib.hid hT; have HRB := Lib.hid hRB; have HC := Lib.hid hC; have HS := Lib.hid hS; have HBB := Lib.hid hB
          have HTT := Lib.hid hTT
          clear hT hRB hC hS hB hTT
          have HZ := Lib.hid (taken_push n first count zs v HV.out.slots.len_eq hkn)
          go_region_held3 (fun W => W.cell? ⟨T, 0, none⟩ = some (.int .i64 n) ∧ W.cell? ⟨T, 1, none⟩ = some (.int .i64 first) ∧ W.cell? ⟨T, 2, none⟩ = some (.slice ga n gcap) ∧ W.cell? ⟨T, 3, none⟩ = some (.int .i64 ((count : Int) + 1)))
            (first | (refine cells4 (t := 24) ?_; (repeat (first | rw [Below.heap_setCell _ _ _ _ (by first | omega | (simp; omega))] | rw [Below.heap_alloc _ _ _ (by first | omega | (simp; omega))])); (first | exact HT.out | exact HT4.out | exact (Below.heap_alloc _ _ _ (by omega)).trans HT.out)))
            ((refine step_append_cut (by rfl) (.tmp 65) (.tmp 67) (by rfl) w.heap.size ha count hcap (takenL n first count zs) (by rfl) (HC.out.below ((below_alloc W3 _).drew)) (by have := HBB.out.size; simp; omega) ⟨W3.heap.size, 0, none⟩ 1 v (by rfl) (by simp) (by omega) ?_; intro a4 cap4 w4 hcut hgr hrow; have HT4 : Hid (w4.heap[T]? = some (.cells #[.int .i64 n, .int .i64 first, .slice ga n gcap, .int .i64 ((count : Int) + 1)] 24 (0, 0))) := ((hgr.out.block T (by simp; omega) (HC.out.not_row HT.out)).trans (Below.heap_alloc W3 _ _ (by omega))).trans HT.out; have hR4 : w4.heap[R]? = some (.cells #[.int .i64 n, .int .i64 first, .slice sa n scap, .int .i64 count] 24 (0, 0)) := ((hgr.out.block R (by simp; omega) (HC.out.not_row HRB.out)).trans (Below.heap_alloc W3 _ _ (by omega))).trans HRB.out; have HR4 := Lib.hid hR4; obtain ⟨r0, r1, r2, r3⟩ := cells4 hR4; obtain ⟨f0, f1, f2, f3⟩ := froz4 hR4; clear hR4))
          have hrlt := (Array.getElem?_eq_some_iff.1 HV.out.box).1
          have HS4 := Lib.hid ((HS.out.below ((below_alloc W3 (.cells #[.int .i64 v] 3)).drew)).kept fun x hx hp => hgr.out.block x.block (Nat.lt_of_lt_of_le (HS.out.lt hp x hx) (by simp)) (fun e => apart_new (w2 := w4) (zs := zs) (gcap := gcap) (n := n) (count := count) HFR2.out HV.out.has x hx hp e.symm))
          have HB4 := Lib.hid (((HBB.out.alloc HBB.out.size (.cells #[.int .i64 v] 3)).drew).grown hgr.out (by have := HBB.out.size; simp; omega) (fun r hr => (HV.out.has.row_lt hr).1))
          have hcut' := hcut.out
          rw [← HZ.out] at hcut'
          have HV5 := Lib.hid (oinv_set HR4.out HS4.out (fun x hx _ e => by have := HFR2.out x hx; omega) HV.out.fst (by omega) hcut' (apart_push hrow.out (fun x hx hp => Nat.le_trans (HS.out.lt hp x hx) (by simp)) (apart_new (w2 := w4) (zs := zs) (gcap := gcap) (n := n) (count := count) HFR2.out HV.out.has)) HB4.out HV.out.base)
          obtain ⟨W5, hW5⟩ : ∃ x, x = set4 w4 R (.int .i64 n) (.int .i64 first) (.slice ga n gcap) (.int .i64 ((count : Int) + 1)) := ⟨_, rfl⟩
          rw [show (((count + 1 : Nat) : Int)) = (count : Int) + 1 from rfl, ← hW5] at HV5
          unfold set4 at hW5
          rw [← hW5]
          clear hW5 hcut' r0 r1 r2 r3 f0 f1 f2 f3
          obtain ⟨p0, p1, p2, p3⟩ := cells4 HV5.out.box
          have HIt := Lib.hid (fun W (h : Ints W ga n gcap (zs.set ((first + count) % n) v)) => Items_ok n first (count + 1) ga gcap (zs.set ((first + count) % n) v) W h (by omega) HV5.out.fst HV5.out.cnt)
          unfold ringV at HIt
          go_wp2_with fail
          refine (HIt.out _ HV5.out.slots).mono ?_
          rintro e w6 ⟨ia, inn, icap, rfl, hi, hb⟩
          have HV6 := Lib.hid (HV5.out.later hb); have HI6 := Lib.hid hi
          clear p0 p1 p2 p3 HIt hi hb
          obtain ⟨p0, p1, p2, p3⟩ := cells4 HV6.out.box
          go_wp2_with fail
          refine (rows_any _ _ _ _ _ _ _ _ _ HI6.out HV6.out.hasInts).mono ?_
          rintro e w7 ⟨rfl, hb⟩
          have HV7 := Lib.hid (HV6.out.later hb)
          clear p0 p1 p2 p3 hb
          obtain ⟨p0, p1, p2, p3⟩ := cells4 HV7.out.box
          rw [decide_eq_true (show takenL n first (count + 1) (zs.set ((first + count) % n) v) = takenL n first (count + 1) (zs.set ((first + count) % n) v) from rfl)]
          have HRi := Lib.hid (Right_any n first (count + 1) ga n gcap w7 ⟨by omega, by omega⟩ ⟨by have := HV7.out.fst; omega, by have := HV7.out.fst; omega⟩ ⟨by omega, by have := HV7.out.cnt; omega⟩ (by omega))
          have HRt := Lib.hid (show rightZ n first n (count + 1) = true by have := HV7.out.fst; have := HV7.out.cnt; rw [rightZ, decide_eq_true_eq]; omega)
          rw [HRt.out] at HRi
          unfold ringV at HRi
          go_wp2_with fail
          refine HRi.out.mono ?_
          rintro e w8 ⟨rfl, hb⟩
          have HV8 := Lib.hid (HV7.out.later hb)
          clear p0 p1 p2 p3 hb HRi
          go_wp2_with fail
          go_roundw
          case rel => exact ⟨k + 1, first, (count + 1), _, _, _, _, _, by omega, by go_num, rfl, HV8.out⟩
          case measure => simp [intOf]; omega
      | false =>
        by_cases hc0 : count = 0
        · subst hc0
          have HP := Lib.hid (fun W => Pop_none n first sa scap W (by omega) HV.out.fst)
          unfold NoPop ringV at HP
          have p3' : wr.cell? ⟨R, 3, none⟩ = some (.int .i64 0) := p3
          clear p3
          go_wp2_with fail
          refine (HP.out _).mono ?_
          rintro e w2 ⟨rfl, hb⟩
          have HV2 := Lib.hid (HV.out.later hb)
          have HV5 := Lib.hid (HV2.out.later (below_alloc w2 (.cells #[.int .i64 0, .int .i64 0, .slice none 0 0, .int .i64 0] 24)))
          have hR2 := (Array.getElem?_eq_some_iff.1 HV2.out.box).1
          clear hb p0 p1 p2 p3' hc' HP
          obtain ⟨p0, p1, p2, p3x⟩ := cells4 HV2.out.box
          have p3 : w2.cell? ⟨R, 3, none⟩ = some (.int .i64 0) := p3x
          clear p3x
          have HIt := Lib.hid (fun W (h : Ints W sa n scap zs) => Items_ok n first 0 sa scap zs W h (by omega) HV5.out.fst HV5.out.cnt)
          unfold ringV at HIt
          go_wp2_with fail
          refine (HIt.out _ HV5.out.slots).mono ?_
          rintro e w6 ⟨ia, inn, icap, rfl, hi, hb⟩
          have HV6 := Lib.hid (HV5.out.later hb); have HI6 := Lib.hid hi
          clear p0 p1 p2 p3 HIt hi hb
          obtain ⟨p0, p1, p2, p3⟩ := cells4 HV6.out.box
          go_wp2_with fail
          refine (rows_any _ _ _ _ _ _ _ _ _ HI6.out HV6.out.hasInts).mono ?_
          rintro e w7 ⟨rfl, hb⟩
          have HV7 := Lib.hid (HV6.out.later hb)
          clear p0 p1 p2 p3 hb
          obtain ⟨p0, p1, p2, p3⟩ := cells4 HV7.out.box
          rw [decide_eq_true (show takenL n first 0 zs = takenL n first 0 zs from rfl)]
          have HRi := Lib.hid (Right_any n first 0 sa n scap w7 ⟨by omega, by omega⟩ ⟨by have := HV7.out.fst; omega, by have := HV7.out.fst; omega⟩ ⟨by omega, by have := HV7.out.cnt; omega⟩ (by omega))
          have HRt := Lib.hid (show rightZ n first n 0 = true by have := HV7.out.fst; have := HV7.out.cnt; rw [rightZ, decide_eq_true_eq]; omega)
          rw [HRt.out] at HRi
          unfold ringV at HRi
          go_wp2_with fail
          refine HRi.out.mono ?_
          rintro e w8 ⟨rfl, hb⟩
          have HV8 := Lib.hid (HV7.out.later hb)
          clear p0 p1 p2 p3 hb HRi
          go_wp2_with fail
          go_roundw
          case rel => exact ⟨k + 1, first, 0, _, _, _, _, _, by omega, by go_num, rfl, HV8.out⟩
          case measure => simp [intOf]; omega
        · obtain ⟨count', hcc⟩ : ∃ c', count = c' + 1 := ⟨count - 1, by omega⟩
          have hcn : ((count : Int) == 0) = false := by rw [beq_eq_false_iff_ne]; omega
          have hcnt := HV.out.cnt
          have hfst : first < n := by have := HV.out.fst; omega
          have HP := Lib.hid (Pop_ok n first count' count hcc sa scap zs wr HV.out.slots (by omega) hfst hcnt (by omega))
          have HK := Lib.hid (show takenL n first count zs = en zs first :: takenL n ((first + 1) % n) count' (zs.set first 0) by rw [hcc]; exact taken_pop n first count' zs HV.out.slots.len_eq hfst (by omega))
          obtain ⟨hb0, ho, hcs, rfl, hbase, hrow, hsize, hcell⟩ := HV.out.has.row (by have := HV.out.has.le; omega)
          have hx0 := hcell 0 (by omega)
          rw [HK.out, en_cons_zero, Nat.add_zero] at hx0
          have hq0 := cell_of_row wr hb0 ho _ 3 (0, 0) hrow
          rw [hx0] at hq0
          have hxb := HV.out.slots.bound first
          have HROW := Lib.hid hrow
          have hbl := (Array.getElem?_eq_some_iff.1 hrow).1
          obtain ⟨x, hx⟩ : ∃ x, x = en zs first := ⟨_, rfl⟩
          obtain ⟨q, hq⟩ : ∃ q, q = (first + 1) % n := ⟨_, rfl⟩
          have hqn : q < n := by rw [hq]; exact Nat.mod_lt _ (by omega)
          rw [← hx, ← hq] at HP
          rw [← hx, ← hq] at HK
          rw [← hx] at hq0 hxb
          unfold I64 at hxb
          have HX := Lib.hid hx
          have HQ := Lib.hid hq
          have HC := Lib.hid hcc
          have hcle := HV.out.has.le
          have hcmx := HV.out.has.max
          unfold maxLen at hcmx
          have hc1 : (1 : Int) ≤ (count : Int) := by omega
          have hc1' : (count : Int) ≤ (hcap : Int) := by omega
          clear hcell hx0 hrow hx hq hcc hsize
          unfold PopRing ringV at HP
          have hxx : (x != x) = false := by simp
          go_wp2_with fail
          refine HP.out.mono ?_
          rintro e w2 ⟨ga, gcap, rfl, hi, hb, hfr⟩
          have HB2 := Lib.hid hb; have HS2 := Lib.hid hi; have HFR2 := Lib.hid hfr
          have hq2 := (hb.cell (p := ⟨hb0, ho, none⟩) hbl).trans hq0
          have hbl2 : hb0 < w2.heap.size := Nat.lt_of_lt_of_le hbl hb.size
          clear hb hi hfr p0 p1 p2 p3 hc' hq0
          go_wp2_with fail
          have hT : (w2.alloc (.cells #[.int .i64 n, .int .i64 q, .slice ga n gcap, .int .i64 count'] 24)).heap[w2.heap.size]? = some (.cells #[.int .i64 n, .int .i64 q, .slice ga n gcap, .int .i64 count'] 24 (0, 0)) := heap_alloc_new w2 _
          have hlt2 : R < w2.heap.size := Nat.lt_of_lt_of_le (Array.getElem?_eq_some_iff.1 HV.out.box).1 HB2.out.size
          have hRB : (w2.alloc (.cells #[.int .i64 n, .int .i64 q, .slice ga n gcap, .int .i64 count'] 24)).heap[R]? = some (.cells #[.int .i64 n, .int .i64 first, .slice sa n scap, .int .i64 count] 24 (0, 0)) := (Below.heap_alloc _ _ _ hlt2).trans ((HB2.out.block _ (Array.getElem?_eq_some_iff.1 HV.out.box).1).trans HV.out.box)
          have hC : Cut (w2.alloc (.cells #[.int .i64 n, .int .i64 q, .slice ga n gcap, .int .i64 count'] 24)) w.heap.size (some ⟨hb0, ho, none⟩) count hcap (takenL n first count zs) := (HV.out.has.below HB2.out).below (below_alloc _ _)
          have hS : Ints (w2.alloc (.cells #[.int .i64 n, .int .i64 q, .slice ga n gcap, .int .i64 count'] 24)) ga n gcap (zs.set first 0) := HS2.out.below (below_alloc _ _)
          have hB : Below w.heap.size w (w2.alloc (.cells #[.int .i64 n, .int .i64 q, .slice ga n gcap, .int .i64 count'] 24)) := (HV.out.below.trans (HB2.out.mono HV.out.below.size)).alloc (Nat.le_trans HV.out.below.size HB2.out.size) _
          obtain ⟨W3, hW3⟩ : ∃ x, x = w2.alloc (.cells #[.int .i64 n, .int .i64 q, .slice ga n gcap, .int .i64 count'] 24) := ⟨_, rfl⟩
          have hsz3 : w2.heap.size < W3.heap.size := by rw [hW3]; simp
          rw [← hW3] at hT hRB hC hS hB ⊢
          clear hW3
          obtain ⟨T, hTT⟩ : ∃ x, x = w2.heap.size := ⟨_, rfl⟩
          rw [← hTT] at hT hsz3 hlt2 ⊢
          have hRT : R < T := hlt2
          have HT := Lib.hid hT; have HRB := Lib.hid hRB; have HCX := Lib.hid hC; have HS := Lib.hid hS; have HBB := Lib.hid hB
          have HTT := Lib.hid hTT
          rw [HK.out] at hC
          have hC' := hC.tail
          have HCT := Lib.hid hC'
          have hrlt := (Array.getElem?_eq_some_iff.1 HV.out.box).1
          have HF3 := Lib.hid (show ∀ x, ga = some x → 0 < n → x.block ≠ R from fun x hx _ e => by have := HFR2.out x hx; omega)
          have HAP := Lib.hid (apart_new (w2 := w2) (zs := zs) (gcap := gcap) (n := n) (count := count) HFR2.out HV.out.has)
          have hq3 := hq2
          have hc0' : count - 1 = count' := by have := HC.out; omega
          have HC0 := Lib.hid hc0'
          clear hq2 hC hC' hc0' hTT hS hB hT
          obtain ⟨r0, r1, r2, r3⟩ := cells4 hRB
          obtain ⟨f0, f1, f2, f3⟩ := froz4 hRB
          clear hRB
          by_cases hcap1 : hcap = 1
          · have hq9 : count = 1 := by omega
            subst hcap1
            subst hq9
            go_region_held3 (fun W => W.cell? ⟨T, 0, none⟩ = some (.int .i64 n) ∧ W.cell? ⟨T, 1, none⟩ = some (.int .i64 q) ∧ W.cell? ⟨T, 2, none⟩ = some (.slice ga n gcap) ∧ W.cell? ⟨T, 3, none⟩ = some (.int .i64 count'))
              (first | (refine cells4 (t := 24) ?_; (try rw [heap_drew']); (repeat (first | rw [Below.heap_setCell _ _ _ _ (by first | omega | (simp; omega))] | rw [Below.heap_alloc _ _ _ (by first | omega | (simp; omega))])); (first | exact HT.out)))
              (fail)
            obtain rfl : count' = 0 := by have := HC0.out; omega
            have hap2 : ∀ y, ga = some y → 0 < n → rowB (some ⟨hb0, ho, none⟩) 0 ≠ some y.block := fun y _ _ => by simp [rowB]
            have hct : Cut W3 w.heap.size (some ⟨hb0, ho, none⟩) 0 0 (takenL n q 0 (zs.set first 0)) := ⟨taken_len _ _ _ _, Nat.le_refl _, by decide, fun _ => rfl, fun h => absurd h (by omega)⟩
            have HV5 := Lib.hid ((oinv_set HRB.out HS.out HF3.out (show q < max n 1 by omega) (show 0 ≤ n by omega) hct hap2 HBB.out HV.out.base).later ((Below.refl _ _).drew))
            obtain ⟨W5, hW5⟩ : ∃ x, x = (set4 W3 R (.int .i64 n) (.int .i64 q) (.slice ga n gcap) (.int .i64 ((0 : Nat) : Int))).drew := ⟨_, rfl⟩
            rw [← hW5] at HV5
            unfold set4 at hW5
            rw [← hW5]
            clear hW5 hct hap2 r0 r1 r2 r3 f0 f1 f2 f3 hq3
            obtain ⟨p0, p1, p2, p3⟩ := cells4 HV5.out.box
            have HIt := Lib.hid (fun W (h : Ints W ga n gcap (zs.set first 0)) => Items_ok n q 0 ga gcap (zs.set first 0) W h (by omega) HV5.out.fst HV5.out.cnt)
            unfold ringV at HIt
            go_wp2_with fail
            refine (HIt.out _ HV5.out.slots).mono ?_
            rintro e w6 ⟨ia, inn, icap, rfl, hi, hb⟩
            have HV6 := Lib.hid (HV5.out.later hb); have HI6 := Lib.hid hi
            clear p0 p1 p2 p3 HIt hi hb
            obtain ⟨p0, p1, p2, p3⟩ := cells4 HV6.out.box
            go_wp2_with fail
            refine (rows_any _ _ _ _ _ _ _ _ _ HI6.out HV6.out.hasInts).mono ?_
            rintro e w7 ⟨rfl, hb⟩
            have HV7 := Lib.hid (HV6.out.later hb)
            clear p0 p1 p2 p3 hb
            obtain ⟨p0, p1, p2, p3⟩ := cells4 HV7.out.box
            rw [decide_eq_true (show takenL n q 0 (zs.set first 0) = takenL n q 0 (zs.set first 0) from rfl)]
            have HRi := Lib.hid (Right_any n q 0 ga n gcap w7 ⟨by omega, by omega⟩ ⟨by have := HV7.out.fst; omega, by have := HV7.out.fst; omega⟩ ⟨by omega, by have := HV7.out.cnt; omega⟩ (by omega))
            have HRt := Lib.hid (show rightZ n q n 0 = true by have := HV7.out.fst; have := HV7.out.cnt; rw [rightZ, decide_eq_true_eq]; omega)
            rw [HRt.out] at HRi
            unfold ringV at HRi
            go_wp2_with fail
            refine HRi.out.mono ?_
            rintro e w8 ⟨rfl, hb⟩
            have HV8 := Lib.hid (HV7.out.later hb)
            clear p0 p1 p2 p3 hb HRi
            go_wp2_with fail
            go_roundw
            case rel => exact ⟨k + 1, q, 0, _, _, _, _, _, by omega, by go_num, rfl, HV8.out⟩
            case measure => simp [intOf]; omega
          · have hcap1 : (1 : Int) < (hcap : Int) := by omega
            have HCC := Lib.hid hcap1
            go_region_held3 (fun W => W.cell? ⟨T, 0, none⟩ = some (.int .i64 n) ∧ W.cell? ⟨T, 1, none⟩ = some (.int .i64 q) ∧ W.cell? ⟨T, 2, none⟩ = some (.slice ga n gcap) ∧ W.cell? ⟨T, 3, none⟩ = some (.int .i64 count'))
              (first | (refine cells4 (t := 24) ?_; (try rw [heap_drew']); (repeat (first | rw [Below.heap_setCell _ _ _ _ (by first | omega | (simp; omega))] | rw [Below.heap_alloc _ _ _ (by first | omega | (simp; omega))])); (first | exact HT.out)))
              (fail)
            rw [HC0.out]
            have hct := HCT.out
            rw [HC0.out] at hct
            have hap2 : ∀ y, ga = some y → 0 < n → rowB (some ⟨hb0, ho + 1, none⟩) (hcap - 1) ≠ some y.block := fun y hy hp => by rw [rowB_tail (off := ho) (by omega)]; exact HAP.out y hy hp
            have HV5 := Lib.hid ((oinv_set HRB.out HS.out HF3.out (show q < max n 1 by omega) (show count' ≤ n by have := HC0.out; omega) hct hap2 HBB.out HV.out.base).later ((Below.refl _ _).drew))
            obtain ⟨W5, hW5⟩ : ∃ x, x = (set4 W3 R (.int .i64 n) (.int .i64 q) (.slice ga n gcap) (.int .i64 count')).drew := ⟨_, rfl⟩
            rw [← hW5] at HV5
            unfold set4 at hW5
            rw [← hW5]
            clear hW5 hct hap2 r0 r1 r2 r3 f0 f1 f2 f3 hcap1 hq3
            obtain ⟨p0, p1, p2, p3⟩ := cells4 HV5.out.box
            have HIt := Lib.hid (fun W (h : Ints W ga n gcap (zs.set first 0)) => Items_ok n q count' ga gcap (zs.set first 0) W h (by omega) HV5.out.fst HV5.out.cnt)
            unfold ringV at HIt
            go_wp2_with fail
            refine (HIt.out _ HV5.out.slots).mono ?_
            rintro e w6 ⟨ia, inn, icap, rfl, hi, hb⟩
            have HV6 := Lib.hid (HV5.out.later hb); have HI6 := Lib.hid hi
            clear p0 p1 p2 p3 HIt hi hb
            obtain ⟨p0, p1, p2, p3⟩ := cells4 HV6.out.box
            go_wp2_with fail
            refine (rows_any _ _ _ _ _ _ _ _ _ HI6.out HV6.out.hasInts).mono ?_
            rintro e w7 ⟨rfl, hb⟩
            have HV7 := Lib.hid (HV6.out.later hb)
            clear p0 p1 p2 p3 hb
            obtain ⟨p0, p1, p2, p3⟩ := cells4 HV7.out.box
            rw [decide_eq_true (show takenL n q count' (zs.set first 0) = takenL n q count' (zs.set first 0) from rfl)]
            have HRi := Lib.hid (Right_any n q count' ga n gcap w7 ⟨by omega, by omega⟩ ⟨by have := HV7.out.fst; omega, by have := HV7.out.fst; omega⟩ ⟨by omega, by have := HV7.out.cnt; omega⟩ (by omega))
            have HRt := Lib.hid (show rightZ n q n count' = true by have := HV7.out.fst; have := HV7.out.cnt; rw [rightZ, decide_eq_true_eq]; omega)
            rw [HRt.out] at HRi
            unfold ringV at HRi
            go_wp2_with fail
            refine HRi.out.mono ?_
            rintro e w8 ⟨rfl, hb⟩
            have HV8 := Lib.hid (HV7.out.later hb)
            clear p0 p1 p2 p3 hb HRi
            go_wp2_with fail
            go_roundw
            case rel => exact ⟨k + 1, q, count', _, _, _, _, _, by omega, by go_num, rfl, HV8.out⟩
            case measure => simp [intOf]; omega
    · have hkn : k = 200 := by omega
      subst hkn
      go_wp2_with fail
      refine (alive_any _).mono ?_
      rintro e w9 ⟨rfl, hb⟩
      have HB9 := Lib.hid (HV.out.below.trans (hb.mono HV.out.below.size))
      clear hb
      go_wp2_with fail
      go_ret
      exact ⟨ret_bool rfl, HB9.out⟩
theorem order_any (m0 : Int) (a : Option Addr) (len cap : Nat) (l : List Int) (w : World) (hm : I64 m0) (h : Ints w a len cap l) : Calls Try.prog 4 #[.int .i64 m0, .slice a len cap] w fun e w' => e = .returned (.bool true) ∧ Below w.heap.size w w' := by
  by_cases hl : len ≤ 200
  · exact order_walk m0 a len cap l w hm h hl
  · exact order_walk2 m0 a len cap l w hm h (by omega)
end Go.Proofs.Ytamaocnehneilaa
