/- What is wrong with a program: the program's answer. -/
import Derived.Test.YtddkckppmjcclaaTablesP
import Derived.Test.YtddkckppmjcclaaInstrAny
namespace Go.Proofs.Ytddkckppmjcclaa
open Go.RowKit
set_option linter.unusedSimpArgs false
set_option linter.unusedVariables false
def Says4 (w : World) (a b c : Int) (e : Ending) (w' : World) : Prop := e = .returned (.tuple #[.int .i64 a, .int .i64 b, .int .i64 c]) ∧ Below w.heap.size w w'
theorem blk_size {p : Pr} {b : List Ins} (h : 24 < b.length) : blkZ p b = (-1, 2) := if_pos h
theorem blk_at {p : Pr} {b : List Ins} (h : ¬ 24 < b.length) {k : Nat} {x : Ins} (hl : ∀ y ∈ b.take k, instrZ p b.length y = 0) (hx : b[k]? = some x) (hne : instrZ p b.length x ≠ 0) : blkZ p b = ((k : Int), instrZ p b.length x) := by
  unfold blkZ
  rw [if_neg h, firstZ_at hne hl hx]
  simp
theorem blk_ok {p : Pr} {b : List Ins} (h : ¬ 24 < b.length) (hl : ∀ y ∈ b, instrZ p b.length y = 0) : blkZ p b = (-1, 0) := by
  unfold blkZ
  rw [if_neg h, firstZ_none hl]
theorem wz_tab {p : Pr} (h : (tablesZ p).2 ≠ 0) : wrongZ p = (-1, (tablesZ p).1, (tablesZ p).2) := by unfold wrongZ; rw [if_pos h]
theorem wz_blk {p : Pr} (h : ¬ (tablesZ p).2 ≠ 0) {k : Nat} {x : List Ins} (hl : ∀ y ∈ p.blks.take k, (blkZ p y).2 = 0) (hx : p.blks[k]? = some x) (hne : (blkZ p x).2 ≠ 0) : wrongZ p = ((k : Int), (blkZ p x).1, (blkZ p x).2) := by
  unfold wrongZ
  rw [if_neg h, firstZ_at (f := fun b => (blkZ p b).2) hne hl hx]
  simp [List.getD, hx]
theorem wz_ok {p : Pr} (h : ¬ (tablesZ p).2 ≠ 0) (hl : ∀ y ∈ p.blks, (blkZ p y).2 = 0) : wrongZ p = (-1, -1, 0) := by
  unfold wrongZ
  rw [if_neg h, firstZ_none (f := fun b => (blkZ p b).2) hl]
set_option maxRecDepth 100000 in
set_option maxHeartbeats 8000000 in
theorem Wrong_any (p : Pr) (q : PAt) (w : World) (h : Prg w p q) :
    Calls Try.prog 29 #[prV p q] w (Says4 w (wrongZ p).1 (wrongZ p).2.1 (wrongZ p).2.2) := by
  have X_0 := Lib.hid (Bx.new w (prC p q) 26)
  have B_0 := Lib.hid (below_alloc w (.cells (prC p q) 26))
  have P_0 := Lib.hid (h.below B_0.out)
  have HZ := Lib.hid h.szs
  have hb1 := h.blks.caps
  have hba : q.bn ≤ 9223372036854775807 := by have := hb1.1; have := hb1.2; unfold maxLen at *; omega
  have hbl := Lib.hid h.blks.len
  clear h hb1
  have HT := Lib.hid (fun W (H : Prg W p q) => tables_any p q W H)
  obtain ⟨t1, t2, ht⟩ : ∃ a b, tablesZ p = (a, b) := ⟨_, _, rfl⟩
  rw [ht] at HT
  simp only [] at HT
  have HTT := Lib.hid ht; clear ht
  unfold Says2 at HT
  by_cases ht2 : t2 = 0
  · subst ht2
    have HT0 := Lib.hid (show ¬ (tablesZ p).2 ≠ 0 by rw [HTT.out]; simp)
    go_enter Try.func29, Try.ntmps29
    go_wp2_with fail
    refine (HT.out _ P_0.out).mono ?_
    rintro e w1 ⟨rfl, hb⟩
    have X_1 := Lib.hid (X_0.out.below hb); have P_1 := Lib.hid (P_0.out.below hb); have B_1 := Lib.hid (B_0.out.trans (Below.mono hb B_0.out.size))
    clear hb
    obtain ⟨BX, hBX⟩ : ∃ x, x = w.heap.size := ⟨_, rfl⟩
    rw [← hBX] at X_1 ⊢
    clear hBX
    obtain ⟨x0, x1, x2, x3, x4, x5⟩ := X_1.out.cells6
    go_wp2_with fail
    clear x0 x1 x2 x3 x4 x5
    go_loopw [24] (fun i wr => ∃ k : Nat, k ≤ q.bn ∧ i = .int .i64 k ∧ (∀ y ∈ p.blks.take k, (blkZ p y).2 = 0) ∧ Below w1.heap.size w1 wr) (fun i _ => q.bn - (intOf i).toNat)
    case atStart => exact ⟨0, Nat.zero_le _, rfl, fun y hy => by simp at hy, Below.refl _ _⟩
    case round =>
      obtain ⟨m, hm, rfl, hno2, hbw⟩ := hrel
      have HN2 := Lib.hid hno2; have HBW := Lib.hid hbw
      clear hno2 hbw
      by_cases hlm : m < q.bn
      · have hlm' : (m : Int) < (q.bn : Int) := by omega
        obtain ⟨x, b2, o2, ca, cn, cc, hx, hba2, d0, hblk⟩ := (P_1.out.blks.below HBW.out).at m hlm
        have HX := Lib.hid hx; have HC := Lib.hid hblk
        have HCL := Lib.hid hblk.recs.len_eq
        have hccm := hblk.recs.len_le
        have hccc := hblk.recs.cap_le
        have hccl := hblk.recs.le_cap
        unfold maxLen at hccc
        clear hx hblk
        rw [hba2]
        by_cases hbig : 24 < cn
        · have hbig' : (24 : Int) < (cn : Int) := by omega
          have R := Lib.hid (wz_blk HT0.out HN2.out HX.out (by rw [blk_size (by rw [HCL.out]; exact hbig)]; decide))
          have R2 := Lib.hid (blk_size (p := p) (b := x) (by rw [HCL.out]; exact hbig))
          go_wp2_with fail
          go_ret3
          exact ⟨by rw [R.out, R2.out]; rfl, B_1.out.trans (Below.mono HBW.out B_1.out.size)⟩
        · have hbig' : (cn : Int) ≤ 24 := by omega
          go_wp2_with fail
          clear d0
          go_loopw [35] (fun i w3 => ∃ j : Nat, j ≤ cn ∧ i = .int .i64 j ∧ (∀ y ∈ x.take j, instrZ p cn y = 0) ∧ Below wr.heap.size wr w3) (fun i _ => cn - (intOf i).toNat)
          case atStart => exact ⟨0, Nat.zero_le _, rfl, fun y hy => by simp at hy, Below.refl _ _⟩
          case round =>
            obtain ⟨j, hj, rfl, hno3, hb3⟩ := hrel
            have HN3 := Lib.hid hno3; have HB3 := Lib.hid hb3
            clear hno3 hb3
            have hbw3 := HBW.out.trans (Below.mono HB3.out HBW.out.size)
            have X_3 := Lib.hid (X_1.out.below hbw3)
            have HBW3 := Lib.hid hbw3; clear hbw3
            by_cases hlj : j < cn
            · have hlj' : (j : Int) < (cn : Int) := by omega
              obtain ⟨y, b3, o3, hy, hyok, hca3, e0, e1, e2⟩ := (HC.out.below HB3.out).at j hlj
              have HY := Lib.hid hy
              have HI := Lib.hid (fun W => instr_any p q ca cn cc y W HZ.out hccl (by omega) hyok)
              unfold Says3 at HI
              have hyI := hyok
              unfold InsOk I64 at hyI
              clear hy hyok
              simp only [prV, prC] at HI
              rw [hba2, hca3] at HI
              rw [hca3]
              obtain ⟨x0, x1, x2, x3, x4, x5⟩ := X_3.out.cells6
              have hlx := X_3.out.lt
              obtain ⟨ev, hev⟩ : ∃ ev, instrZ p cn y = ev := ⟨_, rfl⟩
              rw [hev] at HI
              have HEV := Lib.hid hev; clear hev
              by_cases he : ev = 0
              · subst he
                go_wp2_with fail
                refine (HI.out _).mono ?_
                rintro e w5 ⟨rfl, hb⟩
                have HB5 := Lib.hid ((belowX_alloc HB3.out _).trans (Below.mono hb (belowX_alloc HB3.out _).size))
                clear hb x0 x1 x2 x3 x4 x5 e0 e1 e2 hlx
                go_wp2_with fail
                go_roundw
                case rel => exact ⟨j + 1, by omega, by go_num, all_snoc HN3.out HY.out HEV.out, HB5.out⟩
                case measure => simp [intOf]; omega
              · have he1 : (ev == 0) = false := by rw [beq_eq_false_iff_ne]; exact he
                have he2 : (ev != 0) = true := by rw [bne_iff_ne]; exact he
                have RB := Lib.hid (blk_at (p := p) (b := x) (k := j) (x := y) (by rw [HCL.out]; omega) (by rw [HCL.out]; exact HN3.out) HY.out (by rw [HCL.out, HEV.out]; exact he))
                have R := Lib.hid (wz_blk HT0.out HN2.out HX.out (by rw [RB.out]; simp only []; rw [HCL.out, HEV.out]; exact he))
                clear he
                go_wp2_with fail
                refine (HI.out _).mono ?_
                rintro e w5 ⟨rfl, hb⟩
                have HB5 := Lib.hid (B_1.out.trans (Below.mono (HBW.out.trans (Below.mono ((belowX_alloc HB3.out _).trans (Below.mono hb (belowX_alloc HB3.out _).size)) HBW.out.size)) B_1.out.size))
                clear hb x0 x1 x2 x3 x4 x5 e0 e1 e2 hlx
                go_wp2_with fail
                go_ret3
                exact ⟨by rw [R.out, RB.out, HCL.out, HEV.out]; rfl, HB5.out⟩
            · have hje : (cn : Int) ≤ (j : Int) := by omega
              have HBO := Lib.hid (show (blkZ p x).2 = 0 by rw [blk_ok (by rw [HCL.out]; omega) (by rw [HCL.out]; exact all_take HN3.out (by rw [HCL.out]; omega))])
              go_wp2_with fail
              go_roundw
              case rel => exact ⟨m + 1, by omega, by go_num, all_snoc HN2.out HX.out HBO.out, HBW3.out⟩
              case measure => simp [intOf]; omega
      · have hme : (q.bn : Int) ≤ (m : Int) := by omega
        have R := Lib.hid (wz_ok HT0.out (all_take HN2.out (by rw [hbl.out]; omega)))
        go_wp2_with fail
        go_ret3
        exact ⟨by rw [R.out]; rfl, B_1.out.trans (Below.mono HBW.out B_1.out.size)⟩
  · have hn1 : (t2 == 0) = false := by rw [beq_eq_false_iff_ne]; exact ht2
    have hn2 : (t2 != 0) = true := by rw [bne_iff_ne]; exact ht2
    have R := Lib.hid (wz_tab (p := p) (by rw [HTT.out]; exact ht2))
    clear ht2
    go_enter Try.func29, Try.ntmps29
    go_wp2_with fail
    refine (HT.out _ P_0.out).mono ?_
    rintro e w1 ⟨rfl, hb⟩
    have B_1 := Lib.hid (B_0.out.trans (Below.mono hb B_0.out.size))
    clear hb
    go_wp2_with fail
    go_ret3
    exact ⟨by rw [R.out, HTT.out]; rfl, B_1.out⟩
end Go.Proofs.Ytddkckppmjcclaa
