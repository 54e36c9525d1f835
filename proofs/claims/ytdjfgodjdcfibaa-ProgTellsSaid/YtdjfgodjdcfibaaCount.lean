/- Right, Count. -/
import Derived.Test.YtdjfgodjdcfibaaWrongP
namespace Go.Proofs.Ytdjfgodjdcfibaa
open Go.RowKit
noncomputable def rightP (p : Pr) : Bool := (wrongZ p).2.2 == 0
theorem firstZ_some {α : Type} {f : α → Int} : ∀ {L : List α} {i k : Nat} {e : Int}, firstZ f i L = some (k, e) → e ≠ 0
  | [], _, _, _, h => by simp [firstZ] at h
  | x :: xs, i, k, e, h => by
    unfold firstZ at h
    by_cases hx : f x = 0
    · rw [if_pos hx] at h; exact firstZ_some h
    · rw [if_neg hx] at h
      simp at h
      rw [← h.2]; exact hx
theorem firstZ_all {α : Type} {f : α → Int} : ∀ {L : List α} {i : Nat}, firstZ f i L = none → ∀ x ∈ L, f x = 0
  | [], _, _, x, hx => by simp at hx
  | y :: ys, i, h, x, hx => by
    unfold firstZ at h
    by_cases hy : f y = 0
    · rw [if_pos hy] at h
      rcases List.mem_cons.1 hx with rfl | hx
      · exact hy
      · exact firstZ_all h x hx
    · rw [if_neg hy] at h; cases h
theorem right_parts {p : Pr} (h : rightP p = true) : (tablesZ p).2 = 0 ∧ ∀ b ∈ p.blks, (blkZ p b).2 = 0 := by
  unfold rightP at h
  rw [beq_iff_eq] at h
  by_cases ht : (tablesZ p).2 = 0
  · refine ⟨ht, ?_⟩
    unfold wrongZ at h
    rw [if_neg (by simp [ht])] at h
    cases hf : firstZ (fun b => (blkZ p b).2) 0 p.blks with
    | none => exact firstZ_all hf
    | some v =>
      obtain ⟨k, e⟩ := v
      rw [hf] at h
      exact absurd h (firstZ_some hf)
  · rw [wz_tab ht] at h; exact absurd h ht
theorem blk_parts {p : Pr} {b : List Ins} (h : (blkZ p b).2 = 0) : b.length ≤ 24 ∧ ∀ x ∈ b, instrZ p b.length x = 0 := by
  by_cases hb : 24 < b.length
  · rw [blk_size hb] at h; cases h
  · refine ⟨by omega, ?_⟩
    unfold blkZ at h
    rw [if_neg hb] at h
    cases hf : firstZ (instrZ p b.length) 0 b with
    | none => exact firstZ_all hf
    | some v =>
      obtain ⟨k, e⟩ := v
      rw [hf] at h
      exact absurd h (firstZ_some hf)
open Classical in
theorem tab_parts {p : Pr} (h : (tablesZ p).2 = 0) : ¬ SizeA p ∧ ¬ SizeB p := by
  by_cases hs : SizeA p ∨ SizeB p
  · rw [tz_size hs] at h; cases h
  · exact ⟨fun hh => hs (.inl hh), fun hh => hs (.inr hh)⟩
set_option maxRecDepth 100000 in
set_option maxHeartbeats 8000000 in
theorem Right_any (p : Pr) (q : PAt) (w : World) (h : Prg w p q) :
    Calls Try.prog 10 #[prV p q] w fun e w' => e = .returned (.bool (rightP p)) ∧ Below w.heap.size w w' := by
  have B_0 := Lib.hid (below_alloc w (.cells (prC p q) 26))
  have HW := Lib.hid (Wrong_any p q _ (h.below B_0.out))
  unfold Says4 at HW
  have R := Lib.hid (show rightP p = ((wrongZ p).2.2 == 0) from rfl)
  rw [R.out]
  obtain ⟨a, b, c, hz⟩ : ∃ a b c, wrongZ p = (a, b, c) := ⟨_, _, _, rfl⟩
  rw [hz] at HW ⊢
  simp only [] at HW ⊢
  clear h hz
  go_enter Try.func10, Try.ntmps10
  go_wp2_with fail
  refine HW.out.mono ?_
  rintro e w1 ⟨rfl, hb⟩
  have B_1 := Lib.hid (B_0.out.trans (Below.mono hb B_0.out.size))
  clear hb
  go_wp2_with fail
  go_ret
  exact ⟨rfl, B_1.out⟩
def cnt (l : List Ins) (op : Int) : Nat := (l.filter fun x => x.op == op).length
def cntB (B : List (List Ins)) (op : Int) : Nat := cnt B.flatten op
theorem cnt_snoc (l : List Ins) (x : Ins) (op : Int) : cnt (l ++ [x]) op = cnt l op + if (x.op == op) = true then 1 else 0 := by
  unfold cnt
  rw [List.filter_append]
  cases h : (x.op == op) <;> simp [List.filter_cons, h]
theorem cntB_snoc (B : List (List Ins)) (b : List Ins) (op : Int) : cntB (B ++ [b]) op = cntB B op + cnt b op := by
  unfold cntB cnt
  simp [List.flatten_append]
theorem cnt_le (l : List Ins) (op : Int) : cnt l op ≤ l.length := List.length_filter_le _ _
theorem cntB_le {B : List (List Ins)} (h : ∀ b ∈ B, b.length ≤ 24) (op : Int) : cntB B op ≤ 24 * B.length := by
  induction B with
  | nil => simp [cntB, cnt]
  | cons b bs ih =>
    have h1 := ih (fun x hx => h x (List.mem_cons_of_mem _ hx))
    have h2 := h b (by simp)
    have h3 := cnt_le b op
    have e : cntB (b :: bs) op = cnt b op + cntB bs op := by unfold cntB cnt; simp
    rw [e, List.length_cons]; omega
set_option maxRecDepth 100000 in
set_option maxHeartbeats 8000000 in
theorem Count_arg (p : Pr) (q : PAt) (op : Int) (w : World) (h : Prg w p q) (hr : rightP p = false) :
    Calls Try.prog 8 #[prV p q, .int .i64 op] w (Says2 w 0 1) := by
  have B_0 := Lib.hid (below_alloc w (.cells (prC p q) 26))
  have HR := Lib.hid (Right_any p q _ (h.below B_0.out))
  rw [hr] at HR
  clear h hr
  go_enter Try.func8, Try.ntmps8
  go_wp2_with fail
  refine HR.out.mono ?_
  rintro e w1 ⟨rfl, hb⟩
  have B_1 := Lib.hid (B_0.out.trans (Below.mono hb B_0.out.size))
  clear hb
  go_wp2_with fail
  go_ret2
  exact ⟨rfl, B_1.out⟩
set_option maxRecDepth 100000 in
set_option maxHeartbeats 8000000 in
theorem Count_go (p : Pr) (q : PAt) (op : Int) (w : World) (h : Prg w p q) (hr : rightP p = true) (h0 : 0 ≤ op) (h1 : op < 14) :
    Calls Try.prog 8 #[prV p q, .int .i64 op] w (Says2 w (cntB p.blks op) 0) := by
  have X_0 := Lib.hid (Bx.new w (prC p q) 26)
  have B_0 := Lib.hid (below_alloc w (.cells (prC p q) 26))
  have P_0 := Lib.hid (h.below B_0.out)
  have HR := Lib.hid (Right_any p q _ P_0.out)
  rw [hr] at HR
  obtain ⟨ht, hbk⟩ := right_parts hr
  have hsb := szB_not h.szs (tab_parts ht).2
  obtain ⟨_, _, _, _, hb6⟩ := hsb
  have hbl := Lib.hid h.blks.len
  have H24 := Lib.hid (fun b hb => (blk_parts (hbk b hb)).1)
  have HBB := Lib.hid (fun k => Nat.le_trans (cntB_le (B := p.blks.take k) (fun b hb => H24.out b (List.mem_of_mem_take hb)) op) (Nat.mul_le_mul_left 24 (Nat.le_trans (List.length_take_le' _ _) (by rw [h.blks.len]; exact hb6))))
  clear h hr ht hbk
  go_enter Try.func8, Try.ntmps8
  go_wp2_with fail
  refine HR.out.mono ?_
  rintro e w1 ⟨rfl, hb⟩
  have X_1 := Lib.hid (X_0.out.below hb); have P_1 := Lib.hid (P_0.out.below hb); have B_1 := Lib.hid (B_0.out.trans (Below.mono hb B_0.out.size))
  clear hb
  obtain ⟨BX, hBX⟩ : ∃ x, x = w.heap.size := ⟨_, rfl⟩
  rw [← hBX] at X_1 ⊢
  clear hBX
  obtain ⟨x0, x1, x2, x3, x4, x5⟩ := X_1.out.cells6
  go_wp2_with fail
  clear x0 x1 x2 x3 x4 x5
  go_loopw [6, 23] (fun n i wr => ∃ k : Nat, k ≤ q.bn ∧ i = .int .i64 k ∧ n = .int .i64 (cntB (p.blks.take k) op) ∧ Below w1.heap.size w1 wr) (fun _ i _ => q.bn - (intOf i).toNat)
  case atStart => exact ⟨0, Nat.zero_le _, rfl, rfl, Below.refl _ _⟩
  case round =>
    obtain ⟨m, hm, rfl, rfl, hbw⟩ := hrel
    have HBW := Lib.hid hbw; clear hbw
    by_cases hlm : m < q.bn
    · have hlm' : (m : Int) < (q.bn : Int) := by omega
      obtain ⟨x, b2, o2, ca, cn, cc, hx, hba2, d0, hblk⟩ := (P_1.out.blks.below HBW.out).at m hlm
      have HX := Lib.hid (take_snocP hx); have HC := Lib.hid hblk
      have HCL := Lib.hid hblk.recs.len_eq
      have hc24 : cn ≤ 24 := by rw [← hblk.recs.len_eq]; exact H24.out x (List.mem_of_getElem? hx)
      have HS := Lib.hid (cntB_snoc (p.blks.take m) x op)
      have hc0 := HBB.out m
      obtain ⟨c0, hc0e⟩ : ∃ c, c = cntB (p.blks.take m) op := ⟨_, rfl⟩
      rw [← hc0e] at HS hc0 ⊢
      clear hc0e hx hblk
      rw [hba2]
      go_wp2_with fail
      clear d0
      go_loopw [6, 29] (fun n i w3 => ∃ j : Nat, j ≤ cn ∧ i = .int .i64 j ∧ n = .int .i64 ((c0 + cnt (x.take j) op : Nat) : Int) ∧ Below wr.heap.size wr w3) (fun _ i _ => cn - (intOf i).toNat)
      case atStart => exact ⟨0, Nat.zero_le _, rfl, by simp [cnt], Below.refl _ _⟩
      case round =>
        obtain ⟨j, hj, rfl, rfl, hb3⟩ := hrel
        have HB3 := Lib.hid hb3; clear hb3
        by_cases hlj : j < cn
        · have hlj' : (j : Int) < (cn : Int) := by omega
          obtain ⟨y, b3, o3, hy, hyok, hca3, e0, e1, e2⟩ := (HC.out.below HB3.out).at j hlj
          have HY := Lib.hid (take_snocP hy)
          have HCS := Lib.hid (cnt_snoc (x.take j) y op)
          have hcj := Nat.le_trans (cnt_le (x.take j) op) (List.length_take_le _ _)
          obtain ⟨c1, hc1e⟩ : ∃ c, c = cnt (x.take j) op := ⟨_, rfl⟩
          rw [← hc1e] at HCS hcj ⊢
          clear hc1e hy hyok
          rw [hca3]
          cases ho : (y.op == op) with
          | true =>
            have R := Lib.hid (show c0 + cnt (x.take (j + 1)) op = c0 + c1 + 1 by rw [HY.out, HCS.out, ho]; rfl)
            go_wp2_with fail
            go_roundw
            case rel => exact ⟨j + 1, by omega, by go_num, by rw [R.out]; go_num, belowX_alloc HB3.out _⟩
            case measure => simp [intOf]; omega
          | false =>
            have R := Lib.hid (show c0 + cnt (x.take (j + 1)) op = c0 + c1 by rw [HY.out, HCS.out, ho]; rfl)
            go_wp2_with fail
            go_roundw
            case rel => exact ⟨j + 1, by omega, by go_num, by rw [R.out], belowX_alloc HB3.out _⟩
            case measure => simp [intOf]; omega
        · have hje : (cn : Int) ≤ (j : Int) := by omega
          have R := Lib.hid (show c0 + cnt (x.take j) op = cntB (p.blks.take (m + 1)) op by rw [HX.out, HS.out, List.take_of_length_le (by rw [HCL.out]; omega)])
          rw [R.out]
          go_wp2_with fail
          go_roundw
          case rel => exact ⟨m + 1, by omega, by go_num, rfl, HBW.out.trans (Below.mono HB3.out HBW.out.size)⟩
          case measure => simp [intOf]; omega
    · have hme : (q.bn : Int) ≤ (m : Int) := by omega
      have R := Lib.hid (show p.blks.take m = p.blks from List.take_of_length_le (by rw [hbl.out]; omega))
      rw [R.out]
      go_wp2_with fail
      go_ret2
      exact ⟨rfl, B_1.out.trans (Below.mono HBW.out B_1.out.size)⟩
end Go.Proofs.Ytdjfgodjdcfibaa
