/- Encode and Size: program and reference; alive. -/
import Derived.Test.YtddkckppmjcclaaD9
import Derived.Test.YtddkckppmjcclaaR2
namespace Go.Proofs.Ytddkckppmjcclaa
open Go.RowKit
set_option linter.unusedSimpArgs false
set_option linter.unusedVariables false
set_option maxRecDepth 100000 in
set_option maxHeartbeats 8000000 in
theorem refRight_any (p : Pr) (q : PAt) (w : World) (h : Prg w p q) : Calls Try.prog 11 #[prV p q] w fun e w' => e = .returned (.bool (rightP p)) ∧ Below w.heap.size w w' := by
  have B_0 := Lib.hid (below_alloc w (.cells (prC p q) 26))
  have HW := Lib.hid (refWrong_any p q _ (h.below B_0.out))
  unfold Says4 at HW
  unfold rightP
  clear h
  go_enter Try.func11, Try.ntmps11
  go_wp2_with fail
  refine HW.out.mono ?_
  rintro e w1 ⟨rfl, hb⟩
  go_wp2_with fail
  go_ret
  exact ⟨rfl, B_0.out.trans (Below.mono hb B_0.out.size)⟩
theorem tab_nums {p : Pr} (h : (tablesZ p).2 = 0) : 0 ≤ p.mu ∧ p.mu ≤ 2 ∧ 0 ≤ p.on ∧ p.on ≤ 2 ∧ 0 ≤ p.va ∧ p.va ≤ 4 ∧ p.caps.length ≤ 4 ∧ p.sels.length ≤ 4 ∧ 1 ≤ p.blks.length ∧ p.blks.length ≤ 6 := by
  obtain ⟨h1, h2⟩ := tab_parts h
  unfold SizeA at h1
  unfold SizeB at h2
  omega
theorem most_le {p : Pr} (h : (tablesZ p).2 = 0) (op : Int) (bl : Nat) (hb : bl ≤ 24) : mostZ p op bl ≤ 25 := by
  have := tab_nums h
  unfold mostZ
  repeat' split
  all_goals omega
theorem ins_nums {p : Pr} (h : (tablesZ p).2 = 0) {bl : Nat} (hb : bl ≤ 24) {x : Ins} (hx : instrZ p bl x = 0) : 0 ≤ x.op ∧ x.op < 14 ∧ 0 ≤ x.a ∧ x.a ≤ 24 ∧ 0 ≤ x.b ∧ x.b ≤ 24 := by
  have hm := most_le h x.op bl hb
  unfold instrZ at hx
  by_cases h1 : belowZ x.op 14 = false
  · rw [if_pos h1] at hx; cases hx
  · rw [if_neg h1] at hx
    by_cases h2 : belowZ x.a (mostZ p x.op bl) = false
    · rw [if_pos h2] at hx; cases hx
    · rw [if_neg h2] at hx
      by_cases h3 : x.b < 0 ∨ lastZ x.op bl < x.b
      · rw [if_pos h3] at hx; cases hx
      · simp [belowZ] at h1 h2
        have hl : lastZ x.op bl ≤ 24 := by unfold lastZ; split <;> omega
        have h2b := h2.2
        refine ⟨h1.1, h1.2, h2.1, by omega, by omega, by omega⟩
theorem blk_ins {p : Pr} {b : List Ins} (h : (blkZ p b).2 = 0) : b.length ≤ 24 ∧ ∀ x ∈ b, instrZ p b.length x = 0 := by
  refine ⟨(blk_parts h).1, fun x hx => ?_⟩
  have h24 := (blk_parts h).1
  refine firstZ_all2 (i := 0) (fun j e he => ?_) x hx
  unfold blkZ at h
  rw [if_neg (by omega), he] at h
  exact h
/-- the numbers of a program that is right are small -/
def sm (n : Int) : Prop := 0 ≤ n ∧ n ≤ 1000
theorem numL_small {p : Pr} (hr : rightP p = true) : ∀ n ∈ numL p, sm n := by
  obtain ⟨ht, hbk⟩ := right_parts hr
  have hn := tab_nums ht
  have hc := caps_ok ht
  have hs := sels_ok ht
  intro n hnm
  unfold sm
  unfold numL at hnm
  rcases List.mem_append.1 hnm with hn1 | hn1
  · rcases List.mem_append.1 hn1 with hn2 | hn2
    · rcases List.mem_append.1 hn2 with hn3 | hn3
      · unfold headN at hn3
        rcases List.mem_append.1 hn3 with hn4 | hn4
        · rcases List.mem_cons.1 hn4 with rfl | hn5
          · omega
          · obtain ⟨c, hcm, rfl⟩ := List.mem_map.1 hn5
            have := hc c hcm
            omega
        · simp only [List.mem_cons, List.not_mem_nil, or_false] at hn4
          rcases hn4 with rfl | rfl | rfl | rfl <;> omega
      · obtain ⟨s, hsm, hn4⟩ := List.mem_flatMap.1 hn3
        have h := hs s hsm
        unfold selN at hn4
        rcases List.mem_cons.1 hn4 with rfl | hn5
        · unfold pairN; split <;> omega
        · obtain ⟨c, hcm, rfl⟩ := List.mem_map.1 hn5
          have := h.2 c hcm
          unfold pairN; split <;> omega
    · simp only [List.mem_cons, List.not_mem_nil, or_false] at hn2
      subst hn2; omega
  · obtain ⟨b, hbm, hn2⟩ := List.mem_flatMap.1 hn1
    obtain ⟨hl, hi⟩ := blk_ins (hbk b hbm)
    unfold blkN at hn2
    rcases List.mem_cons.1 hn2 with rfl | hn3
    · omega
    · obtain ⟨x, hx, hn4⟩ := List.mem_flatMap.1 hn3
      have := ins_nums ht hl (hi x hx)
      unfold insN at hn4
      split at hn4
      · simp at hn4; omega
      · split at hn4
        · simp at hn4; omega
        · simp at hn4; omega
theorem numL_all {p : Pr} (hr : rightP p = true) : (numL p).all smallB = true := by
  rw [List.all_eq_true]
  intro n hn
  have := numL_small hr n hn
  unfold sm at this
  simp [smallB]
  omega
theorem insN_len (x : Ins) : (insN x).length ≤ 3 := by unfold insN; split <;> (try split) <;> simp
theorem numL_len {p : Pr} (hr : rightP p = true) : (numL p).length ≤ 1000 := by
  obtain ⟨ht, hbk⟩ := right_parts hr
  have hn := tab_nums ht
  have hs := sels_ok ht
  have h1 := flat_len_le (f := selN) (m := 5) (L := p.sels) (fun s hsm => by have := (hs s hsm).1; simp [selN]; omega)
  have h2 := flat_len_le (f := blkN) (m := 73) (L := p.blks) (fun b hb => by
    have := (blk_ins (hbk b hb)).1
    have h3 := flat_len_le (f := insN) (m := 3) (L := b) (fun x _ => insN_len x)
    simp only [blkN, List.length_cons]; omega)
  unfold numL headN
  simp only [List.length_append, List.length_cons, List.length_map, List.length_nil]
  omega
def bytesP (p : Pr) : ByteArray := strOf (allL (numL p))
theorem bytesP_size {p : Pr} (hr : rightP p = true) : (bytesP p).size ≤ 5000 := by
  unfold bytesP
  rw [strOf_size]
  have h1 := allL_len (numL p)
  have h2 := numL_len hr
  omega
set_option maxRecDepth 100000 in
set_option maxHeartbeats 8000000 in
theorem Encode_ok (p : Pr) (q : PAt) (w : World) (h : Prg w p q) (hr : rightP p = true) : Calls Try.prog 9 #[prV p q] w fun e w' => e = .returned (.tuple #[.string (bytesP p), .int .i64 0]) ∧ Below w.heap.size w w' := by
  have B_0 := Lib.hid (below_alloc w (.cells (prC p q) 26))
  have K_0 := Lib.hid (Bx.new w (prC p q) 26)
  have HP := Lib.hid (fun W (H : Prg W p q) => Right_any p q W H)
  rw [hr] at HP
  have HN := Lib.hid (fun W (H : Prg W p q) => numbers_any p q W H hr)
  have HA := Lib.hid (fun W a n c (H : Ints W a n c (numL p)) (hn : n ≤ 1000) => all_ok a n c (numL p) W H hn (numL_all hr))
  have HL := Lib.hid (numL_len hr)
  unfold GotInts at HN
  unfold AllOk at HA
  have P_0 := Lib.hid (h.below B_0.out)
  clear h
  unfold bytesP
  obtain ⟨S, hS⟩ : ∃ S, S = strOf (allL (numL p)) := ⟨_, rfl⟩
  rw [← hS] at HA ⊢
  clear hS hr
  obtain ⟨b0, hb0⟩ : ∃ b0, b0 = w.heap.size := ⟨_, rfl⟩
  obtain ⟨w1, hw1⟩ : ∃ w1, w1 = w.alloc (.cells (prC p q) 26) := ⟨_, rfl⟩
  have HB0 := Lib.hid hb0; have HW1 := Lib.hid hw1
  rw [← hw1] at B_0 K_0 P_0
  rw [← hb0] at K_0
  clear hw1 hb0
  go_enter Try.func9, Try.ntmps9
  go_upto_region 1 with (fail)
  rw [← HW1.out, ← HB0.out]
  obtain ⟨x0, x1, x2, x3, x4, x5⟩ := K_0.out.cells6
  go_wp2_with fail
  refine (HP.out _ P_0.out).mono ?_
  rintro e w2 ⟨rfl, hb⟩
  have B_1 := Lib.hid (B_0.out.trans (Below.mono hb B_0.out.size)); have K_1 := Lib.hid (K_0.out.below hb); have P_1 := Lib.hid (P_0.out.below hb)
  clear hb x0 x1 x2 x3 x4 x5 B_0 K_0 P_0
  obtain ⟨x0, x1, x2, x3, x4, x5⟩ := K_1.out.cells6
  go_wp2_with fail
  refine (HN.out _ P_1.out).mono ?_
  rintro e w3 ⟨ra, rn, rc, rfl, hi, hb⟩
  have B_2 := Lib.hid (B_1.out.trans (Below.mono hb B_1.out.size)); have HI := Lib.hid hi
  clear hb hi x0 x1 x2 x3 x4 x5
  go_wp2_with fail
  refine (HA.out _ _ _ _ HI.out (by rw [← HI.out.len_eq]; exact HL.out)).mono ?_
  rintro e w4 ⟨rfl, hb⟩
  have B_3 := Lib.hid (B_2.out.trans (Below.mono hb B_2.out.size))
  clear hb
  go_wp2_with fail
  go_ret2
  exact ⟨rfl, B_3.out⟩
set_option maxRecDepth 100000 in
set_option maxHeartbeats 8000000 in
theorem Encode_no (p : Pr) (q : PAt) (w : World) (h : Prg w p q) (hr : rightP p = false) : Calls Try.prog 9 #[prV p q] w fun e w' => e = .returned (.tuple #[.string ⟨#[]⟩, .int .i64 1]) ∧ Below w.heap.size w w' := by
  have B_0 := Lib.hid (below_alloc w (.cells (prC p q) 26))
  have HP := Lib.hid (Right_any p q _ (h.below B_0.out))
  rw [hr] at HP
  clear h hr
  go_enter Try.func9, Try.ntmps9
  go_wp2_with fail
  refine HP.out.mono ?_
  rintro e w2 ⟨rfl, hb⟩
  have B_1 := Lib.hid (B_0.out.trans (Below.mono hb B_0.out.size))
  clear hb
  go_wp2_with fail
  go_ret2
  exact ⟨rfl, B_1.out⟩
set_option maxRecDepth 100000 in
set_option maxHeartbeats 8000000 in
theorem Size_ok (p : Pr) (q : PAt) (w : World) (h : Prg w p q) (hr : rightP p = true) : Calls Try.prog 10 #[prV p q] w fun e w' => e = .returned (.tuple #[.int .i64 (bytesP p).size, .int .i64 0]) ∧ Below w.heap.size w w' := by
  have B_0 := Lib.hid (below_alloc w (.cells (prC p q) 26))
  have HP := Lib.hid (Encode_ok p q _ (h.below B_0.out) hr)
  obtain ⟨S, hS⟩ : ∃ S, S = bytesP p := ⟨_, rfl⟩
  rw [← hS] at HP ⊢
  clear h hr hS
  go_enter Try.func10, Try.ntmps10
  go_wp2_with fail
  refine HP.out.mono ?_
  rintro e w2 ⟨rfl, hb⟩
  have B_1 := Lib.hid (B_0.out.trans (Below.mono hb B_0.out.size))
  clear hb
  go_wp2_with fail
  go_ret2
  exact ⟨rfl, B_1.out⟩
set_option maxRecDepth 100000 in
set_option maxHeartbeats 8000000 in
theorem Size_no (p : Pr) (q : PAt) (w : World) (h : Prg w p q) (hr : rightP p = false) : Calls Try.prog 10 #[prV p q] w fun e w' => e = .returned (.tuple #[.int .i64 0, .int .i64 1]) ∧ Below w.heap.size w w' := by
  have B_0 := Lib.hid (below_alloc w (.cells (prC p q) 26))
  have HP := Lib.hid (Encode_no p q _ (h.below B_0.out) hr)
  clear h hr
  go_enter Try.func10, Try.ntmps10
  go_wp2_with fail
  refine HP.out.mono ?_
  rintro e w2 ⟨rfl, hb⟩
  have B_1 := Lib.hid (B_0.out.trans (Below.mono hb B_0.out.size))
  clear hb
  go_wp2_with fail
  go_ret2
  exact ⟨rfl, B_1.out⟩
set_option maxRecDepth 100000 in
set_option maxHeartbeats 8000000 in
theorem refEncode_any (p : Pr) (q : PAt) (w : World) (h : Prg w p q) (hr : rightP p = true) : Calls Try.prog 13 #[prV p q] w fun e w' => e = .returned (.string (bytesP p)) ∧ Below w.heap.size w w' := by
  have B_0 := Lib.hid (below_alloc w (.cells (prC p q) 26))
  have HN := Lib.hid (refNumbers_any p q _ (h.below B_0.out) hr)
  have HA := Lib.hid (fun W a n c (H : Ints W a n c (numL p)) (hn : n ≤ 1000) => refall_any a n c (numL p) W H hn (numL_all hr))
  have HL := Lib.hid (numL_len hr)
  unfold GotInts at HN
  unfold StrTo at HA
  unfold bytesP
  obtain ⟨S, hS⟩ : ∃ S, S = strOf (allL (numL p)) := ⟨_, rfl⟩
  rw [← hS] at HA ⊢
  clear h hS hr
  go_enter Try.func13, Try.ntmps13
  go_wp2_with fail
  refine HN.out.mono ?_
  rintro e w3 ⟨ra, rn, rc, rfl, hi, hb⟩
  have B_2 := Lib.hid (B_0.out.trans (Below.mono hb B_0.out.size)); have HI := Lib.hid hi
  clear hb hi
  go_wp2_with fail
  refine (HA.out _ _ _ _ HI.out (by rw [← HI.out.len_eq]; exact HL.out)).mono ?_
  rintro e w4 ⟨rfl, hb⟩
  have B_3 := Lib.hid (B_2.out.trans (Below.mono hb B_2.out.size))
  clear hb
  go_wp2_with fail
  go_ret
  exact ⟨rfl, B_3.out⟩
/-- one send -/
def leastP : Pr := ⟨[0], 0, 0, 0, [], [[⟨1, 0, 0⟩]]⟩
def leastT : List Int := [1, 1, 0, 0, 0, 0, 1, 1, 1, 0]
theorem least_tx : tx ⟨#[1, 1, 0, 0, 0, 0, 1, 1, 1, 0]⟩ = leastT := by
  unfold tx; rw [← data_toList]; rfl
theorem least_read : prgP leastT 0 = .ok leastP 10 := by rfl
theorem least_right : rightP leastP = true := by
  have ht : tablesZ leastP = (-1, 0) := by
    unfold tablesZ
    rw [if_neg (by simp [SizeA, SizeB, leastP]), if_neg (by simp [leastP, capBad])]
    rfl
  unfold rightP wrongZ
  rw [if_neg (by rw [ht]; simp)]
  rfl
theorem least_dec : decZ leastT = (leastP, 0) := by
  unfold decZ
  rw [least_read]
  dsimp only
  rw [if_neg (by decide), if_pos least_right]
set_option maxRecDepth 100000 in
set_option maxHeartbeats 8000000 in
theorem alive_any (w : World) : Calls Try.prog 12 #[] w fun e w' => e = .returned (.bool true) ∧ Below w.heap.size w w' := by
  have HD := Lib.hid (fun W => Decode_any ⟨#[1, 1, 0, 0, 0, 0, 1, 1, 1, 0]⟩ W (by decide))
  rw [least_tx, least_dec] at HD
  unfold GotDec at HD
  dsimp only at HD
  go_enter Try.func12, Try.ntmps12
  go_wp2_with fail
  refine (HD.out _).mono ?_
  rintro e w1 ⟨q, rfl, hp, hb⟩
  have BA := below_alloc w1 (.cells (prC leastP q) 26)
  have K := Lib.hid (Bx.new w1 (prC leastP q) 26)
  have P := Lib.hid (hp.below BA)
  have B_1 := Lib.hid (hb.trans (Below.mono BA hb.size))
  clear BA hp hb
  go_upto_region 2 with (fail)
  obtain ⟨b0, hb0⟩ : ∃ b0, b0 = w1.heap.size := ⟨_, rfl⟩
  obtain ⟨w2, hw2⟩ : ∃ w2, w2 = w1.alloc (.cells (prC leastP q) 26) := ⟨_, rfl⟩
  have hw2' := hw2
  simp only [prC, leastP] at hw2'
  rw [← hw2] at K P B_1
  rw [← hb0] at K ⊢
  first | rw [← hw2] | rw [← hw2']
  clear hw2 hw2' hb0
  have hcn : q.cn = 1 := P.out.caps.len_eq.symm
  have hbn : q.bn = 1 := P.out.blks.len.symm
  obtain ⟨b1, o1, ha1, c1⟩ := P.out.caps.cell 0 (by omega)
  have c1' : w2.cell? ⟨b1, o1, none⟩ = some (.int .i64 0) := c1
  obtain ⟨x, b2, o2, ba, bn, bc, hx, ha2, c2, hblk⟩ := P.out.blks.at 0 (by omega)
  have hx' : x = [⟨1, 0, 0⟩] := by simpa [leastP] using hx.symm
  subst hx'
  have hbn1 : bn = 1 := hblk.recs.len_eq.symm
  subst hbn1
  obtain ⟨y, b3, o3, hy, _, ha3, d0, d1, d2⟩ := hblk.at 0 (by decide)
  have hy' : y = ⟨1, 0, 0⟩ := by simpa using hy.symm
  subst hy'
  simp only [Nat.zero_mul, Nat.add_zero] at c2 d0 d1 d2
  obtain ⟨qa, qn, qc, sa, sn, sc, ba', bn', bc'⟩ := q
  dsimp only at hcn hbn ha1 ha2
  subst hcn hbn ha1 ha2 ha3
  have K2 := Lib.hid K.out.cells6
  clear c1 hblk hx hy
  obtain ⟨k0, k1, k2, k3, k4, k5⟩ := K2.out
  dsimp only [leastP] at k0 k1 k2 k3 k4 k5
  go_wp2_with fail
  go_ret
  exact ⟨ret_bool (by first | rfl | simp), B_1.out⟩
end Go.Proofs.Ytddkckppmjcclaa
