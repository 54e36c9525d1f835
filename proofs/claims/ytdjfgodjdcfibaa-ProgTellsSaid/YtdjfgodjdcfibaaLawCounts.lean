/- ProgCounts: the walk. -/
import Derived.Test.YtdjfgodjdcfibaaCPlain
namespace Go.Proofs.Ytdjfgodjdcfibaa
open Go.RowKit
def Says (w : World) (e : Ending) (w' : World) : Prop := e = .returned (.bool true) ∧ Below w.heap.size w w'
abbrev set6 (W : World) (B : Nat) (a b c d e f : Value) : World := (((((W.setCell ⟨B, 0, none⟩ a).setCell ⟨B, 1, none⟩ b).setCell ⟨B, 2, none⟩ c).setCell ⟨B, 3, none⟩ d).setCell ⟨B, 4, none⟩ e).setCell ⟨B, 5, none⟩ f
theorem set6_below {w W : World} {n₀ B : Nat} (h : Below n₀ w W) (hB : n₀ ≤ B) (a b c d e f : Value) : Below n₀ w (set6 W B a b c d e f) :=
  (((((h.setCell (p := ⟨B, 0, none⟩) hB _).setCell (p := ⟨B, 1, none⟩) hB _).setCell (p := ⟨B, 2, none⟩) hB _).setCell (p := ⟨B, 3, none⟩) hB _).setCell (p := ⟨B, 4, none⟩) hB _).setCell (p := ⟨B, 5, none⟩) hB _
theorem set6_at {W : World} {B : Nat} {x0 x1 x2 x3 x4 x5 : Value} {t : TypeId} (h : Bx W B #[x0, x1, x2, x3, x4, x5] t) (a b c d e f : Value) : Bx (set6 W B a b c d e f) B #[a, b, c, d, e, f] t := by
  have a0 : Bx (W.setCell ⟨B, 0, none⟩ a) B #[a, x1, x2, x3, x4, x5] t := set_atB h 0 a
  unfold set6
  generalize W.setCell ⟨B, 0, none⟩ a = W1 at a0 ⊢
  have a1 : Bx (W1.setCell ⟨B, 1, none⟩ b) B #[a, b, x2, x3, x4, x5] t := set_atB a0 1 b
  generalize W1.setCell ⟨B, 1, none⟩ b = W2 at a1 ⊢
  have a2 : Bx (W2.setCell ⟨B, 2, none⟩ c) B #[a, b, c, x3, x4, x5] t := set_atB a1 2 c
  generalize W2.setCell ⟨B, 2, none⟩ c = W3 at a2 ⊢
  have a3 : Bx (W3.setCell ⟨B, 3, none⟩ d) B #[a, b, c, d, x4, x5] t := set_atB a2 3 d
  generalize W3.setCell ⟨B, 3, none⟩ d = W4 at a3 ⊢
  have a4 : Bx (W4.setCell ⟨B, 4, none⟩ e) B #[a, b, c, d, e, x5] t := set_atB a3 4 e
  generalize W4.setCell ⟨B, 4, none⟩ e = W5 at a4 ⊢
  exact set_atB a4 5 f
theorem set6_other (W : World) (B : Nat) (a b c d e f : Value) (g : Nat) (h : g ≠ B) : (set6 W B a b c d e f).heap[g]? = W.heap[g]? := by
  unfold set6
  iterate 6 rw [Below.heap_setCell _ _ _ _ (by exact h)]
theorem flat_le {B : List (List Ins)} (h : ∀ b ∈ B, b.length ≤ 24) : B.flatten.length ≤ 24 * B.length := by
  induction B with
  | nil => simp
  | cons b bs ih =>
    have h1 := ih (fun x hx => h x (List.mem_cons_of_mem _ hx))
    have h2 := h b (by simp)
    simp only [List.flatten_cons, List.length_append, List.length_cons]; omega
set_option maxRecDepth 100000 in
set_option maxHeartbeats 8000000 in
theorem counts_any (p0 : Pr) (q0 : PAt) (w : World) (h : Prg w p0 q0) : Calls Try.prog 4 #[prV p0 q0] w (Says w) := by
  have B_0 := Lib.hid (below_alloc w (.cells (prC p0 q0) 26))
  have K_0 := Lib.hid (Bx.new w (prC p0 q0) 26)
  have HF := Lib.hid (few_any p0 q0 w _ h B_0.out)
  obtain ⟨p, hpe⟩ : ∃ p, p = fewP p0 := ⟨_, rfl⟩
  rw [← hpe] at HF
  unfold GotP at HF
  clear h hpe
  go_enter Try.func4, Try.ntmps4
  go_wp2_with fail
  refine HF.out.mono ?_
  rintro e w1 ⟨q, rfl, hp, hb⟩
  have K_1 := Lib.hid (K_0.out.below hb); have B_1 := Lib.hid (B_0.out.trans (Below.mono hb B_0.out.size)); have HP := Lib.hid hp
  clear hb hp
  obtain ⟨BK, hBK⟩ : ∃ x, x = w.heap.size := ⟨_, rfl⟩
  have HBK := Lib.hid hBK
  rw [← hBK] at K_1 ⊢
  clear hBK
  obtain ⟨k0, k1, k2, k3, k4, k5⟩ := K_1.out.cells6
  have lk := K_1.out.lt
  have f0 := K_1.out.froz 0; have f1 := K_1.out.froz 1; have f2 := K_1.out.froz 2; have f3 := K_1.out.froz 3; have f4 := K_1.out.froz 4; have f5 := K_1.out.froz 5
  go_wp2_with fail
  obtain ⟨X2, hX2⟩ : ∃ x, x = set6 w1 BK (.slice q.ca q.cn q.cc) (.int .i64 p.mu) (.int .i64 p.on) (.int .i64 p.va) (.slice q.sa q.sn q.sc) (.slice q.ba q.bn q.bc) := ⟨_, rfl⟩
  have B_2 := Lib.hid (show Below w.heap.size w X2 by rw [hX2]; exact set6_below B_1.out (by have := HBK.out; omega) _ _ _ _ _ _)
  have K_2 := Lib.hid (show Bx X2 BK (prC p q) 26 by rw [hX2]; exact set6_at K_1.out _ _ _ _ _ _)
  have P_2 := Lib.hid (HP.out X2 B_2.out (fun g hg => by rw [hX2]; exact set6_other _ _ _ _ _ _ _ _ g (by have := HBK.out; simp at hg; omega)))
  unfold set6 at hX2
  rw [← hX2]
  clear hX2 k0 k1 k2 k3 k4 k5 lk f0 f1 f2 f3 f4 f5
  have HR := Lib.hid (Right_any p q X2 P_2.out)
  cases hr : rightP p with
  | false =>
    rw [hr] at HR
    have HCn := Lib.hid (fun W (H : Prg W p q) => Count_arg p q 0 W H hr)
    unfold Says2 at HCn
    refine HR.out.mono ?_
    rintro e w3 ⟨rfl, hb⟩
    have K_3 := Lib.hid (K_2.out.below hb); have P_3 := Lib.hid (P_2.out.below hb); have B_3 := Lib.hid (B_2.out.trans (Below.mono hb B_2.out.size))
    clear hb
    obtain ⟨k0, k1, k2, k3, k4, k5⟩ := K_3.out.cells6
    go_wp2_with fail
    refine (HCn.out _ P_3.out).mono ?_
    rintro e w4 ⟨rfl, hb⟩
    have B_4 := Lib.hid (B_3.out.trans (Below.mono hb B_3.out.size))
    clear hb k0 k1 k2 k3 k4 k5
    go_wp2_with fail
    refine (alive_any _).mono ?_
    rintro e w5 ⟨rfl, hb⟩
    have B_5 := Lib.hid (B_4.out.trans (Below.mono hb B_4.out.size))
    clear hb
    go_wp2_with fail
    go_ret
    exact ⟨rfl, B_5.out⟩
  | true =>
    rw [hr] at HR
    have HCn := Lib.hid (fun W op (H : Prg W p q) h0 h1 => Count_go p q op W H hr h0 h1)
    unfold Says2 at HCn
    obtain ⟨ht, hbk⟩ := right_parts hr
    have hb6 := (szB_not P_2.out.szs (tab_parts ht).2).2.2.2.2
    have H24 := Lib.hid (fun b hb => blk_parts (hbk b hb))
    have HLN := Lib.hid P_2.out.blks.len
    have HFL := Lib.hid (flat_le (B := p.blks) (fun b hb => (H24.out b hb).1))
    have hfl : p.blks.flatten.length ≤ 144 := by have := HFL.out; have := HLN.out; omega
    have HOP := Lib.hid (sumC_all (l := p.blks.flatten) (fun x hx => by
      obtain ⟨b, hb, hxb⟩ := List.mem_flatten.1 hx
      exact (ins_parts ((H24.out b hb).2 x hxb)).1))
    have HSZ := Lib.hid P_2.out.szs
    clear ht hbk hr
    refine HR.out.mono ?_
    rintro e w3 ⟨rfl, hb⟩
    have K_3 := Lib.hid (K_2.out.below hb); have P_3 := Lib.hid (P_2.out.below hb); have B_3 := Lib.hid (B_2.out.trans (Below.mono hb B_2.out.size))
    clear hb
    go_wp2_with fail
    go_loopw [5, 33] (fun s i wr => ∃ k : Nat, k ≤ 14 ∧ i = .int .i64 k ∧ s = .int .i64 (sumC p.blks.flatten k) ∧ Below w3.heap.size w3 wr) (fun _ i _ => 14 - (intOf i).toNat)
    case atStart => exact ⟨0, by omega, rfl, rfl, Below.refl _ _⟩
    case round =>
      obtain ⟨k, hk, rfl, rfl, hbel⟩ := hrel
      have HW := Lib.hid hbel; clear hbel
      have hsl := Nat.le_trans (sumC_le p.blks.flatten k) (Nat.mul_le_mul hk hfl)
      by_cases hlt : k < 14
      · have hlt' : (k : Int) < 14 := by omega
        have HSS := Lib.hid (show sumC p.blks.flatten (k + 1) = sumC p.blks.flatten k + cntB p.blks k from rfl)
        have hcb := cnt_le p.blks.flatten k
        have HCB := Lib.hid (show cntB p.blks k = cnt p.blks.flatten k from rfl)
        obtain ⟨s0, hs0⟩ : ∃ s, s = sumC p.blks.flatten k := ⟨_, rfl⟩
        obtain ⟨c0, hc0⟩ : ∃ c, c = cntB p.blks k := ⟨_, rfl⟩
        have hc144 : c0 ≤ 144 := by rw [hc0, HCB.out]; omega
        have HC := Lib.hid (HCn.out wr k (P_3.out.below HW.out) (by omega) hlt')
        rw [← hc0] at HC HSS
        rw [← hs0] at HSS hsl ⊢
        clear hs0 hc0 hcb
        obtain ⟨k0, k1, k2, k3, k4, k5⟩ := (K_3.out.below HW.out).cells6
        go_wp2_with fail
        refine HC.out.mono ?_
        rintro e w4 ⟨rfl, hb⟩
        have HW4 := Lib.hid (HW.out.trans (Below.mono hb HW.out.size))
        clear hb k0 k1 k2 k3 k4 k5
        go_wp2_with fail
        go_roundw
        case rel => exact ⟨k + 1, by omega, by go_num, by rw [HSS.out]; go_num, HW4.out⟩
        case measure => simp [intOf]; omega
      · have hke : k = 14 := by omega
        subst hke
        have HK5 := Lib.hid (K_3.out.below HW.out); have HP5 := Lib.hid (P_3.out.below HW.out); have HB5 := Lib.hid (B_3.out.trans (Below.mono HW.out B_3.out.size))
        rw [HOP.out, show ((14 : Nat) : Int) = 14 from rfl]
        obtain ⟨n1, hn1⟩ : ∃ n, n = p.blks.flatten.length := ⟨_, rfl⟩
        rw [← hn1]
        have HN1 := Lib.hid hn1
        clear hsl hn1 hfl
        obtain ⟨wo, rfl⟩ : ∃ wo : World, wo = wr := ⟨_, rfl⟩
        obtain ⟨k0, k1, k2, k3, k4, k5⟩ := HK5.out.cells6
        go_wp2_with fail
        clear k0 k1 k2 k3 k4 k5
        go_loopw [6, 55] (fun al i wr => ∃ m : Nat, m ≤ q.bn ∧ i = .int .i64 m ∧ al = .int .i64 ((p.blks.take m).flatten.length : Nat) ∧ Below wo.heap.size wo wr) (fun _ i _ => q.bn - (intOf i).toNat)
        case atStart => exact ⟨0, Nat.zero_le _, rfl, rfl, Below.refl _ _⟩
        case round =>
          obtain ⟨m, hm, rfl, rfl, hbel⟩ := hrel
          have HV := Lib.hid hbel; clear hbel
          have hml : (p.blks.take m).flatten.length ≤ 144 := by
            have := flat_le (B := p.blks.take m) (fun b hb => (H24.out b (List.mem_of_mem_take hb)).1)
            have h2 := List.length_take_le m p.blks
            have h3 := HLN.out
            rw [List.length_take] at this; omega
          by_cases hlm : m < q.bn
          · have hlm' : (m : Int) < (q.bn : Int) := by omega
            obtain ⟨x, b, off, ca, cn, cc, hx, hba, d0, hblk⟩ := (HP5.out.blks.below HV.out).at m hlm
            have HXL := Lib.hid (show (p.blks.take (m + 1)).flatten.length = (p.blks.take m).flatten.length + cn by rw [take_snocP hx, List.flatten_append, List.length_append, ← hblk.recs.len_eq]; simp)
            have HIN := Lib.hid (fun y (hy : y ∈ x) => ins_parts ((H24.out x (List.mem_of_getElem? hx)).2 y hy))
            have hc24 : cn ≤ 24 := by rw [← hblk.recs.len_eq]; exact (H24.out x (List.mem_of_getElem? hx)).1
            have HCL := Lib.hid hblk.recs.len_eq
            have HC := Lib.hid hblk
            obtain ⟨n0, hn0⟩ : ∃ n, n = (p.blks.take m).flatten.length := ⟨_, rfl⟩
            rw [← hn0] at HXL hml ⊢
            clear hn0 hx hblk
            rw [hba]
            go_wp2_with fail
            clear d0
            go_loopw [65] (fun i w3 => ∃ j : Nat, j ≤ cn ∧ i = .int .i64 j ∧ Below wr.heap.size wr w3) (fun i _ => cn - (intOf i).toNat)
            case atStart => exact ⟨0, Nat.zero_le _, rfl, Below.refl _ _⟩
            case round =>
              obtain ⟨j, hj, rfl, hb3⟩ := hrel
              have HB3 := Lib.hid hb3; clear hb3
              have K_6 := Lib.hid (HK5.out.below (HV.out.trans (Below.mono HB3.out HV.out.size)))
              by_cases hlj : j < cn
              · have hlj' : (j : Int) < (cn : Int) := by omega
                obtain ⟨y, b3, o3, hy, hyok, hca3, e0, e1, e2⟩ := (HC.out.below HB3.out).at j hlj
                obtain ⟨_, ha0, hb0, h1, h9, h12⟩ := HIN.out y (List.mem_of_getElem? hy)
                rw [HSZ.out.cn] at h1
                rw [HSZ.out.bn] at h9
                rw [HCL.out] at h12
                clear hy hyok
                rw [hca3]
                obtain ⟨k0, k1, k2, k3, k4, k5⟩ := K_6.out.cells6
                have lk := K_6.out.lt
                by_cases ho1 : y.op = 1
                · have t1 : (y.op == 1) = true := by rw [beq_iff_eq]; exact ho1
                  have t2 : (y.op == 9) = false := by rw [beq_eq_false_iff_ne]; omega
                  have t3 : (y.op == 12) = false := by rw [beq_eq_false_iff_ne]; omega
                  have g1 := h1 ho1
                  clear h1 h9 h12 ho1
                  go_wp2_with fail
                  go_roundw
                  case rel => exact ⟨j + 1, by omega, by go_num, belowX_alloc HB3.out _⟩
                  case measure => simp [intOf]; omega
                · by_cases ho9 : y.op = 9
                  · have t1 : (y.op == 1) = false := by rw [beq_eq_false_iff_ne]; omega
                    have t2 : (y.op == 9) = true := by rw [beq_iff_eq]; exact ho9
                    have t3 : (y.op == 12) = false := by rw [beq_eq_false_iff_ne]; omega
                    have g1 := h9 ho9
                    clear h1 h9 h12 ho1 ho9
                    go_wp2_with fail
                    go_roundw
                    case rel => exact ⟨j + 1, by omega, by go_num, belowX_alloc HB3.out _⟩
                    case measure => simp [intOf]; omega
                  · by_cases ho12 : y.op = 12
                    · have t1 : (y.op == 1) = false := by rw [beq_eq_false_iff_ne]; omega
                      have t2 : (y.op == 9) = false := by rw [beq_eq_false_iff_ne]; omega
                      have t3 : (y.op == 12) = true := by rw [beq_iff_eq]; exact ho12
                      have g1 := h12 ho12
                      clear h1 h9 h12 ho1 ho9 ho12
                      go_wp2_with fail
                      go_roundw
                      case rel => exact ⟨j + 1, by omega, by go_num, belowX_alloc HB3.out _⟩
                      case measure => simp [intOf]; omega
                    · have t1 : (y.op == 1) = false := by rw [beq_eq_false_iff_ne]; omega
                      have t2 : (y.op == 9) = false := by rw [beq_eq_false_iff_ne]; omega
                      have t3 : (y.op == 12) = false := by rw [beq_eq_false_iff_ne]; omega
                      clear h1 h9 h12 ho1 ho9 ho12
                      go_wp2_with fail
                      go_roundw
                      case rel => exact ⟨j + 1, by omega, by go_num, belowX_alloc HB3.out _⟩
                      case measure => simp [intOf]; omega
              · have hje : (cn : Int) ≤ (j : Int) := by omega
                go_wp2_with fail
                go_roundw
                case rel => exact ⟨m + 1, by omega, by go_num, by rw [HXL.out]; go_num, HV.out.trans (Below.mono HB3.out HV.out.size)⟩
                case measure => simp [intOf]; omega
          · have hme : (q.bn : Int) ≤ (m : Int) := by omega
            have HT := Lib.hid (show p.blks.take m = p.blks from List.take_of_length_le (by rw [HLN.out]; omega))
            rw [HT.out, ← HN1.out]
            have hee : ((n1 : Int) == (n1 : Int)) = true := by simp
            clear hml
            go_wp2_with fail
            refine (alive_any _).mono ?_
            rintro e w9 ⟨rfl, hb⟩
            have B_9 := Lib.hid (HB5.out.trans (Below.mono (HV.out.trans (Below.mono hb HV.out.size)) HB5.out.size))
            clear hb
            go_wp2_with fail
            go_ret
            exact ⟨rfl, B_9.out⟩
end Go.Proofs.Ytdjfgodjdcfibaa
