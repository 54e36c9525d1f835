/- What may be a channel, and what nobody waits for. -/
import Derived.Test.YtfolhgpbplfilaaC1
namespace Go.Proofs.Ytfolhgpbplfilaa
open Go.RowKit
theorem isEmpty_len {α : Type} {L : List α} {n : Nat} (h : L.length = n) : L.isEmpty = decide (n = 0) := by subst h; cases L <;> simp
set_option maxRecDepth 100000 in
set_option maxHeartbeats 1000000 in
theorem idle_any (c : Chn) (q : CAt) (w : World) (h : Cha w c q) :
    Calls Try.prog 37 #[chV c q] w fun e w' => e = .returned (.bool (idleC c)) ∧ Below w.heap.size w w' := by
  obtain ⟨cap_, cl, rc, rf, zs, rk, sent, got, sends, recvs⟩ := c
  have HS := Lib.hid (isEmpty_len h.sends.recs.len_eq)
  have HR := Lib.hid (isEmpty_len h.recvs.recs.len_eq)
  have hsl := h.sends.recs.len_le
  have hrl := h.recvs.recs.len_le
  simp only at HS HR
  obtain ⟨za, zn, zc, sa, sn, sc, ra, rn, rq⟩ := q
  simp only at HS HR hsl hrl
  clear h
  have A1 := Lib.hid (below_alloc w (.cells (chC ⟨cap_, cl, rc, rf, zs, rk, sent, got, sends, recvs⟩ ⟨za, zn, zc, sa, sn, sc, ra, rn, rq⟩) 27))
  go_enter Try.func37, Try.ntmps37
  go_wp2_with fail
  go_quiet (fail)
  go_wp2_with fail
  all_goals
    go_ret
    refine ⟨ret_bool ?_, below_drewN (below_alloc w _) _⟩
    simp only [idleC, HS.out, HR.out]
    simp_all
    try (first | omega | (split <;> omega) | (rw [if_neg (by omega), show decide (rn = 0) = false from decide_eq_false (by omega)]; rfl))
def Lk (L : List Int) (got : Int) (k : Nat) : Prop := ∀ j, j < k → en L j = got + (j : Int)
theorem Lk_succ {L : List Int} {got : Int} {k : Nat} (h : Lk L got k) (hk : en L k = got + (k : Int)) : Lk L got (k + 1) := by
  intro j hj
  by_cases e : j = k
  · subst e; exact hk
  · exact h j (by omega)
theorem Lk_all {L : List Int} {got : Int} {n : Nat} (hl : L.length = n) (h : Lk L got n) : L = runL got n :=
  list_ext_en (by rw [hl, runL_len]) (fun j hj => by rw [h j (by omega), runL_get _ _ _ (by omega)])
theorem right_no_items {c : Chn} (h : itemsC c ≠ runL c.got (c.sent - c.got).toNat) : rightC c = false := by
  simp [rightC, h]
set_option maxRecDepth 100000 in
set_option maxHeartbeats 1000000 in
theorem Right_c (c : Chn) (q : CAt) (w : World) (h : Cha w c q) :
    Calls Try.prog 13 #[chV c q] w fun e w' => e = .returned (.bool (rightC c)) ∧ Below w.heap.size w w' := by
  obtain ⟨cap_, cl, rc, rf, zs, rk, sent, got, sends, recvs⟩ := c
  obtain ⟨za, zn, zc, sa, sn, sc, ra, rn, rq⟩ := q
  have hcap := h.cap; have hrc := h.rc; have hsn := h.sent; have hgo := h.got
  unfold I64 at hcap hrc hsn hgo
  have HZL := Lib.hid h.zs.len_eq
  simp only at HZL
  have A1 := Lib.hid (below_alloc w (.cells (chC ⟨cap_, cl, rc, rf, zs, rk, sent, got, sends, recvs⟩ ⟨za, zn, zc, sa, sn, sc, ra, rn, rq⟩) 27))
  have K1 := Lib.hid (Bx.new w (chC ⟨cap_, cl, rc, rf, zs, rk, sent, got, sends, recvs⟩ ⟨za, zn, zc, sa, sn, sc, ra, rn, rq⟩) 27)
  have H1 := Lib.hid (h.below A1.out)
  have HI0 := Lib.hid (fun W (hb : rightZ rc rf zn rk = false) => Items_bad rc rf rk za zn zc W h.rc h.rf h.rk (by have := h.zs.len_le; simp only at this; omega) hb)
  unfold NoItems ringV at HI0
  have HI1 := Lib.hid (fun W (H : Ints W za zn zc zs) (n f k : Nat) (e1 : rc = (n : Int)) (e2 : rf = (f : Int)) (e3 : rk = (k : Int)) (e4 : zn = n) (h8 : n ≤ 8) (hf : f < max n 1) (hk : k ≤ n) => by
    have := Items_ok n f k za zc zs W (by rw [← e4]; exact H) h8 hf hk
    rw [← e1, ← e2, ← e3, ← e4] at this; exact this)
  unfold GotItems ringV at HI1
  have HR := Lib.hid (fun W a n c L (H : Wts W a n c L) => Right_any a n c L W H)
  have HD := Lib.hid (fun W (H : Cha W ⟨cap_, cl, rc, rf, zs, rk, sent, got, sends, recvs⟩ ⟨za, zn, zc, sa, sn, sc, ra, rn, rq⟩) => idle_any _ _ W H)
  clear h
  by_cases hnum : numC ⟨cap_, cl, rc, rf, zs, rk, sent, got, sends, recvs⟩ = true
  · have HN := Lib.hid hnum
    simp only [numC, decide_eq_true_eq] at hnum
    obtain ⟨n1, n2, n3, n4, n5, n6, n7⟩ := hnum
    have hcn : (cap_ < 0 ∧ (rc != 0) = false) ∨ (0 ≤ cap_ ∧ (rc != cap_) = false) := by
      by_cases h : cap_ < 0
      · exact .inl ⟨h, by rw [bne_eq_false_iff_eq]; omega⟩
      · exact .inr ⟨by omega, by rw [bne_eq_false_iff_eq]; omega⟩
    have hr3 : rc ≤ 3 := by omega
    have hr0 : 0 ≤ rc := by omega
    clear n3
    obtain ⟨p0, p1, p2, p3, p4, p5, p6, p7, p8, p9⟩ := K1.out.cells10
    cases hri : ringC ⟨cap_, cl, rc, rf, zs, rk, sent, got, sends, recvs⟩ with
    | false =>
      have RF := Lib.hid (show rightC ⟨cap_, cl, rc, rf, zs, rk, sent, got, sends, recvs⟩ = false by simp [rightC, hri])
      have HI := Lib.hid (fun W => HI0.out W (by simpa [ringC, HZL.out] using hri))
      clear hri
      rcases hcn with ⟨hcn, hcb⟩ | ⟨hcn, hcb⟩
      all_goals
        go_enter Try.func13, Try.ntmps13
        go_wp2_with fail
        refine (HI.out _).mono ?_
        rintro e w2 ⟨rfl, hb⟩
        have A2 := Lib.hid (A1.out.trans (Below.mono hb A1.out.size))
        clear hb
        go_wp2_with fail
        go_ret
        exact ⟨ret_bool RF.out.symm, A2.out⟩
    | true =>
      have HRI := Lib.hid hri
      simp only [ringC, rightZ, decide_eq_true_eq] at hri
      obtain ⟨f, rfl⟩ : ∃ f : Nat, rf = f := ⟨rf.toNat, by omega⟩
      obtain ⟨k0, rfl⟩ : ∃ k : Nat, rk = k := ⟨rk.toNat, by omega⟩
      obtain rfl : rc = (zn : Int) := by have := HZL.out; omega
      have HIT := Lib.hid (fun W (H : Ints W za zn zc zs) => Items_ok zn f k0 za zc zs W H (by omega) (by omega) (by omega))
      unfold GotItems ringV at HIT
      have HIC := Lib.hid (show itemsC ⟨cap_, cl, (zn : Int), (f : Int), zs, (k0 : Int), sent, got, sends, recvs⟩ = takenL zn f k0 zs from rfl)
      have HLE := Lib.hid (show (takenL zn f k0 zs).length = k0 from taken_len _ _ _ _)
      have HK := Lib.hid (show k0 ≤ 3 by omega)
      generalize hLq : takenL zn f k0 zs = L at HIT HIC HLE
      clear hri hLq
      rcases hcn with ⟨hcn, hcb⟩ | ⟨hcn, hcb⟩
      all_goals
        go_enter Try.func13, Try.ntmps13
        go_wp2_with fail
        refine (HIT.out _ H1.out.zs).mono ?_
        rintro e w2 ⟨a2, m, c2, rfl, hi, hb⟩
        have A2 := Lib.hid (A1.out.trans (Below.mono hb A1.out.size)); have K2 := Lib.hid (K1.out.below hb); have H2 := Lib.hid (H1.out.below hb); have I2 := Lib.hid hi
        have hmL : m ≤ 3 := by have := hi.len_eq; have := HLE.out; have := HK.out; omega
        have HML := Lib.hid hi.len_eq
        clear hb hi p0 p1 p2 p3 p4 p5 p6 p7 p8 p9
        obtain ⟨p0, p1, p2, p3, p4, p5, p6, p7, p8, p9⟩ := K2.out.cells10
        by_cases hms : (m : Int) = sent - got
        · have hmb : ((m : Int) != sent - got) = false := by rw [bne_eq_false_iff_eq]; exact hms
          have HMS := Lib.hid (show m = (sent - got).toNat by omega)
          clear hms
          go_wp2_with fail
          go_loopw [64] (fun i wr => ∃ k : Nat, k ≤ m ∧ i = .int .i64 k ∧ Lk L got k ∧ w2 = wr) (fun i _ => m - (intOf i).toNat)
          case atStart => exact ⟨0, Nat.zero_le _, rfl, fun j hj => absurd hj (by omega), rfl⟩
          case round =>
            obtain ⟨k, hk, rfl, hall, rfl⟩ := hrel
            have HA := Lib.hid hall
            clear hall
            by_cases hlt : k < m
            · obtain ⟨b, off, rfl, hc⟩ := I2.out.cell k hlt
              have hlt' : (k : Int) < (m : Int) := by omega
              obtain ⟨v, hv⟩ : ∃ v, v = en L k := ⟨_, rfl⟩
              rw [← hv] at hc
              have HV := Lib.hid hv
              have hvb := I2.out.bound k
              rw [← hv] at hvb
              clear hv
              by_cases hve : v = got + k
              · have hvb2 : (v != got + k) = false := by rw [bne_eq_false_iff_eq]; exact hve
                have HVE := Lib.hid hve
                clear hve
                go_wp2_with fail
                go_roundw
                case rel => exact ⟨k + 1, by omega, by go_num, Lk_succ HA.out (HV.out.symm.trans HVE.out), trivial⟩
                case measure => simp [intOf]; omega
              · have hvb2 : (v != got + k) = true := by rw [bne_iff_ne]; exact hve
                have RF := Lib.hid (show rightC ⟨cap_, cl, (zn : Int), (f : Int), zs, (k0 : Int), sent, got, sends, recvs⟩ = false from right_no_items (fun he => hve (by
                  rw [HV.out, show L = runL got (sent - got).toNat from HIC.out.symm.trans he]
                  exact runL_get _ _ _ (by rw [← HMS.out]; exact hlt))))
                clear hve
                go_wp2_with fail
                go_ret
                exact ⟨ret_bool RF.out.symm, A2.out⟩
            · obtain rfl : k = m := by omega
              have HEQ := Lib.hid (show itemsC ⟨cap_, cl, (zn : Int), (f : Int), zs, (k0 : Int), sent, got, sends, recvs⟩ = runL got (sent - got).toNat from HIC.out.trans (Lk_all (HML.out.trans HMS.out) (by rw [← HMS.out]; exact HA.out)))
              have hlt2 : ¬ (k : Int) < (k : Int) := by omega
              go_wp2_with fail
              refine (HR.out _ _ _ _ _ H2.out.sends).mono ?_
              rintro e w3 ⟨rfl, hb⟩
              have A3 := Lib.hid (A2.out.trans (Below.mono hb A2.out.size)); have K3 := Lib.hid (K2.out.below hb); have H3 := Lib.hid (H2.out.below hb)
              clear hb p0 p1 p2 p3 p4 p5 p6 p7 p8 p9
              obtain ⟨p0, p1, p2, p3, p4, p5, p6, p7, p8, p9⟩ := K3.out.cells10
              cases hw1 : rightW sends with
              | false =>
                have RF := Lib.hid (show rightC ⟨cap_, cl, (zn : Int), (f : Int), zs, (k0 : Int), sent, got, sends, recvs⟩ = false by simp [rightC, hw1])
                clear hw1
                go_wp2_with fail
                go_ret
                exact ⟨ret_bool RF.out.symm, A3.out⟩
              | true =>
                have HW1 := Lib.hid hw1
                clear hw1
                go_wp2_with fail
                refine (HR.out _ _ _ _ _ H3.out.recvs).mono ?_
                rintro e w4 ⟨rfl, hb⟩
                have A4 := Lib.hid (A3.out.trans (Below.mono hb A3.out.size)); have K4 := Lib.hid (K3.out.below hb); have H4 := Lib.hid (H3.out.below hb)
                clear hb p0 p1 p2 p3 p4 p5 p6 p7 p8 p9
                obtain ⟨p0, p1, p2, p3, p4, p5, p6, p7, p8, p9⟩ := K4.out.cells10
                cases hw2 : rightW recvs with
                | false =>
                  have RF := Lib.hid (show rightC ⟨cap_, cl, (zn : Int), (f : Int), zs, (k0 : Int), sent, got, sends, recvs⟩ = false by simp [rightC, hw2])
                  clear hw2
                  go_wp2_with fail
                  go_ret
                  exact ⟨ret_bool RF.out.symm, A4.out⟩
                | true =>
                  have RF := Lib.hid (show rightC ⟨cap_, cl, (zn : Int), (f : Int), zs, (k0 : Int), sent, got, sends, recvs⟩ = idleC ⟨cap_, cl, (zn : Int), (f : Int), zs, (k0 : Int), sent, got, sends, recvs⟩ by
                    unfold rightC; rw [HN.out, HRI.out]; simp only; rw [HW1.out, hw2, decide_eq_true HEQ.out]; rfl)
                  clear hw2
                  go_wp2_with fail
                  refine (HD.out _ H4.out).mono ?_
                  rintro e w5 ⟨rfl, hb⟩
                  have A5 := Lib.hid (A4.out.trans (Below.mono hb A4.out.size))
                  clear hb
                  generalize hid : idleC ⟨cap_, cl, (zn : Int), (f : Int), zs, (k0 : Int), sent, got, sends, recvs⟩ = bb at RF
                  go_wp2_with fail
                  go_ret
                  exact ⟨ret_bool RF.out.symm, A5.out⟩
        · have hmb : ((m : Int) != sent - got) = true := by rw [bne_iff_ne]; exact hms
          have RF := Lib.hid (show rightC ⟨cap_, cl, (zn : Int), (f : Int), zs, (k0 : Int), sent, got, sends, recvs⟩ = false from right_no_items (fun he => hms (by
            have h1 := HML.out; rw [show L = runL got (sent - got).toNat from HIC.out.symm.trans he, runL_len] at h1; omega)))
          clear hms
          go_wp2_with fail
          go_ret
          exact ⟨ret_bool RF.out.symm, A2.out⟩
  · have RF := Lib.hid (show rightC ⟨cap_, cl, rc, rf, zs, rk, sent, got, sends, recvs⟩ = false by simp [rightC, hnum])
    simp only [numC, decide_eq_true_eq] at hnum
    by_cases hcn : cap_ < 0
    all_goals
      go_enter Try.func13, Try.ntmps13
      go_wp2_with fail
      all_goals
        first
        | (go_ret; exact ⟨ret_bool RF.out.symm, A1.out⟩)
        | (exfalso; omega)
        | (exfalso; simp only [bne_eq_false_iff_eq] at *; omega)
end Go.Proofs.Ytfolhgpbplfilaa
