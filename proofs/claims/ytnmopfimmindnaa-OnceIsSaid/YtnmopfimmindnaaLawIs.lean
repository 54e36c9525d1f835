/- OnceIs: the walk. -/
import Derived.Test.YtnmopfimmindnaaAlive
import Derived.Test.YtnmopfimmindnaaCut
import Derived.Deep.LoopGhost
import Derived.Deep.DeepCutAuto
namespace Go.Proofs.Ytnmopfimmindnaa
open Go.RowKit
def hasI (l : List Int) (g : Int) : Bool := l.any fun x => x == g
theorem hasI_snoc (l : List Int) (x g : Int) : hasI (l ++ [x]) g = (hasI l g || x == g) := by simp [hasI]
theorem hasI_map {Q : List Wt} (h : ∀ x ∈ Q, x.c = 0) (g : Int) : hasI (Q.map Wt.g) g = hasW Q g 0 := by
  unfold hasI hasW
  rw [List.any_map]
  induction Q with
  | nil => rfl
  | cons x xs ih =>
    have hx : x.c = 0 := h x (by simp)
    simp only [List.any_cons, Function.comp, hx]
    rw [ih (fun y hy => h y (List.mem_cons_of_mem _ hy))]
    simp
theorem Cut.row_lt {w : World} {base : Nat} {a : Option Addr} {n cap : Nat} {L : List Int} (h : Cut w base a n cap L) {r : Nat} (hr : rowB a cap = some r) : base ≤ r ∧ r < w.heap.size := by
  unfold rowB at hr
  split at hr
  · rename_i hp
    obtain ⟨b, off, cs, rfl, hb, hh, _⟩ := h.row hp
    simp at hr; subst hr
    exact ⟨hb, (Array.getElem?_eq_some_iff.1 hh).1⟩
  · simp at hr
structure OInv (w0 wr : World) (BO : Nat) (st bb : Int) (la : Option Addr) (ln lc : Nat) (Q : List Wt) (ha : Option Addr) (hn hcap : Nat) : Prop where
  box : Bx wr BO #[.int .i64 st, .int .i64 bb, .slice la ln lc] 24
  q : Wts wr la ln lc Q
  line : Cut wr (BO + 1) ha hn hcap (Q.map Wt.g)
  bel : Below w0.heap.size w0 wr
  bl : w0.heap.size ≤ BO
  right : rightO st bb Q = true
  small : ∀ x ∈ Q, x.c = 0 ∧ x.g < 9
theorem OInv.below {w0 wr W : World} {BO : Nat} {st bb : Int} {la : Option Addr} {ln lc : Nat} {Q : List Wt} {ha : Option Addr} {hn hcap : Nat} (h : OInv w0 wr BO st bb la ln lc Q ha hn hcap) (hb : Below wr.heap.size wr W) : OInv w0 W BO st bb la ln lc Q ha hn hcap :=
  ⟨h.box.below hb, h.q.below hb, h.line.below hb, h.bel.trans (Below.mono hb h.bel.size), h.bl, h.right, h.small⟩
theorem OInv.len {w0 wr : World} {BO : Nat} {st bb : Int} {la : Option Addr} {ln lc : Nat} {Q : List Wt} {ha : Option Addr} {hn hcap : Nat} (h : OInv w0 wr BO st bb la ln lc Q ha hn hcap) : ln = Q.length ∧ hn = Q.length ∧ Q.length ≤ 9 := by
  refine ⟨h.q.recs.len_eq.symm, by have := h.line.len; simpa using this.symm, ?_⟩
  obtain ⟨_, h2, h3⟩ := right_pair.1 (rightO_parts h.right).2.2.2.1
  have hm : ∀ x ∈ Q, 0 ≤ x.g := fun x hx => by have := h2 x hx; simp [mayW] at this; omega
  have := nodup_le 9 (Q.map Wt.g) (by
    rw [List.nodup_iff_pairwise_ne, List.pairwise_map]
    refine List.Pairwise.imp_of_mem (fun {a b} ha hb hab => ?_) h3
    have a1 := (h.small a ha).1; have b1 := (h.small b hb).1
    unfold apartW at hab
    omega) (fun x hx => by
    obtain ⟨y, hy, rfl⟩ := List.mem_map.1 hx
    exact ⟨hm y hy, (h.small y hy).2⟩)
  simpa using this
theorem OInv.put {w0 wr W : World} {BO : Nat} {st bb : Int} {la : Option Addr} {ln lc : Nat} {Q : List Wt} {ha : Option Addr} {hn hcap : Nat} (h : OInv w0 wr BO st bb la ln lc Q ha hn hcap) (hb : Below wr.heap.size wr W) (s2 b2 : Int) (qa : Option Addr) (ql qc : Nat) (Q2 : List Wt) (hq : Wts W qa ql qc Q2) (hf : ∀ x, qa = some x → wr.heap.size ≤ x.block) :
    Bx (set3c W BO (.int .i64 s2) (.int .i64 b2) (.slice qa ql qc)) BO #[.int .i64 s2, .int .i64 b2, .slice qa ql qc] 24 ∧ Wts (set3c W BO (.int .i64 s2) (.int .i64 b2) (.slice qa ql qc)) qa ql qc Q2 ∧ Cut (set3c W BO (.int .i64 s2) (.int .i64 b2) (.slice qa ql qc)) (BO + 1) ha hn hcap (Q.map Wt.g) ∧ Below w0.heap.size w0 (set3c W BO (.int .i64 s2) (.int .i64 b2) (.slice qa ql qc)) := by
  have hlt := h.box.lt
  refine ⟨(h.box.below hb).set3 _ _ _, hq.other BO (fun x hx e => by have := hf x hx; omega) (fun g hg => set3_other W BO (.int .i64 s2) (.int .i64 b2) (.slice qa ql qc) g hg), ?_, below_set3 (h.bel.trans (Below.mono hb h.bel.size)) h.bl _ _ _⟩
  refine (h.line.below hb).kept (fun x hx hp => ?_)
  have hr : rowB ha hcap = some x.block := by unfold rowB; rw [if_pos hp, hx]; rfl
  have := (h.line.row_lt hr).1
  exact set3_other W BO (.int .i64 s2) (.int .i64 b2) (.slice qa ql qc) x.block (by omega)
theorem i64_map {Q : List Wt} (h : ∀ x ∈ Q, WtOk x) (i : Nat) : I64 (en (Q.map Wt.g) i) := by
  by_cases hi : i < (Q.map Wt.g).length
  · have := en_mem (Q.map Wt.g) i hi
    obtain ⟨y, hy, e⟩ := List.mem_map.1 this
    rw [← e]; exact (h y hy).1
  · rw [en_of_le _ i (by omega)]; exact ⟨by omega, by omega⟩
def Phase (st bb by_ : Int) (dn : Bool) (ft : Int) : Prop :=
  (st = 0 ∧ bb = 0 ∧ by_ = -1 ∧ dn = false ∧ ft = 0) ∨ (st = 1 ∧ bb = by_ ∧ 0 ≤ by_ ∧ by_ < 9 ∧ dn = false ∧ ft = 1) ∨ (st = 2 ∧ bb = 0 ∧ 0 ≤ by_ ∧ by_ < 9 ∧ dn = true ∧ ft = 1)
def ORel (w : World) (BO l1 g : Nat) (byv dnv ftv line i : Value) (wr : World) : Prop :=
  ∃ (k : Nat) (st bb by_ ft : Int) (dn : Bool) (la : Option Addr) (ln lc : Nat) (Q : List Wt) (ha : Option Addr) (hn hcap : Nat), k + g = l1 ∧ i = .int .i64 k ∧ line = .slice ha hn hcap ∧ byv = .int .i64 by_ ∧ dnv = .bool dn ∧ ftv = .int .i64 ft ∧ Phase st bb by_ dn ft ∧ OInv w wr BO st bb la ln lc Q ha hn hcap
theorem ORel.go {w wr : World} {BO l1 g : Nat} (k : Nat) (st bb by_ ft : Int) (dn : Bool) (la : Option Addr) (ln lc : Nat) (Q : List Wt) (ha : Option Addr) (hn hcap : Nat) (h1 : k + g = l1) (h3 : Phase st bb by_ dn ft) (h6 : OInv w wr BO st bb la ln lc Q ha hn hcap) :
    ORel w BO l1 g (.int .i64 by_) (.bool dn) (.int .i64 ft) (.slice ha hn hcap) (.int .i64 k) wr :=
  ⟨k, st, bb, by_, ft, dn, la, ln, lc, Q, ha, hn, hcap, h1, rfl, rfl, rfl, rfl, rfl, h3, h6⟩
theorem q_no {st bb : Int} {Q : List Wt} (h : rightO st bb Q = true) (hs : st ≠ 1) : Q = [] := ((rightO_parts h).2.2.2.2.2 hs).2
theorem ro_snoc {b : Int} {Q : List Wt} {x : Wt} (h : rightO 1 b Q = true) (hl : Q.length < 64) (hm : mayW x = true) (hh : hasW Q x.g x.c = false) (hne : b ≠ x.g) : rightO 1 b (Q ++ [x]) = true := by
  obtain ⟨_, _, h3, hr, hmet, _⟩ := rightO_parts h
  have h1 := right_snoc hr hl hm hh
  have h2 : metW (Q ++ [x]) b = false := by
    rw [metW_snoc, hmet rfl]
    simp; exact fun e => hne e.symm
  unfold rightO
  rw [h1, h2]
  simp [h3]
set_option maxRecDepth 100000 in
set_option maxHeartbeats 16000000 in
theorem is_any (a : Option Addr) (len0 cap : Nat) (l0 : List Int) (w : World) (h0 : Ints w a len0 cap l0) :
    Calls Try.prog 4 #[.slice a len0 cap] w (Says w) := by
  have hlc := h0.le_cap
  have hcm := h0.cap_le
  unfold maxLen at hcm
  obtain ⟨l1, hl1⟩ : ∃ l1, l1 = min len0 100 := ⟨_, rfl⟩
  have h := h0.take 100
  rw [← hl1] at h
  obtain ⟨l, hL⟩ : ∃ L, L = l0.take 100 := ⟨_, rfl⟩
  rw [← hL] at h
  clear hL h0
  have hl100 : l1 ≤ 100 := by omega
  have HI0 := Lib.hid h; clear h
  have HMIN := Lib.hid hl1; clear hl1
  have B0 := Lib.hid (Bx.new w #[.int .i64 0, .int .i64 0, .slice none 0 0] 24)
  go_enter Try.func4, Try.ntmps4
  go_upto_region 4 with (fail)
  obtain ⟨X0, hX0⟩ : ∃ x, x = w.alloc (.cells #[.int .i64 0, .int .i64 0, .slice none 0 0] 24) := ⟨_, rfl⟩
  obtain ⟨BO, hBL⟩ : ∃ x, x = w.heap.size := ⟨_, rfl⟩
  have HBB := Lib.hid (below_alloc w (.cells #[.int .i64 0, .int .i64 0, .slice none 0 0] 24))
  have HBL := Lib.hid (show w.heap.size ≤ BO by omega)
  rw [← hX0] at B0 HBB ⊢
  rw [← hBL] at B0 ⊢
  clear hX0 hBL
  go_cut [26, 27, 28] (fun s n i wx => s = .slice a l1 cap ∧ n = .int .i64 l1 ∧ i = .int .i64 0 ∧ X0 = wx)
  case first =>
    have hl1 := HMIN.out
    by_cases hs : len0 ≤ 100
    · have e : l1 = len0 := by omega
      subst e
      have h' : (l1 : Int) ≤ 100 := by omega
      clear hl1 HMIN
      go_wp2_with fail
      go_meet
      exact ⟨rfl, rfl, rfl, rfl⟩
    · have e : l1 = 100 := by omega
      subst e
      have h' : (100 : Int) < (len0 : Int) := by omega
      clear hl1 HMIN hs
      go_wp2_with fail
      go_meet
      exact ⟨rfl, rfl, rfl, rfl⟩
  case rest =>
    obtain ⟨rfl, rfl, rfl, rfl⟩ := hcut
    clear HMIN hlc
    go_wp2_with fail
    go_loopg [4, 5, 6, 7, 28] l1 (fun g byv dnv ftv line i wr => ORel w BO l1 g byv dnv ftv line i wr)
    case atStart => exact ORel.go 0 0 0 (-1) 0 false none 0 0 [] none 0 0 (by omega) (.inl ⟨rfl, rfl, rfl, rfl, rfl⟩) ⟨B0.out, Wts.nil _, Cut.nil _ _, HBB.out, HBL.out, ro_new, fun x hx => by simp at hx⟩
    case round =>
      obtain ⟨k, st, bb, by_, ft, dn, la, ln, lc, Q, ha, hn, hcap, hk, rfl, rfl, rfl, rfl, rfl, hph, hinv⟩ := hrel
      have HV := Lib.hid hinv; clear hinv
      by_cases hlt : k < l1
      · have hlt' : (k : Int) < (l1 : Int) := by omega
        have HIW := Lib.hid (HI0.out.below HV.out.bel)
        obtain ⟨ib, ioff, rfl, hc⟩ := HIW.out.cell k hlt
        have hv0 := HIW.out.bound k
        obtain ⟨v, hv⟩ : ∃ v, v = en l k := ⟨_, rfl⟩
        rw [← hv] at hc hv0
        clear hv
        unfold I64 at hv0
        obtain ⟨m, hm1⟩ : ∃ m, (v.tdiv 2).tmod 9 = m := ⟨_, rfl⟩
        have hb1 : -9 < m := by rw [← hm1]; have := Int.lt_tmod_of_pos (v.tdiv 2) (show (0:Int) < 9 by omega); omega
        have hb2 : m < 9 := by rw [← hm1]; exact Int.tmod_lt_of_pos (v.tdiv 2) (by omega)
        have HPH := Lib.hid hph; clear hph
        go_upto_if 40 with (fail)
        clear hc hm1 hv0
        obtain ⟨g, hg⟩ : ∃ g, (m + 9) % 9 = g := ⟨_, rfl⟩
        have hg1 : 0 ≤ g := by omega
        have hg2 : g < 9 := by omega
        rw [hg]
        clear hg hb1 hb2
        have hph := HPH.out; clear HPH
        cases hev : (v.tmod 2 != 0) with
        | true =>
          rcases hph with ⟨rfl, rfl, rfl, rfl, rfl⟩ | ⟨rfl, rfl, hy0, hy9, rfl, rfl⟩ | ⟨rfl, rfl, hy0, hy9, rfl, rfl⟩
          · skip
            obtain rfl := q_no HV.out.right (by decide)
            have hlens := HV.out.len
            obtain rfl : ln = 0 := by simpa using hlens.1
            obtain rfl : hn = 0 := by simpa using hlens.2.1
            clear hlens
            have HEn := Lib.hid (End_state 0 0 g la 0 lc [] wr HV.out.q ⟨by omega, by omega⟩ ⟨by omega, by omega⟩ ⟨by omega, by omega⟩ HV.out.right (by omega) (fun h => absurd h.1 (by decide)))
            unfold GotE at HEn
            obtain ⟨c0, c1, c2⟩ := HV.out.box.cells3
            have hbg : ((-1 : Int) == g) = false := by rw [beq_eq_false_iff_ne]; omega
            go_wp2_with fail
            refine HEn.out.mono ?_
            rintro e w1 ⟨qa, ql, qc, rfl, hq, hb, hfr⟩
            have HV1 := Lib.hid ((HV.out.below hb).below (below_alloc w1 (.cells #[.int .i64 0, .int .i64 0, .slice none 0 0] 24)))
            clear hq hb hfr c0 c1 c2
            go_wp2_with fail
            go_roundg (gk - 1)
            case measure => omega
            case rel => exact ORel.go (k + 1) 0 0 (-1) 0 false la 0 lc [] ha 0 hcap (by omega) (.inl ⟨rfl, rfl, rfl, rfl, rfl⟩) HV1.out
          · by_cases hg0 : bb = g
            · skip
              subst hg0
              have hlens := HV.out.len
              have hln9 : ln ≤ 9 := by omega
              have hhn9 : hn ≤ 9 := by omega
              have hq9 : Q.length ≤ 9 := by omega
              have HLN := Lib.hid hlens
              clear hlens
              have hbg : (bb == bb) = true := by simp
              have LI0 := Lib.hid (HV.out.line.toInts (i64_map HV.out.q.ok))
              have HEn := Lib.hid (End_ok bb la ln lc Q wr HV.out.q ⟨by omega, by omega⟩ HV.out.right (by omega))
              unfold GotE at HEn
              obtain ⟨c0, c1, c2⟩ := HV.out.box.cells3
              go_wp2_with fail
              refine HEn.out.mono ?_
              rintro e w1 ⟨qa, ql, qc, rfl, hq, hb, hfr⟩
              have hbx := below_alloc w1 (.cells #[.int .i64 2, .int .i64 0, .slice none 0 0] 24)
              have HBQ := Lib.hid (hb.trans (Below.mono hbx hb.size))
              have HQ := Lib.hid (hq.below hbx)
              have LI := Lib.hid (LI0.out.below HBQ.out)
              have HV1 := Lib.hid (HV.out.below HBQ.out)
              have A1 := Lib.hid (Bx.new w1 #[.int .i64 2, .int .i64 0, .slice none 0 0] 24)
              clear c0 c1 c2 hq hb hfr HEn hbx LI0
              have hnb : ((ql : Int) != (hn : Int)) = false := by
                have h1 := HQ.out.recs.len_eq; have h2 := HLN.out.2.1
                have : (ql : Int) = (hn : Int) := by omega
                rw [this]; simp
              go_wp2_with fail
              obtain ⟨X1, hX1⟩ : ∃ x, x = w1.alloc (.cells #[.int .i64 2, .int .i64 0, .slice none 0 0] 24) := ⟨_, rfl⟩
              obtain ⟨BA, hBA⟩ : ∃ x, x = w1.heap.size := ⟨_, rfl⟩
              rw [← hX1] at HBQ HQ LI HV1 A1 ⊢
              rw [← hBA] at A1 ⊢
              clear hX1 hBA
              have hqn : hn ≤ ql := by have h1 := HQ.out.recs.len_eq; have h2 := HLN.out.2.1; omega
              go_loop [75] (fun i => ∃ j : Nat, j ≤ hn ∧ i = .int .i64 j) (fun i => hn - (intOf i).toNat)
              case atStart => exact ⟨0, Nat.zero_le _, rfl⟩
              case round =>
                obtain ⟨j, hj, rfl⟩ := hrel
                by_cases hlj : j < hn
                · have hlj' : (j : Int) < (hn : Int) := by omega
                  have hlq : j < ql := by omega
                  have hlq' : (j : Int) < (ql : Int) := by omega
                  obtain ⟨wb, woff, rfl, hc⟩ := LI.out.cell j hlj
                  obtain ⟨y, b2, o2, hy, _, rfl, d0, d1, d2⟩ := HQ.out.at j hlq
                  have hje : en (Q.map Wt.g) j = y.g := by
                    have hjl : j < (Q.map Wt.g).length := by rw [LI.out.len_eq]; exact hlj
                    rw [en_get _ j hjl, List.getElem_map]
                    rw [List.getElem?_eq_getElem (by simpa using hjl)] at hy
                    exact congrArg Wt.g (Option.some.inj hy)
                  rw [hje] at hc
                  clear hy hje d1 d2
                  have hyy : (y.g != y.g) = false := by simp
                  go_wp2_with fail
                  go_round
                  case rel => exact ⟨j + 1, by omega, by go_num⟩
                  case measure => simp [intOf]; omega
                · have hjh : (hn : Int) ≤ (j : Int) := by omega
                  have hP := Lib.hid (HV.out.put HBQ.out 2 0 none 0 0 [] (Wts.nil _) (fun x hx => by cases hx))
                  obtain ⟨a0, a1, a2⟩ := A1.out.cells3
                  obtain ⟨c0, c1, c2⟩ := HV1.out.box.cells3
                  have lB := HV1.out.box.lt
                  have f0 := HV1.out.box.froz 0; have f1 := HV1.out.box.froz 1; have f2 := HV1.out.box.froz 2
                  go_wp2_with fail
                  go_roundg (gk - 1)
                  case measure => omega
                  case rel => exact ORel.go (k + 1) 2 0 bb 1 true none 0 0 [] none 0 0 (by omega) (.inr (.inr ⟨rfl, rfl, by omega, by omega, rfl, rfl⟩)) ⟨hP.out.1, hP.out.2.1, Cut.nil _ _, hP.out.2.2.2, HV.out.bl, ro_done, fun x hx => by simp at hx⟩
            · skip
              have hlens := HV.out.len
              have hln9 : ln ≤ 9 := by omega
              have hhn9 : hn ≤ 9 := by omega
              have hq9 : Q.length ≤ 9 := by omega
              have HLN := Lib.hid hlens
              clear hlens
              have hbg : (bb == g) = false := by rw [beq_eq_false_iff_ne]; exact hg0
              have HG0 := Lib.hid hg0
              clear hg0
              have HEn := Lib.hid (End_state 1 bb g la ln lc Q wr HV.out.q ⟨by omega, by omega⟩ ⟨by omega, by omega⟩ ⟨by omega, by omega⟩ HV.out.right (by omega) (fun h => HG0.out h.2))
              unfold GotE at HEn
              obtain ⟨c0, c1, c2⟩ := HV.out.box.cells3
              go_wp2_with fail
              refine HEn.out.mono ?_
              rintro e w1 ⟨qa, ql, qc, rfl, hq, hb, hfr⟩
              have HV1 := Lib.hid ((HV.out.below hb).below (below_alloc w1 (.cells #[.int .i64 0, .int .i64 0, .slice none 0 0] 24)))
              clear hq hb hfr c0 c1 c2
              go_wp2_with fail
              go_roundg (gk - 1)
              case measure => omega
              case rel => exact ORel.go (k + 1) 1 bb bb 1 false la ln lc Q ha _ hcap (by omega) (.inr (.inl ⟨rfl, rfl, by omega, by omega, rfl, rfl⟩)) HV1.out
          · skip
            obtain rfl := q_no HV.out.right (by decide)
            have hlens := HV.out.len
            obtain rfl : ln = 0 := by simpa using hlens.1
            obtain rfl : hn = 0 := by simpa using hlens.2.1
            clear hlens
            by_cases hg0 : by_ = g
            all_goals
              first | (have hbg : (by_ == g) = true := by rw [beq_iff_eq]; exact hg0) | (have hbg : (by_ == g) = false := by rw [beq_eq_false_iff_ne]; exact hg0)
              clear hg0
              have HEn := Lib.hid (End_state 2 0 g la 0 lc [] wr HV.out.q ⟨by omega, by omega⟩ ⟨by omega, by omega⟩ ⟨by omega, by omega⟩ HV.out.right (by omega) (fun h => absurd h.1 (by decide)))
              unfold GotE at HEn
              obtain ⟨c0, c1, c2⟩ := HV.out.box.cells3
              go_wp2_with fail
              refine HEn.out.mono ?_
              rintro e w1 ⟨qa, ql, qc, rfl, hq, hb, hfr⟩
              have HV1 := Lib.hid ((HV.out.below hb).below (below_alloc w1 (.cells #[.int .i64 0, .int .i64 0, .slice none 0 0] 24)))
              clear hq hb hfr c0 c1 c2
              go_wp2_with fail
              go_roundg (gk - 1)
              case measure => omega
              case rel => exact ORel.go (k + 1) 2 0 by_ 1 true la 0 lc [] ha 0 hcap (by omega) (.inr (.inr ⟨rfl, rfl, by omega, by omega, rfl, rfl⟩)) HV1.out
        | false =>
          rcases hph with ⟨rfl, rfl, rfl, rfl, rfl⟩ | ⟨rfl, rfl, hy0, hy9, rfl, rfl⟩ | ⟨rfl, rfl, hy0, hy9, rfl, rfl⟩
          · skip
            have hok : WtOk ⟨g, 0, k⟩ := by unfold WtOk I64; simp only []; omega
            have HOK := Lib.hid hok
            have HM : Hid (mayW ⟨g, 0, k⟩ = true) := Lib.hid (by simp [mayW]; omega)
            clear hok
            obtain ⟨c0, c1, c2⟩ := HV.out.box.cells3
            obtain rfl := q_no HV.out.right (by decide)
            have hlens := HV.out.len
            obtain rfl : ln = 0 := by simpa using hlens.1
            obtain rfl : hn = 0 := by simpa using hlens.2.1
            clear hlens
            have HHW := Lib.hid (show hasW [] g 0 = false from rfl)
            have LI0 := Lib.hid (HV.out.line.toInts (i64_map HV.out.q.ok))
            have HDo := Lib.hid (Do_any 0 0 la 0 lc [] ⟨g, 0, k⟩ wr HV.out.q HOK.out ⟨by omega, by omega⟩ HV.out.right HM.out)
            rw [show doZ 0 0 [] ⟨g, 0, k⟩ = (1, g, [], 0, 0) from rfl] at HDo
            simp only [] at HDo
            unfold GotD at HDo
            go_wp2_with fail
            refine HDo.out.mono ?_
            rintro e w1 ⟨qa, ql, qc, rfl, hq, hb, hfr⟩
            have hbx := below_alloc w1 (.cells #[.int .i64 1, .int .i64 g, .slice qa ql qc] 24)
            have HBQ := Lib.hid (hb.trans (Below.mono hbx hb.size))
            have HAW := Lib.hid hb.size
            have HQ := Lib.hid (hq.below hbx); have HFQ := Lib.hid hfr
            have LI := Lib.hid (LI0.out.below HBQ.out)
            have HV1 := Lib.hid (HV.out.below HBQ.out)
            have A1 := Lib.hid (Bx.new w1 #[.int .i64 1, .int .i64 g, .slice qa ql qc] 24)
            clear c0 c1 c2 hq hb hfr HDo hbx LI0
            go_wp2_with fail
            obtain ⟨X1, hX1⟩ : ∃ x, x = w1.alloc (.cells #[.int .i64 1, .int .i64 g, .slice qa ql qc] 24) := ⟨_, rfl⟩
            obtain ⟨BA, hBA⟩ : ∃ x, x = w1.heap.size := ⟨_, rfl⟩
            rw [← hX1] at HBQ HQ LI HV1 A1 ⊢
            rw [← hBA] at A1 HAW ⊢
            clear hX1 hBA
            obtain ⟨a0, a1, a2⟩ := A1.out.cells3
            obtain ⟨c0, c1, c2⟩ := HV1.out.box.cells3
            have lB := HV1.out.box.lt
            have f0 := HV1.out.box.froz 0; have f1 := HV1.out.box.froz 1; have f2 := HV1.out.box.froz 2
            go_loop [19, 100] (fun wv i => ∃ j : Nat, j ≤ 0 ∧ i = .int .i64 j ∧ wv = .bool (hasI (([].map Wt.g).take j) g)) (fun _ i => 0 - (intOf i).toNat)
            case atStart => exact ⟨0, Nat.zero_le _, rfl, rfl⟩
            case round =>
              obtain ⟨j, hj, rfl, rfl⟩ := hrel
              by_cases hlj : j < 0
              · have hlj' : (j : Int) < (0 : Int) := by omega
                obtain ⟨wb, woff, rfl, hc⟩ := LI.out.cell j hlj
                obtain ⟨y, hy⟩ : ∃ y, y = en ([].map Wt.g) j := ⟨_, rfl⟩
                have hjL : j < ([].map Wt.g).length := by rw [LI.out.len_eq]; exact hlj
                have HTK := Lib.hid (show ([].map Wt.g).take (j + 1) = ([].map Wt.g).take j ++ [y] by rw [List.take_add_one, List.getElem?_eq_getElem hjL, hy, en_get ([].map Wt.g) j hjL]; rfl)
                have HSN := Lib.hid (hasI_snoc (([].map Wt.g).take j) y g)
                rw [← hy] at hc
                clear hy hjL
                cases h1 : hasI (([].map Wt.g).take j) g <;> cases h2 : (y == g)
                all_goals
                  have R := Lib.hid (show hasI (([].map Wt.g).take (j + 1)) g = _ by rw [HTK.out, HSN.out, h1, h2])
                  clear h1
                  go_wp2_with fail
                  go_round
                  case rel => exact ⟨j + 1, by omega, by go_num, by rw [R.out]; rfl⟩
                  case measure => simp [intOf]; omega
              · have hje : 0 ≤ j := by omega
                have hje' : (0 : Int) ≤ (j : Int) := by omega
                have HTT := Lib.hid (show ([].map Wt.g).take j = [].map Wt.g from List.take_of_length_le (by rw [LI.out.len_eq]; exact hje))
                have HHI := Lib.hid (show hasI (([].map Wt.g).take j) g = hasW [] g 0 by rw [HTT.out]; exact hasI_map (fun x hx => (HV.out.small x hx).1) g)
                rw [HHI.out, HHW.out]
                clear hje hje'
                have hP := Lib.hid (HV.out.put HBQ.out 1 g qa ql qc [] HQ.out HFQ.out)
                go_wp2_with fail
                obtain ⟨X2, hX2⟩ : ∃ x, x = set3c X1 BO (.int .i64 1) (.int .i64 g) (.slice qa ql qc) := ⟨_, rfl⟩
                have HI : Hid (OInv w X2 BO 1 g qa ql qc [] ha 0 hcap) := Lib.hid (by rw [hX2]; exact ⟨hP.out.1, hP.out.2.1, hP.out.2.2.1, hP.out.2.2.2, HV.out.bl, ro_does g (by omega), fun x hx => by simp at hx⟩)
                unfold set3c set2c at hX2
                rw [← hX2]
                clear hX2 c0 c1 c2 f0 f1 f2 lB a0 a1 a2 hP
                have hql : ql = 0 := by simpa using HI.out.len.1
                subst hql
                have HRt := Lib.hid (ORight_any 1 g qa 0 qc [] _ HI.out.q ⟨by omega, by omega⟩ ⟨by omega, by omega⟩)
                rw [HI.out.right] at HRt
                refine HRt.out.mono ?_
                rintro e wz ⟨rfl, hb⟩
                have HZ := Lib.hid (HI.out.below hb)
                clear hb HRt
                go_wp2_with fail
                go_roundg (gk - 1)
                case measure => omega
                case rel => exact ORel.go (k + 1) 1 g g 1 false qa 0 qc [] ha 0 hcap (by omega) (.inr (.inl ⟨rfl, rfl, by omega, by omega, rfl, rfl⟩)) HZ.out
          · by_cases hg0 : bb = g
            · skip
              have HG0 := Lib.hid hg0
              have hok : WtOk ⟨g, 0, k⟩ := by unfold WtOk I64; simp only []; omega
              have HOK := Lib.hid hok
              have HM : Hid (mayW ⟨g, 0, k⟩ = true) := Lib.hid (by simp [mayW]; omega)
              clear hok
              obtain ⟨c0, c1, c2⟩ := HV.out.box.cells3
              have hlens := HV.out.len
              have hln9 : ln ≤ 9 := by omega
              have hhn9 : hn ≤ 9 := by omega
              have hq9 : Q.length ≤ 9 := by omega
              have HLN := Lib.hid hlens
              clear hlens
              have hbg : (bb == g) = true := by rw [beq_iff_eq]; exact hg0
              clear hg0
              cases hh : hasW Q g 0
              all_goals
                have HHW := Lib.hid hh
                clear hh
                have LI0 := Lib.hid (HV.out.line.toInts (i64_map HV.out.q.ok))
                have HDo := Lib.hid (Do_any 1 bb la ln lc Q ⟨g, 0, k⟩ wr HV.out.q HOK.out ⟨by omega, by omega⟩ HV.out.right HM.out)
                rw [show doZ 1 bb Q ⟨g, 0, k⟩ = (0, 0, [], 0, 6) from by simp [doZ, HG0.out]] at HDo
                simp only [] at HDo
                unfold GotD at HDo
                go_wp2_with fail
                refine HDo.out.mono ?_
                rintro e w1 ⟨qa, ql, qc, rfl, hq, hb, hfr⟩
                have hbx := below_alloc w1 (.cells #[.int .i64 0, .int .i64 0, .slice qa ql qc] 24)
                have HBQ := Lib.hid (hb.trans (Below.mono hbx hb.size))
                have HAW := Lib.hid hb.size
                have HQ := Lib.hid (hq.below hbx); have HFQ := Lib.hid hfr
                have LI := Lib.hid (LI0.out.below HBQ.out)
                have HV1 := Lib.hid (HV.out.below HBQ.out)
                have A1 := Lib.hid (Bx.new w1 #[.int .i64 0, .int .i64 0, .slice qa ql qc] 24)
                clear c0 c1 c2 hq hb hfr HDo hbx LI0
                go_wp2_with fail
                obtain ⟨X1, hX1⟩ : ∃ x, x = w1.alloc (.cells #[.int .i64 0, .int .i64 0, .slice qa ql qc] 24) := ⟨_, rfl⟩
                obtain ⟨BA, hBA⟩ : ∃ x, x = w1.heap.size := ⟨_, rfl⟩
                rw [← hX1] at HBQ HQ LI HV1 A1 ⊢
                rw [← hBA] at A1 HAW ⊢
                clear hX1 hBA
                obtain ⟨a0, a1, a2⟩ := A1.out.cells3
                obtain ⟨c0, c1, c2⟩ := HV1.out.box.cells3
                have lB := HV1.out.box.lt
                have f0 := HV1.out.box.froz 0; have f1 := HV1.out.box.froz 1; have f2 := HV1.out.box.froz 2
                go_loop [19, 100] (fun wv i => ∃ j : Nat, j ≤ hn ∧ i = .int .i64 j ∧ wv = .bool (hasI ((Q.map Wt.g).take j) g)) (fun _ i => hn - (intOf i).toNat)
                case atStart => exact ⟨0, Nat.zero_le _, rfl, rfl⟩
                case round =>
                  obtain ⟨j, hj, rfl, rfl⟩ := hrel
                  by_cases hlj : j < hn
                  · have hlj' : (j : Int) < (hn : Int) := by omega
                    obtain ⟨wb, woff, rfl, hc⟩ := LI.out.cell j hlj
                    obtain ⟨y, hy⟩ : ∃ y, y = en (Q.map Wt.g) j := ⟨_, rfl⟩
                    have hjL : j < (Q.map Wt.g).length := by rw [LI.out.len_eq]; exact hlj
                    have HTK := Lib.hid (show (Q.map Wt.g).take (j + 1) = (Q.map Wt.g).take j ++ [y] by rw [List.take_add_one, List.getElem?_eq_getElem hjL, hy, en_get (Q.map Wt.g) j hjL]; rfl)
                    have HSN := Lib.hid (hasI_snoc ((Q.map Wt.g).take j) y g)
                    rw [← hy] at hc
                    clear hy hjL
                    cases h1 : hasI ((Q.map Wt.g).take j) g <;> cases h2 : (y == g)
                    all_goals
                      have R := Lib.hid (show hasI ((Q.map Wt.g).take (j + 1)) g = _ by rw [HTK.out, HSN.out, h1, h2])
                      clear h1
                      go_wp2_with fail
                      go_round
                      case rel => exact ⟨j + 1, by omega, by go_num, by rw [R.out]; rfl⟩
                      case measure => simp [intOf]; omega
                  · have hje : hn ≤ j := by omega
                    have hje' : (hn : Int) ≤ (j : Int) := by omega
                    have HTT := Lib.hid (show (Q.map Wt.g).take j = Q.map Wt.g from List.take_of_length_le (by rw [LI.out.len_eq]; exact hje))
                    have HHI := Lib.hid (show hasI ((Q.map Wt.g).take j) g = hasW Q g 0 by rw [HTT.out]; exact hasI_map (fun x hx => (HV.out.small x hx).1) g)
                    rw [HHI.out, HHW.out]
                    clear hje hje'
                    go_wp2_with fail
                    have HRt := Lib.hid (ORight_any 1 bb la ln lc Q _ HV1.out.q ⟨by omega, by omega⟩ ⟨by omega, by omega⟩)
                    rw [HV1.out.right] at HRt
                    refine HRt.out.mono ?_
                    rintro e wz ⟨rfl, hb⟩
                    have HZ := Lib.hid (HV1.out.below hb)
                    clear hb HRt
                    go_wp2_with fail
                    go_roundg (gk - 1)
                    case measure => omega
                    case rel => exact ORel.go (k + 1) 1 bb bb 1 false la ln lc Q ha _ hcap (by omega) (.inr (.inl ⟨rfl, rfl, by omega, by omega, rfl, rfl⟩)) HZ.out
            · cases hh : hasW Q g 0 with
              | true =>
                skip
                have hok : WtOk ⟨g, 0, k⟩ := by unfold WtOk I64; simp only []; omega
                have HOK := Lib.hid hok
                have HM : Hid (mayW ⟨g, 0, k⟩ = true) := Lib.hid (by simp [mayW]; omega)
                clear hok
                obtain ⟨c0, c1, c2⟩ := HV.out.box.cells3
                have hlens := HV.out.len
                have hln9 : ln ≤ 9 := by omega
                have hhn9 : hn ≤ 9 := by omega
                have hq9 : Q.length ≤ 9 := by omega
                have HLN := Lib.hid hlens
                clear hlens
                have hbg : (bb == g) = false := by rw [beq_eq_false_iff_ne]; exact hg0
                have HG0 := Lib.hid hg0
                clear hg0
                have HHW := Lib.hid hh
                clear hh
                have LI0 := Lib.hid (HV.out.line.toInts (i64_map HV.out.q.ok))
                have HDo := Lib.hid (Do_any 1 bb la ln lc Q ⟨g, 0, k⟩ wr HV.out.q HOK.out ⟨by omega, by omega⟩ HV.out.right HM.out)
                rw [show doZ 1 bb Q ⟨g, 0, k⟩ = (0, 0, [], 0, 7) from by simp [doZ, HG0.out, HHW.out]] at HDo
                simp only [] at HDo
                unfold GotD at HDo
                go_wp2_with fail
                refine HDo.out.mono ?_
                rintro e w1 ⟨qa, ql, qc, rfl, hq, hb, hfr⟩
                have hbx := below_alloc w1 (.cells #[.int .i64 0, .int .i64 0, .slice qa ql qc] 24)
                have HBQ := Lib.hid (hb.trans (Below.mono hbx hb.size))
                have HAW := Lib.hid hb.size
                have HQ := Lib.hid (hq.below hbx); have HFQ := Lib.hid hfr
                have LI := Lib.hid (LI0.out.below HBQ.out)
                have HV1 := Lib.hid (HV.out.below HBQ.out)
                have A1 := Lib.hid (Bx.new w1 #[.int .i64 0, .int .i64 0, .slice qa ql qc] 24)
                clear c0 c1 c2 hq hb hfr HDo hbx LI0
                go_wp2_with fail
                obtain ⟨X1, hX1⟩ : ∃ x, x = w1.alloc (.cells #[.int .i64 0, .int .i64 0, .slice qa ql qc] 24) := ⟨_, rfl⟩
                obtain ⟨BA, hBA⟩ : ∃ x, x = w1.heap.size := ⟨_, rfl⟩
                rw [← hX1] at HBQ HQ LI HV1 A1 ⊢
                rw [← hBA] at A1 HAW ⊢
                clear hX1 hBA
                obtain ⟨a0, a1, a2⟩ := A1.out.cells3
                obtain ⟨c0, c1, c2⟩ := HV1.out.box.cells3
                have lB := HV1.out.box.lt
                have f0 := HV1.out.box.froz 0; have f1 := HV1.out.box.froz 1; have f2 := HV1.out.box.froz 2
                go_loop [19, 100] (fun wv i => ∃ j : Nat, j ≤ hn ∧ i = .int .i64 j ∧ wv = .bool (hasI ((Q.map Wt.g).take j) g)) (fun _ i => hn - (intOf i).toNat)
                case atStart => exact ⟨0, Nat.zero_le _, rfl, rfl⟩
                case round =>
                  obtain ⟨j, hj, rfl, rfl⟩ := hrel
                  by_cases hlj : j < hn
                  · have hlj' : (j : Int) < (hn : Int) := by omega
                    obtain ⟨wb, woff, rfl, hc⟩ := LI.out.cell j hlj
                    obtain ⟨y, hy⟩ : ∃ y, y = en (Q.map Wt.g) j := ⟨_, rfl⟩
                    have hjL : j < (Q.map Wt.g).length := by rw [LI.out.len_eq]; exact hlj
                    have HTK := Lib.hid (show (Q.map Wt.g).take (j + 1) = (Q.map Wt.g).take j ++ [y] by rw [List.take_add_one, List.getElem?_eq_getElem hjL, hy, en_get (Q.map Wt.g) j hjL]; rfl)
                    have HSN := Lib.hid (hasI_snoc ((Q.map Wt.g).take j) y g)
                    rw [← hy] at hc
                    clear hy hjL
                    cases h1 : hasI ((Q.map Wt.g).take j) g <;> cases h2 : (y == g)
                    all_goals
                      have R := Lib.hid (show hasI ((Q.map Wt.g).take (j + 1)) g = _ by rw [HTK.out, HSN.out, h1, h2])
                      clear h1
                      go_wp2_with fail
                      go_round
                      case rel => exact ⟨j + 1, by omega, by go_num, by rw [R.out]; rfl⟩
                      case measure => simp [intOf]; omega
                  · have hje : hn ≤ j := by omega
                    have hje' : (hn : Int) ≤ (j : Int) := by omega
                    have HTT := Lib.hid (show (Q.map Wt.g).take j = Q.map Wt.g from List.take_of_length_le (by rw [LI.out.len_eq]; exact hje))
                    have HHI := Lib.hid (show hasI ((Q.map Wt.g).take j) g = hasW Q g 0 by rw [HTT.out]; exact hasI_map (fun x hx => (HV.out.small x hx).1) g)
                    rw [HHI.out, HHW.out]
                    clear hje hje'
                    go_wp2_with fail
                    have HRt := Lib.hid (ORight_any 1 bb la ln lc Q _ HV1.out.q ⟨by omega, by omega⟩ ⟨by omega, by omega⟩)
                    rw [HV1.out.right] at HRt
                    refine HRt.out.mono ?_
                    rintro e wz ⟨rfl, hb⟩
                    have HZ := Lib.hid (HV1.out.below hb)
                    clear hb HRt
                    go_wp2_with fail
                    go_roundg (gk - 1)
                    case measure => omega
                    case rel => exact ORel.go (k + 1) 1 bb bb 1 false la ln lc Q ha _ hcap (by omega) (.inr (.inl ⟨rfl, rfl, by omega, by omega, rfl, rfl⟩)) HZ.out
              | false =>
                skip
                have hok : WtOk ⟨g, 0, k⟩ := by unfold WtOk I64; simp only []; omega
                have HOK := Lib.hid hok
                have HM : Hid (mayW ⟨g, 0, k⟩ = true) := Lib.hid (by simp [mayW]; omega)
                clear hok
                obtain ⟨c0, c1, c2⟩ := HV.out.box.cells3
                have hlens := HV.out.len
                have hln9 : ln ≤ 9 := by omega
                have hhn9 : hn ≤ 9 := by omega
                have hq9 : Q.length ≤ 9 := by omega
                have HLN := Lib.hid hlens
                clear hlens
                have hbg : (bb == g) = false := by rw [beq_eq_false_iff_ne]; exact hg0
                have HG0 := Lib.hid hg0
                clear hg0
                have HHW := Lib.hid hh
                clear hh
                have LI0 := Lib.hid (HV.out.line.toInts (i64_map HV.out.q.ok))
                have HDo := Lib.hid (Do_any 1 bb la ln lc Q ⟨g, 0, k⟩ wr HV.out.q HOK.out ⟨by omega, by omega⟩ HV.out.right HM.out)
                rw [show doZ 1 bb Q ⟨g, 0, k⟩ = (1, bb, (Q ++ [⟨g, 0, k⟩]), 1, 0) from by simp only [doZ]; rw [if_neg (by decide), if_neg (by decide), if_neg HG0.out, if_neg (by rw [HHW.out]; simp), if_neg (by omega)]] at HDo
                simp only [] at HDo
                unfold GotD at HDo
                go_wp2_with fail
                refine HDo.out.mono ?_
                rintro e w1 ⟨qa, ql, qc, rfl, hq, hb, hfr⟩
                have hbx := below_alloc w1 (.cells #[.int .i64 1, .int .i64 bb, .slice qa ql qc] 24)
                have HBQ := Lib.hid (hb.trans (Below.mono hbx hb.size))
                have HAW := Lib.hid hb.size
                have HQ := Lib.hid (hq.below hbx); have HFQ := Lib.hid hfr
                have LI := Lib.hid (LI0.out.below HBQ.out)
                have HV1 := Lib.hid (HV.out.below HBQ.out)
                have A1 := Lib.hid (Bx.new w1 #[.int .i64 1, .int .i64 bb, .slice qa ql qc] 24)
                clear c0 c1 c2 hq hb hfr HDo hbx LI0
                go_wp2_with fail
                obtain ⟨X1, hX1⟩ : ∃ x, x = w1.alloc (.cells #[.int .i64 1, .int .i64 bb, .slice qa ql qc] 24) := ⟨_, rfl⟩
                obtain ⟨BA, hBA⟩ : ∃ x, x = w1.heap.size := ⟨_, rfl⟩
                rw [← hX1] at HBQ HQ LI HV1 A1 ⊢
                rw [← hBA] at A1 HAW ⊢
                clear hX1 hBA
                obtain ⟨a0, a1, a2⟩ := A1.out.cells3
                obtain ⟨c0, c1, c2⟩ := HV1.out.box.cells3
                have lB := HV1.out.box.lt
                have f0 := HV1.out.box.froz 0; have f1 := HV1.out.box.froz 1; have f2 := HV1.out.box.froz 2
                go_loop [19, 100] (fun wv i => ∃ j : Nat, j ≤ hn ∧ i = .int .i64 j ∧ wv = .bool (hasI ((Q.map Wt.g).take j) g)) (fun _ i => hn - (intOf i).toNat)
                case atStart => exact ⟨0, Nat.zero_le _, rfl, rfl⟩
                case round =>
                  obtain ⟨j, hj, rfl, rfl⟩ := hrel
                  by_cases hlj : j < hn
                  · have hlj' : (j : Int) < (hn : Int) := by omega
                    obtain ⟨wb, woff, rfl, hc⟩ := LI.out.cell j hlj
                    obtain ⟨y, hy⟩ : ∃ y, y = en (Q.map Wt.g) j := ⟨_, rfl⟩
                    have hjL : j < (Q.map Wt.g).length := by rw [LI.out.len_eq]; exact hlj
                    have HTK := Lib.hid (show (Q.map Wt.g).take (j + 1) = (Q.map Wt.g).take j ++ [y] by rw [List.take_add_one, List.getElem?_eq_getElem hjL, hy, en_get (Q.map Wt.g) j hjL]; rfl)
                    have HSN := Lib.hid (hasI_snoc ((Q.map Wt.g).take j) y g)
                    rw [← hy] at hc
                    clear hy hjL
                    cases h1 : hasI ((Q.map Wt.g).take j) g <;> cases h2 : (y == g)
                    all_goals
                      have R := Lib.hid (show hasI ((Q.map Wt.g).take (j + 1)) g = _ by rw [HTK.out, HSN.out, h1, h2])
                      clear h1
                      go_wp2_with fail
                      go_round
                      case rel => exact ⟨j + 1, by omega, by go_num, by rw [R.out]; rfl⟩
                      case measure => simp [intOf]; omega
                  · have hje : hn ≤ j := by omega
                    have hje' : (hn : Int) ≤ (j : Int) := by omega
                    have HTT := Lib.hid (show (Q.map Wt.g).take j = Q.map Wt.g from List.take_of_length_le (by rw [LI.out.len_eq]; exact hje))
                    have HHI := Lib.hid (show hasI ((Q.map Wt.g).take j) g = hasW Q g 0 by rw [HTT.out]; exact hasI_map (fun x hx => (HV.out.small x hx).1) g)
                    rw [HHI.out, HHW.out]
                    clear hje hje'
                    clear c0 c1 c2 f0 f1 f2 lB a0 a1 a2
                    go_wp2_with (at_builtin; refine wpList_append_cut rfl _ _ rfl (BO + 1) ha _ hcap (Q.map Wt.g) rfl (HV1.out.line.below (below_alloc X1 _)) (by have := HV1.out.box.lt; simp; omega) ⟨X1.heap.size, 0, none⟩ 1 g rfl (by simp) (by omega) ?_; intro a4 cap4 w4 hcut hgr hrow; have hB4 : Hid (Bx w4 BO #[.int .i64 1, .int .i64 bb, .slice la ln lc] 24) := Lib.hid (((hgr.out.block BO (by have := HV1.out.box.lt; simp; omega) (fun e => by have := (HV1.out.line.row_lt e.symm).1; omega)).trans (Below.heap_alloc X1 _ _ HV1.out.box.lt)).trans HV1.out.box); have hA4 : Hid (Bx w4 BA #[.int .i64 1, .int .i64 bb, .slice qa ql qc] 24) := Lib.hid (((hgr.out.block BA (by have := A1.out.lt; simp; omega) (fun e => by have h1 := (HV.out.line.row_lt e.symm).2; have h2 := HAW.out; omega)).trans (Below.heap_alloc X1 _ _ A1.out.lt)).trans A1.out); obtain ⟨c0, c1, c2⟩ := hB4.out.cells3; obtain ⟨a0, a1, a2⟩ := hA4.out.cells3; have lB := hB4.out.lt; have f0 := hB4.out.froz 0; have f1 := hB4.out.froz 1; have f2 := hB4.out.froz 2)
                    have hQ4 := Lib.hid ((HQ.out.below (below_alloc X1 (.cells #[.int .i64 g] 3))).grown hgr.out (fun x hx e => by have h1 := HFQ.out x hx; have h2 := (HV.out.line.row_lt e.symm).2; omega))
                    have hBel4 := Lib.hid (Below.grown (belowX_alloc HV1.out.bel (.cells #[.int .i64 g] 3)) hgr.out (by have := HV1.out.bel.size; simp; omega) (fun r hr => by have h1 := (HV1.out.line.row_lt hr).1; have h2 := HV.out.bl; omega))
                    have hL4 : Hid (Cut w4 (BO + 1) a4 _ cap4 ((Q ++ [(⟨g, 0, k⟩ : Wt)]).map Wt.g)) := Lib.hid (by have h := hcut.out; rw [List.map_append]; exact h)
                    obtain ⟨X2, hX2⟩ : ∃ x, x = set3c w4 BO (.int .i64 1) (.int .i64 bb) (.slice qa ql qc) := ⟨_, rfl⟩
                    have HI : Hid (OInv w X2 BO 1 bb qa ql qc (Q ++ [⟨g, 0, k⟩]) a4 _ cap4) := Lib.hid (by
                      rw [hX2]
                      refine ⟨hB4.out.set3 _ _ _, hQ4.out.other BO (fun x hx e => by have h1 := HFQ.out x hx; have h2 := HV.out.box.lt; omega) (fun g hg => set3_other _ _ _ _ _ g hg), hL4.out.kept (fun x hx hp => ?_), below_set3 hBel4.out HV.out.bl _ _ _, HV.out.bl, ro_snoc HV.out.right (by omega) HM.out HHW.out HG0.out, fun x hx => ?_⟩
                      · have hr : rowB a4 cap4 = some x.block := by unfold rowB; rw [if_pos hp, hx]; rfl
                        have := (hL4.out.row_lt hr).1
                        exact set3_other _ _ _ _ _ x.block (by omega)
                      · rcases List.mem_append.1 hx with hx | hx
                        · exact HV.out.small x hx
                        · simp at hx; subst hx; exact ⟨rfl, by simp only []; omega⟩)
                    unfold set3c set2c at hX2
                    rw [← hX2]
                    clear hX2 c0 c1 c2 f0 f1 f2 lB a0 a1 a2 hcut hgr hrow hQ4 hBel4 hL4 hB4 hA4
                    have HRt := Lib.hid (ORight_any 1 bb qa ql qc (Q ++ [⟨g, 0, k⟩]) _ HI.out.q ⟨by omega, by omega⟩ ⟨by omega, by omega⟩)
                    rw [HI.out.right] at HRt
                    refine HRt.out.mono ?_
                    rintro e wz ⟨rfl, hb⟩
                    have HZ := Lib.hid (HI.out.below hb)
                    clear hb HRt
                    go_wp2_with fail
                    go_roundg (gk - 1)
                    case measure => omega
                    case rel => exact ORel.go (k + 1) 1 bb bb 1 false qa ql qc (Q ++ [⟨g, 0, k⟩]) a4 _ cap4 (by omega) (.inr (.inl ⟨rfl, rfl, by omega, by omega, rfl, rfl⟩)) HZ.out
          · skip
            have hok : WtOk ⟨g, 0, k⟩ := by unfold WtOk I64; simp only []; omega
            have HOK := Lib.hid hok
            have HM : Hid (mayW ⟨g, 0, k⟩ = true) := Lib.hid (by simp [mayW]; omega)
            clear hok
            obtain ⟨c0, c1, c2⟩ := HV.out.box.cells3
            obtain rfl := q_no HV.out.right (by decide)
            have hlens := HV.out.len
            obtain rfl : ln = 0 := by simpa using hlens.1
            obtain rfl : hn = 0 := by simpa using hlens.2.1
            clear hlens
            have HHW := Lib.hid (show hasW [] g 0 = false from rfl)
            have LI0 := Lib.hid (HV.out.line.toInts (i64_map HV.out.q.ok))
            have HDo := Lib.hid (Do_any 2 0 la 0 lc [] ⟨g, 0, k⟩ wr HV.out.q HOK.out ⟨by omega, by omega⟩ HV.out.right HM.out)
            rw [show doZ 2 0 [] ⟨g, 0, k⟩ = (2, 0, [], 2, 0) from rfl] at HDo
            simp only [] at HDo
            unfold GotD at HDo
            go_wp2_with fail
            refine HDo.out.mono ?_
            rintro e w1 ⟨qa, ql, qc, rfl, hq, hb, hfr⟩
            have hbx := below_alloc w1 (.cells #[.int .i64 2, .int .i64 0, .slice qa ql qc] 24)
            have HBQ := Lib.hid (hb.trans (Below.mono hbx hb.size))
            have HAW := Lib.hid hb.size
            have HQ := Lib.hid (hq.below hbx); have HFQ := Lib.hid hfr
            have LI := Lib.hid (LI0.out.below HBQ.out)
            have HV1 := Lib.hid (HV.out.below HBQ.out)
            have A1 := Lib.hid (Bx.new w1 #[.int .i64 2, .int .i64 0, .slice qa ql qc] 24)
            clear c0 c1 c2 hq hb hfr HDo hbx LI0
            go_wp2_with fail
            obtain ⟨X1, hX1⟩ : ∃ x, x = w1.alloc (.cells #[.int .i64 2, .int .i64 0, .slice qa ql qc] 24) := ⟨_, rfl⟩
            obtain ⟨BA, hBA⟩ : ∃ x, x = w1.heap.size := ⟨_, rfl⟩
            rw [← hX1] at HBQ HQ LI HV1 A1 ⊢
            rw [← hBA] at A1 HAW ⊢
            clear hX1 hBA
            obtain ⟨a0, a1, a2⟩ := A1.out.cells3
            obtain ⟨c0, c1, c2⟩ := HV1.out.box.cells3
            have lB := HV1.out.box.lt
            have f0 := HV1.out.box.froz 0; have f1 := HV1.out.box.froz 1; have f2 := HV1.out.box.froz 2
            go_loop [19, 100] (fun wv i => ∃ j : Nat, j ≤ 0 ∧ i = .int .i64 j ∧ wv = .bool (hasI (([].map Wt.g).take j) g)) (fun _ i => 0 - (intOf i).toNat)
            case atStart => exact ⟨0, Nat.zero_le _, rfl, rfl⟩
            case round =>
              obtain ⟨j, hj, rfl, rfl⟩ := hrel
              by_cases hlj : j < 0
              · have hlj' : (j : Int) < (0 : Int) := by omega
                obtain ⟨wb, woff, rfl, hc⟩ := LI.out.cell j hlj
                obtain ⟨y, hy⟩ : ∃ y, y = en ([].map Wt.g) j := ⟨_, rfl⟩
                have hjL : j < ([].map Wt.g).length := by rw [LI.out.len_eq]; exact hlj
                have HTK := Lib.hid (show ([].map Wt.g).take (j + 1) = ([].map Wt.g).take j ++ [y] by rw [List.take_add_one, List.getElem?_eq_getElem hjL, hy, en_get ([].map Wt.g) j hjL]; rfl)
                have HSN := Lib.hid (hasI_snoc (([].map Wt.g).take j) y g)
                rw [← hy] at hc
                clear hy hjL
                cases h1 : hasI (([].map Wt.g).take j) g <;> cases h2 : (y == g)
                all_goals
                  have R := Lib.hid (show hasI (([].map Wt.g).take (j + 1)) g = _ by rw [HTK.out, HSN.out, h1, h2])
                  clear h1
                  go_wp2_with fail
                  go_round
                  case rel => exact ⟨j + 1, by omega, by go_num, by rw [R.out]; rfl⟩
                  case measure => simp [intOf]; omega
              · have hje : 0 ≤ j := by omega
                have hje' : (0 : Int) ≤ (j : Int) := by omega
                have HTT := Lib.hid (show ([].map Wt.g).take j = [].map Wt.g from List.take_of_length_le (by rw [LI.out.len_eq]; exact hje))
                have HHI := Lib.hid (show hasI (([].map Wt.g).take j) g = hasW [] g 0 by rw [HTT.out]; exact hasI_map (fun x hx => (HV.out.small x hx).1) g)
                rw [HHI.out, HHW.out]
                clear hje hje'
                have hP := Lib.hid (HV.out.put HBQ.out 2 0 qa ql qc [] HQ.out HFQ.out)
                go_wp2_with fail
                obtain ⟨X2, hX2⟩ : ∃ x, x = set3c X1 BO (.int .i64 2) (.int .i64 0) (.slice qa ql qc) := ⟨_, rfl⟩
                have HI : Hid (OInv w X2 BO 2 0 qa ql qc [] ha 0 hcap) := Lib.hid (by rw [hX2]; exact ⟨hP.out.1, hP.out.2.1, hP.out.2.2.1, hP.out.2.2.2, HV.out.bl, ro_done, fun x hx => by simp at hx⟩)
                unfold set3c set2c at hX2
                rw [← hX2]
                clear hX2 c0 c1 c2 f0 f1 f2 lB a0 a1 a2 hP
                have hql : ql = 0 := by simpa using HI.out.len.1
                subst hql
                have HRt := Lib.hid (ORight_any 2 0 qa 0 qc [] _ HI.out.q ⟨by omega, by omega⟩ ⟨by omega, by omega⟩)
                rw [HI.out.right] at HRt
                refine HRt.out.mono ?_
                rintro e wz ⟨rfl, hb⟩
                have HZ := Lib.hid (HI.out.below hb)
                clear hb HRt
                go_wp2_with fail
                go_roundg (gk - 1)
                case measure => omega
                case rel => exact ORel.go (k + 1) 2 0 by_ 1 true qa 0 qc [] ha 0 hcap (by omega) (.inr (.inr ⟨rfl, rfl, by omega, by omega, rfl, rfl⟩)) HZ.out
      · have hkn : k = l1 := by omega
        subst hkn
        go_wp2_with fail
        refine (alive_any _).mono ?_
        rintro e w1 ⟨rfl, hb⟩
        have HB1 := Lib.hid (HV.out.bel.trans (Below.mono hb HV.out.bel.size))
        clear hb
        go_wp2_with fail
        go_ret
        exact ⟨rfl, HB1.out⟩
end Go.Proofs.Ytnmopfimmindnaa
