/- LocksOrder: the walk. -/
import Derived.Test.YtipjdkaibkmciaaAlive
import Derived.Test.YtipjdkaibkmciaaCut
import Derived.Deep.LoopGhost
import Derived.Deep.DeepCutAuto
import Derived.BigQuiet
import Derived.Deep.QuietTactic
namespace Go.Proofs.Ytipjdkaibkmciaa
open Go.RowKit
def hasI (l : List Int) (g : Int) : Bool := l.any fun x => x == g
theorem hasI_snoc (l : List Int) (x g : Int) : hasI (l ++ [x]) g = (hasI l g || x == g) := by simp [hasI]
theorem hasI_map {Q : List Wt} (h : ∀ x ∈ Q, x.c = 0) (g : Int) : hasI (Q.map Wt.g) g = hasW Q g 0 := by
  unfold hasI hasW
  rw [List.any_map]
  induction Q with
  | nil => rfl
  | cons x xs ih =>
    have hx : x.c = 0 := h x (by simp)
    simp only [List.any_cons, Function.comp, hx]
    rw [ih (fun y hy => h y (List.mem_cons_of_mem _ hy))]
    simp
theorem Cut.row_lt {w : World} {base : Nat} {a : Option Addr} {n cap : Nat} {L : List Int} (h : Cut w base a n cap L) {r : Nat} (hr : rowB a cap = some r) : base ≤ r ∧ r < w.heap.size := by
  unfold rowB at hr
  split at hr
  · rename_i hp
    obtain ⟨b, off, cs, rfl, hb, hh, _⟩ := h.row hp
    simp at hr; subst hr
    exact ⟨hb, (Array.getElem?_eq_some_iff.1 hh).1⟩
  · simp at hr
structure LInv (w0 wr : World) (BL : Nat) (held : Bool) (la : Option Addr) (ln lc : Nat) (Q : List Wt) (ha : Option Addr) (hn hcap : Nat) : Prop where
  box : Bx wr BL #[.bool held, .slice la ln lc] 24
  q : Wts wr la ln lc Q
  line : Cut wr (BL + 1) ha hn hcap (Q.map Wt.g)
  bel : Below w0.heap.size w0 wr
  bl : w0.heap.size ≤ BL
  right : rightK held Q = true
  small : ∀ x ∈ Q, x.c = 0 ∧ x.g < 9
theorem LInv.below {w0 wr W : World} {BL : Nat} {held : Bool} {la : Option Addr} {ln lc : Nat} {Q : List Wt} {ha : Option Addr} {hn hcap : Nat} (h : LInv w0 wr BL held la ln lc Q ha hn hcap) (hb : Below wr.heap.size wr W) : LInv w0 W BL held la ln lc Q ha hn hcap :=
  ⟨h.box.below hb, h.q.below hb, h.line.below hb, h.bel.trans (Below.mono hb h.bel.size), h.bl, h.right, h.small⟩
theorem LInv.len {w0 wr : World} {BL : Nat} {held : Bool} {la : Option Addr} {ln lc : Nat} {Q : List Wt} {ha : Option Addr} {hn hcap : Nat} (h : LInv w0 wr BL held la ln lc Q ha hn hcap) : ln = Q.length ∧ hn = Q.length ∧ Q.length ≤ 9 := by
  refine ⟨h.q.recs.len_eq.symm, by have := h.line.len; simpa using this.symm, ?_⟩
  obtain ⟨_, h2, h3⟩ := right_pair.1 (rightK_W h.right)
  have hm : ∀ x ∈ Q, 0 ≤ x.g := fun x hx => by have := h2 x hx; simp [mayW] at this; omega
  have := nodup_le 9 (Q.map Wt.g) (by
    rw [List.nodup_iff_pairwise_ne, List.pairwise_map]
    refine List.Pairwise.imp_of_mem (fun {a b} ha hb hab => ?_) h3
    have a1 := (h.small a ha).1; have b1 := (h.small b hb).1
    unfold apartW at hab
    omega) (fun x hx => by
    obtain ⟨y, hy, rfl⟩ := List.mem_map.1 hx
    exact ⟨hm y hy, (h.small y hy).2⟩)
  simpa using this
/-- the box is written, and the queue is a new one; the line stays -/
theorem LInv.put {w0 wr W : World} {BL : Nat} {held : Bool} {la : Option Addr} {ln lc : Nat} {Q : List Wt} {ha : Option Addr} {hn hcap : Nat} (h : LInv w0 wr BL held la ln lc Q ha hn hcap) (hb : Below wr.heap.size wr W) (h2 : Bool) (qa : Option Addr) (ql qc : Nat) (Q2 : List Wt) (hq : Wts W qa ql qc Q2) (hf : ∀ x, qa = some x → wr.heap.size ≤ x.block) :
    Bx (set2c W BL (.bool h2) (.slice qa ql qc)) BL #[.bool h2, .slice qa ql qc] 24 ∧ Wts (set2c W BL (.bool h2) (.slice qa ql qc)) qa ql qc Q2 ∧ Cut (set2c W BL (.bool h2) (.slice qa ql qc)) (BL + 1) ha hn hcap (Q.map Wt.g) ∧ Below w0.heap.size w0 (set2c W BL (.bool h2) (.slice qa ql qc)) := by
  have hlt := h.box.lt
  refine ⟨(h.box.below hb).set2 _ _, hq.other BL (fun x hx e => by have := hf x hx; omega) (fun g hg => set2_other W BL (.bool h2) (.slice qa ql qc) g hg), ?_, below_set2 (h.bel.trans (Below.mono hb h.bel.size)) h.bl _ _⟩
  refine (h.line.below hb).kept (fun x hx hp => ?_)
  have hr : rowB ha hcap = some x.block := by unfold rowB; rw [if_pos hp, hx]; rfl
  have := (h.line.row_lt hr).1
  exact set2_other W BL (.bool h2) (.slice qa ql qc) x.block (by omega)
theorem right_nilK : rightK true [] = true := rk_nil true
theorem q_nil {Q : List Wt} (h : rightK false Q = true) : Q = [] := by
  unfold rightK at h; simp at h; exact h.2
theorem right_tailK {y : Wt} {ys : List Wt} (h : rightK true (y :: ys) = true) : rightK true ys = true := by
  have h1 := right_pair.1 (rightK_W h)
  obtain ⟨a, b, c⟩ := h1
  have : rightW ys = true := right_pair.2 ⟨by simp at a; omega, fun x hx => b x (List.mem_cons_of_mem _ hx), (List.pairwise_cons.1 c).2⟩
  simp [rightK, this]
theorem right_snocK {Q : List Wt} {x : Wt} (h : rightK true Q = true) (hl : Q.length < 64) (hm : mayW x = true) (hh : hasW Q x.g x.c = false) : rightK true (Q ++ [x]) = true := by
  have := right_snoc (rightK_W h) hl hm hh
  simp [rightK, this]
theorem mem_may {Q : List Wt} {held : Bool} (h : rightK held Q = true) : ∀ x ∈ Q, 0 ≤ x.g := fun x hx => by
  have := (right_pair.1 (rightK_W h)).2.1 x hx
  simp [mayW] at this; omega
theorem i64_map {Q : List Wt} (h : ∀ x ∈ Q, WtOk x) (i : Nat) : I64 (en (Q.map Wt.g) i) := by
  by_cases hi : i < (Q.map Wt.g).length
  · have := en_mem (Q.map Wt.g) i hi
    obtain ⟨y, hy, e⟩ := List.mem_map.1 this
    rw [← e]; exact (h y hy).1
  · rw [en_of_le _ i (by omega)]; exact ⟨by omega, by omega⟩
def LRel (w : World) (BL l1 g : Nat) (line hold tk gv i : Value) (wr : World) : Prop :=
  ∃ (k : Nat) (held : Bool) (la : Option Addr) (ln lc : Nat) (Q : List Wt) (ha : Option Addr) (hn hcap : Nat) (holder : Int) (given : Nat), k + g = l1 ∧ i = .int .i64 k ∧ line = .slice ha hn hcap ∧ hold = .int .i64 holder ∧ tk = .int .i64 ((given + cond held 1 0 : Nat) : Int) ∧ gv = .int .i64 given ∧ given ≤ k ∧ held = decide (0 ≤ holder) ∧ -1 ≤ holder ∧ holder < 9 ∧ LInv w wr BL held la ln lc Q ha hn hcap
theorem LRel.go {w wr : World} {BL l1 g : Nat} (k : Nat) (held : Bool) (la : Option Addr) (ln lc : Nat) (Q : List Wt) (ha : Option Addr) (hn hcap : Nat) (holder : Int) (given : Nat) (h1 : k + g = l1) (h2 : given ≤ k) (h3 : held = decide (0 ≤ holder)) (h4 : -1 ≤ holder) (h5 : holder < 9) (h6 : LInv w wr BL held la ln lc Q ha hn hcap) :
    LRel w BL l1 g (.slice ha hn hcap) (.int .i64 holder) (.int .i64 ((given + cond held 1 0 : Nat) : Int)) (.int .i64 given) (.int .i64 k) wr :=
  ⟨k, held, la, ln, lc, Q, ha, hn, hcap, holder, given, h1, rfl, rfl, rfl, rfl, rfl, h2, h3, h4, h5, h6⟩
set_option maxRecDepth 100000 in
set_option maxHeartbeats 8000000 in
theorem order_any (a : Option Addr) (len0 cap : Nat) (l0 : List Int) (w : World) (h0 : Ints w a len0 cap l0) :
    Calls Try.prog 4 #[.slice a len0 cap] w (Says w) := by
  have hlc := h0.le_cap
  have hcm := h0.cap_le
  unfold maxLen at hcm
  obtain ⟨l1, hl1⟩ : ∃ l1, l1 = min len0 150 := ⟨_, rfl⟩
  have h := h0.take 150
  rw [← hl1] at h
  obtain ⟨l, hL⟩ : ∃ L, L = l0.take 150 := ⟨_, rfl⟩
  rw [← hL] at h
  clear hL h0
  have hl100 : l1 ≤ 150 := by omega
  have HI0 := Lib.hid h; clear h
  have HMIN := Lib.hid hl1; clear hl1
  have B0 := Lib.hid (Bx.new w #[.bool false, .slice none 0 0] 24)
  go_enter Try.func4, Try.ntmps4
  go_upto_region 4 with (fail)
  obtain ⟨X0, hX0⟩ : ∃ x, x = w.alloc (.cells #[.bool false, .slice none 0 0] 24) := ⟨_, rfl⟩
  obtain ⟨BL, hBL⟩ : ∃ x, x = w.heap.size := ⟨_, rfl⟩
  have HBB := Lib.hid (below_alloc w (.cells #[.bool false, .slice none 0 0] 24))
  have HBL := Lib.hid (show w.heap.size ≤ BL by omega)
  rw [← hX0] at B0 HBB ⊢
  rw [← hBL] at B0 ⊢
  clear hX0 hBL
  go_cut [27, 28, 29] (fun s n i wx => s = .slice a l1 cap ∧ n = .int .i64 l1 ∧ i = .int .i64 0 ∧ X0 = wx)
  case first =>
    have hl1 := HMIN.out
    by_cases hs : len0 ≤ 150
    · have e : l1 = len0 := by omega
      subst e
      have h' : (l1 : Int) ≤ 150 := by omega
      clear hl1 HMIN
      go_wp2_with fail
      go_meet
      exact ⟨rfl, rfl, rfl, rfl⟩
    · have e : l1 = 150 := by omega
      subst e
      have h' : (150 : Int) < (len0 : Int) := by omega
      clear hl1 HMIN hs
      go_wp2_with fail
      go_meet
      exact ⟨rfl, rfl, rfl, rfl⟩
  case rest =>
    obtain ⟨rfl, rfl, rfl, rfl⟩ := hcut
    clear HMIN hlc
    go_wp2_with fail
    go_loopg [4, 5, 6, 7, 29] l1 (fun g line hold tk gv i wr => LRel w BL l1 g line hold tk gv i wr)
    case atStart => exact LRel.go 0 false none 0 0 [] none 0 0 (-1) 0 (by omega) (by omega) rfl (by omega) (by omega) ⟨B0.out, Wts.nil _, Cut.nil _ _, HBB.out, HBL.out, rk_nil false, fun x hx => by simp at hx⟩
    case round =>
      obtain ⟨k, held, la, ln, lc, Q, ha, hn, hcap, holder, given, hk, rfl, rfl, rfl, rfl, rfl, hgv, hhold, hho1, hho2, hinv⟩ := hrel
      have HV := Lib.hid hinv; clear hinv
      by_cases hlt : k < l1
      · have hlt' : (k : Int) < (l1 : Int) := by omega
        have HIW := Lib.hid (HI0.out.below HV.out.bel)
        obtain ⟨ib, ioff, rfl, hc⟩ := HIW.out.cell k hlt
        have hv0 := HIW.out.bound k
        obtain ⟨v, hv⟩ : ∃ v, v = en l k := ⟨_, rfl⟩
        rw [← hv] at hc hv0
        clear hv
        unfold I64 at hv0
        obtain ⟨m, hm1⟩ : ∃ m, (v.tdiv 2).tmod 9 = m := ⟨_, rfl⟩
        have hb1 : -9 < m := by rw [← hm1]; have := Int.lt_tmod_of_pos (v.tdiv 2) (show (0:Int) < 9 by omega); omega
        have hb2 : m < 9 := by rw [← hm1]; exact Int.tmod_lt_of_pos (v.tdiv 2) (by omega)
        go_upto_if 41 with (fail)
        clear hc hm1 hv0
        obtain ⟨g, hg⟩ : ∃ g, (m + 9) % 9 = g := ⟨_, rfl⟩
        have hg1 : 0 ≤ g := by omega
        have hg2 : g < 9 := by omega
        rw [hg]
        clear hg hb1 hb2
        cases hev : (v.tmod 2 == 0) with
        | true =>
          cases held with
          | false =>
            have hhn : ¬ (0 : Int) ≤ holder := by intro h; rw [decide_eq_true h] at hhold; cases hhold
            clear hhold
            have hok : WtOk ⟨g, 0, k⟩ := by unfold WtOk I64; simp only []; omega
            have HOK := Lib.hid hok
            have HM : Hid (mayW ⟨g, 0, k⟩ = true) := Lib.hid (by simp [mayW]; omega)
            clear hok
            obtain ⟨c0, c1⟩ := HV.out.box.cells2
            obtain rfl := q_nil HV.out.right
            have hlens := HV.out.len
            obtain rfl : ln = 0 := by simpa using hlens.1
            obtain rfl : hn = 0 := by simpa using hlens.2.1
            clear hlens
            have HHW := Lib.hid (show hasW [] g 0 = false from rfl)
            have LI0 := Lib.hid (HV.out.line.toInts (i64_map (fun x hx => by simp at hx)))
            have HTk := Lib.hid (Take_any false la 0 lc [] ⟨g, 0, k⟩ wr HV.out.q HOK.out HV.out.right HM.out)
            rw [show takeZ false [] ⟨g, 0, k⟩ = (true, [], true, 0) from rfl] at HTk
            simp only [] at HTk
            unfold GotT at HTk
            have hneg : holder < 0 := by omega
            go_wp2_with fail
            refine HTk.out.mono ?_
            rintro e w1 ⟨qa, ql, qc, rfl, hq, hb, hfr⟩
            have hbx := below_alloc w1 (.cells #[.bool true, .slice qa ql qc] 24)
            have HBQ := Lib.hid (hb.trans (Below.mono hbx hb.size))
            have HQ := Lib.hid (hq.below hbx); have HFQ := Lib.hid hfr
            have LI := Lib.hid (LI0.out.below HBQ.out)
            have HV1 := Lib.hid (HV.out.below HBQ.out)
            have A1 := Lib.hid (Bx.new w1 #[.bool true, .slice qa ql qc] 24)
            clear c0 c1 hq hb hfr HTk hbx LI0
            go_wp2_with fail
            obtain ⟨X1, hX1⟩ : ∃ x, x = w1.alloc (.cells #[.bool true, .slice qa ql qc] 24) := ⟨_, rfl⟩
            obtain ⟨BA, hBA⟩ : ∃ x, x = w1.heap.size := ⟨_, rfl⟩
            rw [← hX1] at HBQ HQ LI HV1 A1 ⊢
            rw [← hBA] at A1 ⊢
            clear hX1 hBA
            obtain ⟨a0, a1⟩ := A1.out.cells2
            go_loop [14, 53] (fun wv i => ∃ j : Nat, j ≤ 0 ∧ i = .int .i64 j ∧ wv = .bool (hasI (([].map Wt.g).take j) g)) (fun _ i => 0 - (intOf i).toNat)
            case atStart => exact ⟨0, Nat.zero_le _, rfl, rfl⟩
            case round =>
              obtain ⟨j, hj, rfl, rfl⟩ := hrel
              by_cases hlj : j < 0
              · have hlj' : (j : Int) < (0 : Int) := by omega
                obtain ⟨wb, woff, rfl, hc⟩ := LI.out.cell j hlj
                obtain ⟨y, hy⟩ : ∃ y, y = en ([].map Wt.g) j := ⟨_, rfl⟩
                have hjL : j < ([].map Wt.g).length := by rw [LI.out.len_eq]; exact hlj
                have HTK := Lib.hid (show ([].map Wt.g).take (j + 1) = ([].map Wt.g).take j ++ [y] by rw [List.take_add_one, List.getElem?_eq_getElem hjL, hy, en_get ([].map Wt.g) j hjL]; rfl)
                have HSN := Lib.hid (hasI_snoc (([].map Wt.g).take j) y g)
                rw [← hy] at hc
                clear hy hjL
                cases h1 : hasI (([].map Wt.g).take j) g <;> cases h2 : (y == g)
                all_goals
                  have R := Lib.hid (show hasI (([].map Wt.g).take (j + 1)) g = _ by rw [HTK.out, HSN.out, h1, h2])
                  clear h1
                  go_wp2_with fail
                  go_round
                  case rel => exact ⟨j + 1, by omega, by go_num, by rw [R.out]; rfl⟩
                  case measure => simp [intOf]; omega
              · have hje : 0 ≤ j := by omega
                have hje' : (0 : Int) ≤ (j : Int) := by omega
                have HTT := Lib.hid (show ([].map Wt.g).take j = [].map Wt.g from List.take_of_length_le (by rw [LI.out.len_eq]; exact hje))
                have HHI := Lib.hid (show hasI (([].map Wt.g).take j) g = hasW [] g 0 by rw [HTT.out]; exact hasI_map (fun x hx => (HV.out.small x hx).1) g)
                rw [HHI.out, HHW.out]
                have P := HV.out.put HBQ.out true qa ql qc [] HQ.out HFQ.out
                have hP := Lib.hid P; clear P
                obtain ⟨c0, c1⟩ := HV1.out.box.cells2
                have lB := HV1.out.box.lt
                have f0 := HV1.out.box.froz 0; have f1 := HV1.out.box.froz 1
                go_wp2_with fail
                obtain ⟨X2, hX2⟩ : ∃ x, x = set2c X1 BL (.bool true) (.slice qa ql qc) := ⟨_, rfl⟩
                have HI : Hid (LInv w X2 BL true qa ql qc [] ha 0 hcap) := Lib.hid (by rw [hX2]; exact ⟨hP.out.1, hP.out.2.1, hP.out.2.2.1, hP.out.2.2.2, HV.out.bl, rk_nil true, fun x hx => by simp at hx⟩)
                unfold set2c at hX2
                rw [← hX2]
                clear hX2 c0 c1 f0 f1 lB a0 a1 hP
                have hql : ql = 0 := by simpa using HI.out.len.1
                subst hql
                have HWt := Lib.hid (Waiting_any true qa 0 qc [] _ HI.out.q HI.out.right)
                refine HWt.out.mono ?_
                rintro e wz ⟨rfl, hb⟩
                have HZ := Lib.hid (HI.out.below hb)
                clear hb HWt
                obtain ⟨c0, c1⟩ := HZ.out.box.cells2
                go_wp2_with fail
                go_roundg (gk - 1)
                case measure => omega
                case rel => exact LRel.go (k + 1) true qa 0 qc [] ha 0 hcap g given (by omega) (by omega) (by first | rfl | (symm; rw [decide_eq_true_eq]; omega) | (symm; rw [decide_eq_false_iff_not]; omega)) (by omega) (by omega) HZ.out
          | true =>
            have hhn : (0 : Int) ≤ holder := of_decide_eq_true hhold.symm
            cases hh : hasW Q g 0 with
            | true =>
              clear hhold
              have hok : WtOk ⟨g, 0, k⟩ := by unfold WtOk I64; simp only []; omega
              have HOK := Lib.hid hok
              have HM : Hid (mayW ⟨g, 0, k⟩ = true) := Lib.hid (by simp [mayW]; omega)
              clear hok
              obtain ⟨c0, c1⟩ := HV.out.box.cells2
              have HHW := Lib.hid hh
              have hlens := HV.out.len
              have hln9 : ln ≤ 9 := by omega
              have hhn9 : hn ≤ 9 := by omega
              have hq9 : Q.length ≤ 9 := by omega
              have HLN := Lib.hid hlens
              clear hlens
              have LI0 := Lib.hid (HV.out.line.toInts (i64_map HV.out.q.ok))
              have HTk := Lib.hid (Take_any true la ln lc Q ⟨g, 0, k⟩ wr HV.out.q HOK.out HV.out.right HM.out)
              rw [show takeZ true Q ⟨g, 0, k⟩ = (false, [], false, 7) from by simp [takeZ, hh]] at HTk
              simp only [] at HTk
              unfold GotT at HTk
              clear hh
              go_wp2_with fail
              refine HTk.out.mono ?_
              rintro e w1 ⟨qa, ql, qc, rfl, hq, hb, hfr⟩
              have hbx := below_alloc w1 (.cells #[.bool false, .slice qa ql qc] 24)
              have HBQ := Lib.hid (hb.trans (Below.mono hbx hb.size))
              have HQ := Lib.hid (hq.below hbx); have HFQ := Lib.hid hfr
              have LI := Lib.hid (LI0.out.below HBQ.out)
              have HV1 := Lib.hid (HV.out.below HBQ.out)
              have A1 := Lib.hid (Bx.new w1 #[.bool false, .slice qa ql qc] 24)
              clear c0 c1 hq hb hfr HTk hbx LI0
              go_wp2_with fail
              obtain ⟨X1, hX1⟩ : ∃ x, x = w1.alloc (.cells #[.bool false, .slice qa ql qc] 24) := ⟨_, rfl⟩
              obtain ⟨BA, hBA⟩ : ∃ x, x = w1.heap.size := ⟨_, rfl⟩
              rw [← hX1] at HBQ HQ LI HV1 A1 ⊢
              rw [← hBA] at A1 ⊢
              clear hX1 hBA
              obtain ⟨a0, a1⟩ := A1.out.cells2
              go_loop [14, 53] (fun wv i => ∃ j : Nat, j ≤ hn ∧ i = .int .i64 j ∧ wv = .bool (hasI ((Q.map Wt.g).take j) g)) (fun _ i => hn - (intOf i).toNat)
              case atStart => exact ⟨0, Nat.zero_le _, rfl, rfl⟩
              case round =>
                obtain ⟨j, hj, rfl, rfl⟩ := hrel
                by_cases hlj : j < hn
                · have hlj' : (j : Int) < (hn : Int) := by omega
                  obtain ⟨wb, woff, rfl, hc⟩ := LI.out.cell j hlj
                  obtain ⟨y, hy⟩ : ∃ y, y = en (Q.map Wt.g) j := ⟨_, rfl⟩
                  have hjL : j < (Q.map Wt.g).length := by rw [LI.out.len_eq]; exact hlj
                  have HTK := Lib.hid (show (Q.map Wt.g).take (j + 1) = (Q.map Wt.g).take j ++ [y] by rw [List.take_add_one, List.getElem?_eq_getElem hjL, hy, en_get (Q.map Wt.g) j hjL]; rfl)
                  have HSN := Lib.hid (hasI_snoc ((Q.map Wt.g).take j) y g)
                  rw [← hy] at hc
                  clear hy hjL
                  cases h1 : hasI ((Q.map Wt.g).take j) g <;> cases h2 : (y == g)
                  all_goals
                    have R := Lib.hid (show hasI ((Q.map Wt.g).take (j + 1)) g = _ by rw [HTK.out, HSN.out, h1, h2])
                    clear h1
                    go_wp2_with fail
                    go_round
                    case rel => exact ⟨j + 1, by omega, by go_num, by rw [R.out]; rfl⟩
                    case measure => simp [intOf]; omega
                · have hje : hn ≤ j := by omega
                  have hje' : (hn : Int) ≤ (j : Int) := by omega
                  have HTT := Lib.hid (show (Q.map Wt.g).take j = Q.map Wt.g from List.take_of_length_le (by rw [LI.out.len_eq]; exact hje))
                  have HHI := Lib.hid (show hasI ((Q.map Wt.g).take j) g = hasW Q g 0 by rw [HTT.out]; exact hasI_map (fun x hx => (HV.out.small x hx).1) g)
                  rw [HHI.out, HHW.out]
                  go_wp2_with fail
                  go_roundg (gk - 1)
                  case measure => omega
                  case rel => exact LRel.go (k + 1) true la ln lc Q ha _ hcap holder given (by omega) (by omega) (by symm; rw [decide_eq_true_eq]; omega) (by omega) (by omega) HV1.out
            | false =>
              clear hhold
              have hok : WtOk ⟨g, 0, k⟩ := by unfold WtOk I64; simp only []; omega
              have HOK := Lib.hid hok
              have HM : Hid (mayW ⟨g, 0, k⟩ = true) := Lib.hid (by simp [mayW]; omega)
              clear hok
              obtain ⟨c0, c1⟩ := HV.out.box.cells2
              have HHW := Lib.hid hh
              have hlens := HV.out.len
              have hln9 : ln ≤ 9 := by omega
              have hhn9 : hn ≤ 9 := by omega
              have hq9 : Q.length ≤ 9 := by omega
              have HLN := Lib.hid hlens
              clear hlens
              have LI0 := Lib.hid (HV.out.line.toInts (i64_map HV.out.q.ok))
              have HTk := Lib.hid (Take_any true la ln lc Q ⟨g, 0, k⟩ wr HV.out.q HOK.out HV.out.right HM.out)
              rw [show takeZ true Q ⟨g, 0, k⟩ = (true, Q ++ [⟨g, 0, k⟩], false, 0) from by simp only [takeZ, hh]; rw [if_neg (by simp), if_neg (by simp), if_neg (by omega)]] at HTk
              simp only [] at HTk
              unfold GotT at HTk
              clear hh
              go_wp2_with fail
              refine HTk.out.mono ?_
              rintro e w1 ⟨qa, ql, qc, rfl, hq, hb, hfr⟩
              have hbx := below_alloc w1 (.cells #[.bool true, .slice qa ql qc] 24)
              have HBQ := Lib.hid (hb.trans (Below.mono hbx hb.size))
              have HQ := Lib.hid (hq.below hbx); have HFQ := Lib.hid hfr
              have LI := Lib.hid (LI0.out.below HBQ.out)
              have HV1 := Lib.hid (HV.out.below HBQ.out)
              have A1 := Lib.hid (Bx.new w1 #[.bool true, .slice qa ql qc] 24)
              clear c0 c1 hq hb hfr HTk hbx LI0
              go_wp2_with fail
              obtain ⟨X1, hX1⟩ : ∃ x, x = w1.alloc (.cells #[.bool true, .slice qa ql qc] 24) := ⟨_, rfl⟩
              obtain ⟨BA, hBA⟩ : ∃ x, x = w1.heap.size := ⟨_, rfl⟩
              rw [← hX1] at HBQ HQ LI HV1 A1 ⊢
              rw [← hBA] at A1 ⊢
              clear hX1 hBA
              obtain ⟨a0, a1⟩ := A1.out.cells2
              go_loop [14, 53] (fun wv i => ∃ j : Nat, j ≤ hn ∧ i = .int .i64 j ∧ wv = .bool (hasI ((Q.map Wt.g).take j) g)) (fun _ i => hn - (intOf i).toNat)
              case atStart => exact ⟨0, Nat.zero_le _, rfl, rfl⟩
              case round =>
                obtain ⟨j, hj, rfl, rfl⟩ := hrel
                by_cases hlj : j < hn
                · have hlj' : (j : Int) < (hn : Int) := by omega
                  obtain ⟨wb, woff, rfl, hc⟩ := LI.out.cell j hlj
                  obtain ⟨y, hy⟩ : ∃ y, y = en (Q.map Wt.g) j := ⟨_, rfl⟩
                  have hjL : j < (Q.map Wt.g).length := by rw [LI.out.len_eq]; exact hlj
                  have HTK := Lib.hid (show (Q.map Wt.g).take (j + 1) = (Q.map Wt.g).take j ++ [y] by rw [List.take_add_one, List.getElem?_eq_getElem hjL, hy, en_get (Q.map Wt.g) j hjL]; rfl)
                  have HSN := Lib.hid (hasI_snoc ((Q.map Wt.g).take j) y g)
                  rw [← hy] at hc
                  clear hy hjL
                  cases h1 : hasI ((Q.map Wt.g).take j) g <;> cases h2 : (y == g)
                  all_goals
                    have R := Lib.hid (show hasI ((Q.map Wt.g).take (j + 1)) g = _ by rw [HTK.out, HSN.out, h1, h2])
                    clear h1
                    go_wp2_with fail
                    go_round
                    case rel => exact ⟨j + 1, by omega, by go_num, by rw [R.out]; rfl⟩
                    case measure => simp [intOf]; omega
                · have hje : hn ≤ j := by omega
                  have hje' : (hn : Int) ≤ (j : Int) := by omega
                  have HTT := Lib.hid (show (Q.map Wt.g).take j = Q.map Wt.g from List.take_of_length_le (by rw [LI.out.len_eq]; exact hje))
                  have HHI := Lib.hid (show hasI ((Q.map Wt.g).take j) g = hasW Q g 0 by rw [HTT.out]; exact hasI_map (fun x hx => (HV.out.small x hx).1) g)
                  rw [HHI.out, HHW.out]
                  have P := HV.out.put HBQ.out true qa ql qc (Q ++ [⟨g, 0, k⟩]) HQ.out HFQ.out
                  have hP := Lib.hid P; clear P
                  obtain ⟨c0, c1⟩ := HV1.out.box.cells2
                  have lB := HV1.out.box.lt
                  have f0 := HV1.out.box.froz 0; have f1 := HV1.out.box.froz 1
                  go_upto_region 25 with (fail)
                  obtain ⟨X2, hX2⟩ : ∃ x, x = set2c X1 BL (.bool true) (.slice qa ql qc) := ⟨_, rfl⟩
                  have hP2 : Hid (Bx X2 BL #[.bool true, .slice qa ql qc] 24 ∧ Wts X2 qa ql qc (Q ++ [⟨g, 0, k⟩]) ∧ Cut X2 (BL + 1) ha _ hcap (Q.map Wt.g) ∧ Below w.heap.size w X2) := Lib.hid (by rw [hX2]; exact hP.out)
                  have HS2 := Lib.hid (show X2.heap.size = X1.heap.size by rw [hX2]; simp [set2c, World.setCell])
                  unfold set2c at hX2
                  rw [← hX2]
                  clear hX2 c0 c1 f0 f1 lB a0 a1 hP
                  go_wp2_with (at_builtin; refine wpList_append_cut rfl _ _ rfl (BL + 1) ha _ hcap (Q.map Wt.g) rfl (hP2.out.2.2.1.below (below_alloc X2 _)) (by have := hP2.out.1.lt; simp; omega) ⟨X2.heap.size, 0, none⟩ 1 g rfl (by simp) (by omega) ?_; intro a4 cap4 w4 hcut hgr hrow; have hB4 : Hid (Bx w4 BL #[.bool true, .slice qa ql qc] 24) := Lib.hid (((hgr.out.block BL (by have := hP2.out.1.lt; simp; omega) (fun e => by have := (hP2.out.2.2.1.row_lt e.symm).1; omega)).trans (Below.heap_alloc X2 _ _ hP2.out.1.lt)).trans hP2.out.1); have c0 := hB4.out.cell 0 rfl; have c1 := hB4.out.cell 1 rfl)
                  have HI : Hid (LInv w w4 BL true qa ql qc (Q ++ [⟨g, 0, k⟩]) a4 _ cap4) := Lib.hid ⟨hB4.out, (hP2.out.2.1.below (below_alloc X2 (.cells #[.int .i64 g] 3))).grown hgr.out (fun x hx e => by have h1 := HFQ.out x hx; have h2 := (HV.out.line.row_lt e.symm).2; omega), by have h := hcut.out; rw [List.map_append]; exact h, Below.grown (belowX_alloc hP2.out.2.2.2 _) hgr.out (by have := hP2.out.2.2.2.size; simp; omega) (fun r hr => by have h1 := (hP2.out.2.2.1.row_lt hr).1; have h2 := HV.out.bl; omega), HV.out.bl, right_snocK HV.out.right (by omega) HM.out HHW.out, fun x hx => by
                    rcases List.mem_append.1 hx with hx | hx
                    · exact HV.out.small x hx
                    · simp at hx; subst hx; exact ⟨rfl, by simp only []; omega⟩⟩
                  clear hgr hcut hrow c0 c1 hP2
                  have hnb : ((ql : Int) != ((hn : Int) + 1)) = false := by
                    have h1 := HI.out.len
                    have h2 : (ql : Int) = (hn : Int) + 1 := by have := h1.1; have := h1.2.1; omega
                    rw [h2]; simp
                  have HWt := Lib.hid (Waiting_any true qa ql qc (Q ++ [⟨g, 0, k⟩]) _ HI.out.q HI.out.right)
                  refine HWt.out.mono ?_
                  rintro e wz ⟨rfl, hb⟩
                  have HZ := Lib.hid (HI.out.below hb)
                  clear hb HWt
                  obtain ⟨c0, c1⟩ := HZ.out.box.cells2
                  go_wp2_with fail
                  go_roundg (gk - 1)
                  case measure => omega
                  case rel => exact LRel.go (k + 1) true qa ql qc (Q ++ [⟨g, 0, k⟩]) a4 _ cap4 holder given (by omega) (by omega) (by first | rfl | (symm; rw [decide_eq_true_eq]; omega) | (symm; rw [decide_eq_false_iff_not]; omega)) (by omega) (by omega) HZ.out
        | false =>
          cases held with
          | false =>
            have hhn : ¬ (0 : Int) ≤ holder := by intro h; rw [decide_eq_true h] at hhold; cases hhold
            clear hhold
            obtain rfl := q_nil HV.out.right
            have hlens := HV.out.len
            obtain rfl : ln = 0 := by simpa using hlens.1
            obtain rfl : hn = 0 := by simpa using hlens.2.1
            clear hlens
            have hneg : holder < 0 := by omega
            have HGv := Lib.hid (Give_any false la 0 lc [] wr HV.out.q HV.out.right)
            simp only [giveZ, zeroW, if_true] at HGv
            unfold GotG at HGv
            obtain ⟨c0, c1⟩ := HV.out.box.cells2
            go_wp2_with fail
            refine HGv.out.mono ?_
            rintro e w1 ⟨qa, ql, qc, rfl, hq, hb, hfr⟩
            have HV1 := Lib.hid ((HV.out.below hb).below ((below_alloc w1 (.cells #[.bool false, .slice qa ql qc] 24)).alloc (by simp) (.cells #[.int .i64 0, .int .i64 0, .int .i64 0] 26)))
            clear hq hb hfr c0 c1
            go_wp2_with fail
            go_roundg (gk - 1)
            case measure => omega
            case rel => exact LRel.go (k + 1) false la 0 lc [] ha 0 hcap holder given (by omega) (by omega) (by symm; rw [decide_eq_false_iff_not]; omega) (by omega) (by omega) HV1.out
          | true =>
            have hhn : (0 : Int) ≤ holder := of_decide_eq_true hhold.symm
            cases Q with
            | nil =>
              clear hhold
              have hlens := HV.out.len
              obtain rfl : ln = 0 := by simpa using hlens.1
              obtain rfl : hn = 0 := by simpa using hlens.2.1
              clear hlens
              have HGv := Lib.hid (Give_any true la 0 lc [] wr HV.out.q HV.out.right)
              simp only [giveZ, zeroW, reduceCtorEq, if_false] at HGv
              unfold GotG at HGv
              obtain ⟨c0, c1⟩ := HV.out.box.cells2
              go_wp2_with fail
              refine HGv.out.mono ?_
              rintro e w1 ⟨qa, ql, qc, rfl, hq, hb, hfr⟩
              have hbx := (below_alloc w1 (.cells #[.bool false, .slice qa ql qc] 24)).alloc (by simp) (.cells #[.int .i64 0, .int .i64 0, .int .i64 0] 26)
              have HBQ := Lib.hid (hb.trans (Below.mono hbx hb.size))
              have HQ := Lib.hid (hq.below hbx); have HFQ := Lib.hid hfr
              have hsz1 := Nat.lt_of_lt_of_le HV.out.box.lt hb.size
              have HV1 := Lib.hid (HV.out.below HBQ.out)
              have A1 := Lib.hid ((Bx.new w1 #[.bool false, .slice qa ql qc] 24).below (below_alloc _ (.cells #[.int .i64 0, .int .i64 0, .int .i64 0] 26)))
              have Y1 := Lib.hid (Bx.new2 w1 (.cells #[.bool false, .slice qa ql qc] 24) #[.int .i64 0, .int .i64 0, .int .i64 0] 26)
              clear c0 c1 hq hb hfr HGv hbx
              go_upto_region 33 with (fail)
              obtain ⟨X1, hX1⟩ : ∃ x, x = (w1.alloc (.cells #[.bool false, .slice qa ql qc] 24)).alloc (.cells #[.int .i64 0, .int .i64 0, .int .i64 0] 26) := ⟨_, rfl⟩
              obtain ⟨BB, hBB⟩ : ∃ x, x = w1.heap.size + 1 := ⟨_, rfl⟩
              obtain ⟨BA, hBA⟩ : ∃ x, x = w1.heap.size := ⟨_, rfl⟩
              rw [← hX1] at HBQ HQ HV1 A1 Y1 ⊢
              rw [← hBB] at Y1 ⊢
              rw [← hBA] at A1 ⊢
              have HNE := Lib.hid (show BB ≠ BL by omega)
              clear hX1 hBA hBB hsz1
              obtain ⟨a0, a1⟩ := A1.out.cells2
              have P := HV.out.put HBQ.out false qa ql qc [] HQ.out HFQ.out
              have hP := Lib.hid P; clear P
              obtain ⟨c0, c1⟩ := HV1.out.box.cells2
              have lB := HV1.out.box.lt
              have f0 := HV1.out.box.froz 0; have f1 := HV1.out.box.froz 1
              go_wp2_with fail
              obtain ⟨X2, hX2⟩ : ∃ x, x = set2c X1 BL (.bool false) (.slice qa ql qc) := ⟨_, rfl⟩
              have HI : Hid (LInv w X2 BL false qa ql qc [] ha 0 hcap) := Lib.hid (by rw [hX2]; exact ⟨hP.out.1, hP.out.2.1, hP.out.2.2.1, hP.out.2.2.2, HV.out.bl, rk_nil false, fun x hx => by simp at hx⟩)
              unfold set2c at hX2
              rw [← hX2]
              clear hX2 c0 c1 f0 f1 lB a0 a1 hP
              have hql : ql = 0 := by simpa using HI.out.len.1
              subst hql
              have HWt := Lib.hid (Waiting_any false qa 0 qc [] _ HI.out.q HI.out.right)
              refine HWt.out.mono ?_
              rintro e wz ⟨rfl, hb⟩
              have HZ := Lib.hid (HI.out.below hb)
              clear hb HWt
              obtain ⟨c0, c1⟩ := HZ.out.box.cells2
              go_wp2_with fail
              go_roundg (gk - 1)
              case measure => omega
              case rel => exact LRel.go (k + 1) false qa 0 qc [] ha 0 hcap (-1) (given + 1) (by omega) (by omega) (by first | rfl | (symm; rw [decide_eq_true_eq]; omega) | (symm; rw [decide_eq_false_iff_not]; omega)) (by omega) (by omega) HZ.out
            | cons y ys =>
              clear hhold
              have hlens := HV.out.len
              simp only [List.length_cons] at hlens
              have hln9 : ln ≤ 9 := by omega
              have hhn9 : hn ≤ 9 := by omega
              have hh0 : 0 < hn := by omega
              have HLN := Lib.hid hlens
              clear hlens
              have hyg : 0 ≤ y.g := mem_may HV.out.right y (by simp)
              have hyg9 : y.g < 9 := (HV.out.small y (by simp)).2
              have HGv := Lib.hid (Give_any true la ln lc (y :: ys) wr HV.out.q HV.out.right)
              simp only [giveZ, reduceCtorEq, if_false] at HGv
              unfold GotG at HGv
              have hh1 : (0 : Int) < (hn : Int) := by omega
              obtain ⟨c0, c1⟩ := HV.out.box.cells2
              go_wp2_with fail
              refine HGv.out.mono ?_
              rintro e w1 ⟨qa, ql, qc, rfl, hq, hb, hfr⟩
              have hbx := (below_alloc w1 (.cells #[.bool true, .slice qa ql qc] 24)).alloc (by simp) (.cells #[.int .i64 y.g, .int .i64 y.c, .int .i64 y.s] 26)
              have HBQ := Lib.hid (hb.trans (Below.mono hbx hb.size))
              have HQ := Lib.hid (hq.below hbx); have HFQ := Lib.hid hfr
              have hsz1 := Nat.lt_of_lt_of_le HV.out.box.lt hb.size
              have HV1 := Lib.hid (HV.out.below HBQ.out)
              have A1 := Lib.hid ((Bx.new w1 #[.bool true, .slice qa ql qc] 24).below (below_alloc _ (.cells #[.int .i64 y.g, .int .i64 y.c, .int .i64 y.s] 26)))
              have Y1 := Lib.hid (Bx.new2 w1 (.cells #[.bool true, .slice qa ql qc] 24) #[.int .i64 y.g, .int .i64 y.c, .int .i64 y.s] 26)
              clear c0 c1 hq hb hfr HGv hbx
              go_upto_region 33 with (fail)
              obtain ⟨X1, hX1⟩ : ∃ x, x = (w1.alloc (.cells #[.bool true, .slice qa ql qc] 24)).alloc (.cells #[.int .i64 y.g, .int .i64 y.c, .int .i64 y.s] 26) := ⟨_, rfl⟩
              obtain ⟨BB, hBB⟩ : ∃ x, x = w1.heap.size + 1 := ⟨_, rfl⟩
              obtain ⟨BA, hBA⟩ : ∃ x, x = w1.heap.size := ⟨_, rfl⟩
              rw [← hX1] at HBQ HQ HV1 A1 Y1 ⊢
              rw [← hBB] at Y1 ⊢
              rw [← hBA] at A1 ⊢
              have HNE := Lib.hid (show BB ≠ BL by omega)
              clear hX1 hBA hBB hsz1
              obtain ⟨a0, a1⟩ := A1.out.cells2
              have P := HV.out.put HBQ.out true qa ql qc ys HQ.out HFQ.out
              have hP := Lib.hid P; clear P
              obtain ⟨c0, c1⟩ := HV1.out.box.cells2
              have lB := HV1.out.box.lt
              have f0 := HV1.out.box.froz 0; have f1 := HV1.out.box.froz 1
              go_upto_region 35 with (fail)
              obtain ⟨X2, hX2⟩ : ∃ x, x = set2c X1 BL (.bool true) (.slice qa ql qc) := ⟨_, rfl⟩
              have hP2 : Hid (Bx X2 BL #[.bool true, .slice qa ql qc] 24 ∧ Wts X2 qa ql qc ys ∧ Cut X2 (BL + 1) ha hn hcap (y.g :: ys.map Wt.g) ∧ Below w.heap.size w X2) := Lib.hid (by rw [hX2]; exact hP.out)
              have Y2 := Lib.hid (show Bx X2 BB #[.int .i64 y.g, .int .i64 y.c, .int .i64 y.s] 26 by rw [hX2]; exact (set2_other X1 BL _ _ BB HNE.out).trans Y1.out)
              unfold set2c at hX2
              rw [← hX2]
              clear hX2 c0 c1 f0 f1 lB a0 a1 hP
              have LI2 := Lib.hid (hP2.out.2.2.1.toInts (i64_map HV.out.q.ok))
              obtain ⟨b2, o2, rfl, d0⟩ := LI2.out.cell 0 hh0
              rw [Nat.add_zero, show en (y.g :: ys.map Wt.g) 0 = y.g from rfl] at d0
              obtain ⟨y0, y1, y2⟩ := Y2.out.cells3
              have hgg : (y.g != y.g) = false := by simp
              go_quiet (fail)
              obtain ⟨n1, hn1⟩ : ∃ n, n = nq := ⟨_, rfl⟩
              rw [← hn1]
              clear hn1
              go_wp2_with fail
              by_cases hk1 : hcap = 1
              all_goals
                have hhc := HV.out.line.le
                first
                | (subst hk1
                   obtain rfl : hn = 1 := by omega
                   clear hhc
                   have hys : ys = [] := by have := HLN.out.2.1; exact List.eq_nil_of_length_eq_zero (by omega)
                   have HCT := Lib.hid (show Cut X2 (BL + 1) (some ⟨b2, o2, none⟩) 0 0 (ys.map Wt.g) by rw [hys]; exact hP2.out.2.2.1.tail0)
                   clear hys)
                | (have hk2 : (1 : Int) < (hcap : Int) := by omega
                   have hk3 : (hn : Int) ≤ (hcap : Int) := by omega
                   have hk4 : (1 : Int) ≤ (hn : Int) := by omega
                   clear hhc
                   have HCT := Lib.hid (hP2.out.2.2.1.tail))
                go_quiet (fail)
                have HIg := Lib.hid (fun n => (show LInv w (X2.drewN n) BL true qa ql qc ys _ _ _ from ⟨hP2.out.1.below (below_drewN (Below.refl X2.heap.size X2) n), hP2.out.2.1.below (below_drewN (Below.refl X2.heap.size X2) n), HCT.out.below (below_drewN (Below.refl X2.heap.size X2) n), below_drewN hP2.out.2.2.2 n, HV.out.bl, right_tailK HV.out.right, fun x hx => HV.out.small x (List.mem_cons_of_mem _ hx)⟩))
                clear y0 y1 y2 d0
                have HI := Lib.hid (HIg.out 0)
                have hle := HI.out.len
                first
                | (have hnb : ((ql : Int) != 0) = false := by have h1 := hle.1; have h2 := hle.2.1; have : (ql : Int) = 0 := (by omega); rw [this]; rfl)
                | (have hnb : ((ql : Int) != ((hn : Int) - 1)) = false := by have h1 := hle.1; have h2 := hle.2.1; have : (ql : Int) = (hn : Int) - 1 := (by omega); rw [this]; simp
                   have hnb2 : ((ql : Int) != ((hn - 1 : Nat) : Int)) = false := by have h1 := hle.1; have h2 := hle.2.1; have : ql = hn - 1 := (by omega); rw [this]; simp)
                clear hle
                obtain ⟨c0, c1⟩ := hP2.out.1.cells2
                go_wp2_with fail
                clear c0 c1
                have HWt := Lib.hid (fun W z1 z2 z3 (h : LInv w W BL true qa ql qc ys z1 z2 z3) => Waiting_any true qa ql qc ys W h.q h.right)
                refine (HWt.out _ _ _ _ (HIg.out _)).mono ?_
                rintro e wz ⟨rfl, hb⟩
                have HZ := Lib.hid (LInv.below (HIg.out _) hb)
                clear hb HWt
                obtain ⟨c0, c1⟩ := HZ.out.box.cells2
                go_wp2_with fail
                go_roundg (gk - 1)
                case measure => omega
                case rel => exact LRel.go (k + 1) true qa ql qc ys _ _ _ y.g (given + 1) (by omega) (by omega) (by symm; rw [decide_eq_true_eq]; omega) (by omega) (by omega) HZ.out
      · have hkn : k = l1 := by omega
        subst hkn
        go_wp2_with fail
        refine (alive_any _).mono ?_
        rintro e w1 ⟨rfl, hb⟩
        have HB1 := Lib.hid (HV.out.bel.trans (Below.mono hb HV.out.bel.size))
        clear hb
        go_wp2_with fail
        go_ret
        exact ⟨rfl, HB1.out⟩
end Go.Proofs.Ytipjdkaibkmciaa
