/- A piece that is read: the program. -/
import Derived.Test.YtpdlfijcicboiaaDoorT12
namespace Go.Proofs.YtpdlfijcicboiaaDoor
open Go.RowKit
set_option linter.unusedSimpArgs false
set_option linter.unusedVariables false
theorem grow_set {a w : World} {b : Nat} (h : a.grownBy w (some b)) (i : Nat) (v : Value) : a.grownBy (w.setCell ⟨b, i, none⟩ v) (some b) := h.trans (grow_setCell w b i v)
abbrev st3 (W : World) (B : Nat) (v0 v1 v2 : Value) : World := (((W.setCell ⟨B, 0, none⟩ v0).setCell ⟨B, 1, none⟩ v1).setCell ⟨B, 2, none⟩ v2)
theorem Bx.st3 {W : World} {B : Nat} {x0 x1 x2 : Value} {t : TypeId} (h : Bx W B #[x0, x1, x2] t) (v0 v1 v2 : Value) : Bx (st3 W B v0 v1 v2) B #[v0, v1, v2] t := by
  show Bx (((W.setCell ⟨B, 0, none⟩ v0).setCell ⟨B, 1, none⟩ v1).setCell ⟨B, 2, none⟩ v2) B _ t
  have h0 : Bx (W.setCell ⟨B, 0, none⟩ v0) B #[v0, x1, x2] t := h.set 0 v0
  generalize W.setCell ⟨B, 0, none⟩ v0 = W0 at h0 ⊢
  have h1 : Bx (W0.setCell ⟨B, 1, none⟩ v1) B #[v0, v1, x2] t := h0.set 1 v1
  generalize W0.setCell ⟨B, 1, none⟩ v1 = W1 at h1 ⊢
  have h2 : Bx (W1.setCell ⟨B, 2, none⟩ v2) B #[v0, v1, v2] t := h1.set 2 v2
  exact h2
theorem grown_st3 {w W : World} {B : Nat} (h : w.grownBy W (some B)) (v0 v1 v2 : Value) : w.grownBy (st3 W B v0 v1 v2) (some B) := (grow_set (grow_set (grow_set h 0 _) 1 _) 2 _)
theorem below_grown {w w' : World} {B n : Nat} (h : w.grownBy w' (some B)) (hn : n ≤ B) (hw : n ≤ w.heap.size) : Below n w w' := ⟨h.os, h.tape, h.output, h.size, fun k hk => h.block k (by omega) (fun e => by cases e; omega)⟩
theorem st3_below {w W : World} {n B : Nat} (h : Below n w W) (hn : n ≤ B) (hw : n ≤ W.heap.size) (v0 v1 v2 : Value) : Below n w (st3 W B v0 v1 v2) := h.trans (below_grown (grown_st3 (World.grownBy.refl W (some B)) v0 v1 v2) hn hw)
theorem Tryd.inf31 : (Tryd.prog.info? 31).map (·.size) = some 3 := by kernel_rfl
theorem ins_load {W : World} {B : Nat} {x : Ins} (h : Bx W B #[.int .i64 x.op, .int .i64 x.a, .int .i64 x.b] 31) : (loadVar 31 ⟨B, 0, none⟩).run Tryd.prog W = .ok (insV x) W :=
  run_loadVar_row W B 31 31 #[.int .i64 x.op, .int .i64 x.a, .int .i64 x.b] (0, 0) _ h Tryd.underlying31 (by kernel_rfl) Tryd.inf31
theorem ins_res {fn : Func} {p u : Tmp} (h : fn.results = #[.cell p 31, .tmp u]) (tmps : Array Value) {W : World} {B : Nat} {x : Ins} (hp : tmps.getD p undef = .pointer (some ⟨B, 0, none⟩)) (hg : Bx W B #[.int .i64 x.op, .int .i64 x.a, .int .i64 x.b] 31) :
    (results fn tmps).run Tryd.prog W = .ok (.tuple #[insV x, tmps.getD u undef]) W := by
  rw [results_cell_tmp h, hp]
  simp [asAddr, Result.andThen, ins_load hg]
def zeroI : Ins := ⟨0, 0, 0⟩
def InsTo (w : World) (p : Ins × Int) (e : Ending) (w' : World) : Prop := e = .returned (.tuple #[insV p.1, .int .i64 p.2]) ∧ Below w.heap.size w w'
def wat (W : List ByteArray) (k : Nat) : ByteArray := W.getD k ⟨#[]⟩
/-- the k-th number behind the word, if it is read already -/
def numAt (W : List ByteArray) (k i : Nat) : Int := if i < k then valL (tx (wat W (i + 1))) else 0
def okUp (W : List ByteArray) (k : Nat) : Bool := (List.range k).all fun i => okL (tx (wat W (i + 1)))
def paW (W : List ByteArray) : Ins × Int := match opS 14 (wat W 0) with
  | none => (zeroI, 11)
  | some j => if (W.length : Int) = 1 + numZ (j : Int) then (if okUp W (W.length - 1) = true then (⟨(j : Int), numAt W (W.length - 1) 0, numAt W (W.length - 1) 1⟩, 0) else (zeroI, 12)) else (zeroI, 12)
def paZ (s : ByteArray) : Ins × Int := paW (pcB s spB)
theorem Txts.at {w : World} {a : Option Addr} {n c : Nat} {W : List ByteArray} (h : Txts w a n c W) (i : Nat) (hi : i < n) : ∃ b off, a = some ⟨b, off, none⟩ ∧ w.cell? ⟨b, off + i, none⟩ = some (.string (wat W i)) ∧ wat W i ∈ W := by
  obtain ⟨x, b, off, hx, ha, hc⟩ := Recs.at h i hi
  have e : wat W i = x := by unfold wat; rw [List.getD_eq_getElem?_getD, hx]; rfl
  refine ⟨b, off, ha, ?_, by rw [e]; exact List.mem_of_getElem? hx⟩
  have := hc 0 _ rfl
  rw [Nat.mul_one, Nat.add_zero] at this
  rw [e]; exact this
theorem opS_lt (x : ByteArray) : ∀ k j, opS k x = some j → j < k
  | 0, j, h => by cases h
  | k + 1, j, h => by
    unfold opS at h
    split at h
    · cases h; omega
    · have := opS_lt x k j h; omega
theorem numZ_cases (op : Int) : numZ op = 0 ∨ numZ op = 1 ∨ numZ op = 2 := by unfold numZ; split <;> (try split) <;> simp
theorem ex_le (s : ByteArray) (a b : Nat) : (s.extract a b).size ≤ s.size := by
  rw [Lib.size_eq, Lib.extract_data, Lib.size_eq]
  simp; omega
theorem splitB_le (sep : ByteArray) : ∀ (k : Nat) (s x : ByteArray), x ∈ Lib.splitB sep 0 k s → x.size ≤ s.size
  | 0, s, x, h => by rw [Lib.splitB_zero] at h; simp at h; rw [h]; exact Nat.le_refl _
  | k + 1, s, x, h => by
    unfold Lib.splitB at h
    split at h
    · simp at h; rw [h]; exact Nat.le_refl _
    · rcases List.mem_cons.1 h with rfl | h
      · exact ex_le _ _ _
      · exact Nat.le_trans (splitB_le sep k _ x h) (ex_le _ _ _)
theorem pcB_le {s sep x : ByteArray} (h : x ∈ pcB s sep) : x.size ≤ s.size := splitB_le sep _ s x h
theorem okUp_succ (W : List ByteArray) (k : Nat) : okUp W (k + 1) = (okUp W k && okL (tx (wat W (k + 1)))) := by
  unfold okUp; rw [List.range_succ, List.all_append]; simp
theorem okUp_le (W : List ByteArray) (k m : Nat) (hk : k < m) (h : okL (tx (wat W (k + 1))) = false) : okUp W m = false := by
  unfold okUp
  rw [Bool.eq_false_iff]
  intro hall
  have := List.all_eq_true.1 hall k (List.mem_range.2 hk)
  rw [h] at this; cases this
theorem numAt_succ (W : List ByteArray) (k i : Nat) (hi : i ≠ k) : numAt W (k + 1) i = numAt W k i := by
  unfold numAt
  by_cases h : i < k
  · rw [if_pos h, if_pos (by omega)]
  · rw [if_neg h, if_neg (by omega)]
theorem numAt_self (W : List ByteArray) (k : Nat) : numAt W (k + 1) k = valL (tx (wat W (k + 1))) := if_pos (by omega)
abbrev numC (W : List ByteArray) (k : Nat) : Array Value := #[.int .i64 (numAt W k 0), .int .i64 (numAt W k 1)]
theorem numC_set (W : List ByteArray) (k : Nat) (hk : k < 2) : (numC W k).setIfInBounds k (.int .i64 (valL (tx (wat W (k + 1))))) = numC W (k + 1) := by
  unfold numC
  rcases (show k = 0 ∨ k = 1 by omega) with rfl | rfl
  · rw [← numAt_self W 0, numAt_succ W 0 1 (by decide)]; rfl
  · rw [← numAt_self W 1, numAt_succ W 1 0 (by decide)]; rfl
theorem Txts.other {w w' : World} {b off n c : Nat} {W : List ByteArray} {row : Option Nat} (h : Txts w (some ⟨b, off, none⟩) n c W) (hg : w.grownBy w' row) (hne : some b ≠ row) : Txts w' (some ⟨b, off, none⟩) n c W := by
  refine ⟨Recs.len_eq h, Recs.le_cap h, Recs.cap_le h, Recs.none_ h, fun i x hx => ?_⟩
  obtain ⟨b', off', e, hc⟩ := Recs.cell h i x hx
  cases e
  refine ⟨b, off, rfl, fun j v hv => ?_⟩
  have h1 := hc j v hv
  have hlt := cell_lt h1
  have hbl := hg.block b hlt hne
  unfold World.cell? at h1 ⊢
  dsimp only at h1 ⊢
  rw [hbl]; exact h1
theorem numC_at (W : List ByteArray) (k : Nat) (hk : k < 2) : ∃ v, (numC W k)[k]? = some v := by
  rcases (show k = 0 ∨ k = 1 by omega) with rfl | rfl
  · exact ⟨_, rfl⟩
  · exact ⟨_, rfl⟩
theorem Bx.cells2 {W : World} {B : Nat} {x0 x1 : Value} {t : TypeId} (h : Bx W B #[x0, x1] t) : W.cell? ⟨B, 0, none⟩ = some x0 ∧ W.cell? ⟨B, 1, none⟩ = some x1 := ⟨Bx.cell h 0 rfl, Bx.cell h 1 rfl⟩
theorem ret_ins {x : Ins} {p : Ins × Int} {n : Int} (h : p = (x, n)) : Ending.returned (.tuple #[insV x, .int .i64 n]) = .returned (.tuple #[insV p.1, .int .i64 p.2]) := by rw [h]
set_option maxRecDepth 100000 in
set_option maxHeartbeats 8000000 in
theorem parsed_any (s : ByteArray) (F : Nat) (w : World) (hs : s.size ≤ 10000) (hE : EnvS w) (hF : FoundK w F 14) : Calls Tryd.prog 25 #[.string s, .map (some F)] w (InsTo w (paZ s)) := by
  have B0 := Lib.hid (below_alloc w (.cells #[.int .i64 0, .int .i64 0, .int .i64 0] 31))
  have K0 := Lib.hid (Bx.new w #[.int .i64 0, .int .i64 0, .int .i64 0] 31)
  have HS := Lib.hid (split_any s spB (w.alloc (.cells #[.int .i64 0, .int .i64 0, .int .i64 0] 31)) (by decide) hs (hE.below B0.out))
  have F0 := Lib.hid (hF.below B0.out)
  unfold GotT spB at HS
  have HPL : Hid (∀ x ∈ pcB s ⟨#[32]⟩, x.size ≤ 10000) := Lib.hid (fun x hx => by have := pcB_le hx; omega)
  have HPN := Lib.hid (pcB_len s ⟨#[32]⟩ (by decide))
  have HZ : Hid (paZ s = paW (pcB s ⟨#[32]⟩)) := Lib.hid rfl
  clear hE hF
  obtain ⟨b0, hb0⟩ : ∃ z, z = w.heap.size := ⟨_, rfl⟩
  obtain ⟨v0, hv0⟩ : ∃ z, z = w.alloc (.cells #[.int .i64 0, .int .i64 0, .int .i64 0] 31) := ⟨_, rfl⟩
  rw [← hv0] at B0 K0 F0 HS
  rw [← hb0] at K0
  have HB0 := Lib.hid hb0; have HV0 := Lib.hid hv0
  have HL0 := Lib.hid (show w.heap.size ≤ b0 by omega)
  clear hb0 hv0
  go_enter Tryd.func25, Tryd.ntmps25
  go_upto_region 1 with (fail)
  rw [← HV0.out, ← HB0.out]
  go_wp2_with fail
  refine HS.out.mono ?_
  rintro e w1 ⟨a, n, c, rfl, hT, hb⟩
  have hn := Recs.len_eq hT
  have hnc := Recs.le_cap hT
  have hncm := Recs.cap_le hT
  have hn1 : 1 ≤ n := by rw [← hn, HPN.out]; omega
  obtain ⟨W, hW⟩ : ∃ W, W = pcB s ⟨#[32]⟩ := ⟨_, rfl⟩
  rw [← hW] at hT hn HPL HZ
  have T1 := Lib.hid hT
  have K1 := Lib.hid (K0.out.below hb); have F1 := Lib.hid (F0.out.below hb); have B1 := Lib.hid (B0.out.trans (Below.mono hb B0.out.size))
  obtain ⟨ab, off, rfl, hc0, hx0⟩ := hT.at 0 (by omega)
  have HX0 := Lib.hid (HPL.out _ hx0)
  have HN := Lib.hid hn
  rw [Nat.add_zero] at hc0
  clear hb hW hT hn hx0 HS F0 K0 B0
  obtain ⟨x0, hx0⟩ : ∃ x0, x0 = wat W 0 := ⟨_, rfl⟩
  rw [← hx0] at hc0 HX0
  have HXE := Lib.hid hx0
  have hlook := F1.out.look x0 (by have := HX0.out; omega)
  clear hx0
  unfold maxLen at hncm
  cases hop : opS 14 x0 with
  | none =>
    have HR := Lib.hid (show paW W = (zeroI, 11) by unfold paW; rw [← HXE.out, hop])
    unfold opN at hlook
    rw [hop] at hlook
    simp only [Option.isSome_none] at hlook
    clear hop
    obtain ⟨y0, y1, y2⟩ := Bx.cells3 K1.out
    have l0 := Bx.lt K1.out; have f0 := Bx.froz K1.out 0; have f1 := Bx.froz K1.out 1; have f2 := Bx.froz K1.out 2
    go_wp2_with fail
    exact bodyPost_ret (ins_res (x := zeroI) (p := 4) (u := 5) rfl _ rfl (Bx.st3 K1.out _ _ _)) rfl ⟨ret_ins (HZ.out.trans HR.out), st3_below B1.out HL0.out B1.out.size _ _ _⟩
  | some j =>
    have hj : j < 14 := opS_lt x0 14 j hop
    have HR : Hid (paW W = if (W.length : Int) = 1 + numZ (j : Int) then (if okUp W (W.length - 1) = true then (⟨(j : Int), numAt W (W.length - 1) 0, numAt W (W.length - 1) 1⟩, 0) else (zeroI, 12)) else (zeroI, 12)) := Lib.hid (by unfold paW; rw [← HXE.out, hop])
    unfold opN at hlook
    rw [hop] at hlook
    simp only [Option.isSome_some] at hlook
    have HNB := Lib.hid (fun V => numbers_any (j : Int) V)
    obtain ⟨m, hm⟩ : ∃ m, m = numZ (j : Int) := ⟨_, rfl⟩
    rw [← hm] at HNB HR
    have hmc : m = 0 ∨ m = 1 ∨ m = 2 := by rw [hm]; exact numZ_cases _
    clear hop hm
    by_cases hne : (n : Int) = 1 + m
    · have HR2 := Lib.hid (HR.out.trans (if_pos (by rw [HN.out]; exact hne)))
      have hneb : ((n : Int) == 1 + m) = true := by rw [beq_iff_eq]; exact hne
      have hne2 : ((n : Int) != 1 + m) = false := by simp [hneb, bne]
      have BA := below_alloc w1 (.cells #[.int .i64 0, .int .i64 0] 63)
      have A2 := Lib.hid (Bx.new w1 #[.int .i64 0, .int .i64 0] 63)
      have K2 := Lib.hid (K1.out.below BA); have T2 := Lib.hid (show Txts _ _ _ _ _ from Recs.below T1.out BA); have B2 := Lib.hid (B1.out.trans (Below.mono BA B1.out.size))
      have hlt0 := Bx.lt K1.out
      have hs1 := B1.out.size
      obtain ⟨b1, hb1⟩ : ∃ z, z = w1.heap.size := ⟨_, rfl⟩
      obtain ⟨v1, hv1⟩ : ∃ z, z = w1.alloc (.cells #[.int .i64 0, .int .i64 0] 63) := ⟨_, rfl⟩
      rw [← hv1] at A2 K2 T2 B2
      rw [← hb1] at A2
      have n01 : b0 ≠ b1 := by omega
      have HL1 := Lib.hid (show w.heap.size ≤ b1 by omega)
      have HB1 := Lib.hid hb1; have HV1 := Lib.hid hv1
      clear hb1 hv1 BA hlt0 hs1
      go_wp2_with fail
      refine (HNB.out _).mono ?_
      rintro e w2 ⟨rfl, rfl⟩
      go_upto_region 8 with (fail)
      rw [← HV1.out, ← HB1.out]
      have hn2 : 1 ≤ c := by omega
      have HML := Lib.hid (show W.length - 1 = n - 1 by rw [HN.out])
      obtain ⟨M, hM⟩ : ∃ M, M = n - 1 := ⟨_, rfl⟩
      rw [← hM] at HML
      have hM2 : M ≤ 2 := by omega
      have hMn : n = M + 1 := by omega
      have HM := Lib.hid hM
      have HMN := Lib.hid hMn
      have hhc : c = 1 ∨ ¬ c = 1 := by omega
      have hm1 : (1 : Int) ≤ 1 + m := by omega
      have nab1 : ab ≠ b1 := by have := HB1.out; have := cell_lt hc0; dsimp only at this; omega
      clear hmc hn1 hM hMn hlook hc0 HX0
      have e1 : n - 1 = M := HM.out.symm
      have hcm : M ≤ c - 1 := by omega
      rcases hhc with hc1 | hc1
      · go_wp2_with fail
        clear e1
        go_loopw [8, 35] (fun ok i wr => ∃ k : Nat, k ≤ M ∧ i = .int .i64 k ∧ ok = .bool true ∧ okUp W k = true ∧ Bx wr b1 (numC W k) 63 ∧ Bx wr b0 #[.int .i64 0, .int .i64 0, .int .i64 0] 31 ∧ Txts wr (some ⟨ab, off, none⟩) n c W ∧ Below w.heap.size w wr) (fun _ i _ => M - (intOf i).toNat)
        case atStart => exact ⟨0, Nat.zero_le _, rfl, rfl, rfl, A2.out, K2.out, T2.out, B2.out⟩
        case round =>
          obtain ⟨k, hk, rfl, rfl, hok, hA, hK, hT, hb⟩ := hrel
          have A3 := Lib.hid hA; have K3 := Lib.hid hK; have T3 := Lib.hid hT; have B3 := Lib.hid hb
          have HOK := Lib.hid hok
          clear hA hK hT hb hok
          by_cases hlt : k < M
          · have hlt' : (k : Int) < (M : Int) := by omega
            exact absurd hlt (by omega)
          · have hke : k = M := by omega
            subst hke
            have HR3 := Lib.hid (HR2.out.trans (if_pos (by rw [HML.out]; exact HOK.out)))
            rw [HML.out] at HR3
            obtain ⟨y0, y1, y2⟩ := Bx.cells3 K3.out
            have l0 := Bx.lt K3.out; have f0 := Bx.froz K3.out 0; have f1 := Bx.froz K3.out 1; have f2 := Bx.froz K3.out 2
            obtain ⟨x0, x1⟩ := Bx.cells2 A3.out
            go_wp2_with fail
            exact bodyPost_ret (ins_res (x := ⟨(j : Int), numAt W k 0, numAt W k 1⟩) (p := 4) (u := 5) rfl _ rfl (Bx.st3 K3.out _ _ _)) rfl ⟨ret_ins (HZ.out.trans HR3.out), st3_below B3.out HL0.out B3.out.size _ _ _⟩
      · go_wp2_with fail
        clear e1
        go_loopw [8, 35] (fun ok i wr => ∃ k : Nat, k ≤ M ∧ i = .int .i64 k ∧ ok = .bool true ∧ okUp W k = true ∧ Bx wr b1 (numC W k) 63 ∧ Bx wr b0 #[.int .i64 0, .int .i64 0, .int .i64 0] 31 ∧ Txts wr (some ⟨ab, off, none⟩) n c W ∧ Below w.heap.size w wr) (fun _ i _ => M - (intOf i).toNat)
        case atStart => exact ⟨0, Nat.zero_le _, rfl, rfl, rfl, A2.out, K2.out, T2.out, B2.out⟩
        case round =>
          obtain ⟨k, hk, rfl, rfl, hok, hA, hK, hT, hb⟩ := hrel
          have A3 := Lib.hid hA; have K3 := Lib.hid hK; have T3 := Lib.hid hT; have B3 := Lib.hid hb
          have HOK := Lib.hid hok
          clear hA hK hT hb hok
          by_cases hlt : k < M
          · have hlt' : (k : Int) < (M : Int) := by omega
            obtain ⟨b', off', he, hc, hmem⟩ := T3.out.at (k + 1) (by have := HMN.out; omega)
            cases he
            have hsz := Lib.hid (HPL.out _ hmem)
            have HNU := Lib.hid (fun V => number_any (wat W (k + 1)) V hsz.out)
            rw [show off + (k + 1) = off + 1 + k by omega] at hc
            unfold NumTo at HNU
            have HOS := Lib.hid (okUp_succ W k)
            have HOL := Lib.hid (fun m hm h => okUp_le W k m hm h)
            have hk2 : k < 2 := by omega
            have hk2' : (k : Int) < 2 := by omega
            have HCS := Lib.hid (numC_set W k hk2)
            obtain ⟨z, hz⟩ := numC_at W k hk2
            have HCA := Lib.hid hz
            obtain ⟨y, hy⟩ : ∃ y, y = wat W (k + 1) := ⟨_, rfl⟩
            rw [← hy] at hc HNU HOS HOL HCS
            clear hz hmem hy hsz
            go_wp2_with fail
            refine (HNU.out _).mono ?_
            rintro e w3 ⟨v, rfl, hv64, hveq, hb⟩
            have A4 := Lib.hid (A3.out.below hb); have K4 := Lib.hid (K3.out.below hb); have T4 := Lib.hid (show Txts _ _ _ _ _ from Recs.below T3.out hb); have B4 := Lib.hid (B3.out.trans (Below.mono hb B3.out.size))
            have HVE := Lib.hid hveq
            clear hb hc hveq
            have lA := Bx.lt A4.out; have fA := Bx.froz A4.out k; have cA := Bx.cell A4.out k HCA.out
            have G5 := Lib.hid (grow_setCell w3 b1 k (.int .i64 v))
            have A5 := Lib.hid (Bx.set A4.out k (.int .i64 v))
            have K5 := Lib.hid (K4.out.other G5.out (some_ne n01))
            have B5 := Lib.hid (B4.out.grown G5.out B4.out.size (fun j hj => by cases hj; exact HL1.out))
            cases ho : okL (tx y) with
            | true =>
              have HA : Hid ((numC W k).setIfInBounds k (.int .i64 v) = numC W (k + 1)) := Lib.hid (by rw [HVE.out ho]; exact HCS.out)
              have HO1 : Hid (okUp W (k + 1) = true) := Lib.hid (by rw [HOS.out, HOK.out, ho]; rfl)
              clear ho
              go_wp2_with fail
              go_roundw
              case rel => exact ⟨k + 1, by omega, by go_num, rfl, HO1.out, by rw [← HA.out]; exact A5.out, K5.out, T4.out.other G5.out (some_ne nab1), B5.out⟩
              case measure => simp [intOf]; omega
            | false =>
              have HR3 := Lib.hid (HR2.out.trans (if_neg (by rw [HML.out, HOL.out M hlt ho]; decide)))
              clear ho
              go_upto_region 12 with (fail)
              clear lA fA cA
              obtain ⟨w5, hw5⟩ : ∃ z, z = w3.setCell ⟨b1, k, none⟩ (.int .i64 v) := ⟨_, rfl⟩
              rw [← hw5] at K5 B5 ⊢
              clear hw5
              obtain ⟨y0, y1, y2⟩ := Bx.cells3 K5.out
              have l0 := Bx.lt K5.out; have f0 := Bx.froz K5.out 0; have f1 := Bx.froz K5.out 1; have f2 := Bx.froz K5.out 2
              go_wp2_with fail
              exact bodyPost_ret (ins_res (x := zeroI) (p := 4) (u := 5) rfl _ rfl (Bx.st3 K5.out _ _ _)) rfl ⟨ret_ins (HZ.out.trans HR3.out), st3_below B5.out HL0.out B5.out.size _ _ _⟩
          · have hke : k = M := by omega
            subst hke
            have HR3 := Lib.hid (HR2.out.trans (if_pos (by rw [HML.out]; exact HOK.out)))
            rw [HML.out] at HR3
            obtain ⟨y0, y1, y2⟩ := Bx.cells3 K3.out
            have l0 := Bx.lt K3.out; have f0 := Bx.froz K3.out 0; have f1 := Bx.froz K3.out 1; have f2 := Bx.froz K3.out 2
            obtain ⟨x0, x1⟩ := Bx.cells2 A3.out
            go_wp2_with fail
            exact bodyPost_ret (ins_res (x := ⟨(j : Int), numAt W k 0, numAt W k 1⟩) (p := 4) (u := 5) rfl _ rfl (Bx.st3 K3.out _ _ _)) rfl ⟨ret_ins (HZ.out.trans HR3.out), st3_below B3.out HL0.out B3.out.size _ _ _⟩
    · have HR2 := Lib.hid (HR.out.trans (if_neg (by rw [HN.out]; exact hne)))
      have hneb : ((n : Int) == 1 + m) = false := by rw [beq_eq_false_iff_ne]; exact hne
      have hne2 : ((n : Int) != 1 + m) = true := by simp [hneb, bne]
      obtain ⟨y0, y1, y2⟩ := Bx.cells3 K1.out
      have l0 := Bx.lt K1.out; have f0 := Bx.froz K1.out 0; have f1 := Bx.froz K1.out 1; have f2 := Bx.froz K1.out 2
      go_wp2_with fail
      refine (HNB.out _).mono ?_
      rintro e w2 ⟨rfl, rfl⟩
      go_wp2_with fail
      exact bodyPost_ret (ins_res (x := zeroI) (p := 4) (u := 5) rfl _ rfl (Bx.st3 K1.out _ _ _)) rfl ⟨ret_ins (HZ.out.trans HR2.out), st3_below B1.out HL0.out B1.out.size _ _ _⟩
end Go.Proofs.YtpdlfijcicboiaaDoor
