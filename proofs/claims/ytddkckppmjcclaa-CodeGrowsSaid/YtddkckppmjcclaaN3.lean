/- The program: numbers. -/
import Derived.Test.YtddkckppmjcclaaN2
namespace Go.Proofs.Ytddkckppmjcclaa
open Go.RowKit
set_option linter.unusedSimpArgs false
set_option linter.unusedVariables false
theorem firstZ_all2 {α : Type} {f : α → Int} : ∀ {L : List α} {i : Nat}, (∀ j e, firstZ f i L = some (j, e) → e = 0) → ∀ x ∈ L, f x = 0
  | [], _, _, x, hx => by simp at hx
  | y :: ys, i, h, x, hx => by
    have hy : f y = 0 := by
      by_cases h0 : f y = 0
      · exact h0
      · exact h i (f y) (by unfold firstZ; rw [if_neg h0])
    rcases List.mem_cons.1 hx with rfl | hm
    · exact hy
    · exact firstZ_all2 (i := i + 1) (fun j e he => h j e (by unfold firstZ; rw [if_pos hy]; exact he)) x hm
theorem caps_ok {p : Pr} (ht : (tablesZ p).2 = 0) : ∀ n ∈ p.caps, -1 ≤ n ∧ n ≤ 3 := by
  intro n hn
  have hs := tab_parts ht
  cases hc : p.caps.any capBad with
  | true => rw [tz_caps (fun h => h.elim hs.1 hs.2) hc] at ht; cases ht
  | false =>
    have := List.any_eq_false.1 hc n hn
    simp [capBad] at this
    omega
open Classical in
theorem sels_ok {p : Pr} (ht : (tablesZ p).2 = 0) : ∀ s ∈ p.sels, s.cs.length ≤ 4 ∧ ∀ c ∈ s.cs, 0 ≤ c.chan ∧ c.chan < p.caps.length := by
  intro s hs
  have hsz := tab_parts ht
  cases hc : p.caps.any capBad with
  | true => rw [tz_caps (fun h => h.elim hsz.1 hsz.2) hc] at ht; cases ht
  | false =>
    have h0 : selZ p.caps.length s = 0 := by
      refine firstZ_all2 (i := 0) (fun j e he => ?_) s hs
      unfold tablesZ at ht
      rw [if_neg (fun h => h.elim hsz.1 hsz.2), if_neg (by rw [hc]; simp), he] at ht
      exact ht
    unfold selZ at h0
    by_cases h4 : 4 < s.cs.length
    · rw [if_pos h4] at h0; cases h0
    · rw [if_neg h4] at h0
      refine ⟨by omega, fun c hcm => ?_⟩
      cases hb : s.cs.any (casBad p.caps.length) with
      | true => rw [if_pos hb] at h0; cases h0
      | false =>
        have := List.any_eq_false.1 hb c hcm
        simp [casBad, belowZ] at this
        exact this
theorem map_snocI {α : Type} {L : List α} {k : Nat} {x : α} (hx : L[k]? = some x) (f : α → Int) : (L.take (k + 1)).map f = (L.take k).map f ++ [f x] := by rw [take_snocP hx, List.map_append]; rfl
theorem flat_snocI {α : Type} {L : List α} {k : Nat} {x : α} (hx : L[k]? = some x) (f : α → List Int) : (L.take (k + 1)).flatMap f = (L.take k).flatMap f ++ f x := by rw [take_snocP hx, List.flatMap_append]; simp
set_option maxRecDepth 100000 in
theorem paired_any' (n : Int) (b : Bool) (w : World) (h0 : 0 ≤ n) (h1 : n ≤ 1000000) : Calls Try.prog 32 #[.int .i64 n, .bool b] w fun e w' => e = .returned (.int .i64 (pairN n b)) ∧ w = w' := paired_any n b w h0 h1
theorem flat_len_le {α : Type} {f : α → List Int} {m : Nat} : ∀ {L : List α}, (∀ s ∈ L, (f s).length ≤ m) → (L.flatMap f).length ≤ m * L.length
  | [], _ => by simp
  | x :: xs, h => by
    have h1 := flat_len_le (L := xs) (fun s hs => h s (List.mem_cons_of_mem _ hs))
    have h2 := h x (by simp)
    rw [List.flatMap_cons, List.length_append, List.length_cons, Nat.mul_add]
    omega
theorem get_en {L : List Int} {k : Nat} (h : k < L.length) : L[k]? = some (en L k) := by rw [List.getElem?_eq_getElem h, en_get L k h]
theorem i64_small {n : Int} (h0 : -1000 ≤ n) (h1 : n ≤ 1000000) : I64 n := ⟨by omega, by omega⟩
theorem All2.mem {α β : Type} {R : α → β → Prop} {A : List α} {B : List β} (h : All2 R A B) {y : β} (hy : y ∈ B) : ∃ x, R x y := by
  obtain ⟨i, hi, rfl⟩ := List.getElem_of_mem hy
  obtain ⟨x, _, hr⟩ := h.at i hi
  exact ⟨x, hr⟩
theorem Prg.ins_ok {w : World} {p : Pr} {q : PAt} (h : Prg w p q) : ∀ b ∈ p.blks, ∀ x ∈ b, InsOk x := by
  intro b hb x hx
  obtain ⟨r, _, hr⟩ := h.blks
  obtain ⟨y, hy⟩ := hr.mem hb
  exact hy.ok x hx
theorem insN_mem {x : Ins} (h : InsOk x) {y : Int} (hy : y ∈ insN x) : I64 y := by
  unfold insN at hy
  split at hy
  · simp at hy; subst hy; exact ⟨by decide, by decide⟩
  · split at hy
    · simp at hy; rcases hy with rfl | rfl | rfl
      · exact ⟨by decide, by decide⟩
      · exact h.2.1
      · exact h.2.2
    · simp at hy; rcases hy with rfl | rfl
      · exact h.1
      · exact h.2.1
theorem pairN_i64 {n : Int} (b : Bool) (h0 : 0 ≤ n) (h1 : n ≤ 1000) : I64 (pairN n b) := by
  unfold pairN
  split <;> exact ⟨by omega, by omega⟩
theorem numL_i64 (p : Pr) (hbk : ∀ b ∈ p.blks, (blkZ p b).2 = 0) (hio : ∀ b ∈ p.blks, ∀ x ∈ b, InsOk x) (hc : ∀ n ∈ p.caps, -1 ≤ n ∧ n ≤ 3) (hs : ∀ s ∈ p.sels, s.cs.length ≤ 4 ∧ ∀ c ∈ s.cs, 0 ≤ c.chan ∧ c.chan < p.caps.length) (hm : I64 p.mu ∧ I64 p.on ∧ I64 p.va)
    (hc4 : p.caps.length ≤ 4) (hs4 : p.sels.length ≤ 4) (hb6 : p.blks.length ≤ 6) (i : Nat) : I64 (en (numL p) i) := by
  refine i64_list (fun n hn => ?_) i
  unfold numL at hn
  rcases List.mem_append.1 hn with hn | hn
  · rcases List.mem_append.1 hn with hn | hn
    · rcases List.mem_append.1 hn with hn | hn
      · unfold headN at hn
        rcases List.mem_append.1 hn with hn | hn
        · rcases List.mem_cons.1 hn with rfl | hn
          · exact ⟨by omega, by omega⟩
          · obtain ⟨c, hcm, rfl⟩ := List.mem_map.1 hn
            have := hc c hcm
            exact ⟨by omega, by omega⟩
        · simp only [List.mem_cons, List.not_mem_nil, or_false] at hn
          rcases hn with rfl | rfl | rfl | rfl
          · exact hm.1
          · exact hm.2.1
          · exact hm.2.2
          · exact ⟨by omega, by omega⟩
      · obtain ⟨s, hsm, hn⟩ := List.mem_flatMap.1 hn
        have h := hs s hsm
        unfold selN at hn
        rcases List.mem_cons.1 hn with rfl | hn
        · exact pairN_i64 _ (by omega) (by omega)
        · obtain ⟨c, hcm, rfl⟩ := List.mem_map.1 hn
          have := h.2 c hcm
          exact pairN_i64 _ (by omega) (by omega)
    · simp only [List.mem_cons, List.not_mem_nil, or_false] at hn
      subst hn
      exact ⟨by omega, by omega⟩
  · obtain ⟨b, hbm, hn⟩ := List.mem_flatMap.1 hn
    have hl := (blk_parts (hbk b hbm)).1
    unfold blkN at hn
    rcases List.mem_cons.1 hn with rfl | hn
    · exact ⟨by omega, by omega⟩
    · obtain ⟨x, hx, hn⟩ := List.mem_flatMap.1 hn
      exact insN_mem (hio b hbm x hx) hn
set_option maxRecDepth 100000 in
set_option maxHeartbeats 8000000 in
theorem numbers_any (p : Pr) (q : PAt) (w : World) (h : Prg w p q) (hr : rightP p = true) :
    Calls Try.prog 19 #[prV p q] w (GotInts w (numL p)) := by
  have X_0 := Lib.hid (Bx.new w (prC p q) 26)
  have B_0 := Lib.hid (below_alloc w (.cells (prC p q) 26))
  have P_0 := Lib.hid (h.below B_0.out)
  have HIO := Lib.hid h.ins_ok
  obtain ⟨ht, hbk⟩ := right_parts hr
  have HCO := Lib.hid (caps_ok ht); have HSO := Lib.hid (sels_ok ht)
  have HCN := Lib.hid h.caps.len_eq
  have hc4 : q.cn ≤ 4 := by
    have h1 := (tab_parts ht).1
    unfold SizeA at h1
    have h2 := h.caps.len_eq
    omega
  have HSZ := Lib.hid h.szs
  have HB4I := Lib.hid (show ∀ i, I64 (en [p.mu, p.on, p.va, (q.sn : Int)] i) from i64_list (fun x hx => by
    simp at hx
    rcases hx with rfl | rfl | rfl | rfl
    · exact h.mu
    · exact h.on
    · exact h.va
    · have := h.sels.caps; unfold maxLen at this; exact ⟨by omega, by omega⟩))
  have HP64 := Lib.hid (show I64 p.mu ∧ I64 p.on ∧ I64 p.va from ⟨h.mu, h.on, h.va⟩)
  go_enter Try.func19, Try.ntmps19
  obtain ⟨BX, hBX⟩ : ∃ x, x = w.heap.size := ⟨_, rfl⟩
  rw [← hBX] at X_0
  have HBX := Lib.hid hBX
  clear hBX
  obtain ⟨w1, hw1⟩ : ∃ w1, w1 = w.alloc (.cells (prC p q) 26) := ⟨_, rfl⟩
  rw [← hw1] at X_0 B_0 P_0
  go_upto_region 1 with (fail)
  rw [← hw1]
  try rw [← HBX.out]
  clear hw1 h hr
  obtain ⟨x0, x1, x2, x3, x4, x5⟩ := X_0.out.cells6
  go_upto_region 2 with (fail)
  clear x0 x1 x2 x3 x4 x5
  have O_0 := Lib.hid (own_lit1 w1 q.cn)
  have B_1 := Lib.hid (below_alloc w1 (.cells #[.int .i64 q.cn] 3))
  obtain ⟨w2, hw2⟩ : ∃ x, x = w1.alloc (.cells #[.int .i64 q.cn] 3) := ⟨_, rfl⟩
  have HSZ2 := Lib.hid (show w1.heap.size + 1 = w2.heap.size by rw [hw2]; simp)
  rw [← hw2] at O_0 B_1 ⊢
  obtain ⟨B0, hB0⟩ : ∃ x, x = w1.heap.size := ⟨_, rfl⟩
  have HB0 := Lib.hid hB0
  rw [← hB0] at O_0 B_1 HSZ2 ⊢
  clear hw2 hB0
  have HKP := Lib.hid (fun W (H : Below B0 w2 W) => show Below w1.heap.size w1 W by rw [← HB0.out]; exact B_1.out.trans H)
  obtain ⟨x0, x1, x2, x3, x4, x5⟩ := (X_0.out.below (HKP.out _ (Below.refl _ _))).cells6
  go_wp2_with fail
  clear x0 x1 x2 x3 x4 x5
  go_loopw [3, 21] (fun u i wr => ∃ k : Nat, k ≤ q.cn ∧ i = .int .i64 k ∧ OwnN wr B0 u ([(q.cn : Int)] ++ (p.caps.take k).map (· + 1)) ∧ Below B0 w2 wr) (fun _ i _ => q.cn - (intOf i).toNat)
  case atStart => exact ⟨0, Nat.zero_le _, rfl, O_0.out, Below.refl _ _⟩
  case round =>
    clear O_0
    obtain ⟨k, hk, rfl, hown, hbw⟩ := hrel
    have HO := Lib.hid hown; have HW := Lib.hid hbw
    clear hown hbw
    have HZ := Lib.hid (show B0 ≤ wr.heap.size by have := HSZ2.out; have := HW.out.size; omega)
    by_cases hlt : k < q.cn
    · have hlt' : (k : Int) < (q.cn : Int) := by omega
      obtain ⟨b, off, hca, hc⟩ := (P_0.out.caps.below (HKP.out _ HW.out)).cell k hlt
      have HM := Lib.hid (map_snocI (get_en (L := p.caps) (k := k) (by rw [HCN.out]; exact hlt)) (· + 1))
      have hcb := P_0.out.caps.bound k
      obtain ⟨hn1, hn3⟩ := HCO.out _ (en_mem p.caps k (by rw [HCN.out]; exact hlt))
      obtain ⟨n, hn⟩ : ∃ n, n = en p.caps k := ⟨_, rfl⟩
      rw [← hn] at hc hcb HM hn1 hn3
      clear hn
      have HL := Lib.hid (show ([(q.cn : Int)] ++ (p.caps.take k).map (· + 1)).length ≤ 100000 by simp; omega)
      rw [hca]
      clear hca hcb
      go_wp2_with (at_builtin; refine appN1 rfl _ _ rfl B0 _ _ rfl HO.out (n + 1) rfl HL.out w2 HW.out HZ.out ?_; intro v' w3 ho hb3 hz3)
      go_roundw
      case rel => exact ⟨k + 1, by omega, by go_num, by rw [HM.out, ← List.append_assoc]; exact ho.out, hb3.out⟩
      case measure => simp [intOf]; omega
    · have hke : k = q.cn := by omega
      subst hke
      have HT := Lib.hid (show p.caps.take q.cn = p.caps from List.take_of_length_le (by rw [HCN.out]; exact Nat.le_refl _))
      have hO := HO.out
      rw [HT.out] at hO
      have HO1 := Lib.hid hO
      clear hO HO HT
      have HL := Lib.hid (show ([(q.cn : Int)] ++ p.caps.map (· + 1)).length ≤ 100000 by simp; have := HCN.out; omega)
      obtain ⟨x0, x1, x2, x3, x4, x5⟩ := (X_0.out.below (HKP.out _ HW.out)).cells6
      have HB4 := Lib.hid (below_alloc wr (.cells #[.int .i64 p.mu, .int .i64 p.on, .int .i64 p.va, .int .i64 q.sn] 3))
      go_upto_region 8 with (at_builtin; refine wpList_appG enc1_len (by decide) enc1_one 22 3 8 _ Try.underlying22 inf3n rfl (by decide) rfl _ _ rfl B0 _ ([(q.cn : Int)] ++ p.caps.map (· + 1)) rfl (OwnR.below HO1.out HB4.out) ⟨wr.heap.size, 0, none⟩ 4 4 [p.mu, p.on, p.va, (q.sn : Int)] rfl (Ints.recs (Ints.of_row (heap_alloc_new wr _) rfl (by decide) HB4I.out)) HL.out (by decide) (by have := HZ.out; simp; omega) ?_; intro v4 w4 ho4 hg4)
      have O4 := Lib.hid (show OwnN w4 B0 v4 (headN p) from by
        have h1 := ho4.out
        rw [show [(q.cn : Int)] ++ p.caps.map (· + 1) ++ [p.mu, p.on, p.va, (q.sn : Int)] = headN p by unfold headN; rw [HCN.out, HSZ.out.sn]; rfl] at h1
        exact h1)
      have W4 := Lib.hid (show Below B0 w2 w4 from Below.grown (HW.out.alloc HZ.out _) hg4.out (by have := HZ.out; simp; omega) (fun r hr => OwnR.lt HO1.out r hr))
      clear ho4 hg4 x0 x1 x2 x3 x4 x5
      obtain ⟨x0, x1, x2, x3, x4, x5⟩ := (X_0.out.below (HKP.out _ W4.out)).cells6
      have hs4 : q.sn ≤ 4 := (szB_not HSZ.out (tab_parts ht).2).2.2.1
      have hb6 : q.bn ≤ 6 := (szB_not HSZ.out (tab_parts ht).2).2.2.2.2
      have hc4' : p.caps.length ≤ 4 := by rw [HCN.out]; exact hc4
      have HC4 := Lib.hid hc4'
      clear ht hc4'
      go_wp2_with fail
      clear x0 x1 x2 x3 x4 x5
      have HLS := Lib.hid (show ∀ k, (headN p ++ (p.sels.take k).flatMap selN).length ≤ 1000 from fun k => by
        have h1 := flat_len_le (f := selN) (m := 5) (L := p.sels.take k) (fun s hs => by
          have := (HSO.out s (List.mem_of_mem_take hs)).1
          simp [selN]; omega)
        have h2 := List.length_take_le k p.sels
        have h3 := List.length_take_le' k p.sels
        have h4 := HSZ.out.sn
        have h5 := HC4.out
        rw [List.length_append]
        have h6 : (headN p).length ≤ 20 := by simp [headN]; omega
        omega)
      go_loopw [3, 46] (fun u i wr => ∃ k : Nat, k ≤ q.sn ∧ i = .int .i64 k ∧ OwnN wr B0 u (headN p ++ (p.sels.take k).flatMap selN) ∧ Below B0 w2 wr) (fun _ i _ => q.sn - (intOf i).toNat)
      case atStart => exact ⟨0, Nat.zero_le _, rfl, by simpa using O4.out, W4.out⟩
      case round =>
        clear O4 W4 HO1 HW HZ HB4
        obtain ⟨k, hk, rfl, hown, hbw⟩ := hrel
        have HO := Lib.hid hown; have HW := Lib.hid hbw
        clear hown hbw
        have HZ := Lib.hid (show B0 ≤ wr.heap.size by have := HSZ2.out; have := HW.out.size; omega)
        by_cases hlt : k < q.sn
        · have hlt' : (k : Int) < (q.sn : Int) := by omega
          obtain ⟨x, b, off, ca, cn, cc, hx, hsa, d0', d1', hcs⟩ := P_0.out.sels.at k hlt
          have d0 := ((HKP.out _ HW.out).cell (p := ⟨b, off + k * 2, none⟩) (World.block_lt_of_cell? _ _ d0')).trans d0'
          have d1 := ((HKP.out _ HW.out).cell (p := ⟨b, off + k * 2 + 1, none⟩) (World.block_lt_of_cell? _ _ d1')).trans d1'
          have HX := Lib.hid (flat_snocI hx selN)
          obtain ⟨hcl, hch⟩ := HSO.out x (List.mem_of_getElem? hx)
          have hcnl := hcs.recs.len_eq
          have hcn4 : cn ≤ 4 := by omega
          have HCS := Lib.hid hcs; have HCH := Lib.hid hch; have HCL := Lib.hid hcnl
          clear d0' d1' hx hcs hch hcnl hcl
          have HPR := Lib.hid (fun W => paired_any cn x.d W (by omega) (by omega))
          rw [hsa]
          clear hsa
          have BX5 := Lib.hid (Bx.new wr #[.slice ca cn cc, .bool x.d] 47)
          have BB5 := Lib.hid (below_alloc wr (.cells #[.slice ca cn cc, .bool x.d] 47))
          have HLK := Lib.hid (show (headN p ++ (p.sels.take k).flatMap selN).length ≤ 100000 from Nat.le_trans (HLS.out k) (by decide))
          go_wp2_with fail
          refine (HPR.out _).mono ?_
          rintro e w6 ⟨rfl, rfl⟩
          have HO5 := Lib.hid (OwnR.below HO.out BB5.out)
          have HW5 := Lib.hid (HW.out.trans (Below.mono BB5.out HZ.out))
          have HZ5 := Lib.hid (show B0 ≤ (wr.alloc (.cells #[.slice ca cn cc, .bool x.d] 47)).heap.size by have := HZ.out; simp; omega)
          obtain ⟨w5, hw5⟩ : ∃ w5, w5 = wr.alloc (.cells #[.slice ca cn cc, .bool x.d] 47) := ⟨_, rfl⟩
          obtain ⟨b7, hb7⟩ : ∃ b7, b7 = wr.heap.size := ⟨_, rfl⟩
          rw [← hw5] at BX5 BB5 HO5 HW5 HZ5 ⊢
          rw [← hb7] at BX5 ⊢
          clear hw5 hb7 BB5 d0 d1 HO HW HZ
          obtain ⟨pn, hpn⟩ : ∃ pn, pn = pairN cn x.d := ⟨_, rfl⟩
          rw [← hpn]
          have HPN := Lib.hid hpn
          clear hpn
          obtain ⟨L0, hL0⟩ : ∃ L0, L0 = headN p ++ (p.sels.take k).flatMap selN := ⟨_, rfl⟩
          rw [← hL0] at HO5 HLK
          have HL0 := Lib.hid hL0
          clear hL0
          go_upto_region 12 with (at_builtin; refine appN2 rfl _ _ rfl B0 _ L0 rfl HO5.out pn rfl HLK.out w2 HW5.out HZ5.out b7 _ 47 BX5.out (by decide) ?_; intro v7 w7 ho7 hb7 hx7)
          have c0 := Bx.cell hx7.out 0 rfl
          have HLM := Lib.hid (show ∀ j, (L0 ++ [pn] ++ (x.cs.take j).map (fun c => pairN c.chan c.send)).length ≤ 100000 from fun j => by
            have := HLK.out; have h2 := List.length_take_le j x.cs; have h3 := HCL.out; have h4 := HLS.out k; rw [← HL0.out] at h4; simp; omega)
          go_wp2_with fail
          clear c0
          go_loopw [3, 62] (fun u i wr => ∃ j : Nat, j ≤ cn ∧ i = .int .i64 j ∧ OwnN wr B0 u (L0 ++ [pn] ++ (x.cs.take j).map (fun c => pairN c.chan c.send)) ∧ Below B0 w2 wr) (fun _ i _ => cn - (intOf i).toNat)
          case atStart => exact ⟨0, Nat.zero_le _, rfl, by simpa using ho7.out, hb7.out⟩
          case round =>
            clear ho7 hb7 hx7 HO5 HW5 HZ5 BX5
            obtain ⟨j, hj, rfl, hown, hbw⟩ := hrel
            have HO := Lib.hid hown; have HW := Lib.hid hbw
            clear hown hbw
            have HZ := Lib.hid (show B0 ≤ wr.heap.size by have := HSZ2.out; have := HW.out.size; omega)
            by_cases hlj : j < cn
            · have hlj' : (j : Int) < (cn : Int) := by omega
              obtain ⟨y, b3, o3, hy, hyok, hca3, e0, e1⟩ := (HCS.out.below (HKP.out _ HW.out)).at j hlj
              obtain ⟨hy0, hy1⟩ := HCH.out y (List.mem_of_getElem? hy)
              have HM := Lib.hid (map_snocI hy (fun c => pairN c.chan c.send))
              have HPR := Lib.hid (fun W => paired_any' y.chan y.send W hy0 (by have := HC4.out; omega))
              have BB := Lib.hid (below_alloc wr (.cells #[.bool y.send, .int .i64 y.chan] 71))
              have HO5 := Lib.hid (OwnR.below HO.out BB.out)
              have HW5 := Lib.hid (HW.out.trans (Below.mono BB.out HZ.out))
              have HZ5 := Lib.hid (show B0 ≤ (wr.alloc (.cells #[.bool y.send, .int .i64 y.chan] 71)).heap.size by have := HZ.out; simp; omega)
              have HLJ := Lib.hid (HLM.out j)
              clear hy hyok
              rw [hca3]
              clear hca3
              go_wp2_with fail
              refine (HPR.out _).mono ?_
              rintro e w6 ⟨rfl, rfl⟩
              obtain ⟨w5, hw5⟩ : ∃ w5, w5 = wr.alloc (.cells #[.bool y.send, .int .i64 y.chan] 71) := ⟨_, rfl⟩
              rw [← hw5] at HO5 HW5 HZ5 ⊢
              clear hw5 BB e0 e1
              obtain ⟨yn, hyn⟩ : ∃ yn, yn = pairN y.chan y.send := ⟨_, rfl⟩
              rw [← hyn] at HM ⊢
              clear hyn hy0 hy1
              go_wp2_with (at_builtin; refine appN1 rfl _ _ rfl B0 _ _ rfl HO5.out yn rfl HLJ.out w2 HW5.out HZ5.out ?_; intro v8 w8 ho8 hb8 hz8)
              go_roundw
              case rel => exact ⟨j + 1, by omega, by go_num, by rw [HM.out, ← List.append_assoc]; exact ho8.out, hb8.out⟩
              case measure => simp [intOf]; omega
            · have hje : j = cn := by omega
              subst hje
              have R := Lib.hid (show L0 ++ [pn] ++ (x.cs.take j).map (fun c => pairN c.chan c.send) = headN p ++ (p.sels.take (k + 1)).flatMap selN by
                rw [HX.out, List.take_of_length_le (by rw [HCL.out]; exact Nat.le_refl _), HL0.out, HPN.out, ← HCL.out, selN]
                simp)
              go_wp2_with fail
              go_roundw
              case rel => exact ⟨k + 1, by omega, by go_num, by rw [← R.out]; exact HO.out, HW.out⟩
              case measure => simp [intOf]; omega
        · have hke : k = q.sn := by omega
          subst hke
          have HT := Lib.hid (show p.sels.take q.sn = p.sels from List.take_of_length_le (by rw [HSZ.out.sn]; exact Nat.le_refl _))
          have HLK := Lib.hid (show (headN p ++ p.sels.flatMap selN).length ≤ 1000 from by have := HLS.out q.sn; rw [HT.out] at this; exact this)
          have hO := HO.out
          rw [HT.out] at hO
          have HO1 := Lib.hid hO
          clear hO HO HT
          have HLK2 := Lib.hid (Nat.le_trans HLK.out (show 1000 ≤ 100000 by decide))
          obtain ⟨x0, x1, x2, x3, x4, x5⟩ := (X_0.out.below (HKP.out _ HW.out)).cells6
          obtain ⟨L0, hL0⟩ : ∃ L0, L0 = headN p ++ p.sels.flatMap selN := ⟨_, rfl⟩
          rw [← hL0] at HO1 HLK HLK2
          have HL0 := Lib.hid hL0
          clear hL0
          go_upto_region 19 with (at_builtin; refine appN1 rfl _ _ rfl B0 _ L0 rfl HO1.out q.bn rfl HLK2.out w2 HW.out HZ.out ?_; intro v9 w9 ho9 hb9 hz9)
          clear x0 x1 x2 x3 x4 x5
          obtain ⟨x0, x1, x2, x3, x4, x5⟩ := (X_0.out.below (HKP.out _ hb9.out)).cells6
          go_wp2_with fail
          clear x0 x1 x2 x3 x4 x5
          have HLB := Lib.hid (show ∀ m x j, m < q.bn → p.blks[m]? = some x → (L0 ++ [(q.bn : Int)] ++ (p.blks.take m).flatMap blkN ++ [(x.length : Int)] ++ (x.take j).flatMap insN).length ≤ 100000 from fun m x j hm hx => by
            have h1 := flat_len_le (f := blkN) (m := 100) (L := p.blks.take m) (fun s hs => by
              have h0 := (blk_parts (hbk s (List.mem_of_mem_take hs))).1
              have h3 := flat_len_le (f := insN) (m := 3) (L := s) (fun y _ => by unfold insN; split <;> (try split) <;> simp)
              simp only [blkN, List.length_cons]; omega)
            have h2 := List.length_take_le m p.blks
            have h3 := flat_len_le (f := insN) (m := 3) (L := x.take j) (fun y _ => by unfold insN; split <;> (try split) <;> simp)
            have h4 := List.length_take_le' j x
            have h5 := (blk_parts (hbk x (List.mem_of_getElem? hx))).1
            have h6 := HLK.out
            have h7 := List.length_take_le' m p.blks
            simp only [List.length_append, List.length_singleton]
            omega)
          go_loopw [3, 85] (fun u i wr => ∃ m : Nat, m ≤ q.bn ∧ i = .int .i64 m ∧ OwnN wr B0 u (L0 ++ [(q.bn : Int)] ++ (p.blks.take m).flatMap blkN) ∧ Below B0 w2 wr) (fun _ i _ => q.bn - (intOf i).toNat)
          case atStart => exact ⟨0, Nat.zero_le _, rfl, by simpa using ho9.out, hb9.out⟩
          case round =>
            clear ho9 hb9 hz9 HO1 HW HZ
            obtain ⟨m, hm, rfl, hown, hbw⟩ := hrel
            have HO := Lib.hid hown; have HW := Lib.hid hbw
            clear hown hbw
            have HZ := Lib.hid (show B0 ≤ wr.heap.size by have := HSZ2.out; have := HW.out.size; omega)
            by_cases hlm : m < q.bn
            · have hlm' : (m : Int) < (q.bn : Int) := by omega
              obtain ⟨x, b, off, ca, cn, cc, hx, hba, d0', hblk⟩ := P_0.out.blks.at m hlm
              have d0 := ((HKP.out _ HW.out).cell (p := ⟨b, off + m, none⟩) (World.block_lt_of_cell? _ _ d0')).trans d0'
              have HX := Lib.hid (flat_snocI hx blkN)
              have HCL := Lib.hid hblk.recs.len_eq
              have HC := Lib.hid hblk
              have hc24 : cn ≤ 24 := by rw [← hblk.recs.len_eq]; exact (blk_parts (hbk x (List.mem_of_getElem? hx))).1
              have HLJ := Lib.hid (fun j => HLB.out m x j hlm hx)
              clear d0' hx hblk
              rw [hba]
              clear hba
              obtain ⟨L1, hL1⟩ : ∃ L1, L1 = L0 ++ [(q.bn : Int)] ++ (p.blks.take m).flatMap blkN := ⟨_, rfl⟩
              rw [← hL1] at HO HLJ
              have HL1 := Lib.hid hL1
              clear hL1
              rw [HCL.out] at HLJ
              have HLN := Lib.hid (show L1.length ≤ 100000 from by have := HLJ.out 0; simp at this; omega)
              go_wp2_with (at_builtin; refine appN1 rfl _ _ rfl B0 _ L1 rfl HO.out cn rfl HLN.out w2 HW.out HZ.out ?_; intro v7 w7 ho7 hb7 hz7)
              clear d0
              go_loopw [3, 96] (fun u i wr => ∃ j : Nat, j ≤ cn ∧ i = .int .i64 j ∧ OwnN wr B0 u (L1 ++ [(cn : Int)] ++ (x.take j).flatMap insN) ∧ Below B0 w2 wr) (fun _ i _ => cn - (intOf i).toNat)
              case atStart => exact ⟨0, Nat.zero_le _, rfl, by simpa using ho7.out, hb7.out⟩
              case round =>
                clear ho7 hb7 hz7 HO HW HZ
                obtain ⟨j, hj, rfl, hown, hbw⟩ := hrel
                have HO := Lib.hid hown; have HW := Lib.hid hbw
                clear hown hbw
                have HZ := Lib.hid (show B0 ≤ wr.heap.size by have := HSZ2.out; have := HW.out.size; omega)
                by_cases hlj : j < cn
                · have hlj' : (j : Int) < (cn : Int) := by omega
                  obtain ⟨y, b3, o3, hy, hyok, hca3, e0, e1, e2⟩ := (HC.out.below (HKP.out _ HW.out)).at j hlj
                  have HM := Lib.hid (flat_snocI hy insN)
                  have BB := Lib.hid (below_alloc wr (.cells #[.int .i64 y.op, .int .i64 y.a, .int .i64 y.b] 44))
                  have HWR := Lib.hid (written_any y (wr.alloc (.cells #[.int .i64 y.op, .int .i64 y.a, .int .i64 y.b] 44)) hyok)
                  unfold NewInts at HWR
                  have HO5 := Lib.hid (OwnR.below HO.out BB.out)
                  have HW5 := Lib.hid (HW.out.trans (Below.mono BB.out HZ.out))
                  have HZ5 := Lib.hid (show B0 ≤ (wr.alloc (.cells #[.int .i64 y.op, .int .i64 y.a, .int .i64 y.b] 44)).heap.size by have := HZ.out; simp; omega)
                  have HLJJ := Lib.hid (HLJ.out j)
                  clear hy hyok
                  rw [hca3]
                  clear hca3
                  go_wp2_with fail
                  refine HWR.out.mono ?_
                  rintro e w6 ⟨g6, n6, rfl, hi6, hb6⟩
                  have HO6 := Lib.hid (OwnR.below HO5.out hb6)
                  have HW6 := Lib.hid (HW5.out.trans (Below.mono hb6 HZ5.out))
                  have HZ6 := Lib.hid (Nat.le_trans HZ5.out hb6.size)
                  have HI6 := Lib.hid hi6
                  have hn6 : n6 ≤ 3 := by rw [← hi6.len_eq]; unfold insN; split <;> (try split) <;> simp
                  clear hi6 hb6 e0 e1 e2 BB HO5 HW5 HZ5
                  go_wp2_with (at_builtin; refine wpList_appG enc1_len (by decide) enc1_one 22 3 8 _ Try.underlying22 inf3n rfl (by decide) rfl _ _ rfl B0 _ _ rfl HO6.out _ n6 n6 (insN y) rfl (Ints.recs HI6.out) HLJJ.out (by omega) HZ6.out ?_; intro v8 w8 ho8 hg8)
                  have HB8 := Lib.hid (show Below B0 w2 w8 from Below.grown HW6.out hg8.out HZ6.out (fun r hr => OwnR.lt HO6.out r hr))
                  clear hg8
                  go_roundw
                  case rel => exact ⟨j + 1, by omega, by go_num, by rw [HM.out, ← List.append_assoc]; exact ho8.out, HB8.out⟩
                  case measure => simp [intOf]; omega
                · have hje : j = cn := by omega
                  subst hje
                  have R := Lib.hid (show L1 ++ [(j : Int)] ++ (x.take j).flatMap insN = L0 ++ [(q.bn : Int)] ++ (p.blks.take (m + 1)).flatMap blkN by
                    rw [HX.out, List.take_of_length_le (by rw [HCL.out]; exact Nat.le_refl _), HL1.out, ← HCL.out, blkN]
                    simp)
                  go_wp2_with fail
                  go_roundw
                  case rel => exact ⟨m + 1, by omega, by go_num, by rw [← R.out]; exact HO.out, HW.out⟩
                  case measure => simp [intOf]; omega
            · have hme : m = q.bn := by omega
              subst hme
              have R := Lib.hid (show L0 ++ [(q.bn : Int)] ++ (p.blks.take q.bn).flatMap blkN = numL p by
                rw [List.take_of_length_le (by rw [HSZ.out.bn]; exact Nat.le_refl _), HL0.out, ← HSZ.out.bn, numL])
              have HNI := Lib.hid (numL_i64 p hbk HIO.out HCO.out HSO.out HP64.out HC4.out (by have := HSZ.out.sn; omega) (by have := HSZ.out.bn; omega))
              have hO := HO.out
              rw [R.out] at hO
              obtain ⟨ra, rc, rfl, hi⟩ := OwnN.ints hO HNI.out
              have HI := Lib.hid hi
              clear hi hO
              go_wp2_with fail
              go_ret
              exact ⟨ra, _, rc, rfl, HI.out, B_0.out.trans (Below.mono (HKP.out _ HW.out) B_0.out.size)⟩
end Go.Proofs.Ytddkckppmjcclaa
