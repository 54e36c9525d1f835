/- What an event waits for, one by one: the closure of edges. -/
import Derived.Test.YtjkbmenmpnidhaaP1
import Derived.BigRegionIn
import Derived.Stop.RegionWithIn
namespace Go.Proofs.Ytjkbmenmpnidhaa
open Go.RowKit Go.Shelf
attribute [local go_sem] Oper.semAt_some
set_option linter.unusedSimpArgs false
set_option linter.unusedVariables false
def okI (i : Nat) (x : Int) : Bool := decide (0 ≤ x ∧ x < (i : Int))
def lastL (L : List Ev) (i : Nat) : List Int := if 0 ≤ lastZ L (evAt L i).g i then [lastZ L (evAt L i).g i] else []
theorem raw_eq (caps : List Int) (L : List Ev) (i : Nat) : rawZ caps L i = lastL L i ++ (othersZ caps L (evAt L i)).filter (okI i) := rfl
theorem Bx.keptI {B : Nat} {W W' : World} {b : Nat} {cs : Array Value} {t : TypeId} (h : Bx W b cs t) (hk : Kept (itP B) W W') (hp : b < B) : Bx W' b cs t := hk.same b _ h (.inl hp)
theorem RoundIn.wide_any {n m : Nat} {P : Program} {l0 : Nat} {f : FuncId} {tmps : Array Value} {assign body : Code} {w : World} {R : Ending → World → Prop} (l : Nat) (h : RoundIn Fence.wide n P l0 f tmps assign body w R) : RoundIn (Fence.wide.inRound l) m P l0 f tmps assign body w R :=
  ⟨h.1, fun c cs _ => h.2 c cs (room_wide _)⟩
theorem Bx.notRow {W : World} {b : Nat} {cs : Array Value} {t : TypeId} {o : Obj} (h : Bx W b cs t) (ht : t ≠ 3) (ho : W.heap[b]? = some o) : isRow o = false := by
  unfold Bx at h; rw [h] at ho; cases ho
  unfold isRow; split
  · rename_i e; simp at e; exact absurd e.2.1 ht
  · rfl
set_option maxRecDepth 100000 in
set_option maxHeartbeats 8000000 in
theorem edges_by (n : Nat) (hn : 6 ≤ n) (p : BP) (caps : List Int) (L : List Ev) (i : Nat) (w0 w : World) (b1 b2 : Nat) (fix : Nat → Prop) (hb0 : Book w0 p caps L) (hw : Below w0.heap.size w0 w) (hK : Bx w b1 (bkC p) 41) (hI : Bx w b2 #[.int .i64 (i : Int)] 3)
    (hf0 : ∀ k, k < w0.heap.size → fix k) (hf1 : fix b1) (hf2 : fix b2) (hfl : ∀ k, fix k → k < w.heap.size) (hi : i < p.n) (hfew : L.length ≤ 1000)
    (hcap : (evAt L i).kind = 3 → 0 ≤ (evAt L i).obj ∧ (evAt L i).obj < (p.cn : Int) ∧ -9223372036854775808 ≤ (evAt L i).no - capAt caps (evAt L i).obj ∧ (evAt L i).no - capAt caps (evAt L i).obj ≤ 9223372036854775807) :
    SeqBy n Try.prog 43 #[.pointer (some ⟨b1, 0, none⟩), .pointer (some ⟨b2, 0, none⟩)] fix (w.heap.size + 2) (fun ys => ys = rawZ caps L i) 2000 w := by
  intro l J Jx W hbel hsz hJ hJx hY h0
  obtain ⟨B, hB⟩ : ∃ B, w.heap.size + 2 = B := ⟨_, rfl⟩
  rw [hB] at hsz hJ hJx hY
  have hfl : ∀ k, fix k → k < B := fun k hk => by have := hfl k hk; omega
  show CallsIn Fence.wide n Try.prog 43 #[.func (.yield l) #[] #[], .pointer (some ⟨b1, 0, none⟩), .pointer (some ⟨b2, 0, none⟩)] W _
  have h1n : 1 ≤ n := by omega
  have h2n : 1 ≤ n - 1 := by omega
  have h3n : 1 ≤ n - 1 - 1 := by omega
  have h4n : 1 ≤ n - 1 - 1 - 1 := by omega
  -- behind the box of yield
  have AL := Lib.hid (below_alloc W (.cells #[.func (.yield l) #[] #[]] 82))
  have KW := Lib.hid ((hK.below hbel).below AL.out)
  have IW := Lib.hid ((hI.below hbel).below AL.out)
  have YW := Lib.hid (Bx.new W #[.func (.yield l) #[] #[]] 82)
  have BW := Lib.hid ((hw.trans (Below.mono hbel hw.size)).trans (Below.mono AL.out (Nat.le_trans hw.size hbel.size)))
  have JW := Lib.hid (hJ _ _ _ h0 (Kept.alloc _ W (.cells #[.func (.yield l) #[] #[]] 82)))
  have HJ := Lib.hid hJ; have HJX := Lib.hid hJx; have HY := Lib.hid hY; have HB0 := Lib.hid hb0; have HF0 := Lib.hid hf0
  have HLA := Lib.hid (fun V (hbk : Book V p caps L) => callsIn_wide (n := n - 1) |>.2 (Last_go p.a p.n p.c L i V hbk.evs hi))
  unfold PairI at HLA
  have hlast := lastZ_lt L (evAt L i).g i
  have HL := Lib.hid (show lastL L i = if 0 ≤ lastZ L (evAt L i).g i then [lastZ L (evAt L i).g i] else [] from rfl)
  have HRAW := Lib.hid (raw_eq caps L i)
  have hsw : w0.heap.size ≤ W.heap.size := Nat.le_trans hw.size hbel.size
  have hl1 := hK.lt; have hl2 := hI.lt
  have hbs := hbel.size
  have HEV := Lib.hid (fun V (hbk : Book V p caps L) => hbk.evs.at i hi)
  have HCAP := Lib.hid hcap
  obtain ⟨la, hla⟩ : ∃ z, z = lastZ L (evAt L i).g i := ⟨_, rfl⟩
  rw [← hla] at HLA hlast HL
  clear hla AL hK hI hw hbel h0 hJ hJx hY hb0 hf0 hcap
  obtain ⟨V0, hV0⟩ : ∃ V, V = W.alloc (.cells #[.func (.yield l) #[] #[]] 82) := ⟨_, rfl⟩
  rw [← hV0] at KW IW YW BW JW
  rw [hsz] at YW
  have HV0 := Lib.hid hV0
  have hb1y : b1 < B := by omega
  have hb2y : b2 < B := by omega
  have hsB : w0.heap.size ≤ B := by omega
  clear hV0
  refine callsIn_of_wp_marks Try.func43 rfl trivial ?_ rfl
  simp only [Try.ntmps43, List.size_toArray, List.length_cons, List.length_nil, Nat.reduceAdd, Nat.reduceSub, Array.replicate_succ, Array.replicate_zero, List.push_toArray, List.append_toArray, List.nil_append, List.cons_append]
  obtain ⟨ca, cn, cc, a, n2, c, M⟩ := p
  unfold bkC at KW
  dsimp only at KW HLA HEV HCAP hi
  obtain ⟨t0, t1, t2⟩ := KW.out.cells3
  have t3 := Bx.cell IW.out 0 rfl
  rw [HV0.out] at t0 t1 t2 t3
  by_cases hla : 0 ≤ la
  · have HL2 := Lib.hid (HL.out.trans (if_pos hla))
    gi_wp2_with (refine ⟨trivial, ?_⟩; gi_at_call 44; rw [← HV0.out]; refine (HLA.out V0 (HB0.out.below BW.out)).mono ?_; rintro e W1 ⟨rfl, hbel⟩; have K1 := Lib.hid (KW.out.below hbel); have I1 := Lib.hid (IW.out.below hbel); have Y1 := Lib.hid (YW.out.below hbel); have B1 := Lib.hid (BW.out.trans (Below.mono hbel BW.out.size)); have J1 := Lib.hid (HJ.out _ _ _ JW.out (kept_of_below hbel)); clear hbel t0 t1 t2 t3 KW IW YW BW JW; have y0 := Bx.cell Y1.out 0 rfl; obtain ⟨fn, tmps, assign, body, hy, hR⟩ := HY.out _ la W1 J1.out (by simp); have HR := Lib.hid (RoundIn.both hR); clear hR)
    refine HR.out.mono ?_
    rintro e W3 ⟨b, rfl, hb⟩
    rcases hb.out with ⟨rfl, hj3, hk3⟩ | ⟨rfl, hjx3, _⟩
    · have J3 := Lib.hid (show J (lastL L i) W3 by rw [HL2.out]; exact hj3)
      have K3 := Lib.hid (K1.out.keptR hk3 (.inl hf1)); have I3 := Lib.hid (I1.out.keptR hk3 (.inl hf2)); have Y3 := Lib.hid (Y1.out.keptR hk3 (.inr ⟨Nat.le_refl _, by decide⟩))
      have B3 := Lib.hid (B1.out.trans (hk3.below (fun k o hk _ => .inl (HF0.out k hk)) B1.out.size))
      clear hj3 hk3 hb hy HR J1 K1 I1 Y1 B1 y0
      have DR := Lib.hid (Below.refl W3.heap.size W3).drew
      have KD := Lib.hid (K3.out.below DR.out); have ID := Lib.hid (I3.out.below DR.out); have YD := Lib.hid (Y3.out.below DR.out)
      have BD := Lib.hid (B3.out.trans (Below.mono DR.out B3.out.size)); have JD := Lib.hid (HJ.out _ _ _ J3.out (Kept.drew _ _))
      clear DR K3 I3 Y3 B3 J3
      obtain ⟨eb0, eo0, hok, hae, c0, c1, c2, c3, c4⟩ := HEV.out W3.drew (HB0.out.below BD.out)
      obtain ⟨x, hx⟩ : ∃ x, x = evAt L i := ⟨_, rfl⟩
      have HX := Lib.hid hx
      rw [← hx] at hok c0 c1 c2 c3 c4
      have HCAP2 := Lib.hid (show x.kind = 3 → 0 ≤ x.obj ∧ x.obj < (cn : Int) ∧ -9223372036854775808 ≤ x.no - capAt caps x.obj ∧ x.no - capAt caps x.obj ≤ 9223372036854775807 from by rw [hx]; exact HCAP.out)
      clear hx HCAP HEV
      subst hae
      obtain ⟨t0, t1, t2⟩ := KD.out.cells3
      have t3 := Bx.cell ID.out 0 rfl
      have hi2 : (i : Int) < (n2 : Int) := by omega
      have HO := Lib.hid (fun V => others_in (n - 1) ⟨ca, cn, cc, some ⟨eb0, eo0, none⟩, n2, c, M⟩ x V)
      unfold bkV bkC evV evC at HO
      have HOK := Lib.hid hok
      obtain ⟨x0, x1, x2, x3, x4⟩ := x
      dsimp only at c0 c1 c2 c3 c4 HO
      clear hok
      gi_wp2
      refine wpIn_mono (Q := fun e a' w' => match e with | .normal => a' = { tmps := #[.func (.yield l) #[] #[], .pointer (some ⟨b1, 0, none⟩), .pointer (some ⟨b2, 0, none⟩), .pointer (some ⟨B, 0, none⟩), .int .i64 la, .int .i64 0, undef, .tuple #[.int .i64 la, .int .i64 0], .pointer (some ⟨b1, 1, none⟩), .slice (some ⟨eb0, eo0, none⟩) n2 c, .int .i64 (i : Int), .tuple #[.int .i64 la, .int .i64 0], .int .i64 la, .int .i64 0, .int .i64 0, .bool true, .bool true, .int .i64 la, .bool true, .bool true, .bool true, .func (.yield l) #[] #[], .int .i64 la, .bool true, .bool false, .bool false, .agg #[.slice ca cn cc, .slice (some ⟨eb0, eo0, none⟩) n2 c, .map (some M)], .pointer (some ⟨b1, 1, none⟩), .slice (some ⟨eb0, eo0, none⟩) n2 c, .int .i64 (i : Int), .pointer (some ⟨eb0, eo0 + i * 5, none⟩), .agg #[.int .i64 x0, .int .i64 x1, .int .i64 x2, .int .i64 x3, .int .i64 x4], .func (.func 77) #[] #[.pointer (some ⟨W3.heap.size + 1, 0, none⟩), .pointer (some ⟨W3.heap.size, 0, none⟩)], undef, undef, undef, undef, undef, undef, undef, undef, undef, undef, undef, undef, undef, undef], defers := [] } ∧ w' = ((W3.alloc (.cells #[.slice ca cn cc, .slice (some ⟨eb0, eo0, none⟩) n2 c, .map (some M)] 41)).alloc (.cells #[.int .i64 x0, .int .i64 x1, .int .i64 x2, .int .i64 x3, .int .i64 x4] 48)).drew | _ => False) ?_ ?_
      · gi_region_with (refine ⟨trivial, ?_⟩; gi_at_call 45; refine (HO.out _).mono ?_; rintro e w' ⟨rfl, rfl⟩)
        all_goals exact ⟨rfl, rfl⟩
      intro e a' w' hq
      cases e <;> first | exact hq.elim | skip
      obtain ⟨rfl, rfl⟩ := hq
      dsimp only
      clear HO t0 t1 t2 t3 c0 c1 c2 c3 c4
      obtain ⟨bb, hbb⟩ : ∃ z, z = W3.heap.size := ⟨_, rfl⟩
      obtain ⟨eb, heb⟩ : ∃ z, z = W3.heap.size + 1 := ⟨_, rfl⟩
      have KX := Lib.hid (((Bx.new W3.drew #[.slice ca cn cc, .slice (some ⟨eb0, eo0, none⟩) n2 c, .map (some M)] 41).below (below_alloc _ (.cells #[.int .i64 x0, .int .i64 x1, .int .i64 x2, .int .i64 x3, .int .i64 x4] 48))))
      have EX := Lib.hid (Bx.new2 W3.drew (.cells #[.slice ca cn cc, .slice (some ⟨eb0, eo0, none⟩) n2 c, .map (some M)] 41) #[.int .i64 x0, .int .i64 x1, .int .i64 x2, .int .i64 x3, .int .i64 x4] 48)
      have DX := Lib.hid ((below_alloc W3.drew (.cells #[.slice ca cn cc, .slice (some ⟨eb0, eo0, none⟩) n2 c, .map (some M)] 41)).alloc (by simp) (.cells #[.int .i64 x0, .int .i64 x1, .int .i64 x2, .int .i64 x3, .int .i64 x4] 48))
      have IX := Lib.hid (ID.out.below DX.out); have YX := Lib.hid (YD.out.below DX.out); have BX := Lib.hid (BD.out.trans (Below.mono DX.out BD.out.size)); have JX0 := Lib.hid (HJ.out _ _ _ JD.out (kept_of_below DX.out))
      have hyl := YD.out.lt
      have hzl := BD.out.size
      obtain ⟨X, hX⟩ : ∃ X, X = ((W3.alloc (.cells #[.slice ca cn cc, .slice (some ⟨eb0, eo0, none⟩) n2 c, .map (some M)] 41)).alloc (.cells #[.int .i64 x0, .int .i64 x1, .int .i64 x2, .int .i64 x3, .int .i64 x4] 48)).drew := ⟨_, rfl⟩
      have hXs : X.heap.size = bb + 2 := by rw [hX, hbb]; simp [World.drew]
      change Hid (Bx (((W3.alloc (.cells #[.slice ca cn cc, .slice (some ⟨eb0, eo0, none⟩) n2 c, .map (some M)] 41)).alloc (.cells #[.int .i64 x0, .int .i64 x1, .int .i64 x2, .int .i64 x3, .int .i64 x4] 48)).drew) W3.heap.size _ _) at KX
      change Hid (Bx (((W3.alloc (.cells #[.slice ca cn cc, .slice (some ⟨eb0, eo0, none⟩) n2 c, .map (some M)] 41)).alloc (.cells #[.int .i64 x0, .int .i64 x1, .int .i64 x2, .int .i64 x3, .int .i64 x4] 48)).drew) (W3.heap.size + 1) _ _) at EX
      change Hid (Bx (((W3.alloc (.cells #[.slice ca cn cc, .slice (some ⟨eb0, eo0, none⟩) n2 c, .map (some M)] 41)).alloc (.cells #[.int .i64 x0, .int .i64 x1, .int .i64 x2, .int .i64 x3, .int .i64 x4] 48)).drew) _ _ _) at IX YX
      change Hid (Below _ _ (((W3.alloc (.cells #[.slice ca cn cc, .slice (some ⟨eb0, eo0, none⟩) n2 c, .map (some M)] 41)).alloc (.cells #[.int .i64 x0, .int .i64 x1, .int .i64 x2, .int .i64 x3, .int .i64 x4] 48)).drew)) at BX
      change Hid (J _ (((W3.alloc (.cells #[.slice ca cn cc, .slice (some ⟨eb0, eo0, none⟩) n2 c, .map (some M)] 41)).alloc (.cells #[.int .i64 x0, .int .i64 x1, .int .i64 x2, .int .i64 x3, .int .i64 x4] 48)).drew)) at JX0
      rw [← hX] at KX EX IX YX BX JX0 ⊢
      rw [← heb, ← hbb]
      rw [← hbb] at KX
      rw [← heb] at EX
      have hbB : B < bb := by rw [hbb]; exact hyl
      have heb1 : eb ≤ bb + 1 := by omega
      have heb2 : bb < eb := by omega
      have hebB : B < eb := by omega
      clear hX hbb heb DX KD ID YD BD JD hyl hzl
      have HL1 := Lib.hid (show (lastL L i).length ≤ 1 by unfold lastL; split <;> simp)
      have HOL := Lib.hid (others_len caps L ⟨x0, x1, x2, x3, x4⟩ hfew)
      gi_wp2
      refine range_by rfl (enters_of Try.func77 (by kernel_rfl) rfl) (fix := fun k => fix k ∨ k = eb ∨ k = bb) (S := fun ys => ys = othersZ caps L ⟨x0, x1, x2, x3, x4⟩) (N := (othersZ caps L ⟨x0, x1, x2, x3, x4⟩).length)
        (fun k hk => by rcases hk with hk | hk | hk; have := hfl k hk; omega; omega; omega)
        (others_by (n - 1) (by omega) ⟨ca, cn, cc, some ⟨eb0, eo0, none⟩, n2, c, M⟩ caps L ⟨x0, x1, x2, x3, x4⟩ w0 X eb bb _ HB0.out BX.out EX.out KX.out (fun k hk => .inl (HF0.out k hk)) (.inr (.inl rfl)) (.inr (.inr rfl)) HOK.out hfew HCAP2.out) rfl
        (fun pre V => J (lastL L i ++ pre.filter (okI i)) V ∧ Below w0.heap.size w0 V ∧ Bx V b2 #[.int .i64 (i : Int)] 3 ∧ Bx V B #[.func (.yield l) #[] #[]] 82 ∧ Bx V eb #[.int .i64 x0, .int .i64 x1, .int .i64 x2, .int .i64 x3, .int .i64 x4] 48 ∧ Bx V bb #[.slice ca cn cc, .slice (some ⟨eb0, eo0, none⟩) n2 c, .map (some M)] 41)
        (fun c _ V => c = .ret ∧ ∃ q, Jx q V)
        (fun s A C h hk => ⟨HJ.out _ _ _ h.1 (hk.mono fun k o _ hp => hp.imp (fun h => by omega) id), h.2.1.trans (hk.below (fun k o hk _ => .inl (by omega)) h.2.1.size), h.2.2.1.keptI hk (by omega), h.2.2.2.1.keptI hk (by omega), h.2.2.2.2.1.keptI hk (by omega), h.2.2.2.2.2.keptI hk (by omega)⟩)
        (fun c s A C h hk => ⟨h.1, by obtain ⟨q, hq⟩ := h.2; exact ⟨q, HJX.out _ _ _ hq (hk.mono fun k o _ hp => hp.imp (fun h => by omega) id)⟩⟩)
        ⟨by simpa using JX0.out, BX.out, IX.out, YX.out, EX.out, KX.out⟩
        (fun x => { tmps := #[.func (.yield l) #[] #[], .pointer (some ⟨b1, 0, none⟩), .pointer (some ⟨b2, 0, none⟩), .pointer (some ⟨B, 0, none⟩), .int .i64 la, .int .i64 0, .int .i64 x, .tuple #[.int .i64 la, .int .i64 0], .pointer (some ⟨b1, 1, none⟩), .slice (some ⟨eb0, eo0, none⟩) n2 c, .int .i64 (i : Int), .tuple #[.int .i64 la, .int .i64 0], .int .i64 la, .int .i64 0, .int .i64 0, .bool true, .bool true, .int .i64 la, .bool true, .bool true, .bool true, .func (.yield l) #[] #[], .int .i64 la, .bool true, .bool false, .bool false, .agg #[.slice ca cn cc, .slice (some ⟨eb0, eo0, none⟩) n2 c, .map (some M)], .pointer (some ⟨b1, 1, none⟩), .slice (some ⟨eb0, eo0, none⟩) n2 c, .int .i64 (i : Int), .pointer (some ⟨eb0, eo0 + i * 5, none⟩), .agg #[.int .i64 x0, .int .i64 x1, .int .i64 x2, .int .i64 x3, .int .i64 x4], .func (.func 77) #[] #[.pointer (some ⟨eb, 0, none⟩), .pointer (some ⟨bb, 0, none⟩)], .int .i64 x, undef, undef, undef, undef, undef, undef, undef, undef, undef, undef, undef, undef, undef], defers := [] }) ?assign ?body ?done ?stop
      case assign =>
        intro l0 x W K hK
        unfold encI
        gi_wp2
        exact hK
      case body =>
        rintro l0 pre x W hs0 ⟨hj, hb, hii, hyy, hee, hkk⟩ hlen
        have JV := Lib.hid hj; have BV := Lib.hid hb; have IV := Lib.hid hii; have YV := Lib.hid hyy; have EV := Lib.hid hee; have KV := Lib.hid hkk
        have i0 := Bx.cell hii 0 rfl
        have y0 := Bx.cell hyy 0 rfl
        have hfl2 : (lastL L i ++ pre.filter (okI i)).length < 2000 := by
          rw [List.length_append]
          have h1 := HL1.out; have h2 := List.length_filter_le (okI i) pre; have h3 := HOL.out
          omega
        clear hj hb hii hyy hee hkk
        have h5n : 1 ≤ n - 1 - 1 - 1 := by omega
        by_cases hx0 : 0 ≤ x
        · by_cases hxi : x < (i : Int)
          · have HOKX := Lib.hid (show (pre ++ [x]).filter (okI i) = pre.filter (okI i) ++ [x] by rw [List.filter_append]; simp [okI, hx0, hxi])
            obtain ⟨fn, tmps, assign, body, hy, hR⟩ := HY.out _ x W JV.out hfl2
            have HR := Lib.hid (RoundIn.wide_any (m := n - 1 - 1 - 1) l0 (RoundIn.both hR))
            clear hR
            gi_wp2
            refine HR.out.mono ?_
            rintro e W3 ⟨b, rfl, hb⟩
            rcases hb.out with ⟨rfl, hj3, hk3⟩ | ⟨rfl, hjx3, hk3⟩
            · have hk4 : Kept (rdP (fun k => fix k ∨ k = eb ∨ k = bb) X.heap.size) W W3 := hk3.mono fun k o ho hp => by
                rcases hp with (hp | rfl | rfl) | ⟨h1, h2⟩
                · exact .inl hp
                · exact .inr ⟨by omega, EV.out.notRow (by decide) ho⟩
                · exact .inr ⟨by omega, KV.out.notRow (by decide) ho⟩
                · exact .inr ⟨by omega, h2⟩
              have J3 := Lib.hid hj3
              have I3 := Lib.hid (IV.out.keptR hk3 (.inl hf2)); have Y3 := Lib.hid (YV.out.keptR hk3 (.inr ⟨Nat.le_refl _, by decide⟩)); have E3 := Lib.hid (EV.out.keptR hk3 (.inr ⟨by omega, by decide⟩)); have K3 := Lib.hid (KV.out.keptR hk3 (.inr ⟨by omega, by decide⟩))
              have B3 := Lib.hid (BV.out.trans (hk3.below (fun k o hk _ => .inl (HF0.out k hk)) BV.out.size))
              have HK4 := Lib.hid hk4
              clear hk4 hk3 hj3 hb
              gi_wp2
              exact ⟨HK4.out, by rw [HOKX.out, ← List.append_assoc]; exact J3.out, B3.out, I3.out, Y3.out, E3.out, K3.out⟩
            · have hk4 : Kept (rdP (fun k => fix k ∨ k = eb ∨ k = bb) X.heap.size) W W3 := hk3.mono fun k o ho hp => by
                rcases hp with (hp | rfl | rfl) | ⟨h1, h2⟩
                · exact .inl hp
                · exact .inr ⟨by omega, EV.out.notRow (by decide) ho⟩
                · exact .inr ⟨by omega, KV.out.notRow (by decide) ho⟩
                · exact .inr ⟨by omega, h2⟩
              have HK4 := Lib.hid hk4
              have HX3 := Lib.hid hjx3
              clear hk4 hk3 hjx3 hb
              gi_wp2
              exact ⟨HK4.out, rfl, _, HX3.out⟩
          · have HOKX := Lib.hid (show (pre ++ [x]).filter (okI i) = pre.filter (okI i) by rw [List.filter_append]; simp [okI]; omega)
            gi_wp2
            all_goals refine ⟨fun _ h => (by cases h), ?_⟩
            all_goals gi_wp2
            all_goals exact ⟨Kept.refl _ _, by rw [HOKX.out]; exact JV.out, BV.out, IV.out, YV.out, EV.out, KV.out⟩
        · have HOKX := Lib.hid (show (pre ++ [x]).filter (okI i) = pre.filter (okI i) by rw [List.filter_append]; simp [okI]; omega)
          gi_wp2
          all_goals refine ⟨fun _ h => (by cases h), ?_⟩
          all_goals gi_wp2
          all_goals exact ⟨Kept.refl _ _, by rw [HOKX.out]; exact JV.out, BV.out, IV.out, YV.out, EV.out, KV.out⟩
      case done =>
        rintro xs W hs0 rfl ⟨hj, hb, _⟩ hd
        have HJF := Lib.hid (HJ.out _ _ _ hj (Kept.put (.deferred none) hd (fun h => by rcases h with h | h; omega; simp [isRow] at h)))
        have HD := Lib.hid hd
        have HEQ := Lib.hid (show lastL L i ++ (othersZ caps L ⟨x0, x1, x2, x3, x4⟩).filter (okI i) = rawZ caps L i by rw [HRAW.out, ← HX.out])
        clear hj hb hd
        gi_wp2
        refine ⟨by simp, .inl ⟨_, _, rfl, run_takeDeferred HD.out, ?_⟩⟩
        exact ⟨_, results_none rfl _ _ _, ⟨_, rfl⟩, .inl ⟨_, HEQ.out, HJF.out⟩⟩
      case stop =>
        rintro c0 pre W hs0 ⟨rfl, q, hq⟩ hd
        have HJF := Lib.hid (HJX.out _ _ _ hq (Kept.put (.deferred none) hd (fun h => by rcases h with h | h; omega; simp [isRow] at h)))
        have HD := Lib.hid hd
        clear hq hd
        gi_wp2
        refine ⟨by simp, .inl ⟨_, _, rfl, run_takeDeferred HD.out, ?_⟩⟩
        exact ⟨_, results_none rfl _ _ _, ⟨_, rfl⟩, .inr ⟨_, HJF.out⟩⟩
    · have HX := Lib.hid hjx3
      clear hb hjx3
      gi_wp2
      exact ⟨_, results_none rfl _ _ _, ⟨_, rfl⟩, .inr ⟨_, HX.out⟩⟩
  · have HL2 := Lib.hid (HL.out.trans (if_neg hla))
    gi_wp2_with (refine ⟨trivial, ?_⟩; gi_at_call 44; rw [← HV0.out]; refine (HLA.out V0 (HB0.out.below BW.out)).mono ?_; rintro e W1 ⟨rfl, hbel⟩; have K1 := Lib.hid (KW.out.below hbel); have I1 := Lib.hid (IW.out.below hbel); have Y1 := Lib.hid (YW.out.below hbel); have B1 := Lib.hid (BW.out.trans (Below.mono hbel BW.out.size)); have J1 := Lib.hid (HJ.out _ _ _ JW.out (kept_of_below hbel)); clear hbel t0 t1 t2 t3 KW IW YW BW JW; have y0 := Bx.cell Y1.out 0 rfl; have J2 := Lib.hid (show J (lastL L i) W1 by rw [HL2.out]; exact J1.out))
    refine ⟨fun _ h => (by cases h), ?_⟩
    have DR := Lib.hid (Below.refl W1.heap.size W1).drew
    have KD := Lib.hid (K1.out.below DR.out); have ID := Lib.hid (I1.out.below DR.out); have YD := Lib.hid (Y1.out.below DR.out)
    have BD := Lib.hid (B1.out.trans (Below.mono DR.out B1.out.size)); have JD := Lib.hid (HJ.out _ _ _ J2.out (Kept.drew _ _))
    clear DR K1 I1 Y1 B1 J2
    obtain ⟨eb0, eo0, hok, hae, c0, c1, c2, c3, c4⟩ := HEV.out W1.drew (HB0.out.below BD.out)
    obtain ⟨x, hx⟩ : ∃ x, x = evAt L i := ⟨_, rfl⟩
    have HX := Lib.hid hx
    rw [← hx] at hok c0 c1 c2 c3 c4
    have HCAP2 := Lib.hid (show x.kind = 3 → 0 ≤ x.obj ∧ x.obj < (cn : Int) ∧ -9223372036854775808 ≤ x.no - capAt caps x.obj ∧ x.no - capAt caps x.obj ≤ 9223372036854775807 from by rw [hx]; exact HCAP.out)
    clear hx HCAP HEV
    subst hae
    obtain ⟨t0, t1, t2⟩ := KD.out.cells3
    have t3 := Bx.cell ID.out 0 rfl
    have hi2 : (i : Int) < (n2 : Int) := by omega
    have HO := Lib.hid (fun V => others_in (n - 1) ⟨ca, cn, cc, some ⟨eb0, eo0, none⟩, n2, c, M⟩ x V)
    unfold bkV bkC evV evC at HO
    have HOK := Lib.hid hok
    obtain ⟨x0, x1, x2, x3, x4⟩ := x
    dsimp only at c0 c1 c2 c3 c4 HO
    clear hok
    gi_wp2
    refine wpIn_mono (Q := fun e a' w' => match e with | .normal => a' = { tmps := #[.func (.yield l) #[] #[], .pointer (some ⟨b1, 0, none⟩), .pointer (some ⟨b2, 0, none⟩), .pointer (some ⟨B, 0, none⟩), .int .i64 la, .int .i64 0, undef, .tuple #[.int .i64 la, .int .i64 0], .pointer (some ⟨b1, 1, none⟩), .slice (some ⟨eb0, eo0, none⟩) n2 c, .int .i64 (i : Int), .tuple #[.int .i64 la, .int .i64 0], .int .i64 la, .int .i64 0, .int .i64 0, .bool true, .bool true, .int .i64 la, .bool false, .bool false, .bool false, undef, undef, undef, undef, .bool false, .agg #[.slice ca cn cc, .slice (some ⟨eb0, eo0, none⟩) n2 c, .map (some M)], .pointer (some ⟨b1, 1, none⟩), .slice (some ⟨eb0, eo0, none⟩) n2 c, .int .i64 (i : Int), .pointer (some ⟨eb0, eo0 + i * 5, none⟩), .agg #[.int .i64 x0, .int .i64 x1, .int .i64 x2, .int .i64 x3, .int .i64 x4], .func (.func 77) #[] #[.pointer (some ⟨W1.heap.size + 1, 0, none⟩), .pointer (some ⟨W1.heap.size, 0, none⟩)], undef, undef, undef, undef, undef, undef, undef, undef, undef, undef, undef, undef, undef, undef], defers := [] } ∧ w' = ((W1.alloc (.cells #[.slice ca cn cc, .slice (some ⟨eb0, eo0, none⟩) n2 c, .map (some M)] 41)).alloc (.cells #[.int .i64 x0, .int .i64 x1, .int .i64 x2, .int .i64 x3, .int .i64 x4] 48)).drew | _ => False) ?_ ?_
    · gi_region_with (refine ⟨trivial, ?_⟩; gi_at_call 45; refine (HO.out _).mono ?_; rintro e w' ⟨rfl, rfl⟩)
      all_goals exact ⟨rfl, rfl⟩
    intro e a' w' hq
    cases e <;> first | exact hq.elim | skip
    obtain ⟨rfl, rfl⟩ := hq
    dsimp only
    clear HO t0 t1 t2 t3 c0 c1 c2 c3 c4
    obtain ⟨bb, hbb⟩ : ∃ z, z = W1.heap.size := ⟨_, rfl⟩
    obtain ⟨eb, heb⟩ : ∃ z, z = W1.heap.size + 1 := ⟨_, rfl⟩
    have KX := Lib.hid (((Bx.new W1.drew #[.slice ca cn cc, .slice (some ⟨eb0, eo0, none⟩) n2 c, .map (some M)] 41).below (below_alloc _ (.cells #[.int .i64 x0, .int .i64 x1, .int .i64 x2, .int .i64 x3, .int .i64 x4] 48))))
    have EX := Lib.hid (Bx.new2 W1.drew (.cells #[.slice ca cn cc, .slice (some ⟨eb0, eo0, none⟩) n2 c, .map (some M)] 41) #[.int .i64 x0, .int .i64 x1, .int .i64 x2, .int .i64 x3, .int .i64 x4] 48)
    have DX := Lib.hid ((below_alloc W1.drew (.cells #[.slice ca cn cc, .slice (some ⟨eb0, eo0, none⟩) n2 c, .map (some M)] 41)).alloc (by simp) (.cells #[.int .i64 x0, .int .i64 x1, .int .i64 x2, .int .i64 x3, .int .i64 x4] 48))
    have IX := Lib.hid (ID.out.below DX.out); have YX := Lib.hid (YD.out.below DX.out); have BX := Lib.hid (BD.out.trans (Below.mono DX.out BD.out.size)); have JX0 := Lib.hid (HJ.out _ _ _ JD.out (kept_of_below DX.out))
    have hyl := YD.out.lt
    have hzl := BD.out.size
    obtain ⟨X, hX⟩ : ∃ X, X = ((W1.alloc (.cells #[.slice ca cn cc, .slice (some ⟨eb0, eo0, none⟩) n2 c, .map (some M)] 41)).alloc (.cells #[.int .i64 x0, .int .i64 x1, .int .i64 x2, .int .i64 x3, .int .i64 x4] 48)).drew := ⟨_, rfl⟩
    have hXs : X.heap.size = bb + 2 := by rw [hX, hbb]; simp [World.drew]
    change Hid (Bx (((W1.alloc (.cells #[.slice ca cn cc, .slice (some ⟨eb0, eo0, none⟩) n2 c, .map (some M)] 41)).alloc (.cells #[.int .i64 x0, .int .i64 x1, .int .i64 x2, .int .i64 x3, .int .i64 x4] 48)).drew) W1.heap.size _ _) at KX
    change Hid (Bx (((W1.alloc (.cells #[.slice ca cn cc, .slice (some ⟨eb0, eo0, none⟩) n2 c, .map (some M)] 41)).alloc (.cells #[.int .i64 x0, .int .i64 x1, .int .i64 x2, .int .i64 x3, .int .i64 x4] 48)).drew) (W1.heap.size + 1) _ _) at EX
    change Hid (Bx (((W1.alloc (.cells #[.slice ca cn cc, .slice (some ⟨eb0, eo0, none⟩) n2 c, .map (some M)] 41)).alloc (.cells #[.int .i64 x0, .int .i64 x1, .int .i64 x2, .int .i64 x3, .int .i64 x4] 48)).drew) _ _ _) at IX YX
    change Hid (Below _ _ (((W1.alloc (.cells #[.slice ca cn cc, .slice (some ⟨eb0, eo0, none⟩) n2 c, .map (some M)] 41)).alloc (.cells #[.int .i64 x0, .int .i64 x1, .int .i64 x2, .int .i64 x3, .int .i64 x4] 48)).drew)) at BX
    change Hid (J _ (((W1.alloc (.cells #[.slice ca cn cc, .slice (some ⟨eb0, eo0, none⟩) n2 c, .map (some M)] 41)).alloc (.cells #[.int .i64 x0, .int .i64 x1, .int .i64 x2, .int .i64 x3, .int .i64 x4] 48)).drew)) at JX0
    rw [← hX] at KX EX IX YX BX JX0 ⊢
    rw [← heb, ← hbb]
    rw [← hbb] at KX
    rw [← heb] at EX
    have hbB : B < bb := by rw [hbb]; exact hyl
    have heb1 : eb ≤ bb + 1 := by omega
    have heb2 : bb < eb := by omega
    have hebB : B < eb := by omega
    clear hX hbb heb DX KD ID YD BD JD hyl hzl
    have HL1 := Lib.hid (show (lastL L i).length ≤ 1 by unfold lastL; split <;> simp)
    have HOL := Lib.hid (others_len caps L ⟨x0, x1, x2, x3, x4⟩ hfew)
    gi_wp2
    refine range_by rfl (enters_of Try.func77 (by kernel_rfl) rfl) (fix := fun k => fix k ∨ k = eb ∨ k = bb) (S := fun ys => ys = othersZ caps L ⟨x0, x1, x2, x3, x4⟩) (N := (othersZ caps L ⟨x0, x1, x2, x3, x4⟩).length)
      (fun k hk => by rcases hk with hk | hk | hk; have := hfl k hk; omega; omega; omega)
      (others_by (n - 1) (by omega) ⟨ca, cn, cc, some ⟨eb0, eo0, none⟩, n2, c, M⟩ caps L ⟨x0, x1, x2, x3, x4⟩ w0 X eb bb _ HB0.out BX.out EX.out KX.out (fun k hk => .inl (HF0.out k hk)) (.inr (.inl rfl)) (.inr (.inr rfl)) HOK.out hfew HCAP2.out) rfl
      (fun pre V => J (lastL L i ++ pre.filter (okI i)) V ∧ Below w0.heap.size w0 V ∧ Bx V b2 #[.int .i64 (i : Int)] 3 ∧ Bx V B #[.func (.yield l) #[] #[]] 82 ∧ Bx V eb #[.int .i64 x0, .int .i64 x1, .int .i64 x2, .int .i64 x3, .int .i64 x4] 48 ∧ Bx V bb #[.slice ca cn cc, .slice (some ⟨eb0, eo0, none⟩) n2 c, .map (some M)] 41)
      (fun c _ V => c = .ret ∧ ∃ q, Jx q V)
      (fun s A C h hk => ⟨HJ.out _ _ _ h.1 (hk.mono fun k o _ hp => hp.imp (fun h => by omega) id), h.2.1.trans (hk.below (fun k o hk _ => .inl (by omega)) h.2.1.size), h.2.2.1.keptI hk (by omega), h.2.2.2.1.keptI hk (by omega), h.2.2.2.2.1.keptI hk (by omega), h.2.2.2.2.2.keptI hk (by omega)⟩)
      (fun c s A C h hk => ⟨h.1, by obtain ⟨q, hq⟩ := h.2; exact ⟨q, HJX.out _ _ _ hq (hk.mono fun k o _ hp => hp.imp (fun h => by omega) id)⟩⟩)
      ⟨by simpa using JX0.out, BX.out, IX.out, YX.out, EX.out, KX.out⟩
      (fun x => { tmps := #[.func (.yield l) #[] #[], .pointer (some ⟨b1, 0, none⟩), .pointer (some ⟨b2, 0, none⟩), .pointer (some ⟨B, 0, none⟩), .int .i64 la, .int .i64 0, .int .i64 x, .tuple #[.int .i64 la, .int .i64 0], .pointer (some ⟨b1, 1, none⟩), .slice (some ⟨eb0, eo0, none⟩) n2 c, .int .i64 (i : Int), .tuple #[.int .i64 la, .int .i64 0], .int .i64 la, .int .i64 0, .int .i64 0, .bool true, .bool true, .int .i64 la, .bool false, .bool false, .bool false, undef, undef, undef, undef, .bool false, .agg #[.slice ca cn cc, .slice (some ⟨eb0, eo0, none⟩) n2 c, .map (some M)], .pointer (some ⟨b1, 1, none⟩), .slice (some ⟨eb0, eo0, none⟩) n2 c, .int .i64 (i : Int), .pointer (some ⟨eb0, eo0 + i * 5, none⟩), .agg #[.int .i64 x0, .int .i64 x1, .int .i64 x2, .int .i64 x3, .int .i64 x4], .func (.func 77) #[] #[.pointer (some ⟨eb, 0, none⟩), .pointer (some ⟨bb, 0, none⟩)], .int .i64 x, undef, undef, undef, undef, undef, undef, undef, undef, undef, undef, undef, undef, undef], defers := [] }) ?assign ?body ?done ?stop
    case assign =>
      intro l0 x W K hK
      unfold encI
      gi_wp2
      exact hK
    case body =>
      rintro l0 pre x W hs0 ⟨hj, hb, hii, hyy, hee, hkk⟩ hlen
      have JV := Lib.hid hj; have BV := Lib.hid hb; have IV := Lib.hid hii; have YV := Lib.hid hyy; have EV := Lib.hid hee; have KV := Lib.hid hkk
      have i0 := Bx.cell hii 0 rfl
      have y0 := Bx.cell hyy 0 rfl
      have hfl2 : (lastL L i ++ pre.filter (okI i)).length < 2000 := by
        rw [List.length_append]
        have h1 := HL1.out; have h2 := List.length_filter_le (okI i) pre; have h3 := HOL.out
        omega
      clear hj hb hii hyy hee hkk
      have h5n : 1 ≤ n - 1 - 1 - 1 := by omega
      by_cases hx0 : 0 ≤ x
      · by_cases hxi : x < (i : Int)
        · have HOKX := Lib.hid (show (pre ++ [x]).filter (okI i) = pre.filter (okI i) ++ [x] by rw [List.filter_append]; simp [okI, hx0, hxi])
          obtain ⟨fn, tmps, assign, body, hy, hR⟩ := HY.out _ x W JV.out hfl2
          have HR := Lib.hid (RoundIn.wide_any (m := n - 1 - 1 - 1) l0 (RoundIn.both hR))
          clear hR
          gi_wp2
          refine HR.out.mono ?_
          rintro e W3 ⟨b, rfl, hb⟩
          rcases hb.out with ⟨rfl, hj3, hk3⟩ | ⟨rfl, hjx3, hk3⟩
          · have hk4 : Kept (rdP (fun k => fix k ∨ k = eb ∨ k = bb) X.heap.size) W W3 := hk3.mono fun k o ho hp => by
              rcases hp with (hp | rfl | rfl) | ⟨h1, h2⟩
              · exact .inl hp
              · exact .inr ⟨by omega, EV.out.notRow (by decide) ho⟩
              · exact .inr ⟨by omega, KV.out.notRow (by decide) ho⟩
              · exact .inr ⟨by omega, h2⟩
            have J3 := Lib.hid hj3
            have I3 := Lib.hid (IV.out.keptR hk3 (.inl hf2)); have Y3 := Lib.hid (YV.out.keptR hk3 (.inr ⟨Nat.le_refl _, by decide⟩)); have E3 := Lib.hid (EV.out.keptR hk3 (.inr ⟨by omega, by decide⟩)); have K3 := Lib.hid (KV.out.keptR hk3 (.inr ⟨by omega, by decide⟩))
            have B3 := Lib.hid (BV.out.trans (hk3.below (fun k o hk _ => .inl (HF0.out k hk)) BV.out.size))
            have HK4 := Lib.hid hk4
            clear hk4 hk3 hj3 hb
            gi_wp2
            exact ⟨HK4.out, by rw [HOKX.out, ← List.append_assoc]; exact J3.out, B3.out, I3.out, Y3.out, E3.out, K3.out⟩
          · have hk4 : Kept (rdP (fun k => fix k ∨ k = eb ∨ k = bb) X.heap.size) W W3 := hk3.mono fun k o ho hp => by
              rcases hp with (hp | rfl | rfl) | ⟨h1, h2⟩
              · exact .inl hp
              · exact .inr ⟨by omega, EV.out.notRow (by decide) ho⟩
              · exact .inr ⟨by omega, KV.out.notRow (by decide) ho⟩
              · exact .inr ⟨by omega, h2⟩
            have HK4 := Lib.hid hk4
            have HX3 := Lib.hid hjx3
            clear hk4 hk3 hjx3 hb
            gi_wp2
            exact ⟨HK4.out, rfl, _, HX3.out⟩
        · have HOKX := Lib.hid (show (pre ++ [x]).filter (okI i) = pre.filter (okI i) by rw [List.filter_append]; simp [okI]; omega)
          gi_wp2
          all_goals refine ⟨fun _ h => (by cases h), ?_⟩
          all_goals gi_wp2
          all_goals exact ⟨Kept.refl _ _, by rw [HOKX.out]; exact JV.out, BV.out, IV.out, YV.out, EV.out, KV.out⟩
      · have HOKX := Lib.hid (show (pre ++ [x]).filter (okI i) = pre.filter (okI i) by rw [List.filter_append]; simp [okI]; omega)
        gi_wp2
        all_goals refine ⟨fun _ h => (by cases h), ?_⟩
        all_goals gi_wp2
        all_goals exact ⟨Kept.refl _ _, by rw [HOKX.out]; exact JV.out, BV.out, IV.out, YV.out, EV.out, KV.out⟩
    case done =>
      rintro xs W hs0 rfl ⟨hj, hb, _⟩ hd
      have HJF := Lib.hid (HJ.out _ _ _ hj (Kept.put (.deferred none) hd (fun h => by rcases h with h | h; omega; simp [isRow] at h)))
      have HD := Lib.hid hd
      have HEQ := Lib.hid (show lastL L i ++ (othersZ caps L ⟨x0, x1, x2, x3, x4⟩).filter (okI i) = rawZ caps L i by rw [HRAW.out, ← HX.out])
      clear hj hb hd
      gi_wp2
      refine ⟨by simp, .inl ⟨_, _, rfl, run_takeDeferred HD.out, ?_⟩⟩
      exact ⟨_, results_none rfl _ _ _, ⟨_, rfl⟩, .inl ⟨_, HEQ.out, HJF.out⟩⟩
    case stop =>
      rintro c0 pre W hs0 ⟨rfl, q, hq⟩ hd
      have HJF := Lib.hid (HJX.out _ _ _ hq (Kept.put (.deferred none) hd (fun h => by rcases h with h | h; omega; simp [isRow] at h)))
      have HD := Lib.hid hd
      clear hq hd
      gi_wp2
      refine ⟨by simp, .inl ⟨_, _, rfl, run_takeDeferred HD.out, ?_⟩⟩
      exact ⟨_, results_none rfl _ _ _, ⟨_, rfl⟩, .inr ⟨_, HJF.out⟩⟩
end Go.Proofs.Ytjkbmenmpnidhaa
