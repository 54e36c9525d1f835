/- Reading a block: the program. -/
import Derived.Test.YtddkckppmjcclaaD2
namespace Go.Proofs.Ytddkckppmjcclaa
open Go.RowKit
set_option linter.unusedSimpArgs false
set_option linter.unusedVariables false
theorem i64m {n : Int} (h0 : 0 ≤ n) (h1 : n ≤ 2147483647) : I64 n := ⟨by omega, by omega⟩
theorem insP_ok {T : List Int} (hT : Byt T) {i : Nat} (hi : i ≤ T.length) {x : Ins} {j : Nat} (h : insP T i = .ok x j) : j ≤ T.length ∧ InsOk x := by
  unfold insP at h
  cases h1 : nP T i with
  | no c => rw [h1] at h; cases h
  | ok o j1 =>
    rw [h1] at h; simp only [Res.bind] at h
    obtain ⟨_, hj, ho, ho2⟩ := nP_ok hT hi h1
    split at h
    · cases h; exact ⟨hj, (show I64 0 from ⟨by decide, by decide⟩), (show I64 0 from ⟨by decide, by decide⟩), (show I64 0 from ⟨by decide, by decide⟩)⟩
    · cases h2 : nP T j1 with
      | no c => rw [h2] at h; cases h
      | ok a j2 =>
        rw [h2] at h; simp only [Res.bind] at h
        obtain ⟨_, hj2, ha, ha2⟩ := nP_ok hT hj h2
        split at h
        · cases h3 : nP T j2 with
          | no c => rw [h3] at h; cases h
          | ok b j3 =>
            rw [h3] at h; simp only [Res.bind] at h
            obtain ⟨_, hj3, hb, hb2⟩ := nP_ok hT hj2 h3
            cases h
            exact ⟨hj3, i64m ho ho2, i64m ha ha2, i64m hb hb2⟩
        · cases h
          exact ⟨hj2, i64m ho ho2, i64m ha ha2, (show I64 0 from ⟨by decide, by decide⟩)⟩
theorem ins_ok (s : ByteArray) (B i : Nat) (w : World) (h : Rd w B s i) (hi : i ≤ (tx s).length) (hs : s.size ≤ 100000) {x : Ins} {j : Nat} (hn : insP (tx s) i = .ok x j) :
    Calls Try.prog 60 #[.pointer (some ⟨B, 0, none⟩)] w (GotV w B s j (insV x)) := by
  unfold insP at hn
  cases h1 : nP (tx s) i with
  | no c => rw [h1] at hn; cases hn
  | ok o j1 =>
    rw [h1] at hn; simp only [Res.bind] at hn
    split at hn
    · rename_i h0; cases hn; subst h0; exact ins_z s B i w h hi hs h1
    · rename_i h0
      cases h2 : nP (tx s) j1 with
      | no c => rw [h2] at hn; cases hn
      | ok a j2 =>
        rw [h2] at hn; simp only [Res.bind] at hn
        split at hn
        · rename_i h7
          subst h7
          cases h3 : nP (tx s) j2 with
          | no c => rw [h3] at hn; cases hn
          | ok b j3 =>
            rw [h3] at hn; simp only [Res.bind] at hn
            cases hn
            exact ins_s s B i w h hi hs h1 h2 h3
        · rename_i h7
          cases hn
          exact ins_d s B i w h hi hs h1 h0 h2 h7
theorem ins_no (s : ByteArray) (B i : Nat) (w : World) (h : Rd w B s i) (hi : i ≤ (tx s).length) (hs : s.size ≤ 100000) {c : Int} (hn : insP (tx s) i = .no c) :
    Calls Try.prog 60 #[.pointer (some ⟨B, 0, none⟩)] w (GaveUp w B c) := by
  unfold insP at hn
  cases h1 : nP (tx s) i with
  | no c => rw [h1] at hn; cases hn; exact ins_n1 s B i w h hi hs h1
  | ok o j1 =>
    rw [h1] at hn; simp only [Res.bind] at hn
    split at hn
    · cases hn
    · rename_i h0
      cases h2 : nP (tx s) j1 with
      | no c => rw [h2] at hn; cases hn; exact ins_n2 s B i w h hi hs h1 h0 h2
      | ok a j2 =>
        rw [h2] at hn; simp only [Res.bind] at hn
        split at hn
        · rename_i h7
          subst h7
          cases h3 : nP (tx s) j2 with
          | no c => rw [h3] at hn; cases hn; exact ins_n3 s B i w h hi hs h1 h2 h3
          | ok b j3 => rw [h3] at hn; cases hn
        · cases hn
theorem encI_one (x : Ins) : ∀ u ∈ encI x, u.oneCell' = true := by intro u hu; simp [encI] at hu; rcases hu with rfl | rfl | rfl <;> rfl
theorem encC_one (x : Cas) : ∀ u ∈ encC x, u.oneCell' = true := by intro u hu; simp [encC] at hu; rcases hu with rfl | rfl <;> rfl
/-- what reading answers -/
def Post {α : Type} (w : World) (B : Nat) (s : ByteArray) (r : Res α) (rep : World → Value → α → Prop) (e : Ending) (w' : World) : Prop :=
  match r with
  | .ok a j => ∃ v, e = .returned v ∧ rep w' v a ∧ Rd w' B s j ∧ w.grownBy w' (some B)
  | .no c => e = gaveUp c ∧ w.grownBy w' (some B)
theorem Post.ok {α : Type} {w : World} {B : Nat} {s : ByteArray} {r : Res α} {rep : World → Value → α → Prop} {a : α} {j : Nat} (hr : r = .ok a j) {v : Value} {w' : World} (h : rep w' v a) (h2 : Rd w' B s j) (h3 : w.grownBy w' (some B)) : Post w B s r rep (.returned v) w' := by
  rw [hr]; exact ⟨v, rfl, h, h2, h3⟩
theorem Post.no {α : Type} {w : World} {B : Nat} {s : ByteArray} {r : Res α} {rep : World → Value → α → Prop} {c : Int} (hr : r = .no c) {w' : World} (h3 : w.grownBy w' (some B)) : Post w B s r rep (gaveUp c) w' := by
  rw [hr]; exact ⟨rfl, h3⟩
theorem sizeP_ok {T : List Int} (hT : Byt T) {i : Nat} (hi : i ≤ T.length) {m n : Int} {j : Nat} (h : sizeP T m i = .ok n j) : j ≤ T.length ∧ 0 ≤ n ∧ n ≤ m := by
  unfold sizeP at h
  cases h1 : nP T i with
  | no c => rw [h1] at h; cases h
  | ok o j1 =>
    rw [h1] at h; simp only [Res.bind] at h
    obtain ⟨_, hj, ho, ho2⟩ := nP_ok hT hi h1
    split at h
    · cases h
    · cases h; exact ⟨hj, ho, by omega⟩
/-- what lies in a block of the call's own is kept when only another turns -/
theorem OwnR.other {α : Type} {k e : Nat} {enc : α → List Value} {w w' : World} {base : Nat} {v : Value} {L : List α} (h : OwnR e k enc w base v L) {row : Option Nat} (hg : w.grownBy w' row) (hne : ∀ r, v.ownBlock = some r → some r ≠ row) : OwnR e k enc w' base v L := by
  refine ⟨h.1, ?_⟩
  rcases h.2 with h0 | ⟨g, cap, cur, hv, hb, hh, r⟩
  · exact .inl h0
  · exact .inr ⟨g, cap, cur, hv, hb, (hg.block g (Array.getElem?_eq_some_iff.1 hh).1 (hne g (by rw [hv]; rfl))).trans hh, r⟩
theorem OwnR.low {α : Type} {k e : Nat} {enc : α → List Value} {w w' : World} {base : Nat} {v : Value} {L : List α} (h : OwnR e k enc w base v L) {B : Nat} (hg : w.grownBy w' (some B)) (hB : B < base) : OwnR e k enc w' base v L :=
  h.other hg (fun r hr => some_ne (by have := OwnR.lt h r hr; omega))
/-- a block of another type is not the slice's -/
theorem ownR_apart {α : Type} {k e : Nat} {enc : α → List Value} {w : World} {base : Nat} {v : Value} {L : List α} {b : Nat} {cs : Array Value} {t : TypeId} (h : OwnR e k enc w base v L) (hb : Bx w b cs t) (ht : t ≠ e) : some b ≠ v.ownBlock := by
  intro hr
  rcases h.2 with ⟨hv, _⟩ | ⟨g, cap, cur, hv, _, hh, _⟩
  · rw [hv] at hr; cases hr
  · rw [hv] at hr; cases hr
    unfold Bx at hb
    rw [hb] at hh
    cases hh
    exact ht rfl
/-- the slice itself grew: that is the call's own -/
theorem grow_own {α : Type} {k e : Nat} {enc : α → List Value} {a w w' : World} {base : Nat} {v : Value} {L : List α} (h : OwnR e k enc w base v L) {B : Nat} (ha : a.grownBy w (some B)) (hg : w.grownBy w' v.ownBlock) (hb : a.heap.size ≤ base) : a.grownBy w' (some B) :=
  ha.andThen hg (fun j hj => .inl (by have := OwnR.lt h j hj; omega))
set_option maxRecDepth 100000 in
set_option maxHeartbeats 8000000 in
theorem block_any (s : ByteArray) (B i : Nat) (w : World) (h : Rd w B s i) (hi : i ≤ (tx s).length) (hs : s.size ≤ 100000) :
    Calls Try.prog 52 #[.pointer (some ⟨B, 0, none⟩)] w (Post w B s (blkP (tx s) i) (fun w' v L => OwnR 44 3 encI w' w.heap.size v L ∧ L.length ≤ 24 ∧ ∀ x ∈ L, InsOk x)) := by
  obtain ⟨Q, hQ⟩ : ∃ Q, Q = Post w B s (blkP (tx s) i) (fun w' v L => OwnR 44 3 encI w' w.heap.size v L ∧ L.length ≤ 24 ∧ ∀ x ∈ L, InsOk x) := ⟨_, rfl⟩
  rw [← hQ]
  have HQ := Lib.hid hQ
  clear hQ
  have hT := tx_byt s
  have HBL := Lib.hid (Rd.lt h)
  cases hz : sizeP (tx s) 24 i with
  | no c =>
    have N1 := Lib.hid (size_no s B i 24 w h hi hs hz)
    have HP := Lib.hid (show blkP (tx s) i = .no c by unfold blkP; rw [hz]; rfl)
    unfold GaveUp gaveUp at N1
    clear h hi hz hT
    go_enter Try.func52, Try.ntmps52
    go_wp2_with fail
    refine N1.out.mono ?_
    rintro e wz ⟨rfl, hg⟩
    refine ⟨rfl, ?_⟩
    rw [HQ.out]; exact Post.no HP.out hg
  | ok n j0 =>
    obtain ⟨hj0, hn0, hn24⟩ := sizeP_ok hT hi hz
    obtain ⟨m, rfl⟩ : ∃ m : Nat, n = (m : Int) := ⟨n.toNat, by omega⟩
    have N1 := Lib.hid (size_ok s B i 24 w h hi hs hz)
    have HP := Lib.hid (show blkP (tx s) i = repP (insP (tx s)) m j0 by unfold blkP; rw [hz]; rfl)
    unfold GotV at N1
    have hm24 : m ≤ 24 := by omega
    have HJ0 := Lib.hid hj0; have HT := Lib.hid hT
    clear h hi hz hn0 hn24 hT hj0
    go_enter Try.func52, Try.ntmps52
    go_wp2_with fail
    refine N1.out.mono ?_
    rintro e w1 ⟨rfl, hr, hg⟩
    have R1 := Lib.hid hr; have G1 := Lib.hid hg
    clear hr hg N1
    go_wp2_with fail
    go_loopw [3, 6] (fun u i wr => ∃ k : Nat, k ≤ m ∧ i = .int .i64 k ∧ ∃ L j, repP (insP (tx s)) k j0 = .ok L j ∧ j ≤ (tx s).length ∧ (∀ x ∈ L, InsOk x) ∧ OwnR 44 3 encI wr w.heap.size u L ∧ Rd wr B s j ∧ w.grownBy wr (some B)) (fun _ i _ => m - (intOf i).toNat)
    case atStart => exact ⟨0, Nat.zero_le _, rfl, [], j0, rfl, HJ0.out, fun x hx => by simp at hx, ownG_nil _ _ _, R1.out, G1.out⟩
    case round =>
      clear R1 G1
      obtain ⟨k, hk, rfl, L, j, hrep, hj, hok, hown, hr, hg⟩ := hrel
      have HREP := Lib.hid hrep; have HJ := Lib.hid hj; have HOK := Lib.hid hok; have HO := Lib.hid hown; have R1 := Lib.hid hr; have G1 := Lib.hid hg
      have HLN := Lib.hid (repP_len hrep)
      clear hrep hok hown hr hg
      by_cases hlt : k < m
      · have hlt' : (k : Int) < (m : Int) := by omega
        cases hf : insP (tx s) j with
        | no c =>
          have N2 := Lib.hid (ins_no s B j wr R1.out hj hs hf)
          have HR := Lib.hid (HP.out.trans (repP_no HREP.out hf hlt))
          unfold GaveUp gaveUp at N2
          clear hj hf
          go_wp2_with fail
          refine N2.out.mono ?_
          rintro e wz ⟨rfl, hg⟩
          refine ⟨rfl, ?_⟩
          rw [HQ.out]; exact Post.no HR.out (G1.out.trans hg)
        | ok x j' =>
          have N2 := Lib.hid (ins_ok s B j wr R1.out hj hs hf)
          have HR := Lib.hid (repP_ok HREP.out hf)
          have HX := Lib.hid (insP_ok HT.out hj hf)
          unfold GotV at N2
          clear hj hf
          go_wp2_with fail
          refine N2.out.mono ?_
          rintro e w2 ⟨rfl, hr, hg⟩
          have R2 := Lib.hid (hr.below (below_alloc w2 (.cells #[.int .i64 x.op, .int .i64 x.a, .int .i64 x.b] 44)))
          have G2 := Lib.hid (grow_alloc (G1.out.trans hg) (.cells #[.int .i64 x.op, .int .i64 x.a, .int .i64 x.b] 44))
          have O2 := Lib.hid (OwnR.below (OwnR.low HO.out hg HBL.out) (below_alloc w2 (.cells #[.int .i64 x.op, .int .i64 x.a, .int .i64 x.b] 44)))
          have HZ := Lib.hid (show w.heap.size ≤ (w2.alloc (.cells #[.int .i64 x.op, .int .i64 x.a, .int .i64 x.b] 44)).heap.size from G2.out.size)
          have S2 := Lib.hid (recs_oneG (k := 3) (enc := encI) (x := x) (t := 44) (heap_alloc_new w2 (.cells #[.int .i64 x.op, .int .i64 x.a, .int .i64 x.b] 44)))
          have HL1 := Lib.hid (show L.length ≤ 100000 by rw [HLN.out]; omega)
          clear hr hg N2 R1 G1 HO
          go_wp2_with (at_builtin; refine wpList_appG encI_len (by decide) encI_one 42 44 24 _ Try.underlying42 inf43 rfl (by decide) rfl _ _ rfl w.heap.size _ L rfl O2.out ⟨w2.heap.size, 0, none⟩ 1 1 [x] rfl S2.out HL1.out (by decide) HZ.out ?_; intro v3 w3 ho3 hg3)
          have hne : some B ≠ (u3.ownBlock) := ownR_apart O2.out R2.out (by decide)
          have R3 := Lib.hid (R2.out.other hg3.out hne)
          have G3 := Lib.hid (grow_own O2.out G2.out hg3.out (Nat.le_refl _))
          clear hg3 hne
          go_roundw
          case rel => exact ⟨k + 1, by omega, by go_num, L ++ [x], j', HR.out, HX.out.1, fun y hy => by rcases List.mem_append.1 hy with h1 | h1; exact HOK.out y h1; simp at h1; subst h1; exact HX.out.2, ho3.out, R3.out, G3.out⟩
          case measure => simp [intOf]; omega
      · have hke : k = m := by omega
        subst hke
        have HR := Lib.hid (HP.out.trans HREP.out)
        go_wp2_with fail
        show Q (.returned u3) _
        rw [HQ.out]; exact Post.ok HR.out ⟨HO.out, by rw [HLN.out]; exact hm24, HOK.out⟩ R1.out G1.out
end Go.Proofs.Ytddkckppmjcclaa
