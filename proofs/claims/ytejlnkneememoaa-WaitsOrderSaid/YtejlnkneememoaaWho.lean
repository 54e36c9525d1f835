/- Who; Contains on ints. -/
import Derived.Test.YtejlnkneememoaaDrop
import Derived.Test.YtejlnkneememoaaOwn
namespace Go.Proofs.Ytejlnkneememoaa
open Go.RowKit

def hasI (l : List Int) (g : Int) : Bool := l.any (· == g)
theorem hasI_snoc (l : List Int) (x g : Int) : hasI (l ++ [x]) g = (hasI l g || x == g) := by simp [hasI]
def whoStep (acc : List Int) (x : Wt) : List Int := if hasI acc x.g then acc else acc ++ [x.g]
def whoW (L : List Wt) : List Int := L.foldl whoStep []
theorem whoW_snoc (L : List Wt) (x : Wt) : whoW (L ++ [x]) = if hasI (whoW L) x.g = true then whoW L else whoW L ++ [x.g] := by
  unfold whoW; rw [List.foldl_append]; rfl
theorem fold_len (L : List Wt) : ∀ acc : List Int, (L.foldl whoStep acc).length ≤ acc.length + L.length := by
  induction L with
  | nil => intro acc; simp
  | cons x xs ih =>
    intro acc
    have := ih (whoStep acc x)
    have h : (whoStep acc x).length ≤ acc.length + 1 := by unfold whoStep; split <;> simp
    simp only [List.foldl_cons, List.length_cons]; omega
theorem whoW_len (L : List Wt) : (whoW L).length ≤ L.length := by have := fold_len L []; simpa [whoW] using this
theorem fold_mem (L : List Wt) : ∀ (acc : List Int) (n : Int), n ∈ L.foldl whoStep acc → n ∈ acc ∨ ∃ x ∈ L, x.g = n := by
  induction L with
  | nil => intro acc n h; exact .inl h
  | cons x xs ih =>
    intro acc n h
    rcases ih _ n h with h | ⟨y, hy, e⟩
    · unfold whoStep at h
      split at h
      · exact .inl h
      · rcases List.mem_append.1 h with h | h
        · exact .inl h
        · simp at h; exact .inr ⟨x, by simp, h.symm⟩
    · exact .inr ⟨y, by simp [hy], e⟩
theorem whoW_i64 {L : List Wt} (h : ∀ x ∈ L, WtOk x) (i : Nat) : I64 (en (whoW L) i) := by
  by_cases hi : i < (whoW L).length
  · rcases fold_mem L [] _ (en_mem _ i hi) with h0 | ⟨x, hx, e⟩
    · simp at h0
    · have e' : x.g = en (whoW L) i := e
      rw [← e']; exact (h x hx).1
  · rw [en_of_le _ _ (by omega)]; exact ⟨by omega, by omega⟩

set_option maxRecDepth 100000 in
set_option maxHeartbeats 1000000 in
theorem Index_any (a : Option Addr) (len cap : Nat) (l : List Int) (x : Int) (w : World) (h : Ints w a len cap l) :
    Calls Try.prog 28 #[.slice a len cap, .int .i64 x] w fun e w' => (∃ i : Int, e = .returned (.int .i64 i) ∧ decide (0 ≤ i) = hasI l x) ∧ w = w' := by
  have hcm := h.len_le
  have HLL := Lib.hid h.len_eq
  have H := Lib.hid h; clear h
  go_enter Try.func28, Try.ntmps28
  go_wp2_with fail
  go_loop [8] (fun i => ∃ k : Nat, k ≤ len ∧ i = .int .i64 k ∧ hasI (l.take k) x = false) (fun i => len - (intOf i).toNat)
  case atStart => exact ⟨0, Nat.zero_le _, rfl, rfl⟩
  case round =>
    obtain ⟨k, hk, rfl, hno⟩ := hrel
    have HN := Lib.hid hno; clear hno
    by_cases hlt : k < len
    · have hlt' : (k : Int) < (len : Int) := by omega
      obtain ⟨b, off, rfl, hc⟩ := H.out.cell k hlt
      obtain ⟨y, hy⟩ : ∃ y, y = en l k := ⟨_, rfl⟩
      rw [← hy] at hc
      have HT := Lib.hid (show l.take (k + 1) = l.take k ++ [y] by rw [List.take_add_one, List.getElem?_eq_getElem (by rw [HLL.out]; exact hlt), hy, en_get l k (by rw [HLL.out]; exact hlt)]; rfl)
      have HM := Lib.hid (show y ∈ l by rw [hy]; exact en_mem l k (by rw [HLL.out]; exact hlt))
      clear hy
      cases hxy : (x == y) with
      | true =>
        have R := Lib.hid (show hasI l x = true from List.any_eq_true.2 ⟨y, HM.out, by rw [beq_iff_eq] at hxy ⊢; exact hxy.symm⟩)
        go_wp2_with fail
        go_ret
        exact ⟨⟨_, rfl, by rw [R.out]; simp⟩, rfl⟩
      | false =>
        have R := Lib.hid (show (y == x) = false by rw [beq_eq_false_iff_ne] at hxy ⊢; exact fun e => hxy e.symm)
        have HS := Lib.hid (hasI_snoc (l.take k) y x)
        go_wp2_with fail
        go_round
        case rel => exact ⟨k + 1, by omega, by go_num, by rw [HT.out, HS.out, HN.out, R.out]; rfl⟩
        case measure => simp [intOf]; omega
    · have hkn : k = len := by omega
      subst hkn
      have R := Lib.hid (show hasI l x = false by have := HN.out; rwa [List.take_of_length_le (by rw [HLL.out]; exact Nat.le_refl _)] at this)
      go_wp2_with fail
      go_ret
      exact ⟨⟨-1, rfl, by rw [R.out]; rfl⟩, rfl⟩
set_option maxRecDepth 100000 in
theorem Contains_any (a : Option Addr) (len cap : Nat) (l : List Int) (x : Int) (w : World) (h : Ints w a len cap l) :
    Calls Try.prog 26 #[.slice a len cap, .int .i64 x] w fun e w' => e = .returned (.bool (hasI l x)) ∧ w = w' := by
  have HC := Lib.hid (Index_any a len cap l x w h)
  clear h
  go_enter Try.func26, Try.ntmps26
  go_wp2_with fail
  refine HC.out.mono ?_
  rintro e w1 ⟨⟨i, rfl, hi⟩, rfl⟩
  have HI := Lib.hid hi
  clear hi
  by_cases h0 : 0 ≤ i
  all_goals
    go_wp2_with fail
    go_ret
    exact ⟨ret_bool (by rw [← HI.out]; try simp [h0]), rfl⟩

def GotI (w : World) (L : List Int) (e : Ending) (w' : World) : Prop := ∃ a n cap, e = .returned (.tuple #[.slice a n cap, .int .i64 0]) ∧ Ints w' a n cap L ∧ Below w.heap.size w w'
theorem own_nil0 (w : World) (base : Nat) : Own w base (.slice none 0 0) [] := ⟨rfl, .inl ⟨rfl, rfl⟩⟩
theorem Own.below {w w' : World} {base : Nat} {v : Value} {L : List Int} (h : Own w base v L) (hb : Below w.heap.size w w') : Own w' base v L := by
  refine ⟨h.1, ?_⟩
  rcases h.2 with h0 | ⟨g, cap, cur, hv, hg, hh, r⟩
  · exact .inl h0
  · exact .inr ⟨g, cap, cur, hv, hg, (hb.block _ (Array.getElem?_eq_some_iff.1 hh).1).trans hh, r⟩
theorem gotI {w w' : World} {base : Nat} {v : Value} {L : List Int} (ho : Own w' base v L) (hok : ∀ i, I64 (en L i)) (hb : Below w.heap.size w w') : GotI w L (.returned (.tuple #[v, .int .i64 0])) w' := by
  obtain ⟨a, cap, rfl, hr⟩ := ho.ints hok
  exact ⟨a, _, cap, rfl, hr, hb⟩
set_option maxRecDepth 100000 in
set_option maxHeartbeats 2000000 in
theorem Who_bad (a : Option Addr) (len cap : Nat) (L : List Wt) (w : World) (hL : Wts w a len cap L) (hr : rightW L = false) :
    Calls Try.prog 10 #[.slice a len cap] w (NoL w 1) := by
  have hcm := hL.recs.len_le
  have HR := Lib.hid (fun W (h : Wts W a len cap L) => Right_any a len cap L W h)
  have HL := Lib.hid hL; clear hL
  rw [hr] at HR
  clear hr
  go_enter Try.func10, Try.ntmps10
  go_wp2_with fail
  refine (HR.out _ HL.out).mono ?_
  rintro e w1 ⟨rfl, hb1⟩
  have HB1 := Lib.hid hb1; clear hb1
  go_wp2_with fail
  go_ret2
  exact ⟨rfl, HB1.out⟩
set_option maxRecDepth 100000 in
set_option maxHeartbeats 2000000 in
theorem Who_go (a : Option Addr) (len cap : Nat) (L : List Wt) (w : World) (hL : Wts w a len cap L) (hr : rightW L = true) :
    Calls Try.prog 10 #[.slice a len cap] w (GotI w (whoW L)) := by
  have hcm := hL.recs.len_le
  have h64 : len ≤ 64 := by have := (rightW_iff.1 hr).1; rwa [hL.recs.len_eq] at this
  have HLL := Lib.hid hL.recs.len_eq
  have HR := Lib.hid (fun W (h : Wts W a len cap L) => Right_any a len cap L W h)
  rw [hr] at HR
  have HL := Lib.hid hL; clear hL hr
  have HDL := Lib.hid (fun k => Nat.le_trans (whoW_len (L.take k)) (by rw [List.length_take]; exact Nat.min_le_left k L.length))
  have HOK := Lib.hid HL.out.ok
  have HI64 := Lib.hid (fun k => whoW_i64 (L := L.take k) (fun x hx => HL.out.ok x (List.mem_of_mem_take hx)))
  go_enter Try.func10, Try.ntmps10
  go_wp2_with fail
  refine (HR.out _ HL.out).mono ?_
  rintro e w1 ⟨rfl, hb1⟩
  have HB1 := Lib.hid hb1
  have HL1 := Lib.hid (HL.out.below hb1)
  clear hb1
  go_wp2_with fail
  go_loopw [4, 12] (fun v i wr => ∃ k : Nat, k ≤ len ∧ i = .int .i64 k ∧ Own wr w1.heap.size v (whoW (L.take k)) ∧ Below w1.heap.size w1 wr) (fun _ i _ => len - (intOf i).toNat)
  case atStart => exact ⟨0, Nat.zero_le _, rfl, own_nil0 _ _, Below.refl _ _⟩
  case round =>
    obtain ⟨k, hk, rfl, hown, hbw⟩ := hrel
    have HO := Lib.hid hown; have HW := Lib.hid hbw
    obtain ⟨va, vcap, rfl, hvi⟩ := hown.ints (HI64.out k)
    have HVI := Lib.hid hvi
    clear hown hbw hvi
    by_cases hlt : k < len
    · have hlt' : (k : Int) < (len : Int) := by omega
      obtain ⟨x, bb, off, hx, hok, rfl, c0, c1, c2⟩ := (HL1.out.below HW.out).at k hlt
      have HX := Lib.hid (take_snoc' hx)
      have HDS := Lib.hid (whoW_snoc (L.take k) x)
      have HC := Lib.hid (Contains_any va (whoW (L.take k)).length vcap (whoW (L.take k)) x.g _ (HVI.out.below (below_alloc wr (.cells #[.int .i64 x.g, .int .i64 x.c, .int .i64 x.s] 24))))
      clear hx
      cases hgc : hasI (whoW (L.take k)) x.g with
      | false =>
        have HN : Hid (whoW (L.take (k + 1)) = whoW (L.take k) ++ [x.g]) := Lib.hid (by rw [HX.out, HDS.out, if_neg (by rw [hgc]; simp)])
        rw [hgc] at HC
        clear hgc
        go_wp2_with fail
        refine HC.out.mono ?_
        rintro e w2 ⟨rfl, rfl⟩
        go_wp2_with (at_builtin; refine app1b rfl _ _ rfl w1.heap.size _ (whoW (L.take k)) rfl (Own.below HO.out (below_alloc wr _)) x.g _ (World.size_alloc wr _) rfl (by have := HDL.out k; omega) w1 (belowX_alloc HW.out _) (by have := HW.out.size; simp; omega) ?_; intro v' w' ho hb')
        go_roundw
        case rel => exact ⟨k + 1, by omega, by go_num, by rw [HN.out]; exact ho.out, hb'.out⟩
        case measure => simp [intOf]; omega
      | true =>
        have HN : Hid (whoW (L.take (k + 1)) = whoW (L.take k)) := Lib.hid (by rw [HX.out, HDS.out, if_pos hgc])
        rw [hgc] at HC
        clear hgc
        go_wp2_with fail
        refine HC.out.mono ?_
        rintro e w2 ⟨rfl, rfl⟩
        go_wp2_with fail
        go_roundw
        case rel => exact ⟨k + 1, by omega, by go_num, by rw [HN.out]; exact Own.below HO.out (below_alloc wr _), belowX_alloc HW.out _⟩
        case measure => simp [intOf]; omega
    · have hkn : k = len := by omega
      subst hkn
      have HT : Hid (L.take k = L) := Lib.hid (List.take_of_length_le (by rw [HLL.out]; exact Nat.le_refl _))
      go_wp2_with fail
      go_ret2
      refine ⟨va, _, vcap, rfl, ?_, HB1.out.trans (Below.mono HW.out HB1.out.size)⟩
      have h1 := HVI.out
      rw [HT.out] at h1 ⊢
      exact h1
end Go.Proofs.Ytejlnkneememoaa
