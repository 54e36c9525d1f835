/- The reference's Trim, Join, Tick; alive. -/
import Derived.Test.YtjkbmenmpnidhaaVJoin
namespace Go.Proofs.Ytjkbmenmpnidhaa
open Go.RowKit

/-- what a slice of ints of the call's own is: it is owned from block base on -/
def Own (w : World) (base : Nat) (v : Value) (L : List Int) : Prop := w.ownsRow base 3 1 v L.length (ints L)

theorem Own.ints {w : World} {base : Nat} {v : Value} {L : List Int} (h : Own w base v L) (hb : ∀ i, I64 (en L i)) :
    ∃ a cap, v = .slice a L.length cap ∧ Ints w a L.length cap L := by
  rcases h.2 with ⟨hv, hn⟩ | ⟨g, cap, cur, hv, hg, hh, hnc, hcm, hcs, htake⟩
  · have : L = [] := List.eq_nil_of_length_eq_zero hn
    subst this
    exact ⟨none, 0, hv, Ints.nil w⟩
  · refine ⟨_, cap, hv, rfl, hnc, hcm, fun h => by simp at h, hb, fun i hi => ⟨g, 0, rfl, ?_⟩⟩
    rw [Nat.zero_add, cell_of_row w g i _ 3 (0, 0) hh]
    have e : cur[i]? = (cur.toList.take (L.length * 1))[i]? := by
      rw [List.getElem?_take, if_pos (by omega)]; simp
    rw [e, htake]
    simp [Go.Proofs.Ytjkbmenmpnidhaa.ints, en_get L i hi, hi]

theorem posrest (l : List Int) (r : Int) : 0 < l.foldl max r ↔ 0 < r ∨ ∃ x ∈ l, 0 < x := by
  induction l generalizing r with
  | nil => simp
  | cons x xs ih =>
    rw [List.foldl_cons, ih]
    constructor
    · rintro (h | ⟨y, hy, h⟩)
      · by_cases hr : 0 < r
        · exact .inl hr
        · exact .inr ⟨x, List.mem_cons_self, by omega⟩
      · exact .inr ⟨y, List.mem_cons_of_mem _ hy, h⟩
    · rintro (h | ⟨y, hy, h⟩)
      · exact .inl (by omega)
      · rcases List.mem_cons.1 hy with rfl | hy
        · exact .inl (by omega)
        · exact .inr ⟨y, hy, h⟩
theorem posdrop (l : List Int) (hl : ∀ n ∈ l, 0 ≤ n) (g : Nat) : 0 < (l.drop g).foldl max 0 ↔ g < (trimL l).length := by
  rw [posrest, trim_lt l hl]
  constructor
  · rintro (h | ⟨x, hx, h⟩)
    · omega
    · obtain ⟨i, hi, rfl⟩ := List.getElem_of_mem hx
      refine ⟨g + i, by omega, ?_⟩
      rw [List.length_drop] at hi
      rw [en_get l _ (by omega)]
      simpa using h
  · rintro ⟨j, hj, h⟩
    right
    have hjl : j < l.length := by
      by_cases hx : j < l.length
      · exact hx
      · rw [en_of_le l j (by omega)] at h; omega
    refine ⟨l[j], ?_, by rwa [en_get l j hjl] at h⟩
    rw [List.mem_iff_getElem]
    refine ⟨j - g, by rw [List.length_drop]; omega, ?_⟩
    simp [show g + (j - g) = j by omega]

theorem foldmax_succ (l : List Int) (g k : Nat) (h : g + k < l.length) : ((l.drop g).take (k + 1)).foldl max 0 = max (((l.drop g).take k).foldl max 0) (en l (g + k)) := by
  have hk : k < (l.drop g).length := by rw [List.length_drop]; omega
  rw [List.take_add_one, List.getElem?_eq_getElem hk, List.foldl_append, en_get l _ h]
  simp
theorem foldmax_i64 (l : List Int) (hb : ∀ i, I64 (en l i)) (g k : Nat) : I64 (((l.drop g).take k).foldl max 0) := by
  induction k with
  | zero => simp [I64]
  | succ k ih =>
    by_cases h : g + k < l.length
    · rw [foldmax_succ l g k h]
      have := hb (g + k)
      unfold I64 at *; omega
    · rw [List.take_of_length_le (by rw [List.length_drop]; omega)]
      rwa [List.take_of_length_le (by rw [List.length_drop]; omega)] at ih

/-- one number more, behind a slice of the call's own -/
theorem app1 {ops : Array Oper} {rest : List Oper} {o : Oper} {a : Act} {Q : Exit → Act → World → Prop} {wr : World} (hgd : o.guard = none) (s x : Operand)
    (ho : o.op = .call { callee := .builtin .append, args := #[s, x], argTypes := #[22, 22] }) (base : Nat) (v : Value) (L : List Int) (hs : a.eval s = v) (hown : Own wr base v L) (n : Int)
    (hx : a.eval x = .slice (some ⟨wr.heap.size, 0, none⟩) 1 1) (hlen : L.length ≤ 1000000) (w0 : World) (hb : Below base w0 wr) (hbase : base ≤ wr.heap.size)
    (h : ∀ v' w', Hid (Own w' base v' (L ++ [n])) → Hid (Below base w0 w') → wpList Try.prog ops Q rest (a.put o.dst v') w') :
    wpList Try.prog ops Q (o :: rest) a (wr.alloc (.cells #[.int .i64 n] 3)) := by
  obtain ⟨i0, hi, hz0, hz1, hz2⟩ := info_parts Try.info3
  refine wpList_append_own _ hgd s x 22 ho base 3 i0 (.int .i64 0) 1 8 Try.underlying22 hi hz0 hz1 hz2 rfl (by decide) v L.length (ints L) hs (hown.alloc _) ⟨wr.heap.size, 0, none⟩ 1 1 [.int .i64 n] hx rfl ?_ ?_ (by unfold maxLen; omega) (by omega) (by simp; omega) ?_
  · intro j u hj
    match j, hj with
    | 0, hj =>
      simp at hj; subst hj
      have hr : (wr.alloc (.cells #[.int .i64 n] 3)).heap[wr.heap.size]? = some (.cells #[.int .i64 n] 3) := heap_alloc_new wr _
      rw [show (⟨wr.heap.size, 0, none⟩ : Addr).add 0 = ⟨wr.heap.size, 0, none⟩ from rfl, cell_of_row _ _ 0 _ 3 (0, 0) hr]; rfl
  · intro u hu; simp at hu; subst hu; rfl
  · intro v' w' ho' hg _
    refine h v' w' ?_ ?_
    · have e : ints (L ++ [n]) = ints L ++ [.int .i64 n] := by simp [ints]
      show w'.ownsRow base 3 1 v' (L ++ [n]).length (ints (L ++ [n]))
      rw [e, List.length_append]; exact ho'
    · exact (hb.alloc hbase _).grown hg (by simp; omega) (fun k hk => (World.ownsRow.lt hown k hk).1)

theorem own_nil (w : World) : Own (w.alloc (.cells #[] 3)) w.heap.size (.slice (some ⟨w.heap.size, 0, none⟩) 0 0) [] :=
  World.ownsRow_lit w #[] 0 (Nat.le_refl _) (by decide) rfl

theorem take_own (l : List Int) (g : Nat) (h : g < (trimL l).length) : (trimL l).take g ++ [en l g] = (trimL l).take (g + 1) := by
  rw [List.take_add_one, List.getElem?_eq_getElem h, ← en_trim, en_get _ _ h]; rfl

set_option maxRecDepth 100000 in
theorem reftrim_any (a : Option Addr) (len cap : Nat) (l : List Int) (w : World) (h : Ints w a len cap l) (hl : ∀ n ∈ l, 0 ≤ n) (hs : len ≤ 1000) :
    Calls Try.prog 39 #[.slice a len cap] w (GotInts w (trimL l)) := by
  have hlc := h.le_cap
  have hcm := h.cap_le
  unfold maxLen at hcm
  have HL := Lib.hid hl; have H := Lib.hid h; clear hl h
  go_enter Try.func39, Try.ntmps39
  go_wp2_with fail
  go_loopw [3, 11] (fun v i wr => ∃ g : Nat, g ≤ len ∧ i = .int .i64 g ∧ Own wr w.heap.size v ((trimL l).take g) ∧ Below w.heap.size w wr) (fun _ i _ => len - (intOf i).toNat)
  case atStart => exact ⟨0, Nat.zero_le _, rfl, own_nil w, below_alloc _ _⟩
  case round =>
    obtain ⟨g, hg, rfl, ho, hb⟩ := hrel
    have HO := Lib.hid ho; have HB := Lib.hid hb; clear ho hb
    have hsz := HB.out.size
    by_cases hlt : g < len
    · obtain ⟨b, off, rfl, hcg⟩ := (H.out.below HB.out).cell g hlt
      have hgc : ¬ cap = g := by omega
      have hgi : (g : Int) < (len : Int) := by omega
      go_wp2_with fail
      go_loop [5, 18] (fun r i => ∃ k : Nat, k ≤ len - g ∧ i = .int .i64 k ∧ r = .int .i64 (((l.drop g).take k).foldl max 0)) (fun _ i => len - g - (intOf i).toNat)
      case atStart => exact ⟨0, Nat.zero_le _, rfl, rfl⟩
      case round =>
        obtain ⟨k, hk, rfl, rfl⟩ := hrel
        have hx := foldmax_succ l g k
        rw [H.out.len_eq] at hx
        have hx2 := foldmax_i64 l H.out.bound g k
        obtain ⟨r, hr⟩ : ∃ r, r = ((l.drop g).take k).foldl max 0 := ⟨_, rfl⟩
        rw [← hr] at hx hx2 ⊢
        obtain ⟨hr1, hr2⟩ := hx2
        have HX := Lib.hid hx; have HR := Lib.hid hr; clear hx hr
        by_cases hlk : g + k < len
        · obtain ⟨b', off', hbo, hc⟩ := (H.out.below HB.out).cell (g + k) hlk
          simp only [Option.some.injEq, Addr.mk.injEq, and_true] at hbo
          obtain ⟨rfl, rfl⟩ := hbo
          rw [← Nat.add_assoc] at hc
          have hlk' : k < len - g := by omega
          obtain ⟨y, hy⟩ : ∃ y, y = en l (g + k) := ⟨_, rfl⟩
          rw [← hy] at hc
          have HY := Lib.hid hy; clear hy
          by_cases hry : r < y
          · go_wp2_with fail
            go_round
            case rel => exact ⟨k + 1, by omega, by go_num, by rw [HX.out hlk, ← HY.out, Int.max_eq_right (by omega)]⟩
            case measure => simp [intOf]; omega
          · go_wp2_with fail
            go_round
            case rel => exact ⟨k + 1, by omega, by go_num, by rw [HX.out hlk, ← HY.out, Int.max_eq_left (by omega)]⟩
            case measure => simp [intOf]; omega
        · have hkk : ((l.drop g).take k) = l.drop g := List.take_of_length_le (by rw [List.length_drop, H.out.len_eq]; omega)
          have hpos := posdrop l HL.out g
          rw [← hkk, ← HR.out] at hpos
          have HP := Lib.hid hpos; clear hkk hpos
          by_cases hrp : 0 < r
          · have htr := take_own l g (HP.out.1 hrp)
            have HT := Lib.hid htr; clear htr
            obtain ⟨y, hy⟩ : ∃ y, y = en l g := ⟨_, rfl⟩
            rw [← hy] at hcg
            have HY := Lib.hid hy; clear hy
            have htl := trim_len l
            rw [H.out.len_eq] at htl
            go_wp2_with (at_builtin; refine app1 rfl (.tmp 28) (.tmp 33) rfl w.heap.size _ _ rfl HO.out y rfl (by rw [List.length_take]; omega) w HB.out hsz ?_; intro v' w1 ho1 hb1)
            go_roundw
            case rel => exact ⟨g + 1, by omega, by go_num, by rw [← HT.out, ← HY.out]; exact ho1.out, hb1.out⟩
            case measure => simp [intOf]; omega
          · have hge : ¬ g < (trimL l).length := fun h => hrp (HP.out.2 h)
            have htk : (trimL l).take (g + 1) = (trimL l).take g := by rw [List.take_of_length_le (by omega), List.take_of_length_le (by omega)]
            have HT := Lib.hid htk; clear htk hge
            go_wp2_with fail
            go_roundw
            case rel => exact ⟨g + 1, by omega, by go_num, by rw [HT.out]; exact HO.out, HB.out⟩
            case measure => simp [intOf]; omega
    · have htl := trim_len l
      rw [H.out.len_eq] at htl
      have hkk : (trimL l).take g = trimL l := List.take_of_length_le (by omega)
      have ho := HO.out
      rw [hkk] at ho
      obtain ⟨a', cap', rfl, hI⟩ := ho.ints (fun i => by rw [en_trim]; exact H.out.bound i)
      have HI := Lib.hid hI; clear ho hI hkk HO
      go_wp2_with fail
      go_ret
      exact ⟨_, _, _, rfl, HI.out, HB.out⟩

/-- the 16 entries that a rule gives, trim -/
def sixteen (f : Nat → Int) (k : Nat) : List Int := (List.range k).map f
theorem sixteen_succ (f : Nat → Int) (k : Nat) : sixteen f (k + 1) = sixteen f k ++ [f k] := by simp [sixteen, List.range_succ]
theorem en_sixteen (f : Nat → Int) (k i : Nat) : en (sixteen f k) i = if i < k then f i else 0 := by
  by_cases h : i < k
  · rw [if_pos h]; simp [en, sixteen, h]
  · rw [if_neg h, en_of_le _ _ (by simp [sixteen]; omega)]
theorem sixteen_len (f : Nat → Int) (k : Nat) : (sixteen f k).length = k := by simp [sixteen]

def joinAt (a b : List Int) (i : Nat) : Int := max (en a i) (en b i)

set_option maxRecDepth 100000 in
theorem refjoin_any (a : Option Addr) (len cap : Nat) (l : List Int) (a2 : Option Addr) (len2 cap2 : Nat) (l2 : List Int) (w : World) (h : Ints w a len cap l) (h2 : Ints w a2 len2 cap2 l2) (hn : ∀ i, 0 ≤ joinAt l l2 i) :
    Calls Try.prog 26 #[.slice a len cap, .slice a2 len2 cap2] w (GotInts w (trimL (sixteen (joinAt l l2) 16))) := by
  have HN := Lib.hid hn; have H := Lib.hid h; have H2 := Lib.hid h2; clear hn h h2
  go_enter Try.func26, Try.ntmps26
  go_wp2_with fail
  go_loopw [5, 6] (fun v i wr => ∃ g : Nat, g ≤ 16 ∧ i = .int .i64 g ∧ Own wr w.heap.size v (sixteen (joinAt l l2) g) ∧ Below w.heap.size w wr) (fun _ i _ => 16 - (intOf i).toNat)
  case atStart => exact ⟨0, Nat.zero_le _, rfl, own_nil w, below_alloc _ _⟩
  case round =>
    obtain ⟨g, hg, rfl, ho, hb⟩ := hrel
    have HO := Lib.hid ho; have HB := Lib.hid hb; clear ho hb
    have hsz := HB.out.size
    by_cases hlt : g < 16
    · have hs := sixteen_succ (joinAt l l2) g
      have HS := Lib.hid hs; clear hs
      go_wp2_with fail
      refine (refat_any _ _ _ _ _ _ (H.out.below HB.out) (by omega)).mono ?_
      rintro e w' ⟨rfl, rfl⟩
      go_wp2_with fail
      refine (refat_any _ _ _ _ _ _ (H2.out.below HB.out) (by omega)).mono ?_
      rintro e w' ⟨rfl, rfl⟩
      rw [Int.toNat_natCast]
      have hj : joinAt l l2 g = max (en l g) (en l2 g) := rfl
      obtain ⟨x, hx⟩ : ∃ x, x = en l g := ⟨_, rfl⟩
      obtain ⟨y, hy⟩ : ∃ x, x = en l2 g := ⟨_, rfl⟩
      rw [← hx, ← hy] at hj ⊢
      have HJ := Lib.hid hj; clear hx hy hj
      by_cases hxy : x < y
      · have e : max x y = y := Int.max_eq_right (by omega)
        have hj := HJ.out; rw [e] at hj; rw [hj] at HS
        clear e hj
        go_wp2_with (at_builtin; refine app1 rfl (.tmp 12) (.tmp 20) rfl w.heap.size _ _ rfl HO.out y rfl (by rw [sixteen_len]; omega) w HB.out hsz ?_; intro v' w1 ho1 hb1)
        go_roundw
        case rel => exact ⟨g + 1, by omega, by go_num, by rw [HS.out]; exact ho1.out, hb1.out⟩
        case measure => simp [intOf]; omega
      · have e : max x y = x := Int.max_eq_left (by omega)
        have hj := HJ.out; rw [e] at hj; rw [hj] at HS
        clear e hj
        go_wp2_with (at_builtin; refine app1 rfl (.tmp 12) (.tmp 20) rfl w.heap.size _ _ rfl HO.out x rfl (by rw [sixteen_len]; omega) w HB.out hsz ?_; intro v' w1 ho1 hb1)
        go_roundw
        case rel => exact ⟨g + 1, by omega, by go_num, by rw [HS.out]; exact ho1.out, hb1.out⟩
        case measure => simp [intOf]; omega
    · obtain rfl : g = 16 := by omega
      obtain ⟨a', cap', rfl, hI⟩ := HO.out.ints (fun i => by
        rw [en_sixteen]; split
        · have := H.out.bound i; have := H2.out.bound i; unfold joinAt I64 at *; omega
        · exact ⟨by omega, by omega⟩)
      have HI := Lib.hid hI; clear hI
      go_wp2_with fail
      refine (reftrim_any _ _ _ _ _ HI.out (fun n hn => by
        obtain ⟨i, hi, rfl⟩ := List.getElem_of_mem hn
        have := HN.out i
        simpa [sixteen] using this) (by rw [sixteen_len]; omega)).mono ?_
      rintro e w2 ⟨a3, n3, c3, rfl, hi3, hb3⟩
      have hb' := HB.out.trans (hb3.mono HB.out.size)
      have HI3 := Lib.hid hi3; have HB3 := Lib.hid hb'; clear hi3 hb3 hb'
      go_wp2_with fail
      go_ret
      exact ⟨_, _, _, rfl, HI3.out, HB3.out⟩

def tickAt (l : List Int) (t : Int) (i : Nat) : Int := if (i : Int) = t then en l i + 1 else en l i

set_option maxRecDepth 100000 in
theorem reftick_any (a : Option Addr) (len cap : Nat) (l : List Int) (t : Int) (w : World) (h : Ints w a len cap l) (hr : ∀ i, 0 ≤ en l i ∧ en l i ≤ 1099511627776) :
    Calls Try.prog 27 #[.slice a len cap, .int .i64 t] w (GotInts w (trimL (sixteen (tickAt l t) 16))) := by
  have HN := Lib.hid hr; have H := Lib.hid h; clear hr h
  go_enter Try.func27, Try.ntmps27
  go_wp2_with fail
  go_loopw [5, 6] (fun v i wr => ∃ g : Nat, g ≤ 16 ∧ i = .int .i64 g ∧ Own wr w.heap.size v (sixteen (tickAt l t) g) ∧ Below w.heap.size w wr) (fun _ i _ => 16 - (intOf i).toNat)
  case atStart => exact ⟨0, Nat.zero_le _, rfl, own_nil w, below_alloc _ _⟩
  case round =>
    obtain ⟨g, hg, rfl, ho, hb⟩ := hrel
    have HO := Lib.hid ho; have HB := Lib.hid hb; clear ho hb
    have hsz := HB.out.size
    by_cases hlt : g < 16
    · have hs := sixteen_succ (tickAt l t) g
      obtain ⟨hx1, hx2⟩ := HN.out g
      obtain ⟨x, hx⟩ : ∃ x, x = en l g := ⟨_, rfl⟩
      rw [← hx] at hx1 hx2
      by_cases hgt : (g : Int) = t
      · have hj : tickAt l t g = x + 1 := by rw [tickAt, if_pos hgt, hx]
        rw [hj] at hs
        have HS := Lib.hid hs; have HX := Lib.hid hx; clear hs hx hj
        subst hgt
        go_wp2_with fail
        refine (refat_any _ _ _ _ _ _ (H.out.below HB.out) (by omega)).mono ?_
        rintro e w' ⟨rfl, rfl⟩
        rw [Int.toNat_natCast, ← HX.out]
        go_wp2_with (at_builtin; refine app1 rfl (.tmp 21) (.tmp 23) rfl w.heap.size _ _ rfl HO.out (x + 1) rfl (by rw [sixteen_len]; omega) w HB.out hsz ?_; intro v' w1 ho1 hb1)
        go_roundw
        case rel => exact ⟨g + 1, by omega, by go_num, by rw [HS.out]; exact ho1.out, hb1.out⟩
        case measure => simp [intOf]; omega
      · have hj : tickAt l t g = x := by rw [tickAt, if_neg hgt, hx]
        rw [hj] at hs
        have hne : ((g : Int) == t) = false := by simpa using hgt
        have HS := Lib.hid hs; have HX := Lib.hid hx; clear hs hx hj
        go_wp2_with fail
        refine (refat_any _ _ _ _ _ _ (H.out.below HB.out) (by omega)).mono ?_
        rintro e w' ⟨rfl, rfl⟩
        rw [Int.toNat_natCast, ← HX.out]
        go_wp2_with (at_builtin; refine app1 rfl (.tmp 21) (.tmp 23) rfl w.heap.size _ _ rfl HO.out x rfl (by rw [sixteen_len]; omega) w HB.out hsz ?_; intro v' w1 ho1 hb1)
        go_roundw
        case rel => exact ⟨g + 1, by omega, by go_num, by rw [HS.out]; exact ho1.out, hb1.out⟩
        case measure => simp [intOf]; omega
    · obtain rfl : g = 16 := by omega
      obtain ⟨a', cap', rfl, hI⟩ := HO.out.ints (fun i => by
        rw [en_sixteen]; split
        · have := HN.out i; unfold tickAt I64 at *; split <;> omega
        · exact ⟨by omega, by omega⟩)
      have HI := Lib.hid hI; clear hI
      go_wp2_with fail
      refine (reftrim_any _ _ _ _ _ HI.out (fun n hn => by
        obtain ⟨i, hi, rfl⟩ := List.getElem_of_mem hn
        have := (HN.out i).1
        simp only [sixteen, List.getElem_map, List.getElem_range, tickAt]
        split <;> omega) (by rw [sixteen_len]; omega)).mono ?_
      rintro e w2 ⟨a3, n3, c3, rfl, hi3, hb3⟩
      have hb' := HB.out.trans (hb3.mono HB.out.size)
      have HI3 := Lib.hid hi3; have HB3 := Lib.hid hb'; clear hi3 hb3 hb'
      go_wp2_with fail
      go_ret
      exact ⟨_, _, _, rfl, HI3.out, HB3.out⟩

theorem small_i64 (L : List Int) (h : L.all (fun n => decide (-1000 ≤ n ∧ n ≤ 1000)) = true) (i : Nat) : I64 (en L i) := by
  by_cases hi : i < L.length
  · rw [List.all_eq_true] at h
    have := h _ (en_mem L i hi)
    simp at this; unfold I64; omega
  · rw [en_of_le L i (by omega)]; exact ⟨by omega, by omega⟩
theorem ints_lit (w : World) (L : List Int) (n : Nat) (hn : L.length = n) (hm : n ≤ 1000) (hb : ∀ i, I64 (en L i)) : Ints (w.alloc (.cells (ints L).toArray 3)) (some ⟨w.heap.size, 0, none⟩) n n L :=
  Ints.of_row (heap_alloc_new w _) hn (by unfold maxLen; omega) hb

end Go.Proofs.Ytjkbmenmpnidhaa
