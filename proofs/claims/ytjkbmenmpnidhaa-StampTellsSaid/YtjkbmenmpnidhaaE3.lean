/- The reference: Of, May. -/
import Derived.Test.YtjkbmenmpnidhaaE2
import Derived.Test.YtjkbmenmpnidhaaVRef
import Derived.Test.YtjkbmenmpnidhaaR9
namespace Go.Proofs.Ytjkbmenmpnidhaa
open Go.RowKit
set_option linter.unusedSimpArgs false
set_option linter.unusedVariables false
theorem Own.below {w w' : World} {base : Nat} {v : Value} {L : List Int} (h : Own w base v L) (hb : Below w.heap.size w w') : Own w' base v L :=
  World.ownsRow.kept h (row := none) ⟨hb.os, hb.tape, hb.output, hb.size, fun k hk _ => hb.block k hk⟩ (Classical.em _)
def edgesK (caps : List Int) (L : List Ev) (i k : Nat) : List Int := ((List.range k).filter fun j => isZ caps L j i).map fun (j : Nat) => (j : Int)
theorem edgesK_yes {caps : List Int} {L : List Ev} {i k : Nat} (h : isZ caps L k i = true) : edgesK caps L i k ++ [(k : Int)] = edgesK caps L i (k + 1) := by
  unfold edgesK; rw [List.range_succ, List.filter_append, List.map_append]; simp [h]
theorem edgesK_no {caps : List Int} {L : List Ev} {i k : Nat} (h : isZ caps L k i = false) : edgesK caps L i k = edgesK caps L i (k + 1) := by
  unfold edgesK; rw [List.range_succ, List.filter_append, List.map_append]; simp [h]
theorem edgesK_len (caps : List Int) (L : List Ev) (i k : Nat) : (edgesK caps L i k).length ≤ k := by
  unfold edgesK; rw [List.length_map]; exact Nat.le_trans (List.length_filter_le _ _) (by simp)
theorem edges_len (caps : List Int) (L : List Ev) (i : Nat) : (edgesZ caps L i).length ≤ i := edgesK_len caps L i i
theorem edges_i64 (caps : List Int) (L : List Ev) (i : Nat) (hi : i ≤ 1000) (q : Nat) : I64 (en (edgesZ caps L i) q) := by
  by_cases h : q < (edgesZ caps L i).length
  · have hm := en_mem _ q h
    obtain ⟨k, hk, hki, _⟩ := (mem_edges caps L i _).1 hm
    rw [hk]; exact ⟨by omega, by omega⟩
  · rw [en_of_le _ _ (by omega)]; exact ⟨by omega, by omega⟩
/-- the events are judged right, and few -/
structure Good (cn : Nat) (caps : List Int) (L : List Ev) : Prop where
  capsOk : capsB caps = true
  clen : caps.length = cn
  right : wrongZ caps L = -1
  few : L.length ≤ 1000
theorem Good.cap {cn : Nat} {caps : List Int} {L : List Ev} (h : Good cn caps L) (i : Nat) (hi : i < L.length) (hk : (evAt L i).kind = 3) : 0 ≤ (evAt L i).obj ∧ (evAt L i).obj < (cn : Int) ∧ -9223372036854775808 ≤ (evAt L i).no - capAt caps (evAt L i).obj ∧ (evAt L i).no - capAt caps (evAt L i).obj ≤ 9223372036854775807 := by
  have hb := ok_of_wrong h.right i hi
  have h1 := fields_obj (bad_parts hb).2.2.1 (.inl hk)
  have h2 := sent_ok hb hk
  have h3 := cntZ_le L 3 (evAt L i).obj i
  have h4 := caps_le h.capsOk (evAt L i).obj.toNat
  have h5 : capAt caps (evAt L i).obj = en caps (evAt L i).obj.toNat := rfl
  have h6 := h.clen
  have h7 := h.few
  omega
set_option maxRecDepth 100000 in
set_option maxHeartbeats 8000000 in
theorem refOf_any (ca : Option Addr) (cn cc : Nat) (caps : List Int) (a : Option Addr) (n c : Nat) (L : List Ev) (i : Nat) (w : World) (hcp : Ints w ca cn cc caps) (h : Evs w a n c L) (hi : i < n) (hg : Good cn caps L) :
    Calls Try.prog 11 #[.slice ca cn cc, .slice a n c, .int .i64 (i : Int)] w (GotInts w (edgesZ caps L i)) := by
  have HC := Lib.hid hcp
  have HE := Lib.hid h
  have hln := h.recs.len_eq
  have hfew := hg.few
  have HG := Lib.hid (hg.cap i (by omega))
  have hi3 : i ≤ 1000 := by omega
  clear hcp h hg
  go_enter Try.func11, Try.ntmps11
  go_wp2_with fail
  go_loopw [7, 8] (fun v j wr => ∃ k : Nat, k ≤ i ∧ j = .int .i64 k ∧ Own wr w.heap.size v (edgesK caps L i k) ∧ Below w.heap.size w wr) (fun _ j _ => i - (intOf j).toNat)
  case atStart => exact ⟨0, Nat.zero_le _, rfl, own_nil w, below_alloc _ _⟩
  case round =>
    obtain ⟨k, hk, rfl, ho, hb⟩ := hrel
    have HO := Lib.hid ho; have HB := Lib.hid hb; clear ho hb
    have hsz := HB.out.size
    by_cases hlt : k < i
    · have hlt' : (k : Int) < (i : Int) := by omega
      have HI := Lib.hid (is_any ca cn cc caps a n c L k i wr (HC.out.below HB.out) (HE.out.below HB.out) hi (by omega) HG.out)
      have hkl := edgesK_len caps L i k
      cases his : isZ caps L k i with
      | true =>
        have HY := Lib.hid (edgesK_yes his)
        rw [his] at HI
        unfold BoolTo at HI
        clear his
        obtain ⟨R, hR⟩ : ∃ R, R = edgesK caps L i k := ⟨_, rfl⟩
        rw [← hR] at HO HY hkl
        clear hR
        go_wp2_with fail
        refine HI.out.mono ?_
        rintro e w2 ⟨rfl, hb⟩
        have HB2 := Lib.hid (HB.out.trans (Below.mono hb HB.out.size))
        have HO2 := Lib.hid (Own.below HO.out hb)
        have hsz2 := HB2.out.size
        clear hb HI HO HB
        go_wp2_with (at_builtin; refine app1 rfl (.tmp 20) (.tmp 22) rfl w.heap.size _ _ rfl HO2.out (k : Int) rfl (by omega) w HB2.out hsz2 ?_; intro v3 w3 ho3 hb3)
        go_roundw
        case rel => exact ⟨k + 1, by omega, by go_num, by rw [← HY.out]; exact ho3.out, hb3.out⟩
        case measure => simp [intOf]; omega
      | false =>
        have HY := Lib.hid (edgesK_no his)
        rw [his] at HI
        unfold BoolTo at HI
        clear his
        go_wp2_with fail
        refine HI.out.mono ?_
        rintro e w2 ⟨rfl, hb⟩
        have HB2 := Lib.hid (HB.out.trans (Below.mono hb HB.out.size))
        have HO2 := Lib.hid (Own.below HO.out hb)
        clear hb HI HO HB
        go_wp2_with fail
        go_roundw
        case rel => exact ⟨k + 1, by omega, by go_num, by rw [← HY.out]; exact HO2.out, HB2.out⟩
        case measure => simp [intOf]; omega
    · have hke : k = i := by omega
      subst hke
      obtain ⟨a2, c2, rfl, hi2⟩ := Own.ints HO.out (edges_i64 caps L k hi3)
      have HI2 := Lib.hid hi2
      clear hi2
      go_wp2_with fail
      go_ret
      exact ⟨_, _, _, rfl, HI2.out, HB.out⟩
set_option maxRecDepth 100000 in
set_option maxHeartbeats 8000000 in
theorem May_any (ca : Option Addr) (cn cc : Nat) (caps : List Int) (a : Option Addr) (n c : Nat) (L : List Ev) (w : World) (hcp : Ints w ca cn cc caps) (h : Evs w a n c L) (hn : n ≤ 1000) :
    Calls Try.prog 8 #[.slice ca cn cc, .slice a n c] w (BoolTo w (capsB caps && decide (wrongZ caps L < 0))) := by
  have HK := Lib.hid (refCaps_any ca cn cc caps w hcp)
  cases hok : capsB caps with
  | false =>
    rw [hok] at HK
    go_enter Try.func8, Try.ntmps8
    go_wp2_with fail
    refine HK.out.mono ?_
    rintro e w1 ⟨rfl, rfl⟩
    go_wp2_with fail
    go_ret
    exact ⟨rfl, Below.refl _ _⟩
  | true =>
    rw [hok] at HK
    have HW := Lib.hid (refWrong_any ca cn cc caps a n c L w hcp hok h hn)
    unfold IntTo at HW
    obtain ⟨z, hz⟩ : ∃ z, z = wrongZ caps L := ⟨_, rfl⟩
    rw [← hz] at HW ⊢
    clear hz
    go_enter Try.func8, Try.ntmps8
    go_wp2_with fail
    refine HK.out.mono ?_
    rintro e w1 ⟨rfl, rfl⟩
    go_wp2_with fail
    refine HW.out.mono ?_
    rintro e w2 ⟨rfl, hb⟩
    go_wp2_with fail
    go_ret
    exact ⟨by simp, hb⟩
end Go.Proofs.Ytjkbmenmpnidhaa
