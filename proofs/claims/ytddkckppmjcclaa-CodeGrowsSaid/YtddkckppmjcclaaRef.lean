/- Contracts of the reference's Put, end, Get, Fold, Unfold; few; Signed. -/
import Derived.Test.YtddkckppmjcclaaGet
import Derived.Deep.RegionWith
namespace Go.Proofs.Ytddkckppmjcclaa
open Go.RowKit
set_option linter.unusedSimpArgs false
set_option linter.unusedVariables false

set_option maxRecDepth 100000 in
theorem conv1 (W : World) (g : Nat) (x : Int) (h0 : 0 ≤ x) (h1 : x < 256) (hc : W.cell? ⟨g, 0, none⟩ = some (.int .u8 x)) :
    (convert 66 9 (.slice (some ⟨g, 0, none⟩) 1 1)).run Try.prog W = .ok (.string (strOf [x])) W := by
  have := run_convert_bytes_back (P := Try.prog) W 66 9 5 ⟨g, 0, none⟩ 1 (u8s [x]) Try.underlying66 Try.underlying5 Try.underlying9 (fun j hj => by
    have hj0 : j = 0 := by simpa [u8s] using hj
    subst hj0
    rw [Addr.add_lit, Nat.zero_add, hc, u8s_get [x] 0 hj (by intro b hb; simp at hb; omega)]; simp [en])
  exact this

/-! ### few, Fold, Unfold, Signed -/
def unfZ (n : Int) : Int := if n % 2 = 1 then -(n / 2) - 1 else n / 2
def signedZ (T : List Int) (a : Int) : Int × Int × Int := if (getZ T a).2.2 = 0 then (unfZ (getZ T a).1, (getZ T a).2.1, 0) else (0, 0, (getZ T a).2.2)

theorem getZ_bd (T : List Int) (hT : Byt T) (a : Int) (h : (getZ T a).2.2 = 0) : 0 ≤ (getZ T a).1 ∧ (getZ T a).1 ≤ 2147483647 := by
  by_cases ho : a < 0 ∨ (T.length : Int) < a
  · rw [getZ_out T a ho] at h; simp at h
  · obtain ⟨p, rfl⟩ := Int.eq_ofNat_of_zero_le (show 0 ≤ a by omega)
    rw [getZ_in T p (by omega)] at h ⊢
    simp only [] at h ⊢
    obtain ⟨v, k, e⟩ : ∃ v k, getS (T.drop p) = (v, k, 0) := ⟨_, _, Prod.ext rfl (Prod.ext rfl h)⟩
    have := put_get _ (byt_drop hT p) v k e
    rw [e]; exact ⟨this.2.2.2.2.1, this.2.2.2.2.2⟩

def StrTo (w : World) (S : ByteArray) (e : Ending) (w' : World) : Prop := e = .returned (.string S) ∧ Below w.heap.size w w'

set_option maxRecDepth 100000 in
set_option maxHeartbeats 1000000 in
theorem refput_any (f : Nat) : ∀ (n : Int) (w : World), 0 ≤ n → n < 128 ^ (f + 1) → f ≤ 4 → Calls Try.prog 36 #[.int .i64 n] w (StrTo w (strOf (putF f n))) := by
  induction f with
  | zero =>
    intro n w h0 h1 _
    have h2 : n < 128 := by simpa using h1
    have hp := Lib.hid (putF_one 0 n h2)
    have hc := conv1 (w.alloc (.cells #[.int .u8 n] 5)) w.heap.size n h0 (by omega) (by rw [cell_of_row _ _ 0 _ 5 (0, 0) (heap_alloc_new w _)]; rfl)
    go_enter Try.func36, Try.ntmps36
    go_wp2_with fail
    go_ret
    exact ⟨ret_str (by rw [hp.out]), below_alloc _ _⟩
  | succ f ih =>
    intro n w h0 h1 hf
    by_cases h2 : n < 128
    · have hp := Lib.hid (putF_one (f + 1) n h2)
      have hc := conv1 (w.alloc (.cells #[.int .u8 n] 5)) w.heap.size n h0 (by omega) (by rw [cell_of_row _ _ 0 _ 5 (0, 0) (heap_alloc_new w _)]; rfl)
      clear h1
      have IH := Lib.hid ih; clear ih
      go_enter Try.func36, Try.ntmps36
      go_wp2_with fail
      go_ret
      exact ⟨ret_str (by rw [hp.out]), below_alloc _ _⟩
    · have hp := Lib.hid (putF_more f n h2)
      have HI : Hid (∀ W, Calls Try.prog 36 #[.int .i64 (n / 128)] W (StrTo W (strOf (putF f (n / 128))))) := fun W => ih (n / 128) W (by omega) (by rw [Int.pow_succ] at h1; omega) (by omega)
      have hsz := (putF_len f (n / 128)).2
      have hsz2 : (strOf (putF f (n / 128))).size ≤ 5 := by rw [strOf_size]; omega
      have hsz1 : (strOf [n % 128 + 128]).size ≤ 1 := by rw [strOf_size]; exact Nat.le_refl _
      have hpn : (128 : Int) ^ (f + 1 + 1) ≤ 34359738368 := by
        rcases (show f = 0 ∨ f = 1 ∨ f = 2 ∨ f = 3 by omega) with rfl | rfl | rfl | rfl <;> decide
      have hn1 : n ≤ 34359738367 := by omega
      clear h1 ih hpn hsz
      have happ := Lib.hid (strOf_append [n % 128 + 128] (putF f (n / 128)))
      have hcv := fun (W : World) (g : Nat) => conv1 W g (n % 128 + 128) (by omega) (by omega)
      obtain ⟨S2, hS2⟩ : ∃ S, S = strOf (putF f (n / 128)) := ⟨_, rfl⟩
      obtain ⟨S1, hS1⟩ : ∃ S, S = strOf [n % 128 + 128] := ⟨_, rfl⟩
      rw [← hS2] at hsz2 happ HI
      rw [← hS1] at hsz1 happ hcv
      have e1 : IntKind.i64.wrap (n.tmod 128 + 128) = n % 128 + 128 := by rw [Int.tmod_eq_emod_of_nonneg h0, IntWalk.i64_in _ ⟨by omega, by omega⟩]
      have e2 : IntKind.u8.wrap (n % 128 + 128) = n % 128 + 128 := IntWalk.u8_in _ ⟨by omega, by omega⟩
      have e3 : IntKind.i64.wrap (n.tdiv 128) = n / 128 := by rw [Int.tdiv_eq_ediv_of_nonneg h0, IntWalk.i64_in _ ⟨by omega, by omega⟩]
      obtain ⟨y, hy⟩ : ∃ y, y = n % 128 + 128 := ⟨_, rfl⟩
      obtain ⟨q, hq⟩ : ∃ y, y = n / 128 := ⟨_, rfl⟩
      rw [← hy] at e1 e2 hcv
      rw [← hq] at e3 HI
      have HY := Lib.hid hy; have HQ := Lib.hid hq; clear hy hq
      have hpl := hp; clear hp hS1 hS2
      go_enter Try.func36, Try.ntmps36
      go_wp2_with fail
      have HN := Lib.hid (show S1 ++ S2 = strOf (putF (f + 1) n) by rw [← happ.out, hpl.out]; rfl)
      go_region_with (go_at_call 36; refine (HI.out _).mono ?_; rintro e w1 ⟨rfl, hb1⟩; have hcc := fun h => hb1.cell (p := ⟨w.heap.size, 0, none⟩) h; have HB1 := Lib.hid hb1; clear hb1)
      all_goals go_wp2_with fail
      all_goals go_ret
      all_goals refine ⟨ret_str HN.out, ?_⟩
      · exact ((below_alloc w _).drew).trans (HB1.out.mono (by simp))
      · exact ((below_alloc w _).drew).trans (HB1.out.mono (by simp))
      · exact (((Below.refl w.heap.size w).drew).trans HB1.out).alloc HB1.out.size _
end Go.Proofs.Ytddkckppmjcclaa
