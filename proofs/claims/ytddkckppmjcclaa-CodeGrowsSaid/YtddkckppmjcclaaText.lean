/- Contracts of Put, Sign, got, Get, Signed, All, Every. -/
import Derived.Test.YtddkckppmjcclaaPut
namespace Go.Proofs.Ytddkckppmjcclaa
open Go.RowKit
set_option linter.unusedSimpArgs false
set_option linter.unusedVariables false

theorem ret_str_err {s s' : ByteArray} {b b' : Int} (h : s = s') (k : b = b') : Ending.returned (.tuple #[.string s, .int .i64 b]) = .returned (.tuple #[.string s', .int .i64 b']) := by rw [h, k]
theorem ret_str {s s' : ByteArray} (h : s = s') : Ending.returned (.string s) = .returned (.string s') := by rw [h]
theorem ret_int2_err {a a' b b' c c' : Int} (h : a = a') (k : b = b') (l : c = c') : Ending.returned (.tuple #[.int .i64 a, .int .i64 b, .int .i64 c]) = .returned (.tuple #[.int .i64 a', .int .i64 b', .int .i64 c']) := by rw [h, k, l]

theorem u8s_get (L : List Int) (j : Nat) (hj : j < (u8s L).length) (hb : Byt L) : (((u8s L)[j].toNat : Nat) : Int) = en L j := by
  have hj' : j < L.length := by simpa [u8s] using hj
  have h := hb _ (en_mem L j hj')
  simp only [u8s, List.getElem_map]
  rw [UInt8.toNat_ofNat', ← en_get L j hj']; omega

set_option maxRecDepth 100000 in
theorem Own8.str {w : World} {base : Nat} {v : Value} {L : List Int} (h : Own8 w base v L) (hb : Byt L) :
    ∃ a cap, v = .slice a L.length cap ∧ (convert 66 9 (.slice a L.length cap)).run Try.prog w = .ok (.string (strOf L)) w := by
  rcases h.2 with ⟨hv, hn⟩ | ⟨g, cap, cur, hv, hg, hh, hnc, hcm, hcs, htake⟩
  · have : L = [] := List.eq_nil_of_length_eq_zero hn
    subst this
    refine ⟨none, 0, hv, ?_⟩
    rw [run_convert_bytes_string w 66 9 5 none _ 0 Try.underlying66 Try.underlying5 Try.underlying9]
    rfl
  · refine ⟨_, cap, hv, ?_⟩
    have := run_convert_bytes_back (P := Try.prog) w 66 9 5 ⟨g, 0, none⟩ cap (u8s L) Try.underlying66 Try.underlying5 Try.underlying9 (fun j hj => by
      have hj' : j < L.length := by simpa [u8s] using hj
      rw [Addr.add_lit, Nat.zero_add, cell_of_row w g j _ 5 (0, 0) hh, u8s_get L j hj hb]
      have e : cur[j]? = (cur.toList.take (L.length * 1))[j]? := by
        rw [List.getElem?_take, if_pos (by omega)]; simp
      rw [e, htake, List.getElem?_map, List.getElem?_eq_getElem hj', en_get L j hj']; rfl)
    rw [show (u8s L).length = L.length by simp [u8s]] at this
    exact this

def PutS (w : World) (S : ByteArray) (e : Ending) (w' : World) : Prop := e = .returned (.tuple #[.string S, .int .i64 0]) ∧ Below w.heap.size w w'
def PutNo (w : World) (e : Ending) (w' : World) : Prop := e = .returned (.tuple #[.string ⟨#[]⟩, .int .i64 1]) ∧ w = w'

theorem own8_nil (w : World) : Own8 w w.heap.size (.slice none 0 0) [] := World.ownsRow_nil _ _ _ _

/-- a signed number as a small one -/
def foldZ (n : Int) : Int := if n < 0 then -2 * n - 1 else 2 * n
def gotE (n e : Int) (idle : Bool) : Int × Int × Int := if idle then (0, 0, 10) else if smallB n then (n, e, 0) else (0, 0, 8)
set_option maxRecDepth 100000 in
theorem got_any (n e : Int) (idle : Bool) (w : World) : Calls Try.prog 70 #[.int .i64 n, .int .i64 e, .bool idle] w fun e' w' => e' = .returned (.tuple #[.int .i64 (gotE n e idle).1, .int .i64 (gotE n e idle).2.1, .int .i64 (gotE n e idle).2.2]) ∧ w = w' := by
  cases idle with
  | true =>
    go_enter Try.func70, Try.ntmps70
    go_wp2
    go_ret3
    exact ⟨rfl, rfl⟩
  | false =>
    cases hs : smallB n with
    | true =>
      have HS := Lib.hid hs; clear hs
      have HG := Lib.hid (show gotE n e false = (n, e, 0) by simp [gotE, HS.out])
      go_enter Try.func70, Try.ntmps70
      go_wp2_with fail
      refine (small_any _ _).mono ?_
      rintro e w' ⟨rfl, rfl⟩
      rw [HS.out]
      go_wp2_with fail
      go_ret3
      exact ⟨by rw [HG.out]; rfl, rfl⟩
    | false =>
      have HS := Lib.hid hs; clear hs
      have HG := Lib.hid (show gotE n e false = (0, 0, 8) by simp [gotE, HS.out])
      go_enter Try.func70, Try.ntmps70
      go_wp2_with fail
      refine (small_any _ _).mono ?_
      rintro e w' ⟨rfl, rfl⟩
      rw [HS.out]
      go_wp2_with fail
      go_ret3
      exact ⟨by rw [HG.out]; rfl, rfl⟩
end Go.Proofs.Ytddkckppmjcclaa
