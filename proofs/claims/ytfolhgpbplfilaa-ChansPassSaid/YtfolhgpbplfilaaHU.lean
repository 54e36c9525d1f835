/- The reference's Send and Recv: all ends; what program and reference answer is the same. -/
import Derived.Test.YtfolhgpbplfilaaHsD
import Derived.Test.YtfolhgpbplfilaaHsC
import Derived.Test.YtfolhgpbplfilaaHrD
import Derived.Test.YtfolhgpbplfilaaHrC
import Derived.Test.YtfolhgpbplfilaaD7
import Derived.Test.YtfolhgpbplfilaaE4
namespace Go.Proofs.Ytfolhgpbplfilaa
open Go.RowKit
set_option linter.unusedSimpArgs false
set_option linter.unusedVariables false
def rsendZ (c : Chn) (m : Nat) (x : Wt) : Chn × Out × Int :=
  if c.cap < 0 then (c, aloneO 0, 0)
  else if c.cl = true then (c, aloneO 3, 0)
  else match firstW c.recvs x.g with
    | some y => if c.sent = 1048576 then (zeroC, zeroO, 5) else (mvC (leaveC c y.g) m 1 1, ⟨1, c.sent, y, c.sent⟩, 0)
    | none => if c.rk < c.rc then (if c.sent = 1048576 then (zeroC, zeroO, 5) else (mvC c m 1 0, ⟨1, c.sent, ⟨-1, 0, 0⟩, 0⟩, 0))
      else if hasW c.sends x.g x.c = true then (zeroC, zeroO, 7)
      else if c.sends.length = 64 then (zeroC, zeroO, 5)
      else ({ c with sends := c.sends ++ [x] }, aloneO 0, 0)
def rrecvZ (c : Chn) (m : Nat) (x : Wt) : Chn × Out × Int :=
  if c.cap < 0 then (c, aloneO 0, 0)
  else match firstW c.sends x.g with
    | some y => if c.sent = 1048576 then (zeroC, zeroO, 5) else (mvC (leaveC c y.g) m 1 1, ⟨1, c.got, y, c.sent⟩, 0)
    | none => if 0 < c.rk then (mvC c m 0 1, ⟨1, c.got, ⟨-1, 0, 0⟩, 0⟩, 0)
      else if c.cl = true then (c, aloneO 2, 0)
      else if hasW c.recvs x.g x.c = true then (zeroC, zeroO, 7)
      else if c.recvs.length = 64 then (zeroC, zeroO, 5)
      else ({ c with recvs := c.recvs ++ [x] }, aloneO 0, 0)
theorem refSend_any (c : Chn) (q : CAt) (m : Nat) (x : Wt) (w : World) (h : Cha w c q) (hx : WtOk x) (hr : rightC c = true) (hm : (m : Int) = max c.cap 0) :
    Calls Try.prog 25 #[chV c q, wV x] w (GotQ w (rsendZ c m x).1 (rsendZ c m x).2.1 (rsendZ c m x).2.2) := by
  obtain ⟨n, f, k, g⟩ := good_of hr
  obtain ⟨cap_, cl, rc, rf, zs, rk, sent, got, sends, recvs⟩ := c
  have a1 := g.cap0; have a2 := g.cap3; have a3 := g.rcn; have a4 := g.rcm; have a5 := g.rkn; have a6 := g.s0; have a7 := g.sm; have a8 := g.g0; have a9 := g.sg
  have hsl := h.sends.recs.len_eq; have hrl := h.recvs.recs.len_eq
  have hs64 := (rightW_iff.1 g.sends).1; have hr64 := (rightW_iff.1 g.recvs).1
  simp only at a1 a2 a3 a4 a5 a6 a7 a8 a9 hm hsl hrl hs64 hr64
  unfold rsendZ
  simp only
  by_cases hc : cap_ < 0
  · rw [if_pos hc]; exact refSend_nil _ q x w h hx (by show cap_ = -1; omega)
  rw [if_neg hc]
  cases cl with
  | true => rw [if_pos rfl]; exact refSend_closed _ q x w h hx (by show cap_ ≠ -1; omega) rfl
  | false =>
    rw [if_neg (by decide)]
    cases hf : firstW recvs x.g with
    | some y =>
      simp only
      by_cases hmx : sent = 1048576
      · rw [if_pos hmx]; exact refSend_some_max cap_ rc rf zs rk sent got sends recvs q x w h hx (by omega) y hf hmx
      · rw [if_neg hmx]; exact refSend_some_go cap_ rc rf zs rk sent got sends recvs q x w h hx m (by omega) a2 a6 a7 a8 (by omega) (by omega) (by omega) y hf hmx
    | none =>
      simp only
      by_cases hk : rk < rc
      · rw [if_pos hk]
        by_cases hmx : sent = 1048576
        · rw [if_pos hmx]; exact refSend_none_max cap_ rc rf zs rk sent got sends recvs q x w h hx (by omega) hf (by omega) hmx
        · rw [if_neg hmx]; exact refSend_none_room cap_ rc rf zs rk sent got sends recvs q x w h hx m (by omega) a2 a6 a7 a8 (by omega) hf (by omega) hmx
      · rw [if_neg hk]
        cases hh : hasW sends x.g x.c with
        | true => rw [if_pos rfl]; exact refSend_push_has cap_ rc rf zs rk sent got sends recvs q x w h hx (by omega) hf (by omega) hh
        | false =>
          rw [if_neg (by decide)]
          by_cases h64 : sends.length = 64
          · rw [if_pos h64]; exact refSend_push_full cap_ rc rf zs rk sent got sends recvs q x w h hx (by omega) hf (by omega) hh (by omega)
          · rw [if_neg h64]; exact refSend_push_ok cap_ rc rf zs rk sent got sends recvs q x w h hx (by omega) hf (by omega) hh (by omega) (by omega)
theorem refRecv_any (c : Chn) (q : CAt) (m : Nat) (x : Wt) (w : World) (h : Cha w c q) (hx : WtOk x) (hr : rightC c = true) (hm : (m : Int) = max c.cap 0) :
    Calls Try.prog 26 #[chV c q, wV x] w (GotQ w (rrecvZ c m x).1 (rrecvZ c m x).2.1 (rrecvZ c m x).2.2) := by
  obtain ⟨n, f, k, g⟩ := good_of hr
  obtain ⟨cap_, cl, rc, rf, zs, rk, sent, got, sends, recvs⟩ := c
  have a1 := g.cap0; have a2 := g.cap3; have a3 := g.rcn; have a4 := g.rcm; have a5 := g.rkn; have a6 := g.s0; have a7 := g.sm; have a8 := g.g0; have a9 := g.sg
  have hsl := h.sends.recs.len_eq; have hrl := h.recvs.recs.len_eq
  have hs64 := (rightW_iff.1 g.sends).1; have hr64 := (rightW_iff.1 g.recvs).1
  simp only at a1 a2 a3 a4 a5 a6 a7 a8 a9 hm hsl hrl hs64 hr64
  unfold rrecvZ
  simp only
  by_cases hc : cap_ < 0
  · rw [if_pos hc]; exact refRecv_nil _ q x w h hx (by show cap_ = -1; omega)
  rw [if_neg hc]
  cases hf : firstW sends x.g with
  | some y =>
    simp only
    by_cases hmx : sent = 1048576
    · rw [if_pos hmx]; exact refRecv_some_max cap_ cl rc rf zs rk sent got sends recvs q x w h hx (by omega) y hf hmx
    · rw [if_neg hmx]; exact refRecv_some_go cap_ cl rc rf zs rk sent got sends recvs q x w h hx m (by omega) a2 a6 a7 a8 (by omega) (by omega) (by omega) y hf hmx
  | none =>
    simp only
    by_cases hk : 0 < rk
    · rw [if_pos hk]; exact refRecv_none_take cap_ cl rc rf zs rk sent got sends recvs q x w h hx m (by omega) a2 a6 a7 a8 (by omega) hf hk
    · rw [if_neg hk]
      cases cl with
      | true => rw [if_pos rfl]; exact refRecv_closed cap_ rc rf zs rk sent got sends recvs q x w h hx (by omega) hf hk
      | false =>
        rw [if_neg (by decide)]
        cases hh : hasW recvs x.g x.c with
        | true => rw [if_pos rfl]; exact refRecv_push_has cap_ rc rf zs rk sent got sends recvs q x w h hx (by omega) hf hk hh
        | false =>
          rw [if_neg (by decide)]
          by_cases h64 : recvs.length = 64
          · rw [if_pos h64]; exact refRecv_push_full cap_ rc rf zs rk sent got sends recvs q x w h hx (by omega) hf hk hh (by omega)
          · rw [if_neg h64]; exact refRecv_push_ok cap_ rc rf zs rk sent got sends recvs q x w h hx (by omega) hf hk hh (by omega) (by omega)
end Go.Proofs.Ytfolhgpbplfilaa
