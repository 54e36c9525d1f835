/- A send, and a receive: all that may come of it. -/
import Derived.Test.YtfolhgpbplfilaaD22
import Derived.Test.YtfolhgpbplfilaaD23
import Derived.Test.YtfolhgpbplfilaaC8
import Derived.Test.YtfolhgpbplfilaaC9
namespace Go.Proofs.Ytfolhgpbplfilaa
open Go.RowKit
/-- a send: the channel behind it, what came of it, and whether it is refused -/
def sendZ (c : Chn) (x : Wt) : Chn × Out × Int :=
  if c.cap < 0 then (c, aloneO 0, 0)
  else if c.cl = true then (c, aloneO 3, 0)
  else match firstW c.recvs x.g with
    | some y => if c.sent = 1048576 then (zeroC, zeroO, 5) else (handC c y.g, ⟨1, c.sent, y, c.sent⟩, 0)
    | none => if c.rk < c.rc then (if c.sent = 1048576 then (zeroC, zeroO, 5) else (fillC c, ⟨1, c.sent, ⟨-1, 0, 0⟩, 0⟩, 0))
      else if hasW c.sends x.g x.c = true then (zeroC, zeroO, 7)
      else if c.sends.length = 64 then (zeroC, zeroO, 5)
      else ({ c with sends := c.sends ++ [x] }, aloneO 0, 0)
def recvZ (c : Chn) (x : Wt) : Chn × Out × Int :=
  if c.cap < 0 then (c, aloneO 0, 0)
  else match firstW c.sends x.g with
    | some y => if c.sent = 1048576 then (zeroC, zeroO, 5)
      else if 0 < c.rk then (leaveC (fillC (popC c)) y.g, ⟨1, c.got, y, c.sent⟩, 0) else (handC c y.g, ⟨1, c.sent, y, c.sent⟩, 0)
    | none => if 0 < c.rk then (popC c, ⟨1, c.got, ⟨-1, 0, 0⟩, 0⟩, 0)
      else if c.cl = true then (c, aloneO 2, 0)
      else if hasW c.recvs x.g x.c = true then (zeroC, zeroO, 7)
      else if c.recvs.length = 64 then (zeroC, zeroO, 5)
      else ({ c with recvs := c.recvs ++ [x] }, aloneO 0, 0)
theorem may_parts {x : Wt} (h : mayW x = true) : 0 ≤ x.g ∧ 0 ≤ x.c ∧ 0 ≤ x.s := by simpa [mayW] using h
/-- the first value of a ring that has some -/
theorem first_item {c : Chn} {n f k : Nat} (g : Good c n f k) (hk : 0 < k) : en c.zs f = c.got := by
  have h1 := g.items
  have h2 : en (takenL n f k c.zs) 0 = en c.zs ((f + 0) % n) := by
    unfold takenL
    rw [en_get _ 0 (by rw [upto_len]; exact hk)]
    simp [upto]
  have hf : f < n := by have := g.fl; have := g.kl; omega
  rw [h1, runL_get _ _ _ hk, Nat.add_zero, Nat.mod_eq_of_lt hf] at h2
  rw [← h2]; simp
theorem Send_any (c : Chn) (q : CAt) (x : Wt) (w : World) (h : Cha w c q) (hx : WtOk x) (hr : rightC c = true) (hmy : mayW x = true) :
    Calls Try.prog 22 #[chV c q, wV x] w (GotP w (sendZ c x).1 (sendZ c x).2.1 (sendZ c x).2.2) := by
  obtain ⟨n, f, k, g⟩ := good_of hr
  obtain ⟨hx0, _, _⟩ := may_parts hmy
  unfold sendZ
  by_cases hc : c.cap < 0
  · rw [if_pos hc]
    exact pass_22 c q x w h hx hr hmy c (aloneO 0) 0 _ _ _ (fun W B qw H => send_nil B c qw x W H hc) (.inr (.inr (.inl ⟨rfl, rfl, hc, rfl, rfl, rfl⟩)))
  · rw [if_neg hc]
    by_cases hcl : c.cl = true
    · rw [if_pos hcl]
      exact pass_22 c q x w h hx hr hmy c (aloneO 3) 0 _ _ _ (fun W B qw H => send_closed B c qw x W H (by omega) hcl) (.inr (.inl ⟨rfl, by rfl, rfl, rfl, rfl⟩))
    · rw [if_neg hcl]
      have hcl' : c.cl = false := by simpa using hcl
      cases hf : firstW c.recvs x.g with
      | some y =>
        simp only
        by_cases hm : c.sent = 1048576
        · rw [if_pos hm]
          exact pass_22 c q x w h hx hr hmy c zeroO 5 _ _ _ (fun W B qw H => send_hmax B c qw x W H y (by omega) hcl' hf hx0 hx.1 g.sends g.recvs hm) (.inl ⟨by decide, by decide, rfl, rfl, rfl⟩)
        · rw [if_neg hm]
          exact pass_22 c q x w h hx hr hmy (handC c y.g) ⟨1, c.sent, y, c.sent⟩ 0 _ _ _ (fun W B qw H => send_hand B c qw x W H y (by omega) hcl' hf hx0 hx.1 g.sends g.recvs g.s0 (by have := g.sm; omega) g.g0 (by have := g.sg; omega)) (.inr (.inl ⟨rfl, by rfl, rfl, rfl, rfl⟩))
      | none =>
        simp only
        by_cases hk : c.rk < c.rc
        · rw [if_pos hk]
          by_cases hm : c.sent = 1048576
          · rw [if_pos hm]
            exact pass_22 c q x w h hx hr hmy c ⟨1, c.sent, ⟨-1, 0, 0⟩, 0⟩ 5 _ _ _ (fun W B qw H => send_fmax B c qw x W H (by omega) hcl' hf hx0 hx.1 g.sends g.recvs hk hm) (.inl ⟨by decide, by decide, rfl, rfl, rfl⟩)
          · rw [if_neg hm]
            exact pass_22 c q x w h hx hr hmy (fillC c) ⟨1, c.sent, ⟨-1, 0, 0⟩, 0⟩ 0 _ _ _ (fun W B qw H => send_fill B c qw x W H (by omega) hcl' hf hx0 hx.1 g.sends g.recvs n f k g.rcn g.rfn g.rkn g.n3 g.zl g.fl (by have := g.rcn; have := g.rkn; omega) g.s0 (by have := g.sm; omega)) (.inr (.inl ⟨rfl, by rfl, rfl, rfl, rfl⟩))
        · rw [if_neg hk]
          have hdo := fun W B qw (H : Wk W B c qw x) => send_full B c qw x W H (by omega) hcl' hf hx0 hx.1 g.sends g.recvs (by omega)
          cases hh : hasW c.sends x.g x.c with
          | true =>
            rw [if_pos rfl]
            exact pass_22 c q x w h hx hr hmy c (aloneO 0) 0 _ _ _ hdo (.inr (.inr (.inr ⟨rfl, rfl, by omega, g.sends, .inr (.inl ⟨hh, rfl, rfl, rfl⟩)⟩)))
          | false =>
            rw [if_neg (by decide)]
            by_cases hl : c.sends.length = 64
            · rw [if_pos hl]
              exact pass_22 c q x w h hx hr hmy c (aloneO 0) 0 _ _ _ hdo (.inr (.inr (.inr ⟨rfl, rfl, by omega, g.sends, .inr (.inr ⟨hh, hl, rfl, rfl, rfl⟩)⟩)))
            · rw [if_neg hl]
              exact pass_22 c q x w h hx hr hmy c (aloneO 0) 0 _ _ _ hdo (.inr (.inr (.inr ⟨rfl, rfl, by omega, g.sends, .inl ⟨hh, hl, rfl, rfl, rfl⟩⟩)))
theorem Recv_any (c : Chn) (q : CAt) (x : Wt) (w : World) (h : Cha w c q) (hx : WtOk x) (hr : rightC c = true) (hmy : mayW x = true) :
    Calls Try.prog 23 #[chV c q, wV x] w (GotP w (recvZ c x).1 (recvZ c x).2.1 (recvZ c x).2.2) := by
  obtain ⟨n, f, k, g⟩ := good_of hr
  obtain ⟨hx0, _, _⟩ := may_parts hmy
  have hgot1 : 0 < k → c.got < 1048576 := fun hk => by have := g.sg; have := g.sm; omega
  unfold recvZ
  by_cases hc : c.cap < 0
  · rw [if_pos hc]
    exact pass_23 c q x w h hx hr hmy c (aloneO 0) 0 _ _ _ (fun W B qw H => recv_nil B c qw x W H hc) (.inr (.inr (.inl ⟨rfl, rfl, hc, rfl, rfl, rfl⟩)))
  · rw [if_neg hc]
    cases hf : firstW c.sends x.g with
    | some y =>
      simp only
      by_cases hm : c.sent = 1048576
      · rw [if_pos hm]
        by_cases hk : 0 < k
        · obtain ⟨k1, rfl⟩ : ∃ k1, k = k1 + 1 := ⟨k - 1, by omega⟩
          exact pass_23 c q x w h hx hr hmy (popC c) zeroO 5 _ _ _ (fun W B qw H => recv_tmax B c qw x W H y (by omega) hf hx0 hx.1 g.sends g.recvs n f k1 g.rcn g.rfn g.rkn g.n3 g.zl (by have := g.fl; have := g.kl; omega) g.kl g.g0 (hgot1 hk) hm) (.inl ⟨by decide, by decide, rfl, rfl, rfl⟩)
        · exact pass_23 c q x w h hx hr hmy c zeroO 5 _ _ _ (fun W B qw H => recv_hmax B c qw x W H y (by omega) (by have := g.rkn; omega) hf hx0 hx.1 g.sends g.recvs hm) (.inl ⟨by decide, by decide, rfl, rfl, rfl⟩)
      · rw [if_neg hm]
        by_cases hk : 0 < k
        · obtain ⟨k1, rfl⟩ : ∃ k1, k = k1 + 1 := ⟨k - 1, by omega⟩
          rw [if_pos (by have := g.rkn; omega), ← first_item g hk]
          exact pass_23 c q x w h hx hr hmy (leaveC (fillC (popC c)) y.g) ⟨1, en c.zs f, y, c.sent⟩ 0 _ _ _ (fun W B qw H => recv_ttake B c qw x W H y (by omega) hf hx0 hx.1 g.sends g.recvs n f k1 g.rcn g.rfn g.rkn g.n3 g.zl (by have := g.fl; have := g.kl; omega) g.kl g.g0 (hgot1 hk) g.s0 (by have := g.sm; omega)) (.inr (.inl ⟨rfl, by rfl, rfl, rfl, rfl⟩))
        · rw [if_neg (by have := g.rkn; omega)]
          exact pass_23 c q x w h hx hr hmy (handC c y.g) ⟨1, c.sent, y, c.sent⟩ 0 _ _ _ (fun W B qw H => recv_hand B c qw x W H y (by omega) (by have := g.rkn; omega) hf hx0 hx.1 g.sends g.recvs g.s0 (by have := g.sm; omega) g.g0 (by have := g.sg; omega)) (.inr (.inl ⟨rfl, by rfl, rfl, rfl, rfl⟩))
    | none =>
      simp only
      by_cases hk : 0 < k
      · obtain ⟨k1, rfl⟩ : ∃ k1, k = k1 + 1 := ⟨k - 1, by omega⟩
        rw [if_pos (by have := g.rkn; omega), ← first_item g hk]
        exact pass_23 c q x w h hx hr hmy (popC c) ⟨1, en c.zs f, ⟨-1, 0, 0⟩, 0⟩ 0 _ _ _ (fun W B qw H => recv_take B c qw x W H (by omega) hf hx0 hx.1 g.sends g.recvs n f k1 g.rcn g.rfn g.rkn g.n3 g.zl (by have := g.fl; have := g.kl; omega) g.kl g.g0 (hgot1 hk)) (.inr (.inl ⟨rfl, by rfl, rfl, rfl, rfl⟩))
      · rw [if_neg (by have := g.rkn; omega)]
        have hk0 : c.rk = 0 := by have := g.rkn; omega
        by_cases hcl : c.cl = true
        · rw [if_pos hcl]
          exact pass_23 c q x w h hx hr hmy c (aloneO 2) 0 _ _ _ (fun W B qw H => recv_closed B c qw x W H (by omega) hk0 hcl hf hx0 hx.1 g.sends g.recvs) (.inr (.inl ⟨rfl, by rfl, rfl, rfl, rfl⟩))
        · rw [if_neg hcl]
          have hcl' : c.cl = false := by simpa using hcl
          have hdo := fun W B qw (H : Wk W B c qw x) => recv_wait B c qw x W H (by omega) hk0 hcl' hf hx0 hx.1 g.sends g.recvs
          cases hh : hasW c.recvs x.g x.c with
          | true =>
            rw [if_pos rfl]
            exact pass_23 c q x w h hx hr hmy c (aloneO 0) 0 _ _ _ hdo (.inr (.inr (.inr ⟨rfl, rfl, by omega, g.recvs, .inr (.inl ⟨hh, rfl, rfl, rfl⟩)⟩)))
          | false =>
            rw [if_neg (by decide)]
            by_cases hl : c.recvs.length = 64
            · rw [if_pos hl]
              exact pass_23 c q x w h hx hr hmy c (aloneO 0) 0 _ _ _ hdo (.inr (.inr (.inr ⟨rfl, rfl, by omega, g.recvs, .inr (.inr ⟨hh, hl, rfl, rfl, rfl⟩)⟩)))
            · rw [if_neg hl]
              exact pass_23 c q x w h hx hr hmy c (aloneO 0) 0 _ _ _ hdo (.inr (.inr (.inr ⟨rfl, rfl, by omega, g.recvs, .inl ⟨hh, hl, rfl, rfl, rfl⟩⟩)))
end Go.Proofs.Ytfolhgpbplfilaa
