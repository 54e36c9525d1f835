/- What is right stays right. -/
import Derived.Test.YtfolhgpbplfilaaD5
import Derived.Test.YtfolhgpbplfilaaD4
import Derived.Test.YtfolhgpbplfilaaC4
namespace Go.Proofs.Ytfolhgpbplfilaa
open Go.RowKit
theorem right_newC (n : Int) (h : -1 ≤ n) (h3 : n ≤ 3) : rightC (newC n) = true := by
  have hk : ((max n 0).toNat : Int) = max n 0 := by omega
  refine of_good (n := (max n 0).toNat) (f := 0) (k := 0) ⟨h, h3, by simp only [newC]; omega, by simp only [newC]; omega, rfl, rfl, by omega, by simp [newC], by omega, by omega, by simp [newC], by simp [newC], by simp [newC], by simp [newC], ?_, right_nil, right_nil, fun _ => ⟨rfl, rfl, rfl, rfl⟩, fun _ => ⟨rfl, rfl⟩, fun h => absurd rfl h, fun h => absurd rfl h⟩
  simp [takenL, upto, runL]
theorem good_pop {c : Chn} {n f k : Nat} (g : Good c n f (k + 1)) (hs : c.sends = []) (hcap : 0 ≤ c.cap) : Good (popC c) n ((f + 1) % n) k := by
  have hn : k + 1 ≤ n := g.kl
  have hf : f < n := by have := g.fl; omega
  have hrf : c.rf.toNat = f := by rw [g.rfn]; rfl
  have hrk : c.rk.toNat - 1 = k := by rw [g.rkn]; rfl
  have hrc : c.rc.toNat = n := by rw [g.rcn]; rfl
  have hit := g.items
  rw [taken_pop n f k c.zs g.zl hf hn, runL_cons] at hit
  have hsg := g.sg
  refine ⟨g.cap0, g.cap3, g.rcn, g.rcm, ?_, ?_, g.n3, ?_, ?_, by omega, g.s0, g.sm, ?_, ?_, ?_, g.sends, g.recvs, fun h => absurd h (by show ¬ c.cap < 0; omega), fun h => g.clo h, fun h => absurd hs h, fun h => ?_⟩
  · simp only [popC]; rw [hrf, hrc]
  · simp only [popC]; rw [hrk]
  · simp only [popC]; rw [List.length_set]; exact g.zl
  · have := Nat.mod_lt (f + 1) (show 0 < n by omega); omega
  · simp only [popC]; have := g.g0; omega
  · simp only [popC]; omega
  · simp only [popC]; rw [hrf]; simp only [List.cons.injEq] at hit; exact hit.2
  · have := g.emp h; omega
theorem right_close {c : Chn} (h : rightC c = true) (hp : panicC c = false) : rightC (closeC c) = true ∧ c.sends = [] ∧ 0 ≤ c.cap ∧ c.cl = false := by
  simp only [panicC, Bool.or_eq_false_iff, decide_eq_false_iff_not, Bool.not_eq_false', List.isEmpty_iff] at hp
  obtain ⟨hcap, hcl, hs⟩ := hp
  obtain ⟨n, f, k, g⟩ := good_of h
  refine ⟨of_good (n := n) (f := f) (k := k) ⟨g.cap0, g.cap3, g.rcn, g.rcm, g.rfn, g.rkn, g.n3, g.zl, g.fl, g.kl, g.s0, g.sm, g.g0, g.sg, g.items, g.sends, right_nil, fun h => absurd h hcap, fun _ => ⟨hs, rfl⟩, fun h => absurd hs h, fun h => absurd rfl h⟩, hs, by omega, hcl⟩
end Go.Proofs.Ytfolhgpbplfilaa
