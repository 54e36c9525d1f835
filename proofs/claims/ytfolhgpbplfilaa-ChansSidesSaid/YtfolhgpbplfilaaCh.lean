/- Channels as plain data. -/
import Derived.Test.YtfolhgpbplfilaaFr
import Derived.Test.YtfolhgpbplfilaaRRefs
import Derived.Test.YtfolhgpbplfilaaRIs
import Derived.Test.YtfolhgpbplfilaaRGrow
import Derived.Test.YtfolhgpbplfilaaRPop
import Derived.Test.YtfolhgpbplfilaaRTaken
namespace Go.Proofs.Ytfolhgpbplfilaa
open Go.RowKit

structure Chn where
  cap : Int
  cl : Bool
  rc : Int
  rf : Int
  zs : List Int
  rk : Int
  sent : Int
  got : Int
  sends : List Wt
  recvs : List Wt
/-- where its lists lie -/
structure CAt where
  za : Option Addr
  zn : Nat
  zc : Nat
  sa : Option Addr
  sn : Nat
  sc : Nat
  ra : Option Addr
  rn : Nat
  rq : Nat
abbrev chC (c : Chn) (q : CAt) : Array Value := #[.int .i64 c.cap, .bool c.cl, .int .i64 c.rc, .int .i64 c.rf, .slice q.za q.zn q.zc, .int .i64 c.rk, .int .i64 c.sent, .int .i64 c.got, .slice q.sa q.sn q.sc, .slice q.ra q.rn q.rq]
abbrev chV (c : Chn) (q : CAt) : Value := .agg (chC c q)
structure Cha (w : World) (c : Chn) (q : CAt) : Prop where
  cap : I64 c.cap
  rc : I64 c.rc
  rf : I64 c.rf
  rk : I64 c.rk
  sent : I64 c.sent
  got : I64 c.got
  zs : Ints w q.za q.zn q.zc c.zs
  sends : Wts w q.sa q.sn q.sc c.sends
  recvs : Wts w q.ra q.rn q.rq c.recvs
theorem Cha.below {w w' : World} {c : Chn} {q : CAt} (h : Cha w c q) (hb : Below w.heap.size w w') : Cha w' c q := ⟨h.cap, h.rc, h.rf, h.rk, h.sent, h.got, h.zs.below hb, h.sends.below hb, h.recvs.below hb⟩
/-- the numbers from one on, so many -/
def runL (a : Int) (n : Nat) : List Int := (List.range n).map (fun i : Nat => a + (i : Int))
theorem runL_len (a : Int) (n : Nat) : (runL a n).length = n := by simp [runL]
theorem runL_get (a : Int) (n i : Nat) (h : i < n) : en (runL a n) i = a + (i : Int) := by
  rw [en_get _ _ (by rw [runL_len]; exact h)]; simp [runL]
theorem runL_succ (a : Int) (n : Nat) : runL a (n + 1) = runL a n ++ [a + (n : Int)] := by simp [runL, List.range_succ]
theorem runL_cons (a : Int) (n : Nat) : runL a (n + 1) = a :: runL (a + 1) n := by
  unfold runL
  rw [List.range_succ_eq_map, List.map_cons, List.map_map]
  refine congr (congrArg _ (by simp)) (List.map_congr_left fun i _ => ?_)
  simp; omega
/-- what a channel's ring has -/
def itemsC (c : Chn) : List Int := takenL c.rc.toNat c.rf.toNat c.rk.toNat c.zs
def ringC (c : Chn) : Bool := rightZ c.rc c.rf c.zs.length c.rk
/-- nobody waits who need not -/
def idleC (c : Chn) : Bool :=
  if c.cap < 0 then !c.cl && decide (c.sent ≤ 0) && c.sends.isEmpty && c.recvs.isEmpty
  else if c.cl = true then c.sends.isEmpty && c.recvs.isEmpty
  else (c.sends.isEmpty || decide (c.rc ≤ c.rk)) && (c.recvs.isEmpty || c.rk == 0)
def numC (c : Chn) : Bool := decide (-1 ≤ c.cap ∧ c.cap ≤ 3 ∧ c.rc = max c.cap 0 ∧ 0 ≤ c.sent ∧ c.sent ≤ 1048576 ∧ 0 ≤ c.got ∧ c.got ≤ c.sent)
/-- WHAT MAY BE A CHANNEL -/
noncomputable def rightC (c : Chn) : Bool := numC c && (ringC c && (decide (itemsC c = runL c.got (c.sent - c.got).toNat) && (rightW c.sends && (rightW c.recvs && idleC c))))
/-- what a channel that may be keeps -/
structure Good (c : Chn) (n f k : Nat) : Prop where
  cap0 : -1 ≤ c.cap
  cap3 : c.cap ≤ 3
  rcn : c.rc = (n : Int)
  rcm : (n : Int) = max c.cap 0
  rfn : c.rf = (f : Int)
  rkn : c.rk = (k : Int)
  n3 : n ≤ 3
  zl : c.zs.length = n
  fl : f < max n 1
  kl : k ≤ n
  s0 : 0 ≤ c.sent
  sm : c.sent ≤ 1048576
  g0 : 0 ≤ c.got
  sg : c.sent = c.got + (k : Int)
  items : takenL n f k c.zs = runL c.got k
  sends : rightW c.sends = true
  recvs : rightW c.recvs = true
  nil_ : c.cap < 0 → c.cl = false ∧ c.sent = 0 ∧ c.sends = [] ∧ c.recvs = []
  clo : c.cl = true → c.sends = [] ∧ c.recvs = []
  ful : c.sends ≠ [] → k = n
  emp : c.recvs ≠ [] → k = 0
theorem right_parts {c : Chn} (h : rightC c = true) : numC c = true ∧ ringC c = true ∧ itemsC c = runL c.got (c.sent - c.got).toNat ∧ rightW c.sends = true ∧ rightW c.recvs = true ∧ idleC c = true := by
  unfold rightC at h
  simp only [Bool.and_eq_true, decide_eq_true_eq] at h
  obtain ⟨a, b, c, d, e, f⟩ := h
  exact ⟨a, b, c, d, e, f⟩
theorem good_of {c : Chn} (h : rightC c = true) : ∃ n f k, Good c n f k := by
  obtain ⟨h1, h2, h3, h4, h5, h6⟩ := right_parts h
  simp only [numC, decide_eq_true_eq] at h1
  simp only [ringC, rightZ, decide_eq_true_eq] at h2
  have hil : (itemsC c).length = c.rk.toNat := by unfold itemsC; exact taken_len _ _ _ _
  have hkk : c.rk.toNat = (c.sent - c.got).toNat := by rw [h3, runL_len] at hil; exact hil.symm
  refine ⟨c.rc.toNat, c.rf.toNat, c.rk.toNat, ⟨by omega, by omega, by omega, by omega, by omega, by omega, by omega, by omega, by omega, by omega, by omega, by omega, by omega, by omega, ?_, h4, h5, ?_, ?_, ?_, ?_⟩⟩
  · have := h3; unfold itemsC at this; rw [this, hkk]
  · intro hn
    simp only [idleC, if_pos hn, Bool.and_eq_true, Bool.not_eq_true', decide_eq_true_eq, List.isEmpty_iff] at h6
    exact ⟨h6.1.1.1, by omega, h6.1.2, h6.2⟩
  · intro hc
    by_cases hn : c.cap < 0
    · simp only [idleC, if_pos hn, Bool.and_eq_true, List.isEmpty_iff] at h6; exact ⟨h6.1.2, h6.2⟩
    · simp only [idleC, if_neg hn, if_pos hc, Bool.and_eq_true, List.isEmpty_iff] at h6; exact h6
  · intro hs
    by_cases hn : c.cap < 0
    · simp only [idleC, if_pos hn, Bool.and_eq_true, List.isEmpty_iff] at h6; exact absurd h6.1.2 hs
    · by_cases hc : c.cl = true
      · simp only [idleC, if_neg hn, if_pos hc, Bool.and_eq_true, List.isEmpty_iff] at h6; exact absurd h6.1 hs
      · simp only [idleC, if_neg hn, if_neg hc, Bool.and_eq_true, Bool.or_eq_true, List.isEmpty_iff, decide_eq_true_eq] at h6
        rcases h6.1 with h | h
        · exact absurd h hs
        · omega
  · intro hs
    by_cases hn : c.cap < 0
    · simp only [idleC, if_pos hn, Bool.and_eq_true, List.isEmpty_iff] at h6; exact absurd h6.2 hs
    · by_cases hc : c.cl = true
      · simp only [idleC, if_neg hn, if_pos hc, Bool.and_eq_true, List.isEmpty_iff] at h6; exact absurd h6.2 hs
      · simp only [idleC, if_neg hn, if_neg hc, Bool.and_eq_true, Bool.or_eq_true, List.isEmpty_iff, beq_iff_eq] at h6
        rcases h6.2 with h | h
        · exact absurd h hs
        · omega
theorem of_good {c : Chn} {n f k : Nat} (h : Good c n f k) : rightC c = true := by
  have hz := h.zl; have h1 := h.cap0; have h2 := h.cap3; have h3 := h.rcn; have h4 := h.rcm; have h5 := h.rfn; have h6 := h.rkn; have h7 := h.n3; have h8 := h.fl; have h9 := h.kl; have h10 := h.s0; have h11 := h.sm; have h12 := h.g0; have h13 := h.sg
  unfold rightC
  simp only [Bool.and_eq_true, decide_eq_true_eq]
  refine ⟨?_, ?_, ?_, h.sends, h.recvs, ?_⟩
  · simp only [numC, decide_eq_true_eq]; omega
  · simp only [ringC, rightZ, decide_eq_true_eq]; omega
  · unfold itemsC
    rw [h3, h5, h6, h13]
    simp only [Int.toNat_natCast]
    rw [show (c.got + (k : Int) - c.got).toNat = k by omega]
    exact h.items
  · unfold idleC
    by_cases hn : c.cap < 0
    · obtain ⟨a, b, d, e⟩ := h.nil_ hn
      simp [hn, a, b, d, e]
    · rw [if_neg hn]
      by_cases hc : c.cl = true
      · obtain ⟨a, b⟩ := h.clo hc
        simp [hc, a, b]
      · rw [if_neg hc]
        simp only [Bool.and_eq_true, Bool.or_eq_true, List.isEmpty_iff, decide_eq_true_eq, beq_iff_eq]
        constructor
        · by_cases hs : c.sends = []
          · exact .inl hs
          · exact .inr (by have := h.ful hs; omega)
        · by_cases hs : c.recvs = []
          · exact .inl hs
          · exact .inr (by have := h.emp hs; omega)
end Go.Proofs.Ytfolhgpbplfilaa
