/- Channels as plain data. -/
import Derived.Test.YtfolhgpbplfilaaRItems
import Derived.Test.YtfolhgpbplfilaaRPush
import Derived.Test.YtfolhgpbplfilaaRPop
import Derived.Test.YtfolhgpbplfilaaRTaken
import Derived.Deep.OwnRows
import Derived.Test.YtfolhgpbplfilaaFresh
import Derived.Test.YtfolhgpbplfilaaRRefs
import Derived.Test.YtfolhgpbplfilaaRIs
namespace Go.Proofs.Ytfolhgpbplfilaa
open Go.RowKit
theorem ring_res3n {fn : Func} {p u x : Tmp} (h : fn.results = #[.cell p 24, .tmp u, .tmp x]) (tmps : Array Value) {W : World} {B : Nat} {v0 v1 v2 v3 : Value} (hp : tmps.getD p undef = .pointer (some ⟨B, 0, none⟩)) (hg : W.heap[B]? = some (.cells #[v0, v1, v2, v3] 24 (0, 0))) :
    (results fn tmps).run Try.prog W = .ok (.tuple #[.agg #[v0, v1, v2, v3], tmps.getD u undef, tmps.getD x undef]) W := by
  have hl := ring_load hg
  have hp' : tmps[p]?.getD undef = .pointer (some ⟨B, 0, none⟩) := by simpa using hp
  simp only [results, h]
  simp [Result.andThen, hp', asAddr, hl]
def NoPop (w : World) (why : Int) (e : Ending) (w' : World) : Prop := e = .returned (.tuple #[ringV 0 0 (.slice none 0 0) 0, .int .i64 0, .int .i64 why]) ∧ Below w.heap.size w w'
set_option maxRecDepth 100000 in
set_option maxHeartbeats 2000000 in
theorem Pop_none (c first : Nat) (a : Option Addr) (cap : Nat) (w : World) (hc8 : c ≤ 8) (hf : first < max c 1) :
    Calls Try.prog 71 #[ringV c first (.slice a c cap) 0] w (NoPop w 4) := by
  have hR := Lib.hid (show rightZ c first c 0 = true by rw [rightZ, decide_eq_true_eq]; omega)
  have hRa := Lib.hid (fun W : World => r_Right_any c first 0 a c cap W ⟨by omega, by omega⟩ ⟨by omega, by omega⟩ ⟨by omega, by omega⟩ (by omega))
  unfold ringV at *
  go_enter Try.func71, Try.ntmps71
  go_wp2_with fail
  refine (hRa.out _).mono ?_
  rintro e w1 ⟨rfl, hb1⟩
  obtain ⟨h1, h2, hB, hsz⟩ := boxes _ _ hb1
  rw [hR.out]
  obtain ⟨p0, p1, p2, p3⟩ := cells4 h1
  obtain ⟨q0, q1, q2, q3⟩ := cells4 h2
  obtain ⟨f0, f1, f2, f3⟩ := froz4 h2
  have H2 := Lib.hid h2; have HB := Lib.hid hB
  clear h1 h2 hb1 hB
  go_wp2_with fail
  try simp only [Exit.inBlock, Exit.then]
  refine bodyPost_ret (ring_res3n rfl _ rfl (set4_at H2.out _ _ _ _)) rfl ?_
  exact ⟨rfl, set4_below HB.out (by omega) _ _ _ _⟩
end Go.Proofs.Ytfolhgpbplfilaa
namespace Go.Proofs.Ytfolhgpbplfilaa
open Go.RowKit

set_option maxRecDepth 100000 in
set_option maxHeartbeats 2000000 in
theorem New_no (n : Int) (w : World) (h : n < 0 ∨ 8 < n) (hn : I64 n) : Calls Try.prog 28 #[.int .i64 n] w (NoRing w 2) := by
  unfold I64 at hn
  unfold NoRing ringV
  by_cases h1 : n < 0
  · go_enter Try.func28, Try.ntmps28
    go_wp2
    exact bodyPost_ret (ring_res rfl _ rfl (heap_alloc_new w _)) rfl ⟨rfl, below_alloc _ _⟩
  · have h2 : 8 < n := by omega
    clear h
    go_enter Try.func28, Try.ntmps28
    go_wp2
    exact bodyPost_ret (ring_res rfl _ rfl (heap_alloc_new w _)) rfl ⟨rfl, below_alloc _ _⟩

set_option maxRecDepth 100000 in
set_option maxHeartbeats 2000000 in
theorem Push_bad (c first count : Int) (a : Option Addr) (len cap : Nat) (v : Int) (w : World) (hc : I64 c) (hf : I64 first) (hk : I64 count) (hl : (len : Int) ≤ 9223372036854775807) (hbad : rightZ c first len count = false) :
    Calls Try.prog 69 #[ringV c first (.slice a len cap) count, .int .i64 v] w (NoRing w 1) := by
  have hRa := Lib.hid (fun W : World => r_Right_any c first count a len cap W hc hf hk hl)
  rw [hbad] at hRa
  have HX := Lib.hid hbad; clear hbad
  unfold ringV at *
  go_enter Try.func69, Try.ntmps69
  go_wp2_with fail
  refine (hRa.out _).mono ?_
  rintro e w1 ⟨rfl, hb1⟩
  obtain ⟨h1, h2, hB, hsz⟩ := boxes _ _ hb1
  obtain ⟨q0, q1, q2, q3⟩ := cells4 h2
  obtain ⟨f0, f1, f2, f3⟩ := froz4 h2
  have H2 := Lib.hid h2; have HB := Lib.hid hB
  clear h1 h2 hb1 hB
  go_wp2_with fail
  try simp only [Exit.inBlock, Exit.then]
  refine bodyPost_ret (ring_res rfl _ rfl (set4_at H2.out _ _ _ _)) rfl ?_
  exact ⟨rfl, set4_below HB.out (by omega) _ _ _ _⟩

set_option maxRecDepth 100000 in
set_option maxHeartbeats 2000000 in
theorem Pop_bad (c first count : Int) (a : Option Addr) (len cap : Nat) (w : World) (hc : I64 c) (hf : I64 first) (hk : I64 count) (hl : (len : Int) ≤ 9223372036854775807) (hbad : rightZ c first len count = false) :
    Calls Try.prog 71 #[ringV c first (.slice a len cap) count] w (NoPop w 1) := by
  have hRa := Lib.hid (fun W : World => r_Right_any c first count a len cap W hc hf hk hl)
  rw [hbad] at hRa
  have HX := Lib.hid hbad; clear hbad
  unfold ringV at *
  go_enter Try.func71, Try.ntmps71
  go_wp2_with fail
  refine (hRa.out _).mono ?_
  rintro e w1 ⟨rfl, hb1⟩
  obtain ⟨h1, h2, hB, hsz⟩ := boxes _ _ hb1
  obtain ⟨q0, q1, q2, q3⟩ := cells4 h2
  obtain ⟨f0, f1, f2, f3⟩ := froz4 h2
  have H2 := Lib.hid h2; have HB := Lib.hid hB
  clear h1 h2 hb1 hB
  go_wp2_with fail
  try simp only [Exit.inBlock, Exit.then]
  refine bodyPost_ret (ring_res3n rfl _ rfl (set4_at H2.out _ _ _ _)) rfl ?_
  exact ⟨rfl, set4_below HB.out (by omega) _ _ _ _⟩

def NoItems (w : World) (why : Int) (e : Ending) (w' : World) : Prop := e = .returned (.tuple #[.slice none 0 0, .int .i64 why]) ∧ Below w.heap.size w w'
set_option maxRecDepth 100000 in
set_option maxHeartbeats 2000000 in
theorem Items_bad (c first count : Int) (a : Option Addr) (len cap : Nat) (w : World) (hc : I64 c) (hf : I64 first) (hk : I64 count) (hl : (len : Int) ≤ 9223372036854775807) (hbad : rightZ c first len count = false) :
    Calls Try.prog 35 #[ringV c first (.slice a len cap) count] w (NoItems w 1) := by
  have hRa := Lib.hid (fun W : World => r_Right_any c first count a len cap W hc hf hk hl)
  rw [hbad] at hRa
  have HX := Lib.hid hbad; clear hbad
  unfold ringV at *
  go_enter Try.func35, Try.ntmps35
  go_wp2_with fail
  refine (hRa.out _).mono ?_
  rintro e w1 ⟨rfl, hb1⟩
  obtain ⟨h1, hB, hsz⟩ := box1 _ _ hb1
  have HB := Lib.hid hB
  clear h1 hb1 hB
  go_wp2_with fail
  go_ret2
  exact ⟨rfl, HB.out⟩

end Go.Proofs.Ytfolhgpbplfilaa
namespace Go.Proofs.Ytfolhgpbplfilaa
open Go.RowKit
def Says (w : World) (e : Ending) (w' : World) : Prop := e = .returned (.bool true) ∧ Below w.heap.size w w'
theorem box3_grown {W W' : World} {B : Nat} {x : Wt} {row : Option Nat} (h : Box3 W B x) (hg : W.drew.grownBy W' row) (hlt : B < W.heap.size) (hne : some B ≠ row) : Box3 W' B x := (hg.block B hlt hne).trans h
/-- of another goroutine or case -/
def apartW (x y : Wt) : Prop := ¬ (x.g = y.g ∧ x.c = y.c)
theorem hasW_false {L : List Wt} {g c : Int} : hasW L g c = false ↔ ∀ y ∈ L, ¬ (y.g = g ∧ y.c = c) := by
  unfold hasW
  rw [List.any_eq_false]
  constructor
  · intro h y hy he; have := h y hy; simp [he.1, he.2] at this
  · intro h y hy hh
    have := h y hy
    simp at hh; exact this hh
theorem pair_of_good {L : List Wt} (h : ∀ i x, i < L.length → L[i]? = some x → hasW (L.take i) x.g x.c = false) : L.Pairwise apartW := by
  rw [List.pairwise_iff_getElem]
  intro i j hi hj hij he
  have h1 := hasW_false.1 (h j L[j] hj (List.getElem?_eq_getElem hj)) L[i] (by
    have : (L.take j)[i]? = some L[i] := by rw [List.getElem?_take, if_pos hij, List.getElem?_eq_getElem hi]
    exact List.mem_of_getElem? this)
  exact h1 he
theorem good_of_pair {L : List Wt} (h : L.Pairwise apartW) : ∀ i x, i < L.length → L[i]? = some x → hasW (L.take i) x.g x.c = false := by
  intro i x hi hx
  rw [hasW_false]
  intro y hy he
  obtain ⟨j, hj, hjy⟩ := List.getElem_of_mem hy
  have hji : j < i := by simp at hj; omega
  rw [List.getElem_take] at hjy
  rw [List.pairwise_iff_getElem] at h
  have := h j i (by omega) hi hji
  rw [hjy] at this
  have e : L[i] = x := by rw [List.getElem?_eq_getElem hi] at hx; exact Option.some.inj hx
  rw [e] at this
  exact this he
theorem right_pair {L : List Wt} : rightW L = true ↔ L.length ≤ 64 ∧ (∀ x ∈ L, mayW x = true) ∧ L.Pairwise apartW := by
  rw [rightW_iff]
  constructor
  · rintro ⟨hl, hg⟩
    refine ⟨hl, fun x hx => ?_, pair_of_good fun i x hi hx => (hg i x hi hx).2⟩
    obtain ⟨i, hi, he⟩ := List.getElem_of_mem hx
    exact (hg i x hi (by rw [List.getElem?_eq_getElem hi, he])).1
  · rintro ⟨hl, hm, hp⟩
    exact ⟨hl, fun i x hi hx => ⟨hm x (List.mem_of_getElem? hx), good_of_pair hp i x hi hx⟩⟩
theorem right_filter {L : List Wt} (h : rightW L = true) (p : Wt → Bool) : rightW (L.filter p) = true := by
  obtain ⟨h1, h2, h3⟩ := right_pair.1 h
  refine right_pair.2 ⟨Nat.le_trans (List.length_filter_le _ _) h1, fun x hx => h2 x (List.mem_filter.1 hx).1, List.Pairwise.sublist List.filter_sublist h3⟩
theorem right_drop {L : List Wt} (h : rightW L = true) (g : Int) : rightW (dropW L g) = true := right_filter h _
theorem right_snoc {L : List Wt} {x : Wt} (h : rightW L = true) (hl : L.length < 64) (hm : mayW x = true) (hh : hasW L x.g x.c = false) : rightW (L ++ [x]) = true := by
  obtain ⟨h1, h2, h3⟩ := right_pair.1 h
  refine right_pair.2 ⟨by simp; omega, fun y hy => ?_, ?_⟩
  · rcases List.mem_append.1 hy with hy | hy
    · exact h2 y hy
    · simp at hy; rw [hy]; exact hm
  · rw [List.pairwise_append]
    refine ⟨h3, by simp, fun a ha b hb => ?_⟩
    simp at hb; subst hb
    exact hasW_false.1 hh a ha
theorem right_nil : rightW [] = true := right_pair.2 ⟨by simp, fun x hx => by simp at hx, List.Pairwise.nil⟩
theorem nodup_le : ∀ (n : Nat) (l : List Int), l.Nodup → (∀ x ∈ l, 0 ≤ x ∧ x < (n : Int)) → l.length ≤ n := by
  intro n
  induction n with
  | zero =>
    intro l _ h
    cases l with
    | nil => exact Nat.le_refl _
    | cons x xs => have := h x (by simp); omega
  | succ n ih =>
    intro l hn h
    have h1 := ih (l.erase (n : Int)) (hn.erase _) (fun x hx => by
      have hm := (List.Nodup.mem_erase_iff hn).1 hx
      have := h x hm.2
      have h2 := hm.1
      omega)
    have h2 : l.length ≤ (l.erase (n : Int)).length + 1 := by
      rw [List.length_erase]; split <;> omega
    omega
theorem Wts.grown {w w' : World} {a : Option Addr} {len cap : Nat} {L : List Wt} {row : Option Nat} (h : Wts w a len cap L) (hg : w.grownBy w' row) (hne : ∀ x, a = some x → some x.block ≠ row) : Wts w' a len cap L := by
  refine ⟨⟨h.recs.len_eq, h.recs.le_cap, h.recs.cap_le, h.recs.none_, fun i x hx => ?_⟩, h.ok⟩
  obtain ⟨b, off, e, hc⟩ := h.recs.cell i x hx
  refine ⟨b, off, e, fun j v hv => ?_⟩
  have h1 := hc j v hv
  have hlt := World.block_lt_of_cell? w _ h1
  have hb := hg.block b hlt (hne _ e)
  rw [← h1]
  simp [World.cell?, hb]
end Go.Proofs.Ytfolhgpbplfilaa
namespace Go.Proofs.Ytfolhgpbplfilaa
open Go.RowKit

structure Chn where
  cap : Int
  cl : Bool
  rc : Int
  rf : Int
  zs : List Int
  rk : Int
  sent : Int
  got : Int
  sends : List Wt
  recvs : List Wt
/-- where its lists lie -/
structure CAt where
  za : Option Addr
  zn : Nat
  zc : Nat
  sa : Option Addr
  sn : Nat
  sc : Nat
  ra : Option Addr
  rn : Nat
  rq : Nat
abbrev chC (c : Chn) (q : CAt) : Array Value := #[.int .i64 c.cap, .bool c.cl, .int .i64 c.rc, .int .i64 c.rf, .slice q.za q.zn q.zc, .int .i64 c.rk, .int .i64 c.sent, .int .i64 c.got, .slice q.sa q.sn q.sc, .slice q.ra q.rn q.rq]
abbrev chV (c : Chn) (q : CAt) : Value := .agg (chC c q)
structure Cha (w : World) (c : Chn) (q : CAt) : Prop where
  cap : I64 c.cap
  rc : I64 c.rc
  rf : I64 c.rf
  rk : I64 c.rk
  sent : I64 c.sent
  got : I64 c.got
  zs : Ints w q.za q.zn q.zc c.zs
  sends : Wts w q.sa q.sn q.sc c.sends
  recvs : Wts w q.ra q.rn q.rq c.recvs
theorem Cha.below {w w' : World} {c : Chn} {q : CAt} (h : Cha w c q) (hb : Below w.heap.size w w') : Cha w' c q := ⟨h.cap, h.rc, h.rf, h.rk, h.sent, h.got, h.zs.below hb, h.sends.below hb, h.recvs.below hb⟩
/-- the numbers from one on, so many -/
def runL (a : Int) (n : Nat) : List Int := (List.range n).map (fun i : Nat => a + (i : Int))
theorem runL_len (a : Int) (n : Nat) : (runL a n).length = n := by simp [runL]
theorem runL_get (a : Int) (n i : Nat) (h : i < n) : en (runL a n) i = a + (i : Int) := by
  rw [en_get _ _ (by rw [runL_len]; exact h)]; simp [runL]
theorem runL_succ (a : Int) (n : Nat) : runL a (n + 1) = runL a n ++ [a + (n : Int)] := by simp [runL, List.range_succ]
theorem runL_cons (a : Int) (n : Nat) : runL a (n + 1) = a :: runL (a + 1) n := by
  unfold runL
  rw [List.range_succ_eq_map, List.map_cons, List.map_map]
  refine congr (congrArg _ (by simp)) (List.map_congr_left fun i _ => ?_)
  simp; omega
/-- what a channel's ring has -/
def itemsC (c : Chn) : List Int := takenL c.rc.toNat c.rf.toNat c.rk.toNat c.zs
def ringC (c : Chn) : Bool := rightZ c.rc c.rf c.zs.length c.rk
/-- nobody waits who need not -/
def idleC (c : Chn) : Bool :=
  if c.cap < 0 then !c.cl && decide (c.sent ≤ 0) && c.sends.isEmpty && c.recvs.isEmpty
  else if c.cl = true then c.sends.isEmpty && c.recvs.isEmpty
  else (c.sends.isEmpty || decide (c.rc ≤ c.rk)) && (c.recvs.isEmpty || c.rk == 0)
def numC (c : Chn) : Bool := decide (-1 ≤ c.cap ∧ c.cap ≤ 3 ∧ c.rc = max c.cap 0 ∧ 0 ≤ c.sent ∧ c.sent ≤ 1048576 ∧ 0 ≤ c.got ∧ c.got ≤ c.sent)
/-- WHAT MAY BE A CHANNEL -/
noncomputable def rightC (c : Chn) : Bool := numC c && (ringC c && (decide (itemsC c = runL c.got (c.sent - c.got).toNat) && (rightW c.sends && (rightW c.recvs && idleC c))))
/-- what a channel that may be keeps -/
structure Good (c : Chn) (n f k : Nat) : Prop where
  cap0 : -1 ≤ c.cap
  cap3 : c.cap ≤ 3
  rcn : c.rc = (n : Int)
  rcm : (n : Int) = max c.cap 0
  rfn : c.rf = (f : Int)
  rkn : c.rk = (k : Int)
  n3 : n ≤ 3
  zl : c.zs.length = n
  fl : f < max n 1
  kl : k ≤ n
  s0 : 0 ≤ c.sent
  sm : c.sent ≤ 1048576
  g0 : 0 ≤ c.got
  sg : c.sent = c.got + (k : Int)
  items : takenL n f k c.zs = runL c.got k
  sends : rightW c.sends = true
  recvs : rightW c.recvs = true
  nil_ : c.cap < 0 → c.cl = false ∧ c.sent = 0 ∧ c.sends = [] ∧ c.recvs = []
  clo : c.cl = true → c.sends = [] ∧ c.recvs = []
  ful : c.sends ≠ [] → k = n
  emp : c.recvs ≠ [] → k = 0
theorem right_parts {c : Chn} (h : rightC c = true) : numC c = true ∧ ringC c = true ∧ itemsC c = runL c.got (c.sent - c.got).toNat ∧ rightW c.sends = true ∧ rightW c.recvs = true ∧ idleC c = true := by
  unfold rightC at h
  simp only [Bool.and_eq_true, decide_eq_true_eq] at h
  obtain ⟨a, b, c, d, e, f⟩ := h
  exact ⟨a, b, c, d, e, f⟩
theorem good_of {c : Chn} (h : rightC c = true) : ∃ n f k, Good c n f k := by
  obtain ⟨h1, h2, h3, h4, h5, h6⟩ := right_parts h
  simp only [numC, decide_eq_true_eq] at h1
  simp only [ringC, rightZ, decide_eq_true_eq] at h2
  have hil : (itemsC c).length = c.rk.toNat := by unfold itemsC; exact taken_len _ _ _ _
  have hkk : c.rk.toNat = (c.sent - c.got).toNat := by rw [h3, runL_len] at hil; exact hil.symm
  refine ⟨c.rc.toNat, c.rf.toNat, c.rk.toNat, ⟨by omega, by omega, by omega, by omega, by omega, by omega, by omega, by omega, by omega, by omega, by omega, by omega, by omega, by omega, ?_, h4, h5, ?_, ?_, ?_, ?_⟩⟩
  · have := h3; unfold itemsC at this; rw [this, hkk]
  · intro hn
    simp only [idleC, if_pos hn, Bool.and_eq_true, Bool.not_eq_true', decide_eq_true_eq, List.isEmpty_iff] at h6
    exact ⟨h6.1.1.1, by omega, h6.1.2, h6.2⟩
  · intro hc
    by_cases hn : c.cap < 0
    · simp only [idleC, if_pos hn, Bool.and_eq_true, List.isEmpty_iff] at h6; exact ⟨h6.1.2, h6.2⟩
    · simp only [idleC, if_neg hn, if_pos hc, Bool.and_eq_true, List.isEmpty_iff] at h6; exact h6
  · intro hs
    by_cases hn : c.cap < 0
    · simp only [idleC, if_pos hn, Bool.and_eq_true, List.isEmpty_iff] at h6; exact absurd h6.1.2 hs
    · by_cases hc : c.cl = true
      · simp only [idleC, if_neg hn, if_pos hc, Bool.and_eq_true, List.isEmpty_iff] at h6; exact absurd h6.1 hs
      · simp only [idleC, if_neg hn, if_neg hc, Bool.and_eq_true, Bool.or_eq_true, List.isEmpty_iff, decide_eq_true_eq] at h6
        rcases h6.1 with h | h
        · exact absurd h hs
        · omega
  · intro hs
    by_cases hn : c.cap < 0
    · simp only [idleC, if_pos hn, Bool.and_eq_true, List.isEmpty_iff] at h6; exact absurd h6.2 hs
    · by_cases hc : c.cl = true
      · simp only [idleC, if_neg hn, if_pos hc, Bool.and_eq_true, List.isEmpty_iff] at h6; exact absurd h6.2 hs
      · simp only [idleC, if_neg hn, if_neg hc, Bool.and_eq_true, Bool.or_eq_true, List.isEmpty_iff, beq_iff_eq] at h6
        rcases h6.2 with h | h
        · exact absurd h hs
        · omega
theorem of_good {c : Chn} {n f k : Nat} (h : Good c n f k) : rightC c = true := by
  have hz := h.zl; have h1 := h.cap0; have h2 := h.cap3; have h3 := h.rcn; have h4 := h.rcm; have h5 := h.rfn; have h6 := h.rkn; have h7 := h.n3; have h8 := h.fl; have h9 := h.kl; have h10 := h.s0; have h11 := h.sm; have h12 := h.g0; have h13 := h.sg
  unfold rightC
  simp only [Bool.and_eq_true, decide_eq_true_eq]
  refine ⟨?_, ?_, ?_, h.sends, h.recvs, ?_⟩
  · simp only [numC, decide_eq_true_eq]; omega
  · simp only [ringC, rightZ, decide_eq_true_eq]; omega
  · unfold itemsC
    rw [h3, h5, h6, h13]
    simp only [Int.toNat_natCast]
    rw [show (c.got + (k : Int) - c.got).toNat = k by omega]
    exact h.items
  · unfold idleC
    by_cases hn : c.cap < 0
    · obtain ⟨a, b, d, e⟩ := h.nil_ hn
      simp [hn, a, b, d, e]
    · rw [if_neg hn]
      by_cases hc : c.cl = true
      · obtain ⟨a, b⟩ := h.clo hc
        simp [hc, a, b]
      · rw [if_neg hc]
        simp only [Bool.and_eq_true, Bool.or_eq_true, List.isEmpty_iff, decide_eq_true_eq, beq_iff_eq]
        constructor
        · by_cases hs : c.sends = []
          · exact .inl hs
          · exact .inr (by have := h.ful hs; omega)
        · by_cases hs : c.recvs = []
          · exact .inl hs
          · exact .inr (by have := h.emp hs; omega)
end Go.Proofs.Ytfolhgpbplfilaa
