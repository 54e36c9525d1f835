/- The walk of EpochTells: it returns true, and writes nothing that was there. -/
import Derived.Test.YtdlmfpofedfcdaaBytes
namespace Go.Proofs.Ytdlmfpofedfcdaa
open Go.RowKit

theorem known_none {n : Int} (h : ¬ isEp n) (C : List Int) : knownE n C = (false, 1) := if_neg h
theorem known_no {n : Int} (h : isEp n) {C : List Int} (hC : rightB C = false) : knownE n C = (false, 1) := by rw [knownE, if_pos h, if_neg (by simp [hC])]
theorem known_yes {n : Int} (h : isEp n) {C : List Int} (hC : rightB C = true) : knownE n C = (decide (n / 16 ≤ en C (n % 16).toNat), 0) := by rw [knownE, if_pos h, if_pos hC]

set_option maxRecDepth 100000 in
set_option maxHeartbeats 2000000 in
theorem tells_tlo_bad (t g n : Int) (a : Option Addr) (len cap : Nat) (l : List Int) (w : World) (hn : I64 n) (h : Ints w a len cap l) (h1 : t < 0) (he : ¬ isEp n) :
    Calls Try.prog 3 #[.int .i64 t, .int .i64 g, .int .i64 n, .slice a len cap] w (Says w) := by
  have H := Lib.hid h
  have HC := Lib.hid (h.take 20)
  obtain ⟨C, eC⟩ : ∃ C, C = l.take 20 := ⟨_, rfl⟩
  rw [← eC] at HC
  clear h eC
  have HN := Lib.hid hn; have HE := Lib.hid he
  have P1 := Lib.hid (show packE t g = (0, 1) from if_pos (by omega))
  have U1 := Lib.hid (unpackE_bad HE.out)
  have K1 := Lib.hid (known_none HE.out C)
  have D1 := Lib.hid (decide_eq_false HE.out)
  clear hn he
  go_enter Try.func3, Try.ntmps3
  go_wp2_with fail
  refine (few_any _ _ _ _ _ H.out).mono ?_
  rintro e w' ⟨rfl, rfl⟩
  go_wp2_with fail
  refine (pack_any _ _ _).mono ?_
  rintro e w' ⟨rfl, rfl⟩
  rw [P1.out]
  go_wp2_with fail
  refine (unpack_any _ _ HN.out).mono ?_
  rintro e w' ⟨rfl, rfl⟩
  rw [U1.out]
  go_wp2_with fail
  refine (known_any _ _ _ _ _ _ HN.out HC.out).mono ?_
  rintro e w' ⟨rfl, rfl⟩
  rw [K1.out]
  go_wp2_with fail
  refine (bytes_bad _ _ HN.out HE.out).mono ?_
  rintro e w' ⟨rfl, rfl⟩
  go_wp2_with fail
  refine (alive_any _).mono ?_
  rintro e w' ⟨rfl, rfl⟩
  go_wp2_with fail
  refine (refepoch_any _ _).mono ?_
  rintro e w' ⟨rfl, rfl⟩
  rw [D1.out]
  
  go_wp2_with fail
  go_ret
  exact ⟨ret_bool rfl, Below.refl _ _⟩

set_option maxRecDepth 100000 in
set_option maxHeartbeats 2000000 in
theorem tells_tlo_epbad (t g n : Int) (a : Option Addr) (len cap : Nat) (l : List Int) (w : World) (hn : I64 n) (h : Ints w a len cap l) (h1 : t < 0) (he : isEp n) (rc : rightB (l.take 20) = false) :
    Calls Try.prog 3 #[.int .i64 t, .int .i64 g, .int .i64 n, .slice a len cap] w (Says w) := by
  have H := Lib.hid h
  have HC := Lib.hid (h.take 20)
  obtain ⟨C, eC⟩ : ∃ C, C = l.take 20 := ⟨_, rfl⟩
  rw [← eC] at HC
  rw [← eC] at rc
  have RC := Lib.hid rc; clear rc
  clear h eC
  have HN := Lib.hid hn; have HE := Lib.hid he
  have P1 := Lib.hid (show packE t g = (0, 1) from if_pos (by omega))
  have U1 := Lib.hid (unpackE_ok HE.out)
  have D1 := Lib.hid (decide_eq_true HE.out)
  have K1 := Lib.hid (known_no HE.out RC.out)
  obtain ⟨he0, he1⟩ := he
  clear hn
  go_enter Try.func3, Try.ntmps3
  go_wp2_with fail
  refine (few_any _ _ _ _ _ H.out).mono ?_
  rintro e w' ⟨rfl, rfl⟩
  go_wp2_with fail
  refine (pack_any _ _ _).mono ?_
  rintro e w' ⟨rfl, rfl⟩
  rw [P1.out]
  go_wp2_with fail
  refine (unpack_any _ _ HN.out).mono ?_
  rintro e w' ⟨rfl, rfl⟩
  rw [U1.out]
  go_wp2_with fail
  refine (known_any _ _ _ _ _ _ HN.out HC.out).mono ?_
  rintro e w' ⟨rfl, rfl⟩
  rw [K1.out]
  go_wp2_with fail
  refine (bytes_ok _ _ HN.out HE.out).mono ?_
  rintro e w1 ⟨rfl, hb1⟩
  have HC_1 := Lib.hid (HC.out.below hb1)
  have HBW1 := Lib.hid hb1
  clear hb1 HC
  go_wp2_with fail
  refine (alive_any _).mono ?_
  rintro e w' ⟨rfl, rfl⟩
  go_wp2_with fail
  refine (refepoch_any _ _).mono ?_
  rintro e w' ⟨rfl, rfl⟩
  rw [D1.out]
  go_wp2_with fail
  refine (refunpack_any _ _ he0 he1).mono ?_
  rintro e w' ⟨rfl, rfl⟩
  obtain ⟨S, hS⟩ : ∃ S : ByteArray, S = ⟨(bytesL n).toArray⟩ := ⟨_, rfl⟩
  rw [← hS]
  have HS := Lib.hid hS; clear hS
  have h16 : (n / 16 != n / 16) = false := by simp
  have h17 : (n % 16 != n % 16) = false := by simp
  have hSS : (S.toList != S.toList) = false := by simp
  go_wp2_with fail
  refine (refbytes_any _ _ HE.out).mono ?_
  rintro e w2 ⟨rfl, hb2⟩
  have HC_2 := Lib.hid (HC_1.out.below hb2)
  have HBW2 := Lib.hid (HBW1.out.trans (hb2.mono HBW1.out.size))
  clear hb2 HC_1
  rw [← HS.out]
  clear h16 h17
  go_wp2_with fail
  refine (refright_any _ _ _ _ _ HC_2.out).mono ?_
  rintro e w' ⟨rfl, rfl⟩
  rw [RC.out]
  go_wp2_with fail
  go_ret
  exact ⟨ret_bool rfl, HBW2.out⟩

set_option maxRecDepth 100000 in
set_option maxHeartbeats 2000000 in
theorem tells_tlo_epok (t g n : Int) (a : Option Addr) (len cap : Nat) (l : List Int) (w : World) (hn : I64 n) (h : Ints w a len cap l) (h1 : t < 0) (he : isEp n) (rc : rightB (l.take 20) = true) :
    Calls Try.prog 3 #[.int .i64 t, .int .i64 g, .int .i64 n, .slice a len cap] w (Says w) := by
  have H := Lib.hid h
  have HC := Lib.hid (h.take 20)
  obtain ⟨C, eC⟩ : ∃ C, C = l.take 20 := ⟨_, rfl⟩
  rw [← eC] at HC
  rw [← eC] at rc
  have RC := Lib.hid rc; clear rc
  clear h eC
  have HN := Lib.hid hn; have HE := Lib.hid he
  have P1 := Lib.hid (show packE t g = (0, 1) from if_pos (by omega))
  have U1 := Lib.hid (unpackE_ok HE.out)
  have D1 := Lib.hid (decide_eq_true HE.out)
  have K1 := Lib.hid (known_yes HE.out RC.out)
  obtain ⟨he0, he1⟩ := he
  clear hn
  go_enter Try.func3, Try.ntmps3
  go_wp2_with fail
  refine (few_any _ _ _ _ _ H.out).mono ?_
  rintro e w' ⟨rfl, rfl⟩
  go_wp2_with fail
  refine (pack_any _ _ _).mono ?_
  rintro e w' ⟨rfl, rfl⟩
  rw [P1.out]
  go_wp2_with fail
  refine (unpack_any _ _ HN.out).mono ?_
  rintro e w' ⟨rfl, rfl⟩
  rw [U1.out]
  go_wp2_with fail
  refine (known_any _ _ _ _ _ _ HN.out HC.out).mono ?_
  rintro e w' ⟨rfl, rfl⟩
  rw [K1.out]
  go_wp2_with fail
  refine (bytes_ok _ _ HN.out HE.out).mono ?_
  rintro e w1 ⟨rfl, hb1⟩
  have HC_1 := Lib.hid (HC.out.below hb1)
  have HBW1 := Lib.hid hb1
  clear hb1 HC
  go_wp2_with fail
  refine (alive_any _).mono ?_
  rintro e w' ⟨rfl, rfl⟩
  go_wp2_with fail
  refine (refepoch_any _ _).mono ?_
  rintro e w' ⟨rfl, rfl⟩
  rw [D1.out]
  go_wp2_with fail
  refine (refunpack_any _ _ he0 he1).mono ?_
  rintro e w' ⟨rfl, rfl⟩
  obtain ⟨S, hS⟩ : ∃ S : ByteArray, S = ⟨(bytesL n).toArray⟩ := ⟨_, rfl⟩
  rw [← hS]
  have HS := Lib.hid hS; clear hS
  have h16 : (n / 16 != n / 16) = false := by simp
  have h17 : (n % 16 != n % 16) = false := by simp
  have hSS : (S.toList != S.toList) = false := by simp
  go_wp2_with fail
  refine (refbytes_any _ _ HE.out).mono ?_
  rintro e w2 ⟨rfl, hb2⟩
  have HC_2 := Lib.hid (HC_1.out.below hb2)
  have HBW2 := Lib.hid (HBW1.out.trans (hb2.mono HBW1.out.size))
  clear hb2 HC_1
  rw [← HS.out]
  clear h16 h17
  go_wp2_with fail
  refine (refright_any _ _ _ _ _ HC_2.out).mono ?_
  rintro e w' ⟨rfl, rfl⟩
  rw [RC.out]
  clear hSS
  obtain ⟨x, hx⟩ : ∃ x, x = decide (n / 16 ≤ en C (n % 16).toNat) := ⟨_, rfl⟩
  rw [← hx]
  have HX := Lib.hid hx; clear hx
  go_wp2_with fail
  refine (refknown_any _ _ _ _ _ _ he0 he1 HC_2.out).mono ?_
  rintro e w' ⟨rfl, rfl⟩
  rw [← HX.out]
  have hxx : (x == x) = true := by cases x <;> rfl
  go_wp2_with fail
  go_ret
  exact ⟨ret_bool rfl, HBW2.out⟩

set_option maxRecDepth 100000 in
set_option maxHeartbeats 2000000 in
theorem tells_thi_bad (t g n : Int) (a : Option Addr) (len cap : Nat) (l : List Int) (w : World) (hn : I64 n) (h : Ints w a len cap l) (h1 : ¬ t < 0) (h2 : 1099511627776 < t) (he : ¬ isEp n) :
    Calls Try.prog 3 #[.int .i64 t, .int .i64 g, .int .i64 n, .slice a len cap] w (Says w) := by
  have H := Lib.hid h
  have HC := Lib.hid (h.take 20)
  obtain ⟨C, eC⟩ : ∃ C, C = l.take 20 := ⟨_, rfl⟩
  rw [← eC] at HC
  clear h eC
  have HN := Lib.hid hn; have HE := Lib.hid he
  have P1 := Lib.hid (show packE t g = (0, 1) from if_pos (by omega))
  have U1 := Lib.hid (unpackE_bad HE.out)
  have K1 := Lib.hid (known_none HE.out C)
  have D1 := Lib.hid (decide_eq_false HE.out)
  clear hn he
  go_enter Try.func3, Try.ntmps3
  go_wp2_with fail
  refine (few_any _ _ _ _ _ H.out).mono ?_
  rintro e w' ⟨rfl, rfl⟩
  go_wp2_with fail
  refine (pack_any _ _ _).mono ?_
  rintro e w' ⟨rfl, rfl⟩
  rw [P1.out]
  go_wp2_with fail
  refine (unpack_any _ _ HN.out).mono ?_
  rintro e w' ⟨rfl, rfl⟩
  rw [U1.out]
  go_wp2_with fail
  refine (known_any _ _ _ _ _ _ HN.out HC.out).mono ?_
  rintro e w' ⟨rfl, rfl⟩
  rw [K1.out]
  go_wp2_with fail
  refine (bytes_bad _ _ HN.out HE.out).mono ?_
  rintro e w' ⟨rfl, rfl⟩
  go_wp2_with fail
  refine (alive_any _).mono ?_
  rintro e w' ⟨rfl, rfl⟩
  go_wp2_with fail
  refine (refepoch_any _ _).mono ?_
  rintro e w' ⟨rfl, rfl⟩
  rw [D1.out]
  
  go_wp2_with fail
  go_ret
  exact ⟨ret_bool rfl, Below.refl _ _⟩

set_option maxRecDepth 100000 in
set_option maxHeartbeats 2000000 in
theorem tells_thi_epbad (t g n : Int) (a : Option Addr) (len cap : Nat) (l : List Int) (w : World) (hn : I64 n) (h : Ints w a len cap l) (h1 : ¬ t < 0) (h2 : 1099511627776 < t) (he : isEp n) (rc : rightB (l.take 20) = false) :
    Calls Try.prog 3 #[.int .i64 t, .int .i64 g, .int .i64 n, .slice a len cap] w (Says w) := by
  have H := Lib.hid h
  have HC := Lib.hid (h.take 20)
  obtain ⟨C, eC⟩ : ∃ C, C = l.take 20 := ⟨_, rfl⟩
  rw [← eC] at HC
  rw [← eC] at rc
  have RC := Lib.hid rc; clear rc
  clear h eC
  have HN := Lib.hid hn; have HE := Lib.hid he
  have P1 := Lib.hid (show packE t g = (0, 1) from if_pos (by omega))
  have U1 := Lib.hid (unpackE_ok HE.out)
  have D1 := Lib.hid (decide_eq_true HE.out)
  have K1 := Lib.hid (known_no HE.out RC.out)
  obtain ⟨he0, he1⟩ := he
  clear hn
  go_enter Try.func3, Try.ntmps3
  go_wp2_with fail
  refine (few_any _ _ _ _ _ H.out).mono ?_
  rintro e w' ⟨rfl, rfl⟩
  go_wp2_with fail
  refine (pack_any _ _ _).mono ?_
  rintro e w' ⟨rfl, rfl⟩
  rw [P1.out]
  go_wp2_with fail
  refine (unpack_any _ _ HN.out).mono ?_
  rintro e w' ⟨rfl, rfl⟩
  rw [U1.out]
  go_wp2_with fail
  refine (known_any _ _ _ _ _ _ HN.out HC.out).mono ?_
  rintro e w' ⟨rfl, rfl⟩
  rw [K1.out]
  go_wp2_with fail
  refine (bytes_ok _ _ HN.out HE.out).mono ?_
  rintro e w1 ⟨rfl, hb1⟩
  have HC_1 := Lib.hid (HC.out.below hb1)
  have HBW1 := Lib.hid hb1
  clear hb1 HC
  go_wp2_with fail
  refine (alive_any _).mono ?_
  rintro e w' ⟨rfl, rfl⟩
  go_wp2_with fail
  refine (refepoch_any _ _).mono ?_
  rintro e w' ⟨rfl, rfl⟩
  rw [D1.out]
  go_wp2_with fail
  refine (refunpack_any _ _ he0 he1).mono ?_
  rintro e w' ⟨rfl, rfl⟩
  obtain ⟨S, hS⟩ : ∃ S : ByteArray, S = ⟨(bytesL n).toArray⟩ := ⟨_, rfl⟩
  rw [← hS]
  have HS := Lib.hid hS; clear hS
  have h16 : (n / 16 != n / 16) = false := by simp
  have h17 : (n % 16 != n % 16) = false := by simp
  have hSS : (S.toList != S.toList) = false := by simp
  go_wp2_with fail
  refine (refbytes_any _ _ HE.out).mono ?_
  rintro e w2 ⟨rfl, hb2⟩
  have HC_2 := Lib.hid (HC_1.out.below hb2)
  have HBW2 := Lib.hid (HBW1.out.trans (hb2.mono HBW1.out.size))
  clear hb2 HC_1
  rw [← HS.out]
  clear h16 h17
  go_wp2_with fail
  refine (refright_any _ _ _ _ _ HC_2.out).mono ?_
  rintro e w' ⟨rfl, rfl⟩
  rw [RC.out]
  go_wp2_with fail
  go_ret
  exact ⟨ret_bool rfl, HBW2.out⟩

set_option maxRecDepth 100000 in
set_option maxHeartbeats 2000000 in
theorem tells_thi_epok (t g n : Int) (a : Option Addr) (len cap : Nat) (l : List Int) (w : World) (hn : I64 n) (h : Ints w a len cap l) (h1 : ¬ t < 0) (h2 : 1099511627776 < t) (he : isEp n) (rc : rightB (l.take 20) = true) :
    Calls Try.prog 3 #[.int .i64 t, .int .i64 g, .int .i64 n, .slice a len cap] w (Says w) := by
  have H := Lib.hid h
  have HC := Lib.hid (h.take 20)
  obtain ⟨C, eC⟩ : ∃ C, C = l.take 20 := ⟨_, rfl⟩
  rw [← eC] at HC
  rw [← eC] at rc
  have RC := Lib.hid rc; clear rc
  clear h eC
  have HN := Lib.hid hn; have HE := Lib.hid he
  have P1 := Lib.hid (show packE t g = (0, 1) from if_pos (by omega))
  have U1 := Lib.hid (unpackE_ok HE.out)
  have D1 := Lib.hid (decide_eq_true HE.out)
  have K1 := Lib.hid (known_yes HE.out RC.out)
  obtain ⟨he0, he1⟩ := he
  clear hn
  go_enter Try.func3, Try.ntmps3
  go_wp2_with fail
  refine (few_any _ _ _ _ _ H.out).mono ?_
  rintro e w' ⟨rfl, rfl⟩
  go_wp2_with fail
  refine (pack_any _ _ _).mono ?_
  rintro e w' ⟨rfl, rfl⟩
  rw [P1.out]
  go_wp2_with fail
  refine (unpack_any _ _ HN.out).mono ?_
  rintro e w' ⟨rfl, rfl⟩
  rw [U1.out]
  go_wp2_with fail
  refine (known_any _ _ _ _ _ _ HN.out HC.out).mono ?_
  rintro e w' ⟨rfl, rfl⟩
  rw [K1.out]
  go_wp2_with fail
  refine (bytes_ok _ _ HN.out HE.out).mono ?_
  rintro e w1 ⟨rfl, hb1⟩
  have HC_1 := Lib.hid (HC.out.below hb1)
  have HBW1 := Lib.hid hb1
  clear hb1 HC
  go_wp2_with fail
  refine (alive_any _).mono ?_
  rintro e w' ⟨rfl, rfl⟩
  go_wp2_with fail
  refine (refepoch_any _ _).mono ?_
  rintro e w' ⟨rfl, rfl⟩
  rw [D1.out]
  go_wp2_with fail
  refine (refunpack_any _ _ he0 he1).mono ?_
  rintro e w' ⟨rfl, rfl⟩
  obtain ⟨S, hS⟩ : ∃ S : ByteArray, S = ⟨(bytesL n).toArray⟩ := ⟨_, rfl⟩
  rw [← hS]
  have HS := Lib.hid hS; clear hS
  have h16 : (n / 16 != n / 16) = false := by simp
  have h17 : (n % 16 != n % 16) = false := by simp
  have hSS : (S.toList != S.toList) = false := by simp
  go_wp2_with fail
  refine (refbytes_any _ _ HE.out).mono ?_
  rintro e w2 ⟨rfl, hb2⟩
  have HC_2 := Lib.hid (HC_1.out.below hb2)
  have HBW2 := Lib.hid (HBW1.out.trans (hb2.mono HBW1.out.size))
  clear hb2 HC_1
  rw [← HS.out]
  clear h16 h17
  go_wp2_with fail
  refine (refright_any _ _ _ _ _ HC_2.out).mono ?_
  rintro e w' ⟨rfl, rfl⟩
  rw [RC.out]
  clear hSS
  obtain ⟨x, hx⟩ : ∃ x, x = decide (n / 16 ≤ en C (n % 16).toNat) := ⟨_, rfl⟩
  rw [← hx]
  have HX := Lib.hid hx; clear hx
  go_wp2_with fail
  refine (refknown_any _ _ _ _ _ _ he0 he1 HC_2.out).mono ?_
  rintro e w' ⟨rfl, rfl⟩
  rw [← HX.out]
  have hxx : (x == x) = true := by cases x <;> rfl
  go_wp2_with fail
  go_ret
  exact ⟨ret_bool rfl, HBW2.out⟩

set_option maxRecDepth 100000 in
set_option maxHeartbeats 2000000 in
theorem tells_glo_bad (t g n : Int) (a : Option Addr) (len cap : Nat) (l : List Int) (w : World) (hn : I64 n) (h : Ints w a len cap l) (h1 : ¬ t < 0) (h2 : ¬ 1099511627776 < t) (h3 : g < 0) (he : ¬ isEp n) :
    Calls Try.prog 3 #[.int .i64 t, .int .i64 g, .int .i64 n, .slice a len cap] w (Says w) := by
  have H := Lib.hid h
  have HC := Lib.hid (h.take 20)
  obtain ⟨C, eC⟩ : ∃ C, C = l.take 20 := ⟨_, rfl⟩
  rw [← eC] at HC
  clear h eC
  have HN := Lib.hid hn; have HE := Lib.hid he
  have P1 := Lib.hid (show packE t g = (0, 3) by rw [packE, if_neg (by omega), if_pos (by omega)])
  have U1 := Lib.hid (unpackE_bad HE.out)
  have K1 := Lib.hid (known_none HE.out C)
  have D1 := Lib.hid (decide_eq_false HE.out)
  clear hn he
  go_enter Try.func3, Try.ntmps3
  go_wp2_with fail
  refine (few_any _ _ _ _ _ H.out).mono ?_
  rintro e w' ⟨rfl, rfl⟩
  go_wp2_with fail
  refine (pack_any _ _ _).mono ?_
  rintro e w' ⟨rfl, rfl⟩
  rw [P1.out]
  go_wp2_with fail
  refine (unpack_any _ _ HN.out).mono ?_
  rintro e w' ⟨rfl, rfl⟩
  rw [U1.out]
  go_wp2_with fail
  refine (known_any _ _ _ _ _ _ HN.out HC.out).mono ?_
  rintro e w' ⟨rfl, rfl⟩
  rw [K1.out]
  go_wp2_with fail
  refine (bytes_bad _ _ HN.out HE.out).mono ?_
  rintro e w' ⟨rfl, rfl⟩
  go_wp2_with fail
  refine (alive_any _).mono ?_
  rintro e w' ⟨rfl, rfl⟩
  go_wp2_with fail
  refine (refepoch_any _ _).mono ?_
  rintro e w' ⟨rfl, rfl⟩
  rw [D1.out]
  
  go_wp2_with fail
  go_ret
  exact ⟨ret_bool rfl, Below.refl _ _⟩

set_option maxRecDepth 100000 in
set_option maxHeartbeats 2000000 in
theorem tells_glo_epbad (t g n : Int) (a : Option Addr) (len cap : Nat) (l : List Int) (w : World) (hn : I64 n) (h : Ints w a len cap l) (h1 : ¬ t < 0) (h2 : ¬ 1099511627776 < t) (h3 : g < 0) (he : isEp n) (rc : rightB (l.take 20) = false) :
    Calls Try.prog 3 #[.int .i64 t, .int .i64 g, .int .i64 n, .slice a len cap] w (Says w) := by
  have H := Lib.hid h
  have HC := Lib.hid (h.take 20)
  obtain ⟨C, eC⟩ : ∃ C, C = l.take 20 := ⟨_, rfl⟩
  rw [← eC] at HC
  rw [← eC] at rc
  have RC := Lib.hid rc; clear rc
  clear h eC
  have HN := Lib.hid hn; have HE := Lib.hid he
  have P1 := Lib.hid (show packE t g = (0, 3) by rw [packE, if_neg (by omega), if_pos (by omega)])
  have U1 := Lib.hid (unpackE_ok HE.out)
  have D1 := Lib.hid (decide_eq_true HE.out)
  have K1 := Lib.hid (known_no HE.out RC.out)
  obtain ⟨he0, he1⟩ := he
  clear hn
  go_enter Try.func3, Try.ntmps3
  go_wp2_with fail
  refine (few_any _ _ _ _ _ H.out).mono ?_
  rintro e w' ⟨rfl, rfl⟩
  go_wp2_with fail
  refine (pack_any _ _ _).mono ?_
  rintro e w' ⟨rfl, rfl⟩
  rw [P1.out]
  go_wp2_with fail
  refine (unpack_any _ _ HN.out).mono ?_
  rintro e w' ⟨rfl, rfl⟩
  rw [U1.out]
  go_wp2_with fail
  refine (known_any _ _ _ _ _ _ HN.out HC.out).mono ?_
  rintro e w' ⟨rfl, rfl⟩
  rw [K1.out]
  go_wp2_with fail
  refine (bytes_ok _ _ HN.out HE.out).mono ?_
  rintro e w1 ⟨rfl, hb1⟩
  have HC_1 := Lib.hid (HC.out.below hb1)
  have HBW1 := Lib.hid hb1
  clear hb1 HC
  go_wp2_with fail
  refine (alive_any _).mono ?_
  rintro e w' ⟨rfl, rfl⟩
  go_wp2_with fail
  refine (refepoch_any _ _).mono ?_
  rintro e w' ⟨rfl, rfl⟩
  rw [D1.out]
  go_wp2_with fail
  refine (refunpack_any _ _ he0 he1).mono ?_
  rintro e w' ⟨rfl, rfl⟩
  obtain ⟨S, hS⟩ : ∃ S : ByteArray, S = ⟨(bytesL n).toArray⟩ := ⟨_, rfl⟩
  rw [← hS]
  have HS := Lib.hid hS; clear hS
  have h16 : (n / 16 != n / 16) = false := by simp
  have h17 : (n % 16 != n % 16) = false := by simp
  have hSS : (S.toList != S.toList) = false := by simp
  go_wp2_with fail
  refine (refbytes_any _ _ HE.out).mono ?_
  rintro e w2 ⟨rfl, hb2⟩
  have HC_2 := Lib.hid (HC_1.out.below hb2)
  have HBW2 := Lib.hid (HBW1.out.trans (hb2.mono HBW1.out.size))
  clear hb2 HC_1
  rw [← HS.out]
  clear h16 h17
  go_wp2_with fail
  refine (refright_any _ _ _ _ _ HC_2.out).mono ?_
  rintro e w' ⟨rfl, rfl⟩
  rw [RC.out]
  go_wp2_with fail
  go_ret
  exact ⟨ret_bool rfl, HBW2.out⟩

set_option maxRecDepth 100000 in
set_option maxHeartbeats 2000000 in
theorem tells_glo_epok (t g n : Int) (a : Option Addr) (len cap : Nat) (l : List Int) (w : World) (hn : I64 n) (h : Ints w a len cap l) (h1 : ¬ t < 0) (h2 : ¬ 1099511627776 < t) (h3 : g < 0) (he : isEp n) (rc : rightB (l.take 20) = true) :
    Calls Try.prog 3 #[.int .i64 t, .int .i64 g, .int .i64 n, .slice a len cap] w (Says w) := by
  have H := Lib.hid h
  have HC := Lib.hid (h.take 20)
  obtain ⟨C, eC⟩ : ∃ C, C = l.take 20 := ⟨_, rfl⟩
  rw [← eC] at HC
  rw [← eC] at rc
  have RC := Lib.hid rc; clear rc
  clear h eC
  have HN := Lib.hid hn; have HE := Lib.hid he
  have P1 := Lib.hid (show packE t g = (0, 3) by rw [packE, if_neg (by omega), if_pos (by omega)])
  have U1 := Lib.hid (unpackE_ok HE.out)
  have D1 := Lib.hid (decide_eq_true HE.out)
  have K1 := Lib.hid (known_yes HE.out RC.out)
  obtain ⟨he0, he1⟩ := he
  clear hn
  go_enter Try.func3, Try.ntmps3
  go_wp2_with fail
  refine (few_any _ _ _ _ _ H.out).mono ?_
  rintro e w' ⟨rfl, rfl⟩
  go_wp2_with fail
  refine (pack_any _ _ _).mono ?_
  rintro e w' ⟨rfl, rfl⟩
  rw [P1.out]
  go_wp2_with fail
  refine (unpack_any _ _ HN.out).mono ?_
  rintro e w' ⟨rfl, rfl⟩
  rw [U1.out]
  go_wp2_with fail
  refine (known_any _ _ _ _ _ _ HN.out HC.out).mono ?_
  rintro e w' ⟨rfl, rfl⟩
  rw [K1.out]
  go_wp2_with fail
  refine (bytes_ok _ _ HN.out HE.out).mono ?_
  rintro e w1 ⟨rfl, hb1⟩
  have HC_1 := Lib.hid (HC.out.below hb1)
  have HBW1 := Lib.hid hb1
  clear hb1 HC
  go_wp2_with fail
  refine (alive_any _).mono ?_
  rintro e w' ⟨rfl, rfl⟩
  go_wp2_with fail
  refine (refepoch_any _ _).mono ?_
  rintro e w' ⟨rfl, rfl⟩
  rw [D1.out]
  go_wp2_with fail
  refine (refunpack_any _ _ he0 he1).mono ?_
  rintro e w' ⟨rfl, rfl⟩
  obtain ⟨S, hS⟩ : ∃ S : ByteArray, S = ⟨(bytesL n).toArray⟩ := ⟨_, rfl⟩
  rw [← hS]
  have HS := Lib.hid hS; clear hS
  have h16 : (n / 16 != n / 16) = false := by simp
  have h17 : (n % 16 != n % 16) = false := by simp
  have hSS : (S.toList != S.toList) = false := by simp
  go_wp2_with fail
  refine (refbytes_any _ _ HE.out).mono ?_
  rintro e w2 ⟨rfl, hb2⟩
  have HC_2 := Lib.hid (HC_1.out.below hb2)
  have HBW2 := Lib.hid (HBW1.out.trans (hb2.mono HBW1.out.size))
  clear hb2 HC_1
  rw [← HS.out]
  clear h16 h17
  go_wp2_with fail
  refine (refright_any _ _ _ _ _ HC_2.out).mono ?_
  rintro e w' ⟨rfl, rfl⟩
  rw [RC.out]
  clear hSS
  obtain ⟨x, hx⟩ : ∃ x, x = decide (n / 16 ≤ en C (n % 16).toNat) := ⟨_, rfl⟩
  rw [← hx]
  have HX := Lib.hid hx; clear hx
  go_wp2_with fail
  refine (refknown_any _ _ _ _ _ _ he0 he1 HC_2.out).mono ?_
  rintro e w' ⟨rfl, rfl⟩
  rw [← HX.out]
  have hxx : (x == x) = true := by cases x <;> rfl
  go_wp2_with fail
  go_ret
  exact ⟨ret_bool rfl, HBW2.out⟩

set_option maxRecDepth 100000 in
set_option maxHeartbeats 2000000 in
theorem tells_ghi_bad (t g n : Int) (a : Option Addr) (len cap : Nat) (l : List Int) (w : World) (hn : I64 n) (h : Ints w a len cap l) (h1 : ¬ t < 0) (h2 : ¬ 1099511627776 < t) (h3 : ¬ g < 0) (h4 : 15 < g) (he : ¬ isEp n) :
    Calls Try.prog 3 #[.int .i64 t, .int .i64 g, .int .i64 n, .slice a len cap] w (Says w) := by
  have H := Lib.hid h
  have HC := Lib.hid (h.take 20)
  obtain ⟨C, eC⟩ : ∃ C, C = l.take 20 := ⟨_, rfl⟩
  rw [← eC] at HC
  clear h eC
  have HN := Lib.hid hn; have HE := Lib.hid he
  have P1 := Lib.hid (show packE t g = (0, 3) by rw [packE, if_neg (by omega), if_pos (by omega)])
  have U1 := Lib.hid (unpackE_bad HE.out)
  have K1 := Lib.hid (known_none HE.out C)
  have D1 := Lib.hid (decide_eq_false HE.out)
  clear hn he
  go_enter Try.func3, Try.ntmps3
  go_wp2_with fail
  refine (few_any _ _ _ _ _ H.out).mono ?_
  rintro e w' ⟨rfl, rfl⟩
  go_wp2_with fail
  refine (pack_any _ _ _).mono ?_
  rintro e w' ⟨rfl, rfl⟩
  rw [P1.out]
  go_wp2_with fail
  refine (unpack_any _ _ HN.out).mono ?_
  rintro e w' ⟨rfl, rfl⟩
  rw [U1.out]
  go_wp2_with fail
  refine (known_any _ _ _ _ _ _ HN.out HC.out).mono ?_
  rintro e w' ⟨rfl, rfl⟩
  rw [K1.out]
  go_wp2_with fail
  refine (bytes_bad _ _ HN.out HE.out).mono ?_
  rintro e w' ⟨rfl, rfl⟩
  go_wp2_with fail
  refine (alive_any _).mono ?_
  rintro e w' ⟨rfl, rfl⟩
  go_wp2_with fail
  refine (refepoch_any _ _).mono ?_
  rintro e w' ⟨rfl, rfl⟩
  rw [D1.out]
  
  go_wp2_with fail
  go_ret
  exact ⟨ret_bool rfl, Below.refl _ _⟩

set_option maxRecDepth 100000 in
set_option maxHeartbeats 2000000 in
theorem tells_ghi_epbad (t g n : Int) (a : Option Addr) (len cap : Nat) (l : List Int) (w : World) (hn : I64 n) (h : Ints w a len cap l) (h1 : ¬ t < 0) (h2 : ¬ 1099511627776 < t) (h3 : ¬ g < 0) (h4 : 15 < g) (he : isEp n) (rc : rightB (l.take 20) = false) :
    Calls Try.prog 3 #[.int .i64 t, .int .i64 g, .int .i64 n, .slice a len cap] w (Says w) := by
  have H := Lib.hid h
  have HC := Lib.hid (h.take 20)
  obtain ⟨C, eC⟩ : ∃ C, C = l.take 20 := ⟨_, rfl⟩
  rw [← eC] at HC
  rw [← eC] at rc
  have RC := Lib.hid rc; clear rc
  clear h eC
  have HN := Lib.hid hn; have HE := Lib.hid he
  have P1 := Lib.hid (show packE t g = (0, 3) by rw [packE, if_neg (by omega), if_pos (by omega)])
  have U1 := Lib.hid (unpackE_ok HE.out)
  have D1 := Lib.hid (decide_eq_true HE.out)
  have K1 := Lib.hid (known_no HE.out RC.out)
  obtain ⟨he0, he1⟩ := he
  clear hn
  go_enter Try.func3, Try.ntmps3
  go_wp2_with fail
  refine (few_any _ _ _ _ _ H.out).mono ?_
  rintro e w' ⟨rfl, rfl⟩
  go_wp2_with fail
  refine (pack_any _ _ _).mono ?_
  rintro e w' ⟨rfl, rfl⟩
  rw [P1.out]
  go_wp2_with fail
  refine (unpack_any _ _ HN.out).mono ?_
  rintro e w' ⟨rfl, rfl⟩
  rw [U1.out]
  go_wp2_with fail
  refine (known_any _ _ _ _ _ _ HN.out HC.out).mono ?_
  rintro e w' ⟨rfl, rfl⟩
  rw [K1.out]
  go_wp2_with fail
  refine (bytes_ok _ _ HN.out HE.out).mono ?_
  rintro e w1 ⟨rfl, hb1⟩
  have HC_1 := Lib.hid (HC.out.below hb1)
  have HBW1 := Lib.hid hb1
  clear hb1 HC
  go_wp2_with fail
  refine (alive_any _).mono ?_
  rintro e w' ⟨rfl, rfl⟩
  go_wp2_with fail
  refine (refepoch_any _ _).mono ?_
  rintro e w' ⟨rfl, rfl⟩
  rw [D1.out]
  go_wp2_with fail
  refine (refunpack_any _ _ he0 he1).mono ?_
  rintro e w' ⟨rfl, rfl⟩
  obtain ⟨S, hS⟩ : ∃ S : ByteArray, S = ⟨(bytesL n).toArray⟩ := ⟨_, rfl⟩
  rw [← hS]
  have HS := Lib.hid hS; clear hS
  have h16 : (n / 16 != n / 16) = false := by simp
  have h17 : (n % 16 != n % 16) = false := by simp
  have hSS : (S.toList != S.toList) = false := by simp
  go_wp2_with fail
  refine (refbytes_any _ _ HE.out).mono ?_
  rintro e w2 ⟨rfl, hb2⟩
  have HC_2 := Lib.hid (HC_1.out.below hb2)
  have HBW2 := Lib.hid (HBW1.out.trans (hb2.mono HBW1.out.size))
  clear hb2 HC_1
  rw [← HS.out]
  clear h16 h17
  go_wp2_with fail
  refine (refright_any _ _ _ _ _ HC_2.out).mono ?_
  rintro e w' ⟨rfl, rfl⟩
  rw [RC.out]
  go_wp2_with fail
  go_ret
  exact ⟨ret_bool rfl, HBW2.out⟩

set_option maxRecDepth 100000 in
set_option maxHeartbeats 2000000 in
theorem tells_ghi_epok (t g n : Int) (a : Option Addr) (len cap : Nat) (l : List Int) (w : World) (hn : I64 n) (h : Ints w a len cap l) (h1 : ¬ t < 0) (h2 : ¬ 1099511627776 < t) (h3 : ¬ g < 0) (h4 : 15 < g) (he : isEp n) (rc : rightB (l.take 20) = true) :
    Calls Try.prog 3 #[.int .i64 t, .int .i64 g, .int .i64 n, .slice a len cap] w (Says w) := by
  have H := Lib.hid h
  have HC := Lib.hid (h.take 20)
  obtain ⟨C, eC⟩ : ∃ C, C = l.take 20 := ⟨_, rfl⟩
  rw [← eC] at HC
  rw [← eC] at rc
  have RC := Lib.hid rc; clear rc
  clear h eC
  have HN := Lib.hid hn; have HE := Lib.hid he
  have P1 := Lib.hid (show packE t g = (0, 3) by rw [packE, if_neg (by omega), if_pos (by omega)])
  have U1 := Lib.hid (unpackE_ok HE.out)
  have D1 := Lib.hid (decide_eq_true HE.out)
  have K1 := Lib.hid (known_yes HE.out RC.out)
  obtain ⟨he0, he1⟩ := he
  clear hn
  go_enter Try.func3, Try.ntmps3
  go_wp2_with fail
  refine (few_any _ _ _ _ _ H.out).mono ?_
  rintro e w' ⟨rfl, rfl⟩
  go_wp2_with fail
  refine (pack_any _ _ _).mono ?_
  rintro e w' ⟨rfl, rfl⟩
  rw [P1.out]
  go_wp2_with fail
  refine (unpack_any _ _ HN.out).mono ?_
  rintro e w' ⟨rfl, rfl⟩
  rw [U1.out]
  go_wp2_with fail
  refine (known_any _ _ _ _ _ _ HN.out HC.out).mono ?_
  rintro e w' ⟨rfl, rfl⟩
  rw [K1.out]
  go_wp2_with fail
  refine (bytes_ok _ _ HN.out HE.out).mono ?_
  rintro e w1 ⟨rfl, hb1⟩
  have HC_1 := Lib.hid (HC.out.below hb1)
  have HBW1 := Lib.hid hb1
  clear hb1 HC
  go_wp2_with fail
  refine (alive_any _).mono ?_
  rintro e w' ⟨rfl, rfl⟩
  go_wp2_with fail
  refine (refepoch_any _ _).mono ?_
  rintro e w' ⟨rfl, rfl⟩
  rw [D1.out]
  go_wp2_with fail
  refine (refunpack_any _ _ he0 he1).mono ?_
  rintro e w' ⟨rfl, rfl⟩
  obtain ⟨S, hS⟩ : ∃ S : ByteArray, S = ⟨(bytesL n).toArray⟩ := ⟨_, rfl⟩
  rw [← hS]
  have HS := Lib.hid hS; clear hS
  have h16 : (n / 16 != n / 16) = false := by simp
  have h17 : (n % 16 != n % 16) = false := by simp
  have hSS : (S.toList != S.toList) = false := by simp
  go_wp2_with fail
  refine (refbytes_any _ _ HE.out).mono ?_
  rintro e w2 ⟨rfl, hb2⟩
  have HC_2 := Lib.hid (HC_1.out.below hb2)
  have HBW2 := Lib.hid (HBW1.out.trans (hb2.mono HBW1.out.size))
  clear hb2 HC_1
  rw [← HS.out]
  clear h16 h17
  go_wp2_with fail
  refine (refright_any _ _ _ _ _ HC_2.out).mono ?_
  rintro e w' ⟨rfl, rfl⟩
  rw [RC.out]
  clear hSS
  obtain ⟨x, hx⟩ : ∃ x, x = decide (n / 16 ≤ en C (n % 16).toNat) := ⟨_, rfl⟩
  rw [← hx]
  have HX := Lib.hid hx; clear hx
  go_wp2_with fail
  refine (refknown_any _ _ _ _ _ _ he0 he1 HC_2.out).mono ?_
  rintro e w' ⟨rfl, rfl⟩
  rw [← HX.out]
  have hxx : (x == x) = true := by cases x <;> rfl
  go_wp2_with fail
  go_ret
  exact ⟨ret_bool rfl, HBW2.out⟩

set_option maxRecDepth 100000 in
set_option maxHeartbeats 2000000 in
theorem tells_ok_bad (t g n : Int) (a : Option Addr) (len cap : Nat) (l : List Int) (w : World) (hn : I64 n) (h : Ints w a len cap l) (h1 : ¬ t < 0) (h2 : ¬ 1099511627776 < t) (h3 : ¬ g < 0) (h4 : ¬ 15 < g) (he : ¬ isEp n) :
    Calls Try.prog 3 #[.int .i64 t, .int .i64 g, .int .i64 n, .slice a len cap] w (Says w) := by
  have H := Lib.hid h
  have HC := Lib.hid (h.take 20)
  obtain ⟨C, eC⟩ : ∃ C, C = l.take 20 := ⟨_, rfl⟩
  rw [← eC] at HC
  clear h eC
  have HN := Lib.hid hn; have HE := Lib.hid he
  have P1 := Lib.hid (packE_ok (t := t) (g := g) (by omega) (by omega) (by omega) (by omega))
  have U1 := Lib.hid (unpackE_bad HE.out)
  have K1 := Lib.hid (known_none HE.out C)
  have D1 := Lib.hid (decide_eq_false HE.out)
  clear hn he
  go_enter Try.func3, Try.ntmps3
  go_wp2_with fail
  refine (few_any _ _ _ _ _ H.out).mono ?_
  rintro e w' ⟨rfl, rfl⟩
  go_wp2_with fail
  refine (pack_any _ _ _).mono ?_
  rintro e w' ⟨rfl, rfl⟩
  rw [P1.out]
  go_wp2_with fail
  refine (unpack_any _ _ HN.out).mono ?_
  rintro e w' ⟨rfl, rfl⟩
  rw [U1.out]
  go_wp2_with fail
  refine (known_any _ _ _ _ _ _ HN.out HC.out).mono ?_
  rintro e w' ⟨rfl, rfl⟩
  rw [K1.out]
  go_wp2_with fail
  refine (bytes_bad _ _ HN.out HE.out).mono ?_
  rintro e w' ⟨rfl, rfl⟩
  go_wp2_with fail
  refine (alive_any _).mono ?_
  rintro e w' ⟨rfl, rfl⟩
  obtain ⟨p, hp⟩ : ∃ p, p = 16 * t + g := ⟨_, rfl⟩
  have hpp : (16 * t + g != 16 * t + g) = false := by simp
  go_wp2_with fail
  refine (refepoch_any _ _).mono ?_
  rintro e w' ⟨rfl, rfl⟩
  rw [D1.out]
  clear hpp hp
  
  go_wp2_with fail
  go_ret
  exact ⟨ret_bool rfl, Below.refl _ _⟩

set_option maxRecDepth 100000 in
set_option maxHeartbeats 2000000 in
theorem tells_ok_epbad (t g n : Int) (a : Option Addr) (len cap : Nat) (l : List Int) (w : World) (hn : I64 n) (h : Ints w a len cap l) (h1 : ¬ t < 0) (h2 : ¬ 1099511627776 < t) (h3 : ¬ g < 0) (h4 : ¬ 15 < g) (he : isEp n) (rc : rightB (l.take 20) = false) :
    Calls Try.prog 3 #[.int .i64 t, .int .i64 g, .int .i64 n, .slice a len cap] w (Says w) := by
  have H := Lib.hid h
  have HC := Lib.hid (h.take 20)
  obtain ⟨C, eC⟩ : ∃ C, C = l.take 20 := ⟨_, rfl⟩
  rw [← eC] at HC
  rw [← eC] at rc
  have RC := Lib.hid rc; clear rc
  clear h eC
  have HN := Lib.hid hn; have HE := Lib.hid he
  have P1 := Lib.hid (packE_ok (t := t) (g := g) (by omega) (by omega) (by omega) (by omega))
  have U1 := Lib.hid (unpackE_ok HE.out)
  have D1 := Lib.hid (decide_eq_true HE.out)
  have K1 := Lib.hid (known_no HE.out RC.out)
  obtain ⟨he0, he1⟩ := he
  clear hn
  go_enter Try.func3, Try.ntmps3
  go_wp2_with fail
  refine (few_any _ _ _ _ _ H.out).mono ?_
  rintro e w' ⟨rfl, rfl⟩
  go_wp2_with fail
  refine (pack_any _ _ _).mono ?_
  rintro e w' ⟨rfl, rfl⟩
  rw [P1.out]
  go_wp2_with fail
  refine (unpack_any _ _ HN.out).mono ?_
  rintro e w' ⟨rfl, rfl⟩
  rw [U1.out]
  go_wp2_with fail
  refine (known_any _ _ _ _ _ _ HN.out HC.out).mono ?_
  rintro e w' ⟨rfl, rfl⟩
  rw [K1.out]
  go_wp2_with fail
  refine (bytes_ok _ _ HN.out HE.out).mono ?_
  rintro e w1 ⟨rfl, hb1⟩
  have HC_1 := Lib.hid (HC.out.below hb1)
  have HBW1 := Lib.hid hb1
  clear hb1 HC
  go_wp2_with fail
  refine (alive_any _).mono ?_
  rintro e w' ⟨rfl, rfl⟩
  obtain ⟨p, hp⟩ : ∃ p, p = 16 * t + g := ⟨_, rfl⟩
  have hpp : (16 * t + g != 16 * t + g) = false := by simp
  go_wp2_with fail
  refine (refepoch_any _ _).mono ?_
  rintro e w' ⟨rfl, rfl⟩
  rw [D1.out]
  clear hpp hp
  go_wp2_with fail
  refine (refunpack_any _ _ he0 he1).mono ?_
  rintro e w' ⟨rfl, rfl⟩
  obtain ⟨S, hS⟩ : ∃ S : ByteArray, S = ⟨(bytesL n).toArray⟩ := ⟨_, rfl⟩
  rw [← hS]
  have HS := Lib.hid hS; clear hS
  have h16 : (n / 16 != n / 16) = false := by simp
  have h17 : (n % 16 != n % 16) = false := by simp
  have hSS : (S.toList != S.toList) = false := by simp
  go_wp2_with fail
  refine (refbytes_any _ _ HE.out).mono ?_
  rintro e w2 ⟨rfl, hb2⟩
  have HC_2 := Lib.hid (HC_1.out.below hb2)
  have HBW2 := Lib.hid (HBW1.out.trans (hb2.mono HBW1.out.size))
  clear hb2 HC_1
  rw [← HS.out]
  clear h16 h17
  go_wp2_with fail
  refine (refright_any _ _ _ _ _ HC_2.out).mono ?_
  rintro e w' ⟨rfl, rfl⟩
  rw [RC.out]
  go_wp2_with fail
  go_ret
  exact ⟨ret_bool rfl, HBW2.out⟩

set_option maxRecDepth 100000 in
set_option maxHeartbeats 2000000 in
theorem tells_ok_epok (t g n : Int) (a : Option Addr) (len cap : Nat) (l : List Int) (w : World) (hn : I64 n) (h : Ints w a len cap l) (h1 : ¬ t < 0) (h2 : ¬ 1099511627776 < t) (h3 : ¬ g < 0) (h4 : ¬ 15 < g) (he : isEp n) (rc : rightB (l.take 20) = true) :
    Calls Try.prog 3 #[.int .i64 t, .int .i64 g, .int .i64 n, .slice a len cap] w (Says w) := by
  have H := Lib.hid h
  have HC := Lib.hid (h.take 20)
  obtain ⟨C, eC⟩ : ∃ C, C = l.take 20 := ⟨_, rfl⟩
  rw [← eC] at HC
  rw [← eC] at rc
  have RC := Lib.hid rc; clear rc
  clear h eC
  have HN := Lib.hid hn; have HE := Lib.hid he
  have P1 := Lib.hid (packE_ok (t := t) (g := g) (by omega) (by omega) (by omega) (by omega))
  have U1 := Lib.hid (unpackE_ok HE.out)
  have D1 := Lib.hid (decide_eq_true HE.out)
  have K1 := Lib.hid (known_yes HE.out RC.out)
  obtain ⟨he0, he1⟩ := he
  clear hn
  go_enter Try.func3, Try.ntmps3
  go_wp2_with fail
  refine (few_any _ _ _ _ _ H.out).mono ?_
  rintro e w' ⟨rfl, rfl⟩
  go_wp2_with fail
  refine (pack_any _ _ _).mono ?_
  rintro e w' ⟨rfl, rfl⟩
  rw [P1.out]
  go_wp2_with fail
  refine (unpack_any _ _ HN.out).mono ?_
  rintro e w' ⟨rfl, rfl⟩
  rw [U1.out]
  go_wp2_with fail
  refine (known_any _ _ _ _ _ _ HN.out HC.out).mono ?_
  rintro e w' ⟨rfl, rfl⟩
  rw [K1.out]
  go_wp2_with fail
  refine (bytes_ok _ _ HN.out HE.out).mono ?_
  rintro e w1 ⟨rfl, hb1⟩
  have HC_1 := Lib.hid (HC.out.below hb1)
  have HBW1 := Lib.hid hb1
  clear hb1 HC
  go_wp2_with fail
  refine (alive_any _).mono ?_
  rintro e w' ⟨rfl, rfl⟩
  obtain ⟨p, hp⟩ : ∃ p, p = 16 * t + g := ⟨_, rfl⟩
  have hpp : (16 * t + g != 16 * t + g) = false := by simp
  go_wp2_with fail
  refine (refepoch_any _ _).mono ?_
  rintro e w' ⟨rfl, rfl⟩
  rw [D1.out]
  clear hpp hp
  go_wp2_with fail
  refine (refunpack_any _ _ he0 he1).mono ?_
  rintro e w' ⟨rfl, rfl⟩
  obtain ⟨S, hS⟩ : ∃ S : ByteArray, S = ⟨(bytesL n).toArray⟩ := ⟨_, rfl⟩
  rw [← hS]
  have HS := Lib.hid hS; clear hS
  have h16 : (n / 16 != n / 16) = false := by simp
  have h17 : (n % 16 != n % 16) = false := by simp
  have hSS : (S.toList != S.toList) = false := by simp
  go_wp2_with fail
  refine (refbytes_any _ _ HE.out).mono ?_
  rintro e w2 ⟨rfl, hb2⟩
  have HC_2 := Lib.hid (HC_1.out.below hb2)
  have HBW2 := Lib.hid (HBW1.out.trans (hb2.mono HBW1.out.size))
  clear hb2 HC_1
  rw [← HS.out]
  clear h16 h17
  go_wp2_with fail
  refine (refright_any _ _ _ _ _ HC_2.out).mono ?_
  rintro e w' ⟨rfl, rfl⟩
  rw [RC.out]
  clear hSS
  obtain ⟨x, hx⟩ : ∃ x, x = decide (n / 16 ≤ en C (n % 16).toNat) := ⟨_, rfl⟩
  rw [← hx]
  have HX := Lib.hid hx; clear hx
  go_wp2_with fail
  refine (refknown_any _ _ _ _ _ _ he0 he1 HC_2.out).mono ?_
  rintro e w' ⟨rfl, rfl⟩
  rw [← HX.out]
  have hxx : (x == x) = true := by cases x <;> rfl
  go_wp2_with fail
  go_ret
  exact ⟨ret_bool rfl, HBW2.out⟩

theorem tells_walk (t g n : Int) (a : Option Addr) (len cap : Nat) (l : List Int) (w : World) (hn : I64 n) (h : Ints w a len cap l) :
    Calls Try.prog 3 #[.int .i64 t, .int .i64 g, .int .i64 n, .slice a len cap] w (Says w) := by
  by_cases h1 : t < 0
  · by_cases he : isEp n
    · cases rc : rightB (l.take 20) with
      | false => exact tells_tlo_epbad t g n a len cap l w hn h h1 he rc
      | true => exact tells_tlo_epok t g n a len cap l w hn h h1 he rc
    · exact tells_tlo_bad t g n a len cap l w hn h h1 he
  · by_cases h2 : 1099511627776 < t
    · by_cases he : isEp n
      · cases rc : rightB (l.take 20) with
        | false => exact tells_thi_epbad t g n a len cap l w hn h h1 h2 he rc
        | true => exact tells_thi_epok t g n a len cap l w hn h h1 h2 he rc
      · exact tells_thi_bad t g n a len cap l w hn h h1 h2 he
    · by_cases h3 : g < 0
      · by_cases he : isEp n
        · cases rc : rightB (l.take 20) with
          | false => exact tells_glo_epbad t g n a len cap l w hn h h1 h2 h3 he rc
          | true => exact tells_glo_epok t g n a len cap l w hn h h1 h2 h3 he rc
        · exact tells_glo_bad t g n a len cap l w hn h h1 h2 h3 he
      · by_cases h4 : 15 < g
        · by_cases he : isEp n
          · cases rc : rightB (l.take 20) with
            | false => exact tells_ghi_epbad t g n a len cap l w hn h h1 h2 h3 h4 he rc
            | true => exact tells_ghi_epok t g n a len cap l w hn h h1 h2 h3 h4 he rc
          · exact tells_ghi_bad t g n a len cap l w hn h h1 h2 h3 h4 he
        · by_cases he : isEp n
          · cases rc : rightB (l.take 20) with
            | false => exact tells_ok_epbad t g n a len cap l w hn h h1 h2 h3 h4 he rc
            | true => exact tells_ok_epok t g n a len cap l w hn h h1 h2 h3 h4 he rc
          · exact tells_ok_bad t g n a len cap l w hn h h1 h2 h3 h4 he
end Go.Proofs.Ytdlmfpofedfcdaa
