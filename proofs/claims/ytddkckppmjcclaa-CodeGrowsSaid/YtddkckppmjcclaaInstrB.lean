/- What is wrong with one instruction, further. -/
import Derived.Test.YtddkckppmjcclaaNum
namespace Go.Proofs.Ytddkckppmjcclaa
open Go.RowKit
set_option linter.unusedSimpArgs false
set_option linter.unusedVariables false
set_option maxRecDepth 100000 in
set_option maxHeartbeats 8000000 in
theorem instr_7 (p : Pr) (q : PAt) (ba : Option Addr) (len cap : Nat) (a b : Int) (w : World) (hz : Szs p q) (hlc : len ≤ cap) (hcc : len ≤ 9223372036854775806) (ha : I64 a) (hb : I64 b) :
    Calls Try.prog 45 #[prV p q, .slice ba len cap, insV ⟨7, a, b⟩] w (Says3 w (instrZ p len ⟨7, a, b⟩)) := by
  have HN := Lib.hid (fun W => num_33 p q ba len cap W hlc hcc)
  have HM := Lib.hid (show ∀ M, M = mostZ p 7 len → True from fun _ _ => trivial)
  obtain ⟨M, hM⟩ : ∃ M, M = mostZ p 7 len := ⟨_, rfl⟩
  have HZ : Hid (instrZ p len ⟨7, a, b⟩ = if belowZ a M = false then 3 else if b < 0 ∨ lastZ 7 len < b then 3 else 0) := Lib.hid (by rw [hM]; rfl)
  have hMv : M = _ := hM.trans (show mostZ p 7 len = p.on by simp [mostZ, hz.cn, hz.sn, hz.bn])
  rw [← hMv] at HN
  clear hMv hM HM hz
  have X_0 := Lib.hid ((Bx.new w (prC p q) 26).below (below_alloc _ (.cells #[.int .i64 7, .int .i64 a, .int .i64 b] 44)))
  have Y_0 := Lib.hid (Bx.new2 w (.cells (prC p q) 26) #[.int .i64 7, .int .i64 a, .int .i64 b] 44)
  have B_0 := Lib.hid ((below_alloc w (.cells (prC p q) 26)).alloc (by simp) (.cells #[.int .i64 7, .int .i64 a, .int .i64 b] 44))
  unfold I64 at ha hb
  have i0 : ∀ w, (Instr.index 95 tab (.int .i64 7)).run Try.prog w = .ok (fnV 66) w := fun _ => by kernel_rfl
  have HBl := Lib.hid (fun W => below_any 7 14 W)
  rw [show belowZ 7 14 = true from rfl] at HBl
  have HBa := Lib.hid (fun W => below_any a M W)
  go_enter Try.func45, Try.ntmps45
  go_wp2_with fail
  refine (HBl.out _).mono ?_
  rintro e w1 ⟨rfl, rfl⟩
  go_wp2_with fail
  obtain ⟨X, hX⟩ : ∃ x, x = (w.alloc (.cells (prC p q) 26)).alloc (.cells #[.int .i64 7, .int .i64 a, .int .i64 b] 44) := ⟨_, rfl⟩
  obtain ⟨BY, hBY⟩ : ∃ x, x = w.heap.size + 1 := ⟨_, rfl⟩
  obtain ⟨BX, hBX⟩ : ∃ x, x = w.heap.size := ⟨_, rfl⟩
  rw [← hX] at X_0 Y_0 B_0
  unfold prC at hX
  rw [← hX]
  rw [← hBY] at Y_0 ⊢
  rw [← hBX] at X_0 ⊢
  clear hX hBY hBX
  have HSS : Hid (∀ W', Below X.heap.size X W' → (W'.cell? ⟨BX, 0, none⟩ = some (.slice q.ca q.cn q.cc) ∧ W'.cell? ⟨BX, 1, none⟩ = some (.int .i64 p.mu) ∧ W'.cell? ⟨BX, 2, none⟩ = some (.int .i64 p.on) ∧ W'.cell? ⟨BX, 3, none⟩ = some (.int .i64 p.va) ∧ W'.cell? ⟨BX, 4, none⟩ = some (.slice q.sa q.sn q.sc) ∧ W'.cell? ⟨BX, 5, none⟩ = some (.slice q.ba q.bn q.bc)) ∧ W'.cell? ⟨BY, 0, none⟩ = some (.int .i64 7) ∧ W'.cell? ⟨BY, 1, none⟩ = some (.int .i64 a) ∧ W'.cell? ⟨BY, 2, none⟩ = some (.int .i64 b)) := Lib.hid (fun W' hb => ⟨(X_0.out.below hb).cells6, (Y_0.out.below hb).cells3⟩)
  cases hbl : belowZ a M
  all_goals
    have HBL := Lib.hid hbl
    rw [hbl] at HBa
    clear hbl
    go_region_held3 (fun W => (W.cell? ⟨BX, 0, none⟩ = some (.slice q.ca q.cn q.cc) ∧ W.cell? ⟨BX, 1, none⟩ = some (.int .i64 p.mu) ∧ W.cell? ⟨BX, 2, none⟩ = some (.int .i64 p.on) ∧ W.cell? ⟨BX, 3, none⟩ = some (.int .i64 p.va) ∧ W.cell? ⟨BX, 4, none⟩ = some (.slice q.sa q.sn q.sc) ∧ W.cell? ⟨BX, 5, none⟩ = some (.slice q.ba q.bn q.bc)) ∧ W.cell? ⟨BY, 0, none⟩ = some (.int .i64 7) ∧ W.cell? ⟨BY, 1, none⟩ = some (.int .i64 a) ∧ W.cell? ⟨BY, 2, none⟩ = some (.int .i64 b))
      ((refine HSS.out _ ?_; first | exact HBq.out | exact HBp.out | exact (Below.refl _ _).drew))
      (first
        | (go_at_call 55; refine (numbersOf_any _).mono ?_; rintro e wp ⟨rfl, hbp⟩; have HBp : Hid (Below X.heap.size X wp) := Lib.hid (((Below.refl X.heap.size X).drew).trans (Below.mono hbp (Nat.le_refl _))); clear hbp)
        | (go_at_call 66; refine (HN.out _).mono ?_; rintro e wq ⟨rfl, hbq⟩; have HBq : Hid (Below X.heap.size X wq) := Lib.hid (HBp.out.trans (Below.mono hbq HBp.out.size)); clear hbq)
        | (go_at_call 54; refine (HBa.out _).mono ?_; rintro e wz ⟨rfl, rfl⟩))
    all_goals
      have Y_1 := Lib.hid (Y_0.out.below HBq.out)
      obtain ⟨y0, y1, y2⟩ := Y_1.out.cells3
      first
      | (have hbf := HBL.out
         first
         | (have R := Lib.hid (HZ.out.trans (if_pos HBL.out))
            go_wp2_with fail
            go_ret
            exact ⟨ret_int R.out.symm, B_0.out.trans (Below.mono HBq.out B_0.out.size)⟩)
         | (have R := Lib.hid (HZ.out.trans (if_neg (by rw [HBL.out]; simp)))
            clear hbf
            by_cases hb0 : b < 0
            · have R2 := Lib.hid (R.out.trans (if_pos (.inl hb0)))
              go_wp2_with fail
              go_ret
              exact ⟨ret_int R2.out.symm, B_0.out.trans (Below.mono HBq.out B_0.out.size)⟩
            · by_cases hbl : (len : Int) < b
              · have R2 := Lib.hid (R.out.trans (if_pos (.inr hbl)))
                go_wp2_with fail
                go_ret
                exact ⟨ret_int R2.out.symm, B_0.out.trans (Below.mono HBq.out B_0.out.size)⟩
              · have R2 := Lib.hid (R.out.trans (if_neg (fun h => h.elim hb0 hbl)))
                go_wp2_with fail
                go_ret
                exact ⟨ret_int R2.out.symm, B_0.out.trans (Below.mono HBq.out B_0.out.size)⟩))
set_option maxRecDepth 100000 in
set_option maxHeartbeats 8000000 in
theorem instr_8 (p : Pr) (q : PAt) (ba : Option Addr) (len cap : Nat) (a b : Int) (w : World) (hz : Szs p q) (hlc : len ≤ cap) (hcc : len ≤ 9223372036854775806) (ha : I64 a) (hb : I64 b) :
    Calls Try.prog 45 #[prV p q, .slice ba len cap, insV ⟨8, a, b⟩] w (Says3 w (instrZ p len ⟨8, a, b⟩)) := by
  have HN := Lib.hid (fun W => num_33 p q ba len cap W hlc hcc)
  have HM := Lib.hid (show ∀ M, M = mostZ p 8 len → True from fun _ _ => trivial)
  obtain ⟨M, hM⟩ : ∃ M, M = mostZ p 8 len := ⟨_, rfl⟩
  have HZ : Hid (instrZ p len ⟨8, a, b⟩ = if belowZ a M = false then 3 else if b < 0 ∨ lastZ 8 len < b then 3 else 0) := Lib.hid (by rw [hM]; rfl)
  have hMv : M = _ := hM.trans (show mostZ p 8 len = p.on by simp [mostZ, hz.cn, hz.sn, hz.bn])
  rw [← hMv] at HN
  clear hMv hM HM hz
  have X_0 := Lib.hid ((Bx.new w (prC p q) 26).below (below_alloc _ (.cells #[.int .i64 8, .int .i64 a, .int .i64 b] 44)))
  have Y_0 := Lib.hid (Bx.new2 w (.cells (prC p q) 26) #[.int .i64 8, .int .i64 a, .int .i64 b] 44)
  have B_0 := Lib.hid ((below_alloc w (.cells (prC p q) 26)).alloc (by simp) (.cells #[.int .i64 8, .int .i64 a, .int .i64 b] 44))
  unfold I64 at ha hb
  have i0 : ∀ w, (Instr.index 95 tab (.int .i64 8)).run Try.prog w = .ok (fnV 66) w := fun _ => by kernel_rfl
  have HBl := Lib.hid (fun W => below_any 8 14 W)
  rw [show belowZ 8 14 = true from rfl] at HBl
  have HBa := Lib.hid (fun W => below_any a M W)
  go_enter Try.func45, Try.ntmps45
  go_wp2_with fail
  refine (HBl.out _).mono ?_
  rintro e w1 ⟨rfl, rfl⟩
  go_wp2_with fail
  obtain ⟨X, hX⟩ : ∃ x, x = (w.alloc (.cells (prC p q) 26)).alloc (.cells #[.int .i64 8, .int .i64 a, .int .i64 b] 44) := ⟨_, rfl⟩
  obtain ⟨BY, hBY⟩ : ∃ x, x = w.heap.size + 1 := ⟨_, rfl⟩
  obtain ⟨BX, hBX⟩ : ∃ x, x = w.heap.size := ⟨_, rfl⟩
  rw [← hX] at X_0 Y_0 B_0
  unfold prC at hX
  rw [← hX]
  rw [← hBY] at Y_0 ⊢
  rw [← hBX] at X_0 ⊢
  clear hX hBY hBX
  have HSS : Hid (∀ W', Below X.heap.size X W' → (W'.cell? ⟨BX, 0, none⟩ = some (.slice q.ca q.cn q.cc) ∧ W'.cell? ⟨BX, 1, none⟩ = some (.int .i64 p.mu) ∧ W'.cell? ⟨BX, 2, none⟩ = some (.int .i64 p.on) ∧ W'.cell? ⟨BX, 3, none⟩ = some (.int .i64 p.va) ∧ W'.cell? ⟨BX, 4, none⟩ = some (.slice q.sa q.sn q.sc) ∧ W'.cell? ⟨BX, 5, none⟩ = some (.slice q.ba q.bn q.bc)) ∧ W'.cell? ⟨BY, 0, none⟩ = some (.int .i64 8) ∧ W'.cell? ⟨BY, 1, none⟩ = some (.int .i64 a) ∧ W'.cell? ⟨BY, 2, none⟩ = some (.int .i64 b)) := Lib.hid (fun W' hb => ⟨(X_0.out.below hb).cells6, (Y_0.out.below hb).cells3⟩)
  cases hbl : belowZ a M
  all_goals
    have HBL := Lib.hid hbl
    rw [hbl] at HBa
    clear hbl
    go_region_held3 (fun W => (W.cell? ⟨BX, 0, none⟩ = some (.slice q.ca q.cn q.cc) ∧ W.cell? ⟨BX, 1, none⟩ = some (.int .i64 p.mu) ∧ W.cell? ⟨BX, 2, none⟩ = some (.int .i64 p.on) ∧ W.cell? ⟨BX, 3, none⟩ = some (.int .i64 p.va) ∧ W.cell? ⟨BX, 4, none⟩ = some (.slice q.sa q.sn q.sc) ∧ W.cell? ⟨BX, 5, none⟩ = some (.slice q.ba q.bn q.bc)) ∧ W.cell? ⟨BY, 0, none⟩ = some (.int .i64 8) ∧ W.cell? ⟨BY, 1, none⟩ = some (.int .i64 a) ∧ W.cell? ⟨BY, 2, none⟩ = some (.int .i64 b))
      ((refine HSS.out _ ?_; first | exact HBq.out | exact HBp.out | exact (Below.refl _ _).drew))
      (first
        | (go_at_call 55; refine (numbersOf_any _).mono ?_; rintro e wp ⟨rfl, hbp⟩; have HBp : Hid (Below X.heap.size X wp) := Lib.hid (((Below.refl X.heap.size X).drew).trans (Below.mono hbp (Nat.le_refl _))); clear hbp)
        | (go_at_call 66; refine (HN.out _).mono ?_; rintro e wq ⟨rfl, hbq⟩; have HBq : Hid (Below X.heap.size X wq) := Lib.hid (HBp.out.trans (Below.mono hbq HBp.out.size)); clear hbq)
        | (go_at_call 54; refine (HBa.out _).mono ?_; rintro e wz ⟨rfl, rfl⟩))
    all_goals
      have Y_1 := Lib.hid (Y_0.out.below HBq.out)
      obtain ⟨y0, y1, y2⟩ := Y_1.out.cells3
      first
      | (have hbf := HBL.out
         first
         | (have R := Lib.hid (HZ.out.trans (if_pos HBL.out))
            go_wp2_with fail
            go_ret
            exact ⟨ret_int R.out.symm, B_0.out.trans (Below.mono HBq.out B_0.out.size)⟩)
         | (have R := Lib.hid (HZ.out.trans (if_neg (by rw [HBL.out]; simp)))
            clear hbf
            by_cases hb0 : b < 0
            · have R2 := Lib.hid (R.out.trans (if_pos (.inl hb0)))
              go_wp2_with fail
              go_ret
              exact ⟨ret_int R2.out.symm, B_0.out.trans (Below.mono HBq.out B_0.out.size)⟩
            · by_cases hbl : 0 < b
              · have R2 := Lib.hid (R.out.trans (if_pos (.inr hbl)))
                go_wp2_with fail
                go_ret
                exact ⟨ret_int R2.out.symm, B_0.out.trans (Below.mono HBq.out B_0.out.size)⟩
              · have R2 := Lib.hid (R.out.trans (if_neg (fun h => h.elim hb0 hbl)))
                go_wp2_with fail
                go_ret
                exact ⟨ret_int R2.out.symm, B_0.out.trans (Below.mono HBq.out B_0.out.size)⟩))
set_option maxRecDepth 100000 in
set_option maxHeartbeats 8000000 in
theorem instr_9 (p : Pr) (q : PAt) (ba : Option Addr) (len cap : Nat) (a b : Int) (w : World) (hz : Szs p q) (hlc : len ≤ cap) (hcc : len ≤ 9223372036854775806) (ha : I64 a) (hb : I64 b) :
    Calls Try.prog 45 #[prV p q, .slice ba len cap, insV ⟨9, a, b⟩] w (Says3 w (instrZ p len ⟨9, a, b⟩)) := by
  have HN := Lib.hid (fun W => num_34 p q ba len cap W hlc hcc)
  have HM := Lib.hid (show ∀ M, M = mostZ p 9 len → True from fun _ _ => trivial)
  obtain ⟨M, hM⟩ : ∃ M, M = mostZ p 9 len := ⟨_, rfl⟩
  have HZ : Hid (instrZ p len ⟨9, a, b⟩ = if belowZ a M = false then 3 else if b < 0 ∨ lastZ 9 len < b then 3 else 0) := Lib.hid (by rw [hM]; rfl)
  have hMv : M = _ := hM.trans (show mostZ p 9 len = q.bn by simp [mostZ, hz.cn, hz.sn, hz.bn])
  rw [← hMv] at HN
  clear hMv hM HM hz
  have X_0 := Lib.hid ((Bx.new w (prC p q) 26).below (below_alloc _ (.cells #[.int .i64 9, .int .i64 a, .int .i64 b] 44)))
  have Y_0 := Lib.hid (Bx.new2 w (.cells (prC p q) 26) #[.int .i64 9, .int .i64 a, .int .i64 b] 44)
  have B_0 := Lib.hid ((below_alloc w (.cells (prC p q) 26)).alloc (by simp) (.cells #[.int .i64 9, .int .i64 a, .int .i64 b] 44))
  unfold I64 at ha hb
  have i0 : ∀ w, (Instr.index 95 tab (.int .i64 9)).run Try.prog w = .ok (fnV 67) w := fun _ => by kernel_rfl
  have HBl := Lib.hid (fun W => below_any 9 14 W)
  rw [show belowZ 9 14 = true from rfl] at HBl
  have HBa := Lib.hid (fun W => below_any a M W)
  go_enter Try.func45, Try.ntmps45
  go_wp2_with fail
  refine (HBl.out _).mono ?_
  rintro e w1 ⟨rfl, rfl⟩
  go_wp2_with fail
  obtain ⟨X, hX⟩ : ∃ x, x = (w.alloc (.cells (prC p q) 26)).alloc (.cells #[.int .i64 9, .int .i64 a, .int .i64 b] 44) := ⟨_, rfl⟩
  obtain ⟨BY, hBY⟩ : ∃ x, x = w.heap.size + 1 := ⟨_, rfl⟩
  obtain ⟨BX, hBX⟩ : ∃ x, x = w.heap.size := ⟨_, rfl⟩
  rw [← hX] at X_0 Y_0 B_0
  unfold prC at hX
  rw [← hX]
  rw [← hBY] at Y_0 ⊢
  rw [← hBX] at X_0 ⊢
  clear hX hBY hBX
  have HSS : Hid (∀ W', Below X.heap.size X W' → (W'.cell? ⟨BX, 0, none⟩ = some (.slice q.ca q.cn q.cc) ∧ W'.cell? ⟨BX, 1, none⟩ = some (.int .i64 p.mu) ∧ W'.cell? ⟨BX, 2, none⟩ = some (.int .i64 p.on) ∧ W'.cell? ⟨BX, 3, none⟩ = some (.int .i64 p.va) ∧ W'.cell? ⟨BX, 4, none⟩ = some (.slice q.sa q.sn q.sc) ∧ W'.cell? ⟨BX, 5, none⟩ = some (.slice q.ba q.bn q.bc)) ∧ W'.cell? ⟨BY, 0, none⟩ = some (.int .i64 9) ∧ W'.cell? ⟨BY, 1, none⟩ = some (.int .i64 a) ∧ W'.cell? ⟨BY, 2, none⟩ = some (.int .i64 b)) := Lib.hid (fun W' hb => ⟨(X_0.out.below hb).cells6, (Y_0.out.below hb).cells3⟩)
  cases hbl : belowZ a M
  all_goals
    have HBL := Lib.hid hbl
    rw [hbl] at HBa
    clear hbl
    go_region_held3 (fun W => (W.cell? ⟨BX, 0, none⟩ = some (.slice q.ca q.cn q.cc) ∧ W.cell? ⟨BX, 1, none⟩ = some (.int .i64 p.mu) ∧ W.cell? ⟨BX, 2, none⟩ = some (.int .i64 p.on) ∧ W.cell? ⟨BX, 3, none⟩ = some (.int .i64 p.va) ∧ W.cell? ⟨BX, 4, none⟩ = some (.slice q.sa q.sn q.sc) ∧ W.cell? ⟨BX, 5, none⟩ = some (.slice q.ba q.bn q.bc)) ∧ W.cell? ⟨BY, 0, none⟩ = some (.int .i64 9) ∧ W.cell? ⟨BY, 1, none⟩ = some (.int .i64 a) ∧ W.cell? ⟨BY, 2, none⟩ = some (.int .i64 b))
      ((refine HSS.out _ ?_; first | exact HBq.out | exact HBp.out | exact (Below.refl _ _).drew))
      (first
        | (go_at_call 55; refine (numbersOf_any _).mono ?_; rintro e wp ⟨rfl, hbp⟩; have HBp : Hid (Below X.heap.size X wp) := Lib.hid (((Below.refl X.heap.size X).drew).trans (Below.mono hbp (Nat.le_refl _))); clear hbp)
        | (go_at_call 67; refine (HN.out _).mono ?_; rintro e wq ⟨rfl, hbq⟩; have HBq : Hid (Below X.heap.size X wq) := Lib.hid (HBp.out.trans (Below.mono hbq HBp.out.size)); clear hbq)
        | (go_at_call 54; refine (HBa.out _).mono ?_; rintro e wz ⟨rfl, rfl⟩))
    all_goals
      have Y_1 := Lib.hid (Y_0.out.below HBq.out)
      obtain ⟨y0, y1, y2⟩ := Y_1.out.cells3
      first
      | (have hbf := HBL.out
         first
         | (have R := Lib.hid (HZ.out.trans (if_pos HBL.out))
            go_wp2_with fail
            go_ret
            exact ⟨ret_int R.out.symm, B_0.out.trans (Below.mono HBq.out B_0.out.size)⟩)
         | (have R := Lib.hid (HZ.out.trans (if_neg (by rw [HBL.out]; simp)))
            clear hbf
            by_cases hb0 : b < 0
            · have R2 := Lib.hid (R.out.trans (if_pos (.inl hb0)))
              go_wp2_with fail
              go_ret
              exact ⟨ret_int R2.out.symm, B_0.out.trans (Below.mono HBq.out B_0.out.size)⟩
            · by_cases hbl : 0 < b
              · have R2 := Lib.hid (R.out.trans (if_pos (.inr hbl)))
                go_wp2_with fail
                go_ret
                exact ⟨ret_int R2.out.symm, B_0.out.trans (Below.mono HBq.out B_0.out.size)⟩
              · have R2 := Lib.hid (R.out.trans (if_neg (fun h => h.elim hb0 hbl)))
                go_wp2_with fail
                go_ret
                exact ⟨ret_int R2.out.symm, B_0.out.trans (Below.mono HBq.out B_0.out.size)⟩))
set_option maxRecDepth 100000 in
set_option maxHeartbeats 8000000 in
theorem instr_10 (p : Pr) (q : PAt) (ba : Option Addr) (len cap : Nat) (a b : Int) (w : World) (hz : Szs p q) (hlc : len ≤ cap) (hcc : len ≤ 9223372036854775806) (ha : I64 a) (hb : I64 b) :
    Calls Try.prog 45 #[prV p q, .slice ba len cap, insV ⟨10, a, b⟩] w (Says3 w (instrZ p len ⟨10, a, b⟩)) := by
  have HN := Lib.hid (fun W => num_35 p q ba len cap W hlc hcc)
  have HM := Lib.hid (show ∀ M, M = mostZ p 10 len → True from fun _ _ => trivial)
  obtain ⟨M, hM⟩ : ∃ M, M = mostZ p 10 len := ⟨_, rfl⟩
  have HZ : Hid (instrZ p len ⟨10, a, b⟩ = if belowZ a M = false then 3 else if b < 0 ∨ lastZ 10 len < b then 3 else 0) := Lib.hid (by rw [hM]; rfl)
  have hMv : M = _ := hM.trans (show mostZ p 10 len = p.va by simp [mostZ, hz.cn, hz.sn, hz.bn])
  rw [← hMv] at HN
  clear hMv hM HM hz
  have X_0 := Lib.hid ((Bx.new w (prC p q) 26).below (below_alloc _ (.cells #[.int .i64 10, .int .i64 a, .int .i64 b] 44)))
  have Y_0 := Lib.hid (Bx.new2 w (.cells (prC p q) 26) #[.int .i64 10, .int .i64 a, .int .i64 b] 44)
  have B_0 := Lib.hid ((below_alloc w (.cells (prC p q) 26)).alloc (by simp) (.cells #[.int .i64 10, .int .i64 a, .int .i64 b] 44))
  unfold I64 at ha hb
  have i0 : ∀ w, (Instr.index 95 tab (.int .i64 10)).run Try.prog w = .ok (fnV 68) w := fun _ => by kernel_rfl
  have HBl := Lib.hid (fun W => below_any 10 14 W)
  rw [show belowZ 10 14 = true from rfl] at HBl
  have HBa := Lib.hid (fun W => below_any a M W)
  go_enter Try.func45, Try.ntmps45
  go_wp2_with fail
  refine (HBl.out _).mono ?_
  rintro e w1 ⟨rfl, rfl⟩
  go_wp2_with fail
  obtain ⟨X, hX⟩ : ∃ x, x = (w.alloc (.cells (prC p q) 26)).alloc (.cells #[.int .i64 10, .int .i64 a, .int .i64 b] 44) := ⟨_, rfl⟩
  obtain ⟨BY, hBY⟩ : ∃ x, x = w.heap.size + 1 := ⟨_, rfl⟩
  obtain ⟨BX, hBX⟩ : ∃ x, x = w.heap.size := ⟨_, rfl⟩
  rw [← hX] at X_0 Y_0 B_0
  unfold prC at hX
  rw [← hX]
  rw [← hBY] at Y_0 ⊢
  rw [← hBX] at X_0 ⊢
  clear hX hBY hBX
  have HSS : Hid (∀ W', Below X.heap.size X W' → (W'.cell? ⟨BX, 0, none⟩ = some (.slice q.ca q.cn q.cc) ∧ W'.cell? ⟨BX, 1, none⟩ = some (.int .i64 p.mu) ∧ W'.cell? ⟨BX, 2, none⟩ = some (.int .i64 p.on) ∧ W'.cell? ⟨BX, 3, none⟩ = some (.int .i64 p.va) ∧ W'.cell? ⟨BX, 4, none⟩ = some (.slice q.sa q.sn q.sc) ∧ W'.cell? ⟨BX, 5, none⟩ = some (.slice q.ba q.bn q.bc)) ∧ W'.cell? ⟨BY, 0, none⟩ = some (.int .i64 10) ∧ W'.cell? ⟨BY, 1, none⟩ = some (.int .i64 a) ∧ W'.cell? ⟨BY, 2, none⟩ = some (.int .i64 b)) := Lib.hid (fun W' hb => ⟨(X_0.out.below hb).cells6, (Y_0.out.below hb).cells3⟩)
  cases hbl : belowZ a M
  all_goals
    have HBL := Lib.hid hbl
    rw [hbl] at HBa
    clear hbl
    go_region_held3 (fun W => (W.cell? ⟨BX, 0, none⟩ = some (.slice q.ca q.cn q.cc) ∧ W.cell? ⟨BX, 1, none⟩ = some (.int .i64 p.mu) ∧ W.cell? ⟨BX, 2, none⟩ = some (.int .i64 p.on) ∧ W.cell? ⟨BX, 3, none⟩ = some (.int .i64 p.va) ∧ W.cell? ⟨BX, 4, none⟩ = some (.slice q.sa q.sn q.sc) ∧ W.cell? ⟨BX, 5, none⟩ = some (.slice q.ba q.bn q.bc)) ∧ W.cell? ⟨BY, 0, none⟩ = some (.int .i64 10) ∧ W.cell? ⟨BY, 1, none⟩ = some (.int .i64 a) ∧ W.cell? ⟨BY, 2, none⟩ = some (.int .i64 b))
      ((refine HSS.out _ ?_; first | exact HBq.out | exact HBp.out | exact (Below.refl _ _).drew))
      (first
        | (go_at_call 55; refine (numbersOf_any _).mono ?_; rintro e wp ⟨rfl, hbp⟩; have HBp : Hid (Below X.heap.size X wp) := Lib.hid (((Below.refl X.heap.size X).drew).trans (Below.mono hbp (Nat.le_refl _))); clear hbp)
        | (go_at_call 68; refine (HN.out _).mono ?_; rintro e wq ⟨rfl, hbq⟩; have HBq : Hid (Below X.heap.size X wq) := Lib.hid (HBp.out.trans (Below.mono hbq HBp.out.size)); clear hbq)
        | (go_at_call 54; refine (HBa.out _).mono ?_; rintro e wz ⟨rfl, rfl⟩))
    all_goals
      have Y_1 := Lib.hid (Y_0.out.below HBq.out)
      obtain ⟨y0, y1, y2⟩ := Y_1.out.cells3
      first
      | (have hbf := HBL.out
         first
         | (have R := Lib.hid (HZ.out.trans (if_pos HBL.out))
            go_wp2_with fail
            go_ret
            exact ⟨ret_int R.out.symm, B_0.out.trans (Below.mono HBq.out B_0.out.size)⟩)
         | (have R := Lib.hid (HZ.out.trans (if_neg (by rw [HBL.out]; simp)))
            clear hbf
            by_cases hb0 : b < 0
            · have R2 := Lib.hid (R.out.trans (if_pos (.inl hb0)))
              go_wp2_with fail
              go_ret
              exact ⟨ret_int R2.out.symm, B_0.out.trans (Below.mono HBq.out B_0.out.size)⟩
            · by_cases hbl : 0 < b
              · have R2 := Lib.hid (R.out.trans (if_pos (.inr hbl)))
                go_wp2_with fail
                go_ret
                exact ⟨ret_int R2.out.symm, B_0.out.trans (Below.mono HBq.out B_0.out.size)⟩
              · have R2 := Lib.hid (R.out.trans (if_neg (fun h => h.elim hb0 hbl)))
                go_wp2_with fail
                go_ret
                exact ⟨ret_int R2.out.symm, B_0.out.trans (Below.mono HBq.out B_0.out.size)⟩))
set_option maxRecDepth 100000 in
set_option maxHeartbeats 8000000 in
theorem instr_11 (p : Pr) (q : PAt) (ba : Option Addr) (len cap : Nat) (a b : Int) (w : World) (hz : Szs p q) (hlc : len ≤ cap) (hcc : len ≤ 9223372036854775806) (ha : I64 a) (hb : I64 b) :
    Calls Try.prog 45 #[prV p q, .slice ba len cap, insV ⟨11, a, b⟩] w (Says3 w (instrZ p len ⟨11, a, b⟩)) := by
  have HN := Lib.hid (fun W => num_35 p q ba len cap W hlc hcc)
  have HM := Lib.hid (show ∀ M, M = mostZ p 11 len → True from fun _ _ => trivial)
  obtain ⟨M, hM⟩ : ∃ M, M = mostZ p 11 len := ⟨_, rfl⟩
  have HZ : Hid (instrZ p len ⟨11, a, b⟩ = if belowZ a M = false then 3 else if b < 0 ∨ lastZ 11 len < b then 3 else 0) := Lib.hid (by rw [hM]; rfl)
  have hMv : M = _ := hM.trans (show mostZ p 11 len = p.va by simp [mostZ, hz.cn, hz.sn, hz.bn])
  rw [← hMv] at HN
  clear hMv hM HM hz
  have X_0 := Lib.hid ((Bx.new w (prC p q) 26).below (below_alloc _ (.cells #[.int .i64 11, .int .i64 a, .int .i64 b] 44)))
  have Y_0 := Lib.hid (Bx.new2 w (.cells (prC p q) 26) #[.int .i64 11, .int .i64 a, .int .i64 b] 44)
  have B_0 := Lib.hid ((below_alloc w (.cells (prC p q) 26)).alloc (by simp) (.cells #[.int .i64 11, .int .i64 a, .int .i64 b] 44))
  unfold I64 at ha hb
  have i0 : ∀ w, (Instr.index 95 tab (.int .i64 11)).run Try.prog w = .ok (fnV 68) w := fun _ => by kernel_rfl
  have HBl := Lib.hid (fun W => below_any 11 14 W)
  rw [show belowZ 11 14 = true from rfl] at HBl
  have HBa := Lib.hid (fun W => below_any a M W)
  go_enter Try.func45, Try.ntmps45
  go_wp2_with fail
  refine (HBl.out _).mono ?_
  rintro e w1 ⟨rfl, rfl⟩
  go_wp2_with fail
  obtain ⟨X, hX⟩ : ∃ x, x = (w.alloc (.cells (prC p q) 26)).alloc (.cells #[.int .i64 11, .int .i64 a, .int .i64 b] 44) := ⟨_, rfl⟩
  obtain ⟨BY, hBY⟩ : ∃ x, x = w.heap.size + 1 := ⟨_, rfl⟩
  obtain ⟨BX, hBX⟩ : ∃ x, x = w.heap.size := ⟨_, rfl⟩
  rw [← hX] at X_0 Y_0 B_0
  unfold prC at hX
  rw [← hX]
  rw [← hBY] at Y_0 ⊢
  rw [← hBX] at X_0 ⊢
  clear hX hBY hBX
  have HSS : Hid (∀ W', Below X.heap.size X W' → (W'.cell? ⟨BX, 0, none⟩ = some (.slice q.ca q.cn q.cc) ∧ W'.cell? ⟨BX, 1, none⟩ = some (.int .i64 p.mu) ∧ W'.cell? ⟨BX, 2, none⟩ = some (.int .i64 p.on) ∧ W'.cell? ⟨BX, 3, none⟩ = some (.int .i64 p.va) ∧ W'.cell? ⟨BX, 4, none⟩ = some (.slice q.sa q.sn q.sc) ∧ W'.cell? ⟨BX, 5, none⟩ = some (.slice q.ba q.bn q.bc)) ∧ W'.cell? ⟨BY, 0, none⟩ = some (.int .i64 11) ∧ W'.cell? ⟨BY, 1, none⟩ = some (.int .i64 a) ∧ W'.cell? ⟨BY, 2, none⟩ = some (.int .i64 b)) := Lib.hid (fun W' hb => ⟨(X_0.out.below hb).cells6, (Y_0.out.below hb).cells3⟩)
  cases hbl : belowZ a M
  all_goals
    have HBL := Lib.hid hbl
    rw [hbl] at HBa
    clear hbl
    go_region_held3 (fun W => (W.cell? ⟨BX, 0, none⟩ = some (.slice q.ca q.cn q.cc) ∧ W.cell? ⟨BX, 1, none⟩ = some (.int .i64 p.mu) ∧ W.cell? ⟨BX, 2, none⟩ = some (.int .i64 p.on) ∧ W.cell? ⟨BX, 3, none⟩ = some (.int .i64 p.va) ∧ W.cell? ⟨BX, 4, none⟩ = some (.slice q.sa q.sn q.sc) ∧ W.cell? ⟨BX, 5, none⟩ = some (.slice q.ba q.bn q.bc)) ∧ W.cell? ⟨BY, 0, none⟩ = some (.int .i64 11) ∧ W.cell? ⟨BY, 1, none⟩ = some (.int .i64 a) ∧ W.cell? ⟨BY, 2, none⟩ = some (.int .i64 b))
      ((refine HSS.out _ ?_; first | exact HBq.out | exact HBp.out | exact (Below.refl _ _).drew))
      (first
        | (go_at_call 55; refine (numbersOf_any _).mono ?_; rintro e wp ⟨rfl, hbp⟩; have HBp : Hid (Below X.heap.size X wp) := Lib.hid (((Below.refl X.heap.size X).drew).trans (Below.mono hbp (Nat.le_refl _))); clear hbp)
        | (go_at_call 68; refine (HN.out _).mono ?_; rintro e wq ⟨rfl, hbq⟩; have HBq : Hid (Below X.heap.size X wq) := Lib.hid (HBp.out.trans (Below.mono hbq HBp.out.size)); clear hbq)
        | (go_at_call 54; refine (HBa.out _).mono ?_; rintro e wz ⟨rfl, rfl⟩))
    all_goals
      have Y_1 := Lib.hid (Y_0.out.below HBq.out)
      obtain ⟨y0, y1, y2⟩ := Y_1.out.cells3
      first
      | (have hbf := HBL.out
         first
         | (have R := Lib.hid (HZ.out.trans (if_pos HBL.out))
            go_wp2_with fail
            go_ret
            exact ⟨ret_int R.out.symm, B_0.out.trans (Below.mono HBq.out B_0.out.size)⟩)
         | (have R := Lib.hid (HZ.out.trans (if_neg (by rw [HBL.out]; simp)))
            clear hbf
            by_cases hb0 : b < 0
            · have R2 := Lib.hid (R.out.trans (if_pos (.inl hb0)))
              go_wp2_with fail
              go_ret
              exact ⟨ret_int R2.out.symm, B_0.out.trans (Below.mono HBq.out B_0.out.size)⟩
            · by_cases hbl : 0 < b
              · have R2 := Lib.hid (R.out.trans (if_pos (.inr hbl)))
                go_wp2_with fail
                go_ret
                exact ⟨ret_int R2.out.symm, B_0.out.trans (Below.mono HBq.out B_0.out.size)⟩
              · have R2 := Lib.hid (R.out.trans (if_neg (fun h => h.elim hb0 hbl)))
                go_wp2_with fail
                go_ret
                exact ⟨ret_int R2.out.symm, B_0.out.trans (Below.mono HBq.out B_0.out.size)⟩))
set_option maxRecDepth 100000 in
set_option maxHeartbeats 8000000 in
theorem instr_12 (p : Pr) (q : PAt) (ba : Option Addr) (len cap : Nat) (a b : Int) (w : World) (hz : Szs p q) (hlc : len ≤ cap) (hcc : len ≤ 9223372036854775806) (ha : I64 a) (hb : I64 b) :
    Calls Try.prog 45 #[prV p q, .slice ba len cap, insV ⟨12, a, b⟩] w (Says3 w (instrZ p len ⟨12, a, b⟩)) := by
  have HN := Lib.hid (fun W => num_36 p q ba len cap W hlc hcc)
  have HM := Lib.hid (show ∀ M, M = mostZ p 12 len → True from fun _ _ => trivial)
  obtain ⟨M, hM⟩ : ∃ M, M = mostZ p 12 len := ⟨_, rfl⟩
  have HZ : Hid (instrZ p len ⟨12, a, b⟩ = if belowZ a M = false then 3 else if b < 0 ∨ lastZ 12 len < b then 3 else 0) := Lib.hid (by rw [hM]; rfl)
  have hMv : M = _ := hM.trans (show mostZ p 12 len = ((len : Int) + 1) by simp [mostZ, hz.cn, hz.sn, hz.bn])
  rw [← hMv] at HN
  clear hMv hM HM hz
  have X_0 := Lib.hid ((Bx.new w (prC p q) 26).below (below_alloc _ (.cells #[.int .i64 12, .int .i64 a, .int .i64 b] 44)))
  have Y_0 := Lib.hid (Bx.new2 w (.cells (prC p q) 26) #[.int .i64 12, .int .i64 a, .int .i64 b] 44)
  have B_0 := Lib.hid ((below_alloc w (.cells (prC p q) 26)).alloc (by simp) (.cells #[.int .i64 12, .int .i64 a, .int .i64 b] 44))
  unfold I64 at ha hb
  have i0 : ∀ w, (Instr.index 95 tab (.int .i64 12)).run Try.prog w = .ok (fnV 69) w := fun _ => by kernel_rfl
  have HBl := Lib.hid (fun W => below_any 12 14 W)
  rw [show belowZ 12 14 = true from rfl] at HBl
  have HBa := Lib.hid (fun W => below_any a M W)
  go_enter Try.func45, Try.ntmps45
  go_wp2_with fail
  refine (HBl.out _).mono ?_
  rintro e w1 ⟨rfl, rfl⟩
  go_wp2_with fail
  obtain ⟨X, hX⟩ : ∃ x, x = (w.alloc (.cells (prC p q) 26)).alloc (.cells #[.int .i64 12, .int .i64 a, .int .i64 b] 44) := ⟨_, rfl⟩
  obtain ⟨BY, hBY⟩ : ∃ x, x = w.heap.size + 1 := ⟨_, rfl⟩
  obtain ⟨BX, hBX⟩ : ∃ x, x = w.heap.size := ⟨_, rfl⟩
  rw [← hX] at X_0 Y_0 B_0
  unfold prC at hX
  rw [← hX]
  rw [← hBY] at Y_0 ⊢
  rw [← hBX] at X_0 ⊢
  clear hX hBY hBX
  have HSS : Hid (∀ W', Below X.heap.size X W' → (W'.cell? ⟨BX, 0, none⟩ = some (.slice q.ca q.cn q.cc) ∧ W'.cell? ⟨BX, 1, none⟩ = some (.int .i64 p.mu) ∧ W'.cell? ⟨BX, 2, none⟩ = some (.int .i64 p.on) ∧ W'.cell? ⟨BX, 3, none⟩ = some (.int .i64 p.va) ∧ W'.cell? ⟨BX, 4, none⟩ = some (.slice q.sa q.sn q.sc) ∧ W'.cell? ⟨BX, 5, none⟩ = some (.slice q.ba q.bn q.bc)) ∧ W'.cell? ⟨BY, 0, none⟩ = some (.int .i64 12) ∧ W'.cell? ⟨BY, 1, none⟩ = some (.int .i64 a) ∧ W'.cell? ⟨BY, 2, none⟩ = some (.int .i64 b)) := Lib.hid (fun W' hb => ⟨(X_0.out.below hb).cells6, (Y_0.out.below hb).cells3⟩)
  cases hbl : belowZ a M
  all_goals
    have HBL := Lib.hid hbl
    rw [hbl] at HBa
    clear hbl
    go_region_held3 (fun W => (W.cell? ⟨BX, 0, none⟩ = some (.slice q.ca q.cn q.cc) ∧ W.cell? ⟨BX, 1, none⟩ = some (.int .i64 p.mu) ∧ W.cell? ⟨BX, 2, none⟩ = some (.int .i64 p.on) ∧ W.cell? ⟨BX, 3, none⟩ = some (.int .i64 p.va) ∧ W.cell? ⟨BX, 4, none⟩ = some (.slice q.sa q.sn q.sc) ∧ W.cell? ⟨BX, 5, none⟩ = some (.slice q.ba q.bn q.bc)) ∧ W.cell? ⟨BY, 0, none⟩ = some (.int .i64 12) ∧ W.cell? ⟨BY, 1, none⟩ = some (.int .i64 a) ∧ W.cell? ⟨BY, 2, none⟩ = some (.int .i64 b))
      ((refine HSS.out _ ?_; first | exact HBq.out | exact HBp.out | exact (Below.refl _ _).drew))
      (first
        | (go_at_call 55; refine (numbersOf_any _).mono ?_; rintro e wp ⟨rfl, hbp⟩; have HBp : Hid (Below X.heap.size X wp) := Lib.hid (((Below.refl X.heap.size X).drew).trans (Below.mono hbp (Nat.le_refl _))); clear hbp)
        | (go_at_call 69; refine (HN.out _).mono ?_; rintro e wq ⟨rfl, hbq⟩; have HBq : Hid (Below X.heap.size X wq) := Lib.hid (HBp.out.trans (Below.mono hbq HBp.out.size)); clear hbq)
        | (go_at_call 54; refine (HBa.out _).mono ?_; rintro e wz ⟨rfl, rfl⟩))
    all_goals
      have Y_1 := Lib.hid (Y_0.out.below HBq.out)
      obtain ⟨y0, y1, y2⟩ := Y_1.out.cells3
      first
      | (have hbf := HBL.out
         first
         | (have R := Lib.hid (HZ.out.trans (if_pos HBL.out))
            go_wp2_with fail
            go_ret
            exact ⟨ret_int R.out.symm, B_0.out.trans (Below.mono HBq.out B_0.out.size)⟩)
         | (have R := Lib.hid (HZ.out.trans (if_neg (by rw [HBL.out]; simp)))
            clear hbf
            by_cases hb0 : b < 0
            · have R2 := Lib.hid (R.out.trans (if_pos (.inl hb0)))
              go_wp2_with fail
              go_ret
              exact ⟨ret_int R2.out.symm, B_0.out.trans (Below.mono HBq.out B_0.out.size)⟩
            · by_cases hbl : 0 < b
              · have R2 := Lib.hid (R.out.trans (if_pos (.inr hbl)))
                go_wp2_with fail
                go_ret
                exact ⟨ret_int R2.out.symm, B_0.out.trans (Below.mono HBq.out B_0.out.size)⟩
              · have R2 := Lib.hid (R.out.trans (if_neg (fun h => h.elim hb0 hbl)))
                go_wp2_with fail
                go_ret
                exact ⟨ret_int R2.out.symm, B_0.out.trans (Below.mono HBq.out B_0.out.size)⟩))
set_option maxRecDepth 100000 in
set_option maxHeartbeats 8000000 in
theorem instr_13 (p : Pr) (q : PAt) (ba : Option Addr) (len cap : Nat) (a b : Int) (w : World) (hz : Szs p q) (hlc : len ≤ cap) (hcc : len ≤ 9223372036854775806) (ha : I64 a) (hb : I64 b) :
    Calls Try.prog 45 #[prV p q, .slice ba len cap, insV ⟨13, a, b⟩] w (Says3 w (instrZ p len ⟨13, a, b⟩)) := by
  have HN := Lib.hid (fun W => num_36 p q ba len cap W hlc hcc)
  have HM := Lib.hid (show ∀ M, M = mostZ p 13 len → True from fun _ _ => trivial)
  obtain ⟨M, hM⟩ : ∃ M, M = mostZ p 13 len := ⟨_, rfl⟩
  have HZ : Hid (instrZ p len ⟨13, a, b⟩ = if belowZ a M = false then 3 else if b < 0 ∨ lastZ 13 len < b then 3 else 0) := Lib.hid (by rw [hM]; rfl)
  have hMv : M = _ := hM.trans (show mostZ p 13 len = ((len : Int) + 1) by simp [mostZ, hz.cn, hz.sn, hz.bn])
  rw [← hMv] at HN
  clear hMv hM HM hz
  have X_0 := Lib.hid ((Bx.new w (prC p q) 26).below (below_alloc _ (.cells #[.int .i64 13, .int .i64 a, .int .i64 b] 44)))
  have Y_0 := Lib.hid (Bx.new2 w (.cells (prC p q) 26) #[.int .i64 13, .int .i64 a, .int .i64 b] 44)
  have B_0 := Lib.hid ((below_alloc w (.cells (prC p q) 26)).alloc (by simp) (.cells #[.int .i64 13, .int .i64 a, .int .i64 b] 44))
  unfold I64 at ha hb
  have i0 : ∀ w, (Instr.index 95 tab (.int .i64 13)).run Try.prog w = .ok (fnV 69) w := fun _ => by kernel_rfl
  have HBl := Lib.hid (fun W => below_any 13 14 W)
  rw [show belowZ 13 14 = true from rfl] at HBl
  have HBa := Lib.hid (fun W => below_any a M W)
  go_enter Try.func45, Try.ntmps45
  go_wp2_with fail
  refine (HBl.out _).mono ?_
  rintro e w1 ⟨rfl, rfl⟩
  go_wp2_with fail
  obtain ⟨X, hX⟩ : ∃ x, x = (w.alloc (.cells (prC p q) 26)).alloc (.cells #[.int .i64 13, .int .i64 a, .int .i64 b] 44) := ⟨_, rfl⟩
  obtain ⟨BY, hBY⟩ : ∃ x, x = w.heap.size + 1 := ⟨_, rfl⟩
  obtain ⟨BX, hBX⟩ : ∃ x, x = w.heap.size := ⟨_, rfl⟩
  rw [← hX] at X_0 Y_0 B_0
  unfold prC at hX
  rw [← hX]
  rw [← hBY] at Y_0 ⊢
  rw [← hBX] at X_0 ⊢
  clear hX hBY hBX
  have HSS : Hid (∀ W', Below X.heap.size X W' → (W'.cell? ⟨BX, 0, none⟩ = some (.slice q.ca q.cn q.cc) ∧ W'.cell? ⟨BX, 1, none⟩ = some (.int .i64 p.mu) ∧ W'.cell? ⟨BX, 2, none⟩ = some (.int .i64 p.on) ∧ W'.cell? ⟨BX, 3, none⟩ = some (.int .i64 p.va) ∧ W'.cell? ⟨BX, 4, none⟩ = some (.slice q.sa q.sn q.sc) ∧ W'.cell? ⟨BX, 5, none⟩ = some (.slice q.ba q.bn q.bc)) ∧ W'.cell? ⟨BY, 0, none⟩ = some (.int .i64 13) ∧ W'.cell? ⟨BY, 1, none⟩ = some (.int .i64 a) ∧ W'.cell? ⟨BY, 2, none⟩ = some (.int .i64 b)) := Lib.hid (fun W' hb => ⟨(X_0.out.below hb).cells6, (Y_0.out.below hb).cells3⟩)
  cases hbl : belowZ a M
  all_goals
    have HBL := Lib.hid hbl
    rw [hbl] at HBa
    clear hbl
    go_region_held3 (fun W => (W.cell? ⟨BX, 0, none⟩ = some (.slice q.ca q.cn q.cc) ∧ W.cell? ⟨BX, 1, none⟩ = some (.int .i64 p.mu) ∧ W.cell? ⟨BX, 2, none⟩ = some (.int .i64 p.on) ∧ W.cell? ⟨BX, 3, none⟩ = some (.int .i64 p.va) ∧ W.cell? ⟨BX, 4, none⟩ = some (.slice q.sa q.sn q.sc) ∧ W.cell? ⟨BX, 5, none⟩ = some (.slice q.ba q.bn q.bc)) ∧ W.cell? ⟨BY, 0, none⟩ = some (.int .i64 13) ∧ W.cell? ⟨BY, 1, none⟩ = some (.int .i64 a) ∧ W.cell? ⟨BY, 2, none⟩ = some (.int .i64 b))
      ((refine HSS.out _ ?_; first | exact HBq.out | exact HBp.out | exact (Below.refl _ _).drew))
      (first
        | (go_at_call 55; refine (numbersOf_any _).mono ?_; rintro e wp ⟨rfl, hbp⟩; have HBp : Hid (Below X.heap.size X wp) := Lib.hid (((Below.refl X.heap.size X).drew).trans (Below.mono hbp (Nat.le_refl _))); clear hbp)
        | (go_at_call 69; refine (HN.out _).mono ?_; rintro e wq ⟨rfl, hbq⟩; have HBq : Hid (Below X.heap.size X wq) := Lib.hid (HBp.out.trans (Below.mono hbq HBp.out.size)); clear hbq)
        | (go_at_call 54; refine (HBa.out _).mono ?_; rintro e wz ⟨rfl, rfl⟩))
    all_goals
      have Y_1 := Lib.hid (Y_0.out.below HBq.out)
      obtain ⟨y0, y1, y2⟩ := Y_1.out.cells3
      first
      | (have hbf := HBL.out
         first
         | (have R := Lib.hid (HZ.out.trans (if_pos HBL.out))
            go_wp2_with fail
            go_ret
            exact ⟨ret_int R.out.symm, B_0.out.trans (Below.mono HBq.out B_0.out.size)⟩)
         | (have R := Lib.hid (HZ.out.trans (if_neg (by rw [HBL.out]; simp)))
            clear hbf
            by_cases hb0 : b < 0
            · have R2 := Lib.hid (R.out.trans (if_pos (.inl hb0)))
              go_wp2_with fail
              go_ret
              exact ⟨ret_int R2.out.symm, B_0.out.trans (Below.mono HBq.out B_0.out.size)⟩
            · by_cases hbl : 0 < b
              · have R2 := Lib.hid (R.out.trans (if_pos (.inr hbl)))
                go_wp2_with fail
                go_ret
                exact ⟨ret_int R2.out.symm, B_0.out.trans (Below.mono HBq.out B_0.out.size)⟩
              · have R2 := Lib.hid (R.out.trans (if_neg (fun h => h.elim hb0 hbl)))
                go_wp2_with fail
                go_ret
                exact ⟨ret_int R2.out.symm, B_0.out.trans (Below.mono HBq.out B_0.out.size)⟩))
end Go.Proofs.Ytddkckppmjcclaa
