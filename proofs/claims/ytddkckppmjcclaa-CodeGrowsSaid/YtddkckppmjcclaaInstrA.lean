/- What is wrong with one instruction. -/
import Derived.Test.YtddkckppmjcclaaNum
namespace Go.Proofs.Ytddkckppmjcclaa
open Go.RowKit
set_option linter.unusedSimpArgs false
set_option linter.unusedVariables false
set_option maxRecDepth 100000 in
set_option maxHeartbeats 8000000 in
theorem instr_0 (p : Pr) (q : PAt) (ba : Option Addr) (len cap : Nat) (a b : Int) (w : World) (hz : Szs p q) (hlc : len ≤ cap) (hcc : len ≤ 9223372036854775806) (ha : I64 a) (hb : I64 b) :
    Calls Try.prog 45 #[prV p q, .slice ba len cap, insV ⟨0, a, b⟩] w (Says3 w (instrZ p len ⟨0, a, b⟩)) := by
  have HN := Lib.hid (fun W => num_29 p q ba len cap W hlc hcc)
  have HM := Lib.hid (show ∀ M, M = mostZ p 0 len → True from fun _ _ => trivial)
  obtain ⟨M, hM⟩ : ∃ M, M = mostZ p 0 len := ⟨_, rfl⟩
  have HZ : Hid (instrZ p len ⟨0, a, b⟩ = if belowZ a M = false then 3 else if b < 0 ∨ lastZ 0 len < b then 3 else 0) := Lib.hid (by rw [hM]; rfl)
  have hMv : M = _ := hM.trans (show mostZ p 0 len = 1 by simp [mostZ, hz.cn, hz.sn, hz.bn])
  rw [← hMv] at HN
  clear hMv hM HM hz
  have X_0 := Lib.hid ((Bx.new w (prC p q) 26).below (below_alloc _ (.cells #[.int .i64 0, .int .i64 a, .int .i64 b] 44)))
  have Y_0 := Lib.hid (Bx.new2 w (.cells (prC p q) 26) #[.int .i64 0, .int .i64 a, .int .i64 b] 44)
  have B_0 := Lib.hid ((below_alloc w (.cells (prC p q) 26)).alloc (by simp) (.cells #[.int .i64 0, .int .i64 a, .int .i64 b] 44))
  unfold I64 at ha hb
  have i0 : ∀ w, (Instr.index 95 tab (.int .i64 0)).run Try.prog w = .ok (fnV 62) w := fun _ => by kernel_rfl
  have HBl := Lib.hid (fun W => below_any 0 14 W)
  rw [show belowZ 0 14 = true from rfl] at HBl
  have HBa := Lib.hid (fun W => below_any a M W)
  go_enter Try.func45, Try.ntmps45
  go_wp2_with fail
  refine (HBl.out _).mono ?_
  rintro e w1 ⟨rfl, rfl⟩
  go_wp2_with fail
  obtain ⟨X, hX⟩ : ∃ x, x = (w.alloc (.cells (prC p q) 26)).alloc (.cells #[.int .i64 0, .int .i64 a, .int .i64 b] 44) := ⟨_, rfl⟩
  obtain ⟨BY, hBY⟩ : ∃ x, x = w.heap.size + 1 := ⟨_, rfl⟩
  obtain ⟨BX, hBX⟩ : ∃ x, x = w.heap.size := ⟨_, rfl⟩
  rw [← hX] at X_0 Y_0 B_0
  unfold prC at hX
  rw [← hX]
  rw [← hBY] at Y_0 ⊢
  rw [← hBX] at X_0 ⊢
  clear hX hBY hBX
  have HSS : Hid (∀ W', Below X.heap.size X W' → (W'.cell? ⟨BX, 0, none⟩ = some (.slice q.ca q.cn q.cc) ∧ W'.cell? ⟨BX, 1, none⟩ = some (.int .i64 p.mu) ∧ W'.cell? ⟨BX, 2, none⟩ = some (.int .i64 p.on) ∧ W'.cell? ⟨BX, 3, none⟩ = some (.int .i64 p.va) ∧ W'.cell? ⟨BX, 4, none⟩ = some (.slice q.sa q.sn q.sc) ∧ W'.cell? ⟨BX, 5, none⟩ = some (.slice q.ba q.bn q.bc)) ∧ W'.cell? ⟨BY, 0, none⟩ = some (.int .i64 0) ∧ W'.cell? ⟨BY, 1, none⟩ = some (.int .i64 a) ∧ W'.cell? ⟨BY, 2, none⟩ = some (.int .i64 b)) := Lib.hid (fun W' hb => ⟨(X_0.out.below hb).cells6, (Y_0.out.below hb).cells3⟩)
  cases hbl : belowZ a M
  all_goals
    have HBL := Lib.hid hbl
    rw [hbl] at HBa
    clear hbl
    go_region_held3 (fun W => (W.cell? ⟨BX, 0, none⟩ = some (.slice q.ca q.cn q.cc) ∧ W.cell? ⟨BX, 1, none⟩ = some (.int .i64 p.mu) ∧ W.cell? ⟨BX, 2, none⟩ = some (.int .i64 p.on) ∧ W.cell? ⟨BX, 3, none⟩ = some (.int .i64 p.va) ∧ W.cell? ⟨BX, 4, none⟩ = some (.slice q.sa q.sn q.sc) ∧ W.cell? ⟨BX, 5, none⟩ = some (.slice q.ba q.bn q.bc)) ∧ W.cell? ⟨BY, 0, none⟩ = some (.int .i64 0) ∧ W.cell? ⟨BY, 1, none⟩ = some (.int .i64 a) ∧ W.cell? ⟨BY, 2, none⟩ = some (.int .i64 b))
      ((refine HSS.out _ ?_; first | exact HBq.out | exact HBp.out | exact (Below.refl _ _).drew))
      (first
        | (go_at_call 55; refine (numbersOf_any _).mono ?_; rintro e wp ⟨rfl, hbp⟩; have HBp : Hid (Below X.heap.size X wp) := Lib.hid (((Below.refl X.heap.size X).drew).trans (Below.mono hbp (Nat.le_refl _))); clear hbp)
        | (go_at_call 62; refine (HN.out _).mono ?_; rintro e wq ⟨rfl, hbq⟩; have HBq : Hid (Below X.heap.size X wq) := Lib.hid (HBp.out.trans (Below.mono hbq HBp.out.size)); clear hbq)
        | (go_at_call 54; refine (HBa.out _).mono ?_; rintro e wz ⟨rfl, rfl⟩))
    all_goals
      have Y_1 := Lib.hid (Y_0.out.below HBq.out)
      obtain ⟨y0, y1, y2⟩ := Y_1.out.cells3
      first
      | (have hbf := HBL.out
         first
         | (have R := Lib.hid (HZ.out.trans (if_pos HBL.out))
            go_wp2_with fail
            go_ret
            exact ⟨ret_int R.out.symm, B_0.out.trans (Below.mono HBq.out B_0.out.size)⟩)
         | (have R := Lib.hid (HZ.out.trans (if_neg (by rw [HBL.out]; simp)))
            clear hbf
            by_cases hb0 : b < 0
            · have R2 := Lib.hid (R.out.trans (if_pos (.inl hb0)))
              go_wp2_with fail
              go_ret
              exact ⟨ret_int R2.out.symm, B_0.out.trans (Below.mono HBq.out B_0.out.size)⟩
            · by_cases hbl : 0 < b
              · have R2 := Lib.hid (R.out.trans (if_pos (.inr hbl)))
                go_wp2_with fail
                go_ret
                exact ⟨ret_int R2.out.symm, B_0.out.trans (Below.mono HBq.out B_0.out.size)⟩
              · have R2 := Lib.hid (R.out.trans (if_neg (fun h => h.elim hb0 hbl)))
                go_wp2_with fail
                go_ret
                exact ⟨ret_int R2.out.symm, B_0.out.trans (Below.mono HBq.out B_0.out.size)⟩))
set_option maxRecDepth 100000 in
set_option maxHeartbeats 8000000 in
theorem instr_1 (p : Pr) (q : PAt) (ba : Option Addr) (len cap : Nat) (a b : Int) (w : World) (hz : Szs p q) (hlc : len ≤ cap) (hcc : len ≤ 9223372036854775806) (ha : I64 a) (hb : I64 b) :
    Calls Try.prog 45 #[prV p q, .slice ba len cap, insV ⟨1, a, b⟩] w (Says3 w (instrZ p len ⟨1, a, b⟩)) := by
  have HN := Lib.hid (fun W => num_30 p q ba len cap W hlc hcc)
  have HM := Lib.hid (show ∀ M, M = mostZ p 1 len → True from fun _ _ => trivial)
  obtain ⟨M, hM⟩ : ∃ M, M = mostZ p 1 len := ⟨_, rfl⟩
  have HZ : Hid (instrZ p len ⟨1, a, b⟩ = if belowZ a M = false then 3 else if b < 0 ∨ lastZ 1 len < b then 3 else 0) := Lib.hid (by rw [hM]; rfl)
  have hMv : M = _ := hM.trans (show mostZ p 1 len = q.cn by simp [mostZ, hz.cn, hz.sn, hz.bn])
  rw [← hMv] at HN
  clear hMv hM HM hz
  have X_0 := Lib.hid ((Bx.new w (prC p q) 26).below (below_alloc _ (.cells #[.int .i64 1, .int .i64 a, .int .i64 b] 44)))
  have Y_0 := Lib.hid (Bx.new2 w (.cells (prC p q) 26) #[.int .i64 1, .int .i64 a, .int .i64 b] 44)
  have B_0 := Lib.hid ((below_alloc w (.cells (prC p q) 26)).alloc (by simp) (.cells #[.int .i64 1, .int .i64 a, .int .i64 b] 44))
  unfold I64 at ha hb
  have i0 : ∀ w, (Instr.index 95 tab (.int .i64 1)).run Try.prog w = .ok (fnV 63) w := fun _ => by kernel_rfl
  have HBl := Lib.hid (fun W => below_any 1 14 W)
  rw [show belowZ 1 14 = true from rfl] at HBl
  have HBa := Lib.hid (fun W => below_any a M W)
  go_enter Try.func45, Try.ntmps45
  go_wp2_with fail
  refine (HBl.out _).mono ?_
  rintro e w1 ⟨rfl, rfl⟩
  go_wp2_with fail
  obtain ⟨X, hX⟩ : ∃ x, x = (w.alloc (.cells (prC p q) 26)).alloc (.cells #[.int .i64 1, .int .i64 a, .int .i64 b] 44) := ⟨_, rfl⟩
  obtain ⟨BY, hBY⟩ : ∃ x, x = w.heap.size + 1 := ⟨_, rfl⟩
  obtain ⟨BX, hBX⟩ : ∃ x, x = w.heap.size := ⟨_, rfl⟩
  rw [← hX] at X_0 Y_0 B_0
  unfold prC at hX
  rw [← hX]
  rw [← hBY] at Y_0 ⊢
  rw [← hBX] at X_0 ⊢
  clear hX hBY hBX
  have HSS : Hid (∀ W', Below X.heap.size X W' → (W'.cell? ⟨BX, 0, none⟩ = some (.slice q.ca q.cn q.cc) ∧ W'.cell? ⟨BX, 1, none⟩ = some (.int .i64 p.mu) ∧ W'.cell? ⟨BX, 2, none⟩ = some (.int .i64 p.on) ∧ W'.cell? ⟨BX, 3, none⟩ = some (.int .i64 p.va) ∧ W'.cell? ⟨BX, 4, none⟩ = some (.slice q.sa q.sn q.sc) ∧ W'.cell? ⟨BX, 5, none⟩ = some (.slice q.ba q.bn q.bc)) ∧ W'.cell? ⟨BY, 0, none⟩ = some (.int .i64 1) ∧ W'.cell? ⟨BY, 1, none⟩ = some (.int .i64 a) ∧ W'.cell? ⟨BY, 2, none⟩ = some (.int .i64 b)) := Lib.hid (fun W' hb => ⟨(X_0.out.below hb).cells6, (Y_0.out.below hb).cells3⟩)
  cases hbl : belowZ a M
  all_goals
    have HBL := Lib.hid hbl
    rw [hbl] at HBa
    clear hbl
    go_region_held3 (fun W => (W.cell? ⟨BX, 0, none⟩ = some (.slice q.ca q.cn q.cc) ∧ W.cell? ⟨BX, 1, none⟩ = some (.int .i64 p.mu) ∧ W.cell? ⟨BX, 2, none⟩ = some (.int .i64 p.on) ∧ W.cell? ⟨BX, 3, none⟩ = some (.int .i64 p.va) ∧ W.cell? ⟨BX, 4, none⟩ = some (.slice q.sa q.sn q.sc) ∧ W.cell? ⟨BX, 5, none⟩ = some (.slice q.ba q.bn q.bc)) ∧ W.cell? ⟨BY, 0, none⟩ = some (.int .i64 1) ∧ W.cell? ⟨BY, 1, none⟩ = some (.int .i64 a) ∧ W.cell? ⟨BY, 2, none⟩ = some (.int .i64 b))
      ((refine HSS.out _ ?_; first | exact HBq.out | exact HBp.out | exact (Below.refl _ _).drew))
      (first
        | (go_at_call 55; refine (numbersOf_any _).mono ?_; rintro e wp ⟨rfl, hbp⟩; have HBp : Hid (Below X.heap.size X wp) := Lib.hid (((Below.refl X.heap.size X).drew).trans (Below.mono hbp (Nat.le_refl _))); clear hbp)
        | (go_at_call 63; refine (HN.out _).mono ?_; rintro e wq ⟨rfl, hbq⟩; have HBq : Hid (Below X.heap.size X wq) := Lib.hid (HBp.out.trans (Below.mono hbq HBp.out.size)); clear hbq)
        | (go_at_call 54; refine (HBa.out _).mono ?_; rintro e wz ⟨rfl, rfl⟩))
    all_goals
      have Y_1 := Lib.hid (Y_0.out.below HBq.out)
      obtain ⟨y0, y1, y2⟩ := Y_1.out.cells3
      first
      | (have hbf := HBL.out
         first
         | (have R := Lib.hid (HZ.out.trans (if_pos HBL.out))
            go_wp2_with fail
            go_ret
            exact ⟨ret_int R.out.symm, B_0.out.trans (Below.mono HBq.out B_0.out.size)⟩)
         | (have R := Lib.hid (HZ.out.trans (if_neg (by rw [HBL.out]; simp)))
            clear hbf
            by_cases hb0 : b < 0
            · have R2 := Lib.hid (R.out.trans (if_pos (.inl hb0)))
              go_wp2_with fail
              go_ret
              exact ⟨ret_int R2.out.symm, B_0.out.trans (Below.mono HBq.out B_0.out.size)⟩
            · by_cases hbl : 0 < b
              · have R2 := Lib.hid (R.out.trans (if_pos (.inr hbl)))
                go_wp2_with fail
                go_ret
                exact ⟨ret_int R2.out.symm, B_0.out.trans (Below.mono HBq.out B_0.out.size)⟩
              · have R2 := Lib.hid (R.out.trans (if_neg (fun h => h.elim hb0 hbl)))
                go_wp2_with fail
                go_ret
                exact ⟨ret_int R2.out.symm, B_0.out.trans (Below.mono HBq.out B_0.out.size)⟩))
set_option maxRecDepth 100000 in
set_option maxHeartbeats 8000000 in
theorem instr_2 (p : Pr) (q : PAt) (ba : Option Addr) (len cap : Nat) (a b : Int) (w : World) (hz : Szs p q) (hlc : len ≤ cap) (hcc : len ≤ 9223372036854775806) (ha : I64 a) (hb : I64 b) :
    Calls Try.prog 45 #[prV p q, .slice ba len cap, insV ⟨2, a, b⟩] w (Says3 w (instrZ p len ⟨2, a, b⟩)) := by
  have HN := Lib.hid (fun W => num_30 p q ba len cap W hlc hcc)
  have HM := Lib.hid (show ∀ M, M = mostZ p 2 len → True from fun _ _ => trivial)
  obtain ⟨M, hM⟩ : ∃ M, M = mostZ p 2 len := ⟨_, rfl⟩
  have HZ : Hid (instrZ p len ⟨2, a, b⟩ = if belowZ a M = false then 3 else if b < 0 ∨ lastZ 2 len < b then 3 else 0) := Lib.hid (by rw [hM]; rfl)
  have hMv : M = _ := hM.trans (show mostZ p 2 len = q.cn by simp [mostZ, hz.cn, hz.sn, hz.bn])
  rw [← hMv] at HN
  clear hMv hM HM hz
  have X_0 := Lib.hid ((Bx.new w (prC p q) 26).below (below_alloc _ (.cells #[.int .i64 2, .int .i64 a, .int .i64 b] 44)))
  have Y_0 := Lib.hid (Bx.new2 w (.cells (prC p q) 26) #[.int .i64 2, .int .i64 a, .int .i64 b] 44)
  have B_0 := Lib.hid ((below_alloc w (.cells (prC p q) 26)).alloc (by simp) (.cells #[.int .i64 2, .int .i64 a, .int .i64 b] 44))
  unfold I64 at ha hb
  have i0 : ∀ w, (Instr.index 95 tab (.int .i64 2)).run Try.prog w = .ok (fnV 63) w := fun _ => by kernel_rfl
  have HBl := Lib.hid (fun W => below_any 2 14 W)
  rw [show belowZ 2 14 = true from rfl] at HBl
  have HBa := Lib.hid (fun W => below_any a M W)
  go_enter Try.func45, Try.ntmps45
  go_wp2_with fail
  refine (HBl.out _).mono ?_
  rintro e w1 ⟨rfl, rfl⟩
  go_wp2_with fail
  obtain ⟨X, hX⟩ : ∃ x, x = (w.alloc (.cells (prC p q) 26)).alloc (.cells #[.int .i64 2, .int .i64 a, .int .i64 b] 44) := ⟨_, rfl⟩
  obtain ⟨BY, hBY⟩ : ∃ x, x = w.heap.size + 1 := ⟨_, rfl⟩
  obtain ⟨BX, hBX⟩ : ∃ x, x = w.heap.size := ⟨_, rfl⟩
  rw [← hX] at X_0 Y_0 B_0
  unfold prC at hX
  rw [← hX]
  rw [← hBY] at Y_0 ⊢
  rw [← hBX] at X_0 ⊢
  clear hX hBY hBX
  have HSS : Hid (∀ W', Below X.heap.size X W' → (W'.cell? ⟨BX, 0, none⟩ = some (.slice q.ca q.cn q.cc) ∧ W'.cell? ⟨BX, 1, none⟩ = some (.int .i64 p.mu) ∧ W'.cell? ⟨BX, 2, none⟩ = some (.int .i64 p.on) ∧ W'.cell? ⟨BX, 3, none⟩ = some (.int .i64 p.va) ∧ W'.cell? ⟨BX, 4, none⟩ = some (.slice q.sa q.sn q.sc) ∧ W'.cell? ⟨BX, 5, none⟩ = some (.slice q.ba q.bn q.bc)) ∧ W'.cell? ⟨BY, 0, none⟩ = some (.int .i64 2) ∧ W'.cell? ⟨BY, 1, none⟩ = some (.int .i64 a) ∧ W'.cell? ⟨BY, 2, none⟩ = some (.int .i64 b)) := Lib.hid (fun W' hb => ⟨(X_0.out.below hb).cells6, (Y_0.out.below hb).cells3⟩)
  cases hbl : belowZ a M
  all_goals
    have HBL := Lib.hid hbl
    rw [hbl] at HBa
    clear hbl
    go_region_held3 (fun W => (W.cell? ⟨BX, 0, none⟩ = some (.slice q.ca q.cn q.cc) ∧ W.cell? ⟨BX, 1, none⟩ = some (.int .i64 p.mu) ∧ W.cell? ⟨BX, 2, none⟩ = some (.int .i64 p.on) ∧ W.cell? ⟨BX, 3, none⟩ = some (.int .i64 p.va) ∧ W.cell? ⟨BX, 4, none⟩ = some (.slice q.sa q.sn q.sc) ∧ W.cell? ⟨BX, 5, none⟩ = some (.slice q.ba q.bn q.bc)) ∧ W.cell? ⟨BY, 0, none⟩ = some (.int .i64 2) ∧ W.cell? ⟨BY, 1, none⟩ = some (.int .i64 a) ∧ W.cell? ⟨BY, 2, none⟩ = some (.int .i64 b))
      ((refine HSS.out _ ?_; first | exact HBq.out | exact HBp.out | exact (Below.refl _ _).drew))
      (first
        | (go_at_call 55; refine (numbersOf_any _).mono ?_; rintro e wp ⟨rfl, hbp⟩; have HBp : Hid (Below X.heap.size X wp) := Lib.hid (((Below.refl X.heap.size X).drew).trans (Below.mono hbp (Nat.le_refl _))); clear hbp)
        | (go_at_call 63; refine (HN.out _).mono ?_; rintro e wq ⟨rfl, hbq⟩; have HBq : Hid (Below X.heap.size X wq) := Lib.hid (HBp.out.trans (Below.mono hbq HBp.out.size)); clear hbq)
        | (go_at_call 54; refine (HBa.out _).mono ?_; rintro e wz ⟨rfl, rfl⟩))
    all_goals
      have Y_1 := Lib.hid (Y_0.out.below HBq.out)
      obtain ⟨y0, y1, y2⟩ := Y_1.out.cells3
      first
      | (have hbf := HBL.out
         first
         | (have R := Lib.hid (HZ.out.trans (if_pos HBL.out))
            go_wp2_with fail
            go_ret
            exact ⟨ret_int R.out.symm, B_0.out.trans (Below.mono HBq.out B_0.out.size)⟩)
         | (have R := Lib.hid (HZ.out.trans (if_neg (by rw [HBL.out]; simp)))
            clear hbf
            by_cases hb0 : b < 0
            · have R2 := Lib.hid (R.out.trans (if_pos (.inl hb0)))
              go_wp2_with fail
              go_ret
              exact ⟨ret_int R2.out.symm, B_0.out.trans (Below.mono HBq.out B_0.out.size)⟩
            · by_cases hbl : 0 < b
              · have R2 := Lib.hid (R.out.trans (if_pos (.inr hbl)))
                go_wp2_with fail
                go_ret
                exact ⟨ret_int R2.out.symm, B_0.out.trans (Below.mono HBq.out B_0.out.size)⟩
              · have R2 := Lib.hid (R.out.trans (if_neg (fun h => h.elim hb0 hbl)))
                go_wp2_with fail
                go_ret
                exact ⟨ret_int R2.out.symm, B_0.out.trans (Below.mono HBq.out B_0.out.size)⟩))
set_option maxRecDepth 100000 in
set_option maxHeartbeats 8000000 in
theorem instr_3 (p : Pr) (q : PAt) (ba : Option Addr) (len cap : Nat) (a b : Int) (w : World) (hz : Szs p q) (hlc : len ≤ cap) (hcc : len ≤ 9223372036854775806) (ha : I64 a) (hb : I64 b) :
    Calls Try.prog 45 #[prV p q, .slice ba len cap, insV ⟨3, a, b⟩] w (Says3 w (instrZ p len ⟨3, a, b⟩)) := by
  have HN := Lib.hid (fun W => num_30 p q ba len cap W hlc hcc)
  have HM := Lib.hid (show ∀ M, M = mostZ p 3 len → True from fun _ _ => trivial)
  obtain ⟨M, hM⟩ : ∃ M, M = mostZ p 3 len := ⟨_, rfl⟩
  have HZ : Hid (instrZ p len ⟨3, a, b⟩ = if belowZ a M = false then 3 else if b < 0 ∨ lastZ 3 len < b then 3 else 0) := Lib.hid (by rw [hM]; rfl)
  have hMv : M = _ := hM.trans (show mostZ p 3 len = q.cn by simp [mostZ, hz.cn, hz.sn, hz.bn])
  rw [← hMv] at HN
  clear hMv hM HM hz
  have X_0 := Lib.hid ((Bx.new w (prC p q) 26).below (below_alloc _ (.cells #[.int .i64 3, .int .i64 a, .int .i64 b] 44)))
  have Y_0 := Lib.hid (Bx.new2 w (.cells (prC p q) 26) #[.int .i64 3, .int .i64 a, .int .i64 b] 44)
  have B_0 := Lib.hid ((below_alloc w (.cells (prC p q) 26)).alloc (by simp) (.cells #[.int .i64 3, .int .i64 a, .int .i64 b] 44))
  unfold I64 at ha hb
  have i0 : ∀ w, (Instr.index 95 tab (.int .i64 3)).run Try.prog w = .ok (fnV 63) w := fun _ => by kernel_rfl
  have HBl := Lib.hid (fun W => below_any 3 14 W)
  rw [show belowZ 3 14 = true from rfl] at HBl
  have HBa := Lib.hid (fun W => below_any a M W)
  go_enter Try.func45, Try.ntmps45
  go_wp2_with fail
  refine (HBl.out _).mono ?_
  rintro e w1 ⟨rfl, rfl⟩
  go_wp2_with fail
  obtain ⟨X, hX⟩ : ∃ x, x = (w.alloc (.cells (prC p q) 26)).alloc (.cells #[.int .i64 3, .int .i64 a, .int .i64 b] 44) := ⟨_, rfl⟩
  obtain ⟨BY, hBY⟩ : ∃ x, x = w.heap.size + 1 := ⟨_, rfl⟩
  obtain ⟨BX, hBX⟩ : ∃ x, x = w.heap.size := ⟨_, rfl⟩
  rw [← hX] at X_0 Y_0 B_0
  unfold prC at hX
  rw [← hX]
  rw [← hBY] at Y_0 ⊢
  rw [← hBX] at X_0 ⊢
  clear hX hBY hBX
  have HSS : Hid (∀ W', Below X.heap.size X W' → (W'.cell? ⟨BX, 0, none⟩ = some (.slice q.ca q.cn q.cc) ∧ W'.cell? ⟨BX, 1, none⟩ = some (.int .i64 p.mu) ∧ W'.cell? ⟨BX, 2, none⟩ = some (.int .i64 p.on) ∧ W'.cell? ⟨BX, 3, none⟩ = some (.int .i64 p.va) ∧ W'.cell? ⟨BX, 4, none⟩ = some (.slice q.sa q.sn q.sc) ∧ W'.cell? ⟨BX, 5, none⟩ = some (.slice q.ba q.bn q.bc)) ∧ W'.cell? ⟨BY, 0, none⟩ = some (.int .i64 3) ∧ W'.cell? ⟨BY, 1, none⟩ = some (.int .i64 a) ∧ W'.cell? ⟨BY, 2, none⟩ = some (.int .i64 b)) := Lib.hid (fun W' hb => ⟨(X_0.out.below hb).cells6, (Y_0.out.below hb).cells3⟩)
  cases hbl : belowZ a M
  all_goals
    have HBL := Lib.hid hbl
    rw [hbl] at HBa
    clear hbl
    go_region_held3 (fun W => (W.cell? ⟨BX, 0, none⟩ = some (.slice q.ca q.cn q.cc) ∧ W.cell? ⟨BX, 1, none⟩ = some (.int .i64 p.mu) ∧ W.cell? ⟨BX, 2, none⟩ = some (.int .i64 p.on) ∧ W.cell? ⟨BX, 3, none⟩ = some (.int .i64 p.va) ∧ W.cell? ⟨BX, 4, none⟩ = some (.slice q.sa q.sn q.sc) ∧ W.cell? ⟨BX, 5, none⟩ = some (.slice q.ba q.bn q.bc)) ∧ W.cell? ⟨BY, 0, none⟩ = some (.int .i64 3) ∧ W.cell? ⟨BY, 1, none⟩ = some (.int .i64 a) ∧ W.cell? ⟨BY, 2, none⟩ = some (.int .i64 b))
      ((refine HSS.out _ ?_; first | exact HBq.out | exact HBp.out | exact (Below.refl _ _).drew))
      (first
        | (go_at_call 55; refine (numbersOf_any _).mono ?_; rintro e wp ⟨rfl, hbp⟩; have HBp : Hid (Below X.heap.size X wp) := Lib.hid (((Below.refl X.heap.size X).drew).trans (Below.mono hbp (Nat.le_refl _))); clear hbp)
        | (go_at_call 63; refine (HN.out _).mono ?_; rintro e wq ⟨rfl, hbq⟩; have HBq : Hid (Below X.heap.size X wq) := Lib.hid (HBp.out.trans (Below.mono hbq HBp.out.size)); clear hbq)
        | (go_at_call 54; refine (HBa.out _).mono ?_; rintro e wz ⟨rfl, rfl⟩))
    all_goals
      have Y_1 := Lib.hid (Y_0.out.below HBq.out)
      obtain ⟨y0, y1, y2⟩ := Y_1.out.cells3
      first
      | (have hbf := HBL.out
         first
         | (have R := Lib.hid (HZ.out.trans (if_pos HBL.out))
            go_wp2_with fail
            go_ret
            exact ⟨ret_int R.out.symm, B_0.out.trans (Below.mono HBq.out B_0.out.size)⟩)
         | (have R := Lib.hid (HZ.out.trans (if_neg (by rw [HBL.out]; simp)))
            clear hbf
            by_cases hb0 : b < 0
            · have R2 := Lib.hid (R.out.trans (if_pos (.inl hb0)))
              go_wp2_with fail
              go_ret
              exact ⟨ret_int R2.out.symm, B_0.out.trans (Below.mono HBq.out B_0.out.size)⟩
            · by_cases hbl : 0 < b
              · have R2 := Lib.hid (R.out.trans (if_pos (.inr hbl)))
                go_wp2_with fail
                go_ret
                exact ⟨ret_int R2.out.symm, B_0.out.trans (Below.mono HBq.out B_0.out.size)⟩
              · have R2 := Lib.hid (R.out.trans (if_neg (fun h => h.elim hb0 hbl)))
                go_wp2_with fail
                go_ret
                exact ⟨ret_int R2.out.symm, B_0.out.trans (Below.mono HBq.out B_0.out.size)⟩))
set_option maxRecDepth 100000 in
set_option maxHeartbeats 8000000 in
theorem instr_4 (p : Pr) (q : PAt) (ba : Option Addr) (len cap : Nat) (a b : Int) (w : World) (hz : Szs p q) (hlc : len ≤ cap) (hcc : len ≤ 9223372036854775806) (ha : I64 a) (hb : I64 b) :
    Calls Try.prog 45 #[prV p q, .slice ba len cap, insV ⟨4, a, b⟩] w (Says3 w (instrZ p len ⟨4, a, b⟩)) := by
  have HN := Lib.hid (fun W => num_31 p q ba len cap W hlc hcc)
  have HM := Lib.hid (show ∀ M, M = mostZ p 4 len → True from fun _ _ => trivial)
  obtain ⟨M, hM⟩ : ∃ M, M = mostZ p 4 len := ⟨_, rfl⟩
  have HZ : Hid (instrZ p len ⟨4, a, b⟩ = if belowZ a M = false then 3 else if b < 0 ∨ lastZ 4 len < b then 3 else 0) := Lib.hid (by rw [hM]; rfl)
  have hMv : M = _ := hM.trans (show mostZ p 4 len = q.sn by simp [mostZ, hz.cn, hz.sn, hz.bn])
  rw [← hMv] at HN
  clear hMv hM HM hz
  have X_0 := Lib.hid ((Bx.new w (prC p q) 26).below (below_alloc _ (.cells #[.int .i64 4, .int .i64 a, .int .i64 b] 44)))
  have Y_0 := Lib.hid (Bx.new2 w (.cells (prC p q) 26) #[.int .i64 4, .int .i64 a, .int .i64 b] 44)
  have B_0 := Lib.hid ((below_alloc w (.cells (prC p q) 26)).alloc (by simp) (.cells #[.int .i64 4, .int .i64 a, .int .i64 b] 44))
  unfold I64 at ha hb
  have i0 : ∀ w, (Instr.index 95 tab (.int .i64 4)).run Try.prog w = .ok (fnV 64) w := fun _ => by kernel_rfl
  have HBl := Lib.hid (fun W => below_any 4 14 W)
  rw [show belowZ 4 14 = true from rfl] at HBl
  have HBa := Lib.hid (fun W => below_any a M W)
  go_enter Try.func45, Try.ntmps45
  go_wp2_with fail
  refine (HBl.out _).mono ?_
  rintro e w1 ⟨rfl, rfl⟩
  go_wp2_with fail
  obtain ⟨X, hX⟩ : ∃ x, x = (w.alloc (.cells (prC p q) 26)).alloc (.cells #[.int .i64 4, .int .i64 a, .int .i64 b] 44) := ⟨_, rfl⟩
  obtain ⟨BY, hBY⟩ : ∃ x, x = w.heap.size + 1 := ⟨_, rfl⟩
  obtain ⟨BX, hBX⟩ : ∃ x, x = w.heap.size := ⟨_, rfl⟩
  rw [← hX] at X_0 Y_0 B_0
  unfold prC at hX
  rw [← hX]
  rw [← hBY] at Y_0 ⊢
  rw [← hBX] at X_0 ⊢
  clear hX hBY hBX
  have HSS : Hid (∀ W', Below X.heap.size X W' → (W'.cell? ⟨BX, 0, none⟩ = some (.slice q.ca q.cn q.cc) ∧ W'.cell? ⟨BX, 1, none⟩ = some (.int .i64 p.mu) ∧ W'.cell? ⟨BX, 2, none⟩ = some (.int .i64 p.on) ∧ W'.cell? ⟨BX, 3, none⟩ = some (.int .i64 p.va) ∧ W'.cell? ⟨BX, 4, none⟩ = some (.slice q.sa q.sn q.sc) ∧ W'.cell? ⟨BX, 5, none⟩ = some (.slice q.ba q.bn q.bc)) ∧ W'.cell? ⟨BY, 0, none⟩ = some (.int .i64 4) ∧ W'.cell? ⟨BY, 1, none⟩ = some (.int .i64 a) ∧ W'.cell? ⟨BY, 2, none⟩ = some (.int .i64 b)) := Lib.hid (fun W' hb => ⟨(X_0.out.below hb).cells6, (Y_0.out.below hb).cells3⟩)
  cases hbl : belowZ a M
  all_goals
    have HBL := Lib.hid hbl
    rw [hbl] at HBa
    clear hbl
    go_region_held3 (fun W => (W.cell? ⟨BX, 0, none⟩ = some (.slice q.ca q.cn q.cc) ∧ W.cell? ⟨BX, 1, none⟩ = some (.int .i64 p.mu) ∧ W.cell? ⟨BX, 2, none⟩ = some (.int .i64 p.on) ∧ W.cell? ⟨BX, 3, none⟩ = some (.int .i64 p.va) ∧ W.cell? ⟨BX, 4, none⟩ = some (.slice q.sa q.sn q.sc) ∧ W.cell? ⟨BX, 5, none⟩ = some (.slice q.ba q.bn q.bc)) ∧ W.cell? ⟨BY, 0, none⟩ = some (.int .i64 4) ∧ W.cell? ⟨BY, 1, none⟩ = some (.int .i64 a) ∧ W.cell? ⟨BY, 2, none⟩ = some (.int .i64 b))
      ((refine HSS.out _ ?_; first | exact HBq.out | exact HBp.out | exact (Below.refl _ _).drew))
      (first
        | (go_at_call 55; refine (numbersOf_any _).mono ?_; rintro e wp ⟨rfl, hbp⟩; have HBp : Hid (Below X.heap.size X wp) := Lib.hid (((Below.refl X.heap.size X).drew).trans (Below.mono hbp (Nat.le_refl _))); clear hbp)
        | (go_at_call 64; refine (HN.out _).mono ?_; rintro e wq ⟨rfl, hbq⟩; have HBq : Hid (Below X.heap.size X wq) := Lib.hid (HBp.out.trans (Below.mono hbq HBp.out.size)); clear hbq)
        | (go_at_call 54; refine (HBa.out _).mono ?_; rintro e wz ⟨rfl, rfl⟩))
    all_goals
      have Y_1 := Lib.hid (Y_0.out.below HBq.out)
      obtain ⟨y0, y1, y2⟩ := Y_1.out.cells3
      first
      | (have hbf := HBL.out
         first
         | (have R := Lib.hid (HZ.out.trans (if_pos HBL.out))
            go_wp2_with fail
            go_ret
            exact ⟨ret_int R.out.symm, B_0.out.trans (Below.mono HBq.out B_0.out.size)⟩)
         | (have R := Lib.hid (HZ.out.trans (if_neg (by rw [HBL.out]; simp)))
            clear hbf
            by_cases hb0 : b < 0
            · have R2 := Lib.hid (R.out.trans (if_pos (.inl hb0)))
              go_wp2_with fail
              go_ret
              exact ⟨ret_int R2.out.symm, B_0.out.trans (Below.mono HBq.out B_0.out.size)⟩
            · by_cases hbl : 0 < b
              · have R2 := Lib.hid (R.out.trans (if_pos (.inr hbl)))
                go_wp2_with fail
                go_ret
                exact ⟨ret_int R2.out.symm, B_0.out.trans (Below.mono HBq.out B_0.out.size)⟩
              · have R2 := Lib.hid (R.out.trans (if_neg (fun h => h.elim hb0 hbl)))
                go_wp2_with fail
                go_ret
                exact ⟨ret_int R2.out.symm, B_0.out.trans (Below.mono HBq.out B_0.out.size)⟩))
set_option maxRecDepth 100000 in
set_option maxHeartbeats 8000000 in
theorem instr_5 (p : Pr) (q : PAt) (ba : Option Addr) (len cap : Nat) (a b : Int) (w : World) (hz : Szs p q) (hlc : len ≤ cap) (hcc : len ≤ 9223372036854775806) (ha : I64 a) (hb : I64 b) :
    Calls Try.prog 45 #[prV p q, .slice ba len cap, insV ⟨5, a, b⟩] w (Says3 w (instrZ p len ⟨5, a, b⟩)) := by
  have HN := Lib.hid (fun W => num_32 p q ba len cap W hlc hcc)
  have HM := Lib.hid (show ∀ M, M = mostZ p 5 len → True from fun _ _ => trivial)
  obtain ⟨M, hM⟩ : ∃ M, M = mostZ p 5 len := ⟨_, rfl⟩
  have HZ : Hid (instrZ p len ⟨5, a, b⟩ = if belowZ a M = false then 3 else if b < 0 ∨ lastZ 5 len < b then 3 else 0) := Lib.hid (by rw [hM]; rfl)
  have hMv : M = _ := hM.trans (show mostZ p 5 len = p.mu by simp [mostZ, hz.cn, hz.sn, hz.bn])
  rw [← hMv] at HN
  clear hMv hM HM hz
  have X_0 := Lib.hid ((Bx.new w (prC p q) 26).below (below_alloc _ (.cells #[.int .i64 5, .int .i64 a, .int .i64 b] 44)))
  have Y_0 := Lib.hid (Bx.new2 w (.cells (prC p q) 26) #[.int .i64 5, .int .i64 a, .int .i64 b] 44)
  have B_0 := Lib.hid ((below_alloc w (.cells (prC p q) 26)).alloc (by simp) (.cells #[.int .i64 5, .int .i64 a, .int .i64 b] 44))
  unfold I64 at ha hb
  have i0 : ∀ w, (Instr.index 95 tab (.int .i64 5)).run Try.prog w = .ok (fnV 65) w := fun _ => by kernel_rfl
  have HBl := Lib.hid (fun W => below_any 5 14 W)
  rw [show belowZ 5 14 = true from rfl] at HBl
  have HBa := Lib.hid (fun W => below_any a M W)
  go_enter Try.func45, Try.ntmps45
  go_wp2_with fail
  refine (HBl.out _).mono ?_
  rintro e w1 ⟨rfl, rfl⟩
  go_wp2_with fail
  obtain ⟨X, hX⟩ : ∃ x, x = (w.alloc (.cells (prC p q) 26)).alloc (.cells #[.int .i64 5, .int .i64 a, .int .i64 b] 44) := ⟨_, rfl⟩
  obtain ⟨BY, hBY⟩ : ∃ x, x = w.heap.size + 1 := ⟨_, rfl⟩
  obtain ⟨BX, hBX⟩ : ∃ x, x = w.heap.size := ⟨_, rfl⟩
  rw [← hX] at X_0 Y_0 B_0
  unfold prC at hX
  rw [← hX]
  rw [← hBY] at Y_0 ⊢
  rw [← hBX] at X_0 ⊢
  clear hX hBY hBX
  have HSS : Hid (∀ W', Below X.heap.size X W' → (W'.cell? ⟨BX, 0, none⟩ = some (.slice q.ca q.cn q.cc) ∧ W'.cell? ⟨BX, 1, none⟩ = some (.int .i64 p.mu) ∧ W'.cell? ⟨BX, 2, none⟩ = some (.int .i64 p.on) ∧ W'.cell? ⟨BX, 3, none⟩ = some (.int .i64 p.va) ∧ W'.cell? ⟨BX, 4, none⟩ = some (.slice q.sa q.sn q.sc) ∧ W'.cell? ⟨BX, 5, none⟩ = some (.slice q.ba q.bn q.bc)) ∧ W'.cell? ⟨BY, 0, none⟩ = some (.int .i64 5) ∧ W'.cell? ⟨BY, 1, none⟩ = some (.int .i64 a) ∧ W'.cell? ⟨BY, 2, none⟩ = some (.int .i64 b)) := Lib.hid (fun W' hb => ⟨(X_0.out.below hb).cells6, (Y_0.out.below hb).cells3⟩)
  cases hbl : belowZ a M
  all_goals
    have HBL := Lib.hid hbl
    rw [hbl] at HBa
    clear hbl
    go_region_held3 (fun W => (W.cell? ⟨BX, 0, none⟩ = some (.slice q.ca q.cn q.cc) ∧ W.cell? ⟨BX, 1, none⟩ = some (.int .i64 p.mu) ∧ W.cell? ⟨BX, 2, none⟩ = some (.int .i64 p.on) ∧ W.cell? ⟨BX, 3, none⟩ = some (.int .i64 p.va) ∧ W.cell? ⟨BX, 4, none⟩ = some (.slice q.sa q.sn q.sc) ∧ W.cell? ⟨BX, 5, none⟩ = some (.slice q.ba q.bn q.bc)) ∧ W.cell? ⟨BY, 0, none⟩ = some (.int .i64 5) ∧ W.cell? ⟨BY, 1, none⟩ = some (.int .i64 a) ∧ W.cell? ⟨BY, 2, none⟩ = some (.int .i64 b))
      ((refine HSS.out _ ?_; first | exact HBq.out | exact HBp.out | exact (Below.refl _ _).drew))
      (first
        | (go_at_call 55; refine (numbersOf_any _).mono ?_; rintro e wp ⟨rfl, hbp⟩; have HBp : Hid (Below X.heap.size X wp) := Lib.hid (((Below.refl X.heap.size X).drew).trans (Below.mono hbp (Nat.le_refl _))); clear hbp)
        | (go_at_call 65; refine (HN.out _).mono ?_; rintro e wq ⟨rfl, hbq⟩; have HBq : Hid (Below X.heap.size X wq) := Lib.hid (HBp.out.trans (Below.mono hbq HBp.out.size)); clear hbq)
        | (go_at_call 54; refine (HBa.out _).mono ?_; rintro e wz ⟨rfl, rfl⟩))
    all_goals
      have Y_1 := Lib.hid (Y_0.out.below HBq.out)
      obtain ⟨y0, y1, y2⟩ := Y_1.out.cells3
      first
      | (have hbf := HBL.out
         first
         | (have R := Lib.hid (HZ.out.trans (if_pos HBL.out))
            go_wp2_with fail
            go_ret
            exact ⟨ret_int R.out.symm, B_0.out.trans (Below.mono HBq.out B_0.out.size)⟩)
         | (have R := Lib.hid (HZ.out.trans (if_neg (by rw [HBL.out]; simp)))
            clear hbf
            by_cases hb0 : b < 0
            · have R2 := Lib.hid (R.out.trans (if_pos (.inl hb0)))
              go_wp2_with fail
              go_ret
              exact ⟨ret_int R2.out.symm, B_0.out.trans (Below.mono HBq.out B_0.out.size)⟩
            · by_cases hbl : 0 < b
              · have R2 := Lib.hid (R.out.trans (if_pos (.inr hbl)))
                go_wp2_with fail
                go_ret
                exact ⟨ret_int R2.out.symm, B_0.out.trans (Below.mono HBq.out B_0.out.size)⟩
              · have R2 := Lib.hid (R.out.trans (if_neg (fun h => h.elim hb0 hbl)))
                go_wp2_with fail
                go_ret
                exact ⟨ret_int R2.out.symm, B_0.out.trans (Below.mono HBq.out B_0.out.size)⟩))
set_option maxRecDepth 100000 in
set_option maxHeartbeats 8000000 in
theorem instr_6 (p : Pr) (q : PAt) (ba : Option Addr) (len cap : Nat) (a b : Int) (w : World) (hz : Szs p q) (hlc : len ≤ cap) (hcc : len ≤ 9223372036854775806) (ha : I64 a) (hb : I64 b) :
    Calls Try.prog 45 #[prV p q, .slice ba len cap, insV ⟨6, a, b⟩] w (Says3 w (instrZ p len ⟨6, a, b⟩)) := by
  have HN := Lib.hid (fun W => num_32 p q ba len cap W hlc hcc)
  have HM := Lib.hid (show ∀ M, M = mostZ p 6 len → True from fun _ _ => trivial)
  obtain ⟨M, hM⟩ : ∃ M, M = mostZ p 6 len := ⟨_, rfl⟩
  have HZ : Hid (instrZ p len ⟨6, a, b⟩ = if belowZ a M = false then 3 else if b < 0 ∨ lastZ 6 len < b then 3 else 0) := Lib.hid (by rw [hM]; rfl)
  have hMv : M = _ := hM.trans (show mostZ p 6 len = p.mu by simp [mostZ, hz.cn, hz.sn, hz.bn])
  rw [← hMv] at HN
  clear hMv hM HM hz
  have X_0 := Lib.hid ((Bx.new w (prC p q) 26).below (below_alloc _ (.cells #[.int .i64 6, .int .i64 a, .int .i64 b] 44)))
  have Y_0 := Lib.hid (Bx.new2 w (.cells (prC p q) 26) #[.int .i64 6, .int .i64 a, .int .i64 b] 44)
  have B_0 := Lib.hid ((below_alloc w (.cells (prC p q) 26)).alloc (by simp) (.cells #[.int .i64 6, .int .i64 a, .int .i64 b] 44))
  unfold I64 at ha hb
  have i0 : ∀ w, (Instr.index 95 tab (.int .i64 6)).run Try.prog w = .ok (fnV 65) w := fun _ => by kernel_rfl
  have HBl := Lib.hid (fun W => below_any 6 14 W)
  rw [show belowZ 6 14 = true from rfl] at HBl
  have HBa := Lib.hid (fun W => below_any a M W)
  go_enter Try.func45, Try.ntmps45
  go_wp2_with fail
  refine (HBl.out _).mono ?_
  rintro e w1 ⟨rfl, rfl⟩
  go_wp2_with fail
  obtain ⟨X, hX⟩ : ∃ x, x = (w.alloc (.cells (prC p q) 26)).alloc (.cells #[.int .i64 6, .int .i64 a, .int .i64 b] 44) := ⟨_, rfl⟩
  obtain ⟨BY, hBY⟩ : ∃ x, x = w.heap.size + 1 := ⟨_, rfl⟩
  obtain ⟨BX, hBX⟩ : ∃ x, x = w.heap.size := ⟨_, rfl⟩
  rw [← hX] at X_0 Y_0 B_0
  unfold prC at hX
  rw [← hX]
  rw [← hBY] at Y_0 ⊢
  rw [← hBX] at X_0 ⊢
  clear hX hBY hBX
  have HSS : Hid (∀ W', Below X.heap.size X W' → (W'.cell? ⟨BX, 0, none⟩ = some (.slice q.ca q.cn q.cc) ∧ W'.cell? ⟨BX, 1, none⟩ = some (.int .i64 p.mu) ∧ W'.cell? ⟨BX, 2, none⟩ = some (.int .i64 p.on) ∧ W'.cell? ⟨BX, 3, none⟩ = some (.int .i64 p.va) ∧ W'.cell? ⟨BX, 4, none⟩ = some (.slice q.sa q.sn q.sc) ∧ W'.cell? ⟨BX, 5, none⟩ = some (.slice q.ba q.bn q.bc)) ∧ W'.cell? ⟨BY, 0, none⟩ = some (.int .i64 6) ∧ W'.cell? ⟨BY, 1, none⟩ = some (.int .i64 a) ∧ W'.cell? ⟨BY, 2, none⟩ = some (.int .i64 b)) := Lib.hid (fun W' hb => ⟨(X_0.out.below hb).cells6, (Y_0.out.below hb).cells3⟩)
  cases hbl : belowZ a M
  all_goals
    have HBL := Lib.hid hbl
    rw [hbl] at HBa
    clear hbl
    go_region_held3 (fun W => (W.cell? ⟨BX, 0, none⟩ = some (.slice q.ca q.cn q.cc) ∧ W.cell? ⟨BX, 1, none⟩ = some (.int .i64 p.mu) ∧ W.cell? ⟨BX, 2, none⟩ = some (.int .i64 p.on) ∧ W.cell? ⟨BX, 3, none⟩ = some (.int .i64 p.va) ∧ W.cell? ⟨BX, 4, none⟩ = some (.slice q.sa q.sn q.sc) ∧ W.cell? ⟨BX, 5, none⟩ = some (.slice q.ba q.bn q.bc)) ∧ W.cell? ⟨BY, 0, none⟩ = some (.int .i64 6) ∧ W.cell? ⟨BY, 1, none⟩ = some (.int .i64 a) ∧ W.cell? ⟨BY, 2, none⟩ = some (.int .i64 b))
      ((refine HSS.out _ ?_; first | exact HBq.out | exact HBp.out | exact (Below.refl _ _).drew))
      (first
        | (go_at_call 55; refine (numbersOf_any _).mono ?_; rintro e wp ⟨rfl, hbp⟩; have HBp : Hid (Below X.heap.size X wp) := Lib.hid (((Below.refl X.heap.size X).drew).trans (Below.mono hbp (Nat.le_refl _))); clear hbp)
        | (go_at_call 65; refine (HN.out _).mono ?_; rintro e wq ⟨rfl, hbq⟩; have HBq : Hid (Below X.heap.size X wq) := Lib.hid (HBp.out.trans (Below.mono hbq HBp.out.size)); clear hbq)
        | (go_at_call 54; refine (HBa.out _).mono ?_; rintro e wz ⟨rfl, rfl⟩))
    all_goals
      have Y_1 := Lib.hid (Y_0.out.below HBq.out)
      obtain ⟨y0, y1, y2⟩ := Y_1.out.cells3
      first
      | (have hbf := HBL.out
         first
         | (have R := Lib.hid (HZ.out.trans (if_pos HBL.out))
            go_wp2_with fail
            go_ret
            exact ⟨ret_int R.out.symm, B_0.out.trans (Below.mono HBq.out B_0.out.size)⟩)
         | (have R := Lib.hid (HZ.out.trans (if_neg (by rw [HBL.out]; simp)))
            clear hbf
            by_cases hb0 : b < 0
            · have R2 := Lib.hid (R.out.trans (if_pos (.inl hb0)))
              go_wp2_with fail
              go_ret
              exact ⟨ret_int R2.out.symm, B_0.out.trans (Below.mono HBq.out B_0.out.size)⟩
            · by_cases hbl : 0 < b
              · have R2 := Lib.hid (R.out.trans (if_pos (.inr hbl)))
                go_wp2_with fail
                go_ret
                exact ⟨ret_int R2.out.symm, B_0.out.trans (Below.mono HBq.out B_0.out.size)⟩
              · have R2 := Lib.hid (R.out.trans (if_neg (fun h => h.elim hb0 hbl)))
                go_wp2_with fail
                go_ret
                exact ⟨ret_int R2.out.symm, B_0.out.trans (Below.mono HBq.out B_0.out.size)⟩))
end Go.Proofs.Ytddkckppmjcclaa
