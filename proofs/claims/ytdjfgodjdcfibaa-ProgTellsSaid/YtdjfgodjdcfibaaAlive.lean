/- alive. -/
import Derived.Test.YtdjfgodjdcfibaaCount
import Derived.Test.YtdjfgodjdcfibaaApp
namespace Go.Proofs.Ytdjfgodjdcfibaa
open Go.RowKit
def al1 : Pr := ⟨[], 0, 0, 0, [], [[⟨1, 0, 0⟩]]⟩
def al2 : Pr := ⟨[], 0, 0, 0, [], [[]]⟩
theorem al1_t : tablesZ al1 = (-1, 0) := tz_ok (by unfold SizeA SizeB al1; simp) (by rfl) (fun y hy => by simp [al1] at hy)
theorem al2_t : tablesZ al2 = (-1, 0) := tz_ok (by unfold SizeA SizeB al2; simp) (by rfl) (fun y hy => by simp [al2] at hy)
theorem al1_w : wrongZ al1 = (0, 0, 3) := by
  have hb : blkZ al1 [⟨1, 0, 0⟩] = (0, 3) := by decide
  have := wz_blk (p := al1) (k := 0) (x := [⟨1, 0, 0⟩]) (by rw [al1_t]; simp) (fun y hy => by simp at hy) rfl (by rw [hb]; decide)
  rw [this, hb]; rfl
theorem al2_r : rightP al2 = true := by
  have := wz_ok (p := al2) (by rw [al2_t]; simp) (fun y hy => by simp [al2] at hy; subst hy; decide)
  unfold rightP; rw [this]; rfl
theorem i64_z : I64 0 := ⟨by omega, by omega⟩
theorem al_blks {w : World} {B C : Nat} {n : Nat} {b : List Ins} (h1 : w.heap[C]? = some (.cells #[.slice (some ⟨B, 0, none⟩) n n] 41 (0, 0))) (h2 : Blk w (some ⟨B, 0, none⟩) n n b) : Blks w (some ⟨C, 0, none⟩) 1 1 [b] :=
  ⟨[⟨some ⟨B, 0, none⟩, n, n⟩], recs_oneG (t := 41) (x := (⟨some ⟨B, 0, none⟩, n, n⟩ : RBlk)) (enc := encB) h1, h2, trivial⟩
theorem al_blk (w : World) : Blk (w.alloc (.cells #[.int .i64 1, .int .i64 0, .int .i64 0] 43)) (some ⟨w.heap.size, 0, none⟩) 1 1 [⟨1, 0, 0⟩] :=
  ⟨recs_oneG (t := 43) (x := (⟨1, 0, 0⟩ : Ins)) (enc := encI) (heap_alloc_new w _), fun x hx => by simp at hx; subst hx; exact ⟨⟨by decide, by decide⟩, ⟨by decide, by decide⟩, ⟨by decide, by decide⟩⟩⟩
theorem al_blk0 (w : World) : Blk (w.alloc (.cells #[] 43)) (some ⟨w.heap.size, 0, none⟩) 0 0 [] :=
  ⟨⟨rfl, Nat.le_refl _, by decide, fun _ => rfl, fun i x h => by simp at h⟩, fun x h => by simp at h⟩
theorem alloc_two (w : World) (A B : Obj) : ((w.alloc A).alloc B).heap[w.heap.size + 1]? = some B := by
  have := heap_alloc_new (w.alloc A) B
  rwa [World.size_alloc] at this
theorem al_prg {w : World} {C : Nat} {b : List Ins} (h : Blks w (some ⟨C, 0, none⟩) 1 1 [b]) : Prg w ⟨[], 0, 0, 0, [], [b]⟩ ⟨none, 0, 0, none, 0, 0, some ⟨C, 0, none⟩, 1, 1⟩ :=
  ⟨Ints.nil w, i64_z, i64_z, i64_z, ⟨[], Recs.nil w, trivial⟩, h⟩
set_option maxRecDepth 100000 in
set_option maxHeartbeats 8000000 in
theorem alive_any (w : World) : Calls Try.prog 11 #[] w fun e w' => e = .returned (.bool true) ∧ Below w.heap.size w w' := by
  have HW : Hid (∀ W : World, Calls Try.prog 6 #[.agg #[.slice none 0 0, .int .i64 0, .int .i64 0, .int .i64 0, .slice none 0 0, .slice (some ⟨W.heap.size + 1, 0, none⟩) 1 1]] ((W.alloc (.cells #[.int .i64 1, .int .i64 0, .int .i64 0] 43)).alloc (.cells #[.slice (some ⟨W.heap.size, 0, none⟩) 1 1] 41)) fun e w' => e = .returned (.tuple #[.int .i64 0, .int .i64 0, .int .i64 3]) ∧ Below ((W.alloc (.cells #[.int .i64 1, .int .i64 0, .int .i64 0] 43)).alloc (.cells #[.slice (some ⟨W.heap.size, 0, none⟩) 1 1] 41)).heap.size ((W.alloc (.cells #[.int .i64 1, .int .i64 0, .int .i64 0] 43)).alloc (.cells #[.slice (some ⟨W.heap.size, 0, none⟩) 1 1] 41)) w') := Lib.hid (fun W => by
    have h := Wrong_any al1 _ _ (al_prg (al_blks (alloc_two W (.cells #[.int .i64 1, .int .i64 0, .int .i64 0] 43) (.cells #[.slice (some ⟨W.heap.size, 0, none⟩) 1 1] 41)) ((al_blk W).below (below_alloc _ _))))
    rw [al1_w] at h
    exact h)
  have HR : Hid (∀ W : World, Calls Try.prog 10 #[.agg #[.slice none 0 0, .int .i64 0, .int .i64 0, .int .i64 0, .slice none 0 0, .slice (some ⟨W.heap.size + 1, 0, none⟩) 1 1]] ((W.alloc (.cells #[] 43)).alloc (.cells #[.slice (some ⟨W.heap.size, 0, none⟩) 0 0] 41)) fun e w' => e = .returned (.bool true) ∧ Below ((W.alloc (.cells #[] 43)).alloc (.cells #[.slice (some ⟨W.heap.size, 0, none⟩) 0 0] 41)).heap.size ((W.alloc (.cells #[] 43)).alloc (.cells #[.slice (some ⟨W.heap.size, 0, none⟩) 0 0] 41)) w') := Lib.hid (fun W => by
    have h := Right_any al2 _ _ (al_prg (al_blks (alloc_two W (.cells #[] 43) (.cells #[.slice (some ⟨W.heap.size, 0, none⟩) 0 0] 41)) ((al_blk0 W).below (below_alloc _ _))))
    rw [al2_r] at h
    exact h)
  have B_0 := Lib.hid ((below_alloc w (.cells #[.int .i64 1, .int .i64 0, .int .i64 0] 43)).alloc (by simp) (.cells #[.slice (some ⟨w.heap.size, 0, none⟩) 1 1] 41))
  go_enter Try.func11, Try.ntmps11
  go_wp2_with fail
  refine (HW.out w).mono ?_
  rintro e w1 ⟨rfl, hb⟩
  have B_1 := Lib.hid (B_0.out.trans (Below.mono hb B_0.out.size))
  clear hb B_0
  go_wp2_with fail
  refine (HR.out w1).mono ?_
  rintro e w2 ⟨rfl, hb⟩
  have B_2 := Lib.hid (((B_1.out.alloc B_1.out.size (.cells #[] 43)).alloc (by have := B_1.out.size; simp; omega) (.cells #[.slice (some ⟨w1.heap.size, 0, none⟩) 0 0] 41)).trans (Below.mono hb (by have := B_1.out.size; simp; omega)))
  clear hb B_1
  go_wp2_with fail
  go_ret
  exact ⟨rfl, B_2.out⟩
end Go.Proofs.Ytdjfgodjdcfibaa
