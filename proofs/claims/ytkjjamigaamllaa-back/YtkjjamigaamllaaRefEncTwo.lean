/-
  What tenureref.Encode returns: the Ops 2, 7, 8 and 9.
-/
import Derived.Test.YtkjjamigaamllaaRefEncHead
namespace Go.Proofs.Ytkjjamigaamllaa
open Go.RowKit

set_option maxRecDepth 100000 in
set_option maxHeartbeats 4000000 in
theorem ref_2 (h o l r t : Int) (d : ByteArray) (w : World) (_hd : d.size ≤ 140737488355328) :
    Calls Try.prog 16 #[.agg #[.int .i64 2, .int .i64 h, .int .i64 o, .int .i64 l, .int .i64 r, .int .i64 t, .string d]] w
      fun e w' => e = .returned (.tuple #[.string (encS 2 h o l r t d), .int .i64 (encE 2 h o l r t d)]) ∧ Below w.heap.size w w' := by
  have c1 := conv1
  go_enter Try.func16, Try.ntmps16
  go_wp2_with (go_at_call 51; refine (word_any _ _).mono ?_; rintro e w' ⟨rfl, rfl⟩)
  refine (two_any _ _).mono ?_
  rintro e w1 ⟨rfl, hb1⟩
  have s1 := twoW_size
  have s0 := oneS_size
  have n1 := newRowAt w (.cells #[.int .i64 2, .int .i64 h, .int .i64 o, .int .i64 l, .int .i64 r, .int .i64 t, .string d] 23)
  have q1 := keepRow hb1 (by simp; omega) ((Below.heap_alloc _ _ _ (by simp; omega)).trans ((Below.heap_alloc _ _ _ (by simp)).trans n1))
  have o1 := keepRow hb1 (by simp) ((Below.heap_alloc _ _ _ (by simp)).trans (newRowAt _ _))
  have B1 := ((((Below.refl w.heap.size w).alloc (Nat.le_refl _) _).alloc (by simp) _).alloc (by simp; omega) _).trans (hb1.mono (by simp; omega))
  simp only [sizeAlloc] at o1
  have hz1 : w.heap.size + 1 < w1.heap.size := by have hz := hb1.size; simp only [sizeAlloc] at hz; omega
  clear hb1 n1
  have qc1 := rowCell q1
  have oc1 := rowCell o1
  have of1 := rowFree o1
  clear q1 o1
  go_wp2_with fail
  all_goals go_ret2
  all_goals refine ⟨?_, B1⟩
  all_goals first | (refine enc_end_bad ?_; simp [okB, zr, dnil, *]; done) | (refine enc_end_good ?_ ?_; (simp [okB, zr, dnil, *]); (simp [bodyS, twoW_eq, *]))

set_option maxRecDepth 100000 in
set_option maxHeartbeats 4000000 in
theorem ref_7 (h o l r t : Int) (d : ByteArray) (w : World) (_hd : d.size ≤ 140737488355328) :
    Calls Try.prog 16 #[.agg #[.int .i64 7, .int .i64 h, .int .i64 o, .int .i64 l, .int .i64 r, .int .i64 t, .string d]] w
      fun e w' => e = .returned (.tuple #[.string (encS 7 h o l r t d), .int .i64 (encE 7 h o l r t d)]) ∧ Below w.heap.size w w' := by
  have c1 := conv1
  go_enter Try.func16, Try.ntmps16
  go_wp2_with (go_at_call 51; refine (word_any _ _).mono ?_; rintro e w' ⟨rfl, rfl⟩)
  refine (two_any _ _).mono ?_
  rintro e w1 ⟨rfl, hb1⟩
  have s1 := twoW_size
  have s0 := oneS_size
  have n1 := newRowAt w (.cells #[.int .i64 7, .int .i64 h, .int .i64 o, .int .i64 l, .int .i64 r, .int .i64 t, .string d] 23)
  have q1 := keepRow hb1 (by simp; omega) ((Below.heap_alloc _ _ _ (by simp; omega)).trans ((Below.heap_alloc _ _ _ (by simp)).trans n1))
  have o1 := keepRow hb1 (by simp) ((Below.heap_alloc _ _ _ (by simp)).trans (newRowAt _ _))
  have B1 := ((((Below.refl w.heap.size w).alloc (Nat.le_refl _) _).alloc (by simp) _).alloc (by simp; omega) _).trans (hb1.mono (by simp; omega))
  simp only [sizeAlloc] at o1
  have hz1 : w.heap.size + 1 < w1.heap.size := by have hz := hb1.size; simp only [sizeAlloc] at hz; omega
  clear hb1 n1
  have qc1 := rowCell q1
  have oc1 := rowCell o1
  have of1 := rowFree o1
  clear q1 o1
  go_wp2_with fail
  all_goals go_ret2
  all_goals refine ⟨?_, B1⟩
  all_goals first | (refine enc_end_bad ?_; simp [okB, zr, dnil, *]; done) | (refine enc_end_good ?_ ?_; (simp [okB, zr, dnil, *]); (simp [bodyS, twoW_eq, *]))

set_option maxRecDepth 100000 in
set_option maxHeartbeats 4000000 in
theorem ref_8 (h o l r t : Int) (d : ByteArray) (w : World) (_hd : d.size ≤ 140737488355328) :
    Calls Try.prog 16 #[.agg #[.int .i64 8, .int .i64 h, .int .i64 o, .int .i64 l, .int .i64 r, .int .i64 t, .string d]] w
      fun e w' => e = .returned (.tuple #[.string (encS 8 h o l r t d), .int .i64 (encE 8 h o l r t d)]) ∧ Below w.heap.size w w' := by
  have c1 := conv1
  go_enter Try.func16, Try.ntmps16
  go_wp2_with (go_at_call 51; refine (word_any _ _).mono ?_; rintro e w' ⟨rfl, rfl⟩)
  refine (two_any _ _).mono ?_
  rintro e w1 ⟨rfl, hb1⟩
  have s1 := twoW_size
  have s0 := oneS_size
  have n1 := newRowAt w (.cells #[.int .i64 8, .int .i64 h, .int .i64 o, .int .i64 l, .int .i64 r, .int .i64 t, .string d] 23)
  have q1 := keepRow hb1 (by simp; omega) ((Below.heap_alloc _ _ _ (by simp; omega)).trans ((Below.heap_alloc _ _ _ (by simp)).trans n1))
  have o1 := keepRow hb1 (by simp) ((Below.heap_alloc _ _ _ (by simp)).trans (newRowAt _ _))
  have B1 := ((((Below.refl w.heap.size w).alloc (Nat.le_refl _) _).alloc (by simp) _).alloc (by simp; omega) _).trans (hb1.mono (by simp; omega))
  simp only [sizeAlloc] at o1
  have hz1 : w.heap.size + 1 < w1.heap.size := by have hz := hb1.size; simp only [sizeAlloc] at hz; omega
  clear hb1 n1
  have qc1 := rowCell q1
  have oc1 := rowCell o1
  have of1 := rowFree o1
  clear q1 o1
  go_wp2_with fail
  all_goals go_ret2
  all_goals refine ⟨?_, B1⟩
  all_goals first | (refine enc_end_bad ?_; simp [okB, zr, dnil, *]; done) | (refine enc_end_good ?_ ?_; (simp [okB, zr, dnil, *]); (simp [bodyS, twoW_eq, *]))

set_option maxRecDepth 100000 in
set_option maxHeartbeats 4000000 in
theorem ref_9 (h o l r t : Int) (d : ByteArray) (w : World) (_hd : d.size ≤ 140737488355328) :
    Calls Try.prog 16 #[.agg #[.int .i64 9, .int .i64 h, .int .i64 o, .int .i64 l, .int .i64 r, .int .i64 t, .string d]] w
      fun e w' => e = .returned (.tuple #[.string (encS 9 h o l r t d), .int .i64 (encE 9 h o l r t d)]) ∧ Below w.heap.size w w' := by
  have c1 := conv1
  go_enter Try.func16, Try.ntmps16
  go_wp2_with (go_at_call 51; refine (word_any _ _).mono ?_; rintro e w' ⟨rfl, rfl⟩)
  refine (two_any _ _).mono ?_
  rintro e w1 ⟨rfl, hb1⟩
  have s1 := twoW_size
  have s0 := oneS_size
  have n1 := newRowAt w (.cells #[.int .i64 9, .int .i64 h, .int .i64 o, .int .i64 l, .int .i64 r, .int .i64 t, .string d] 23)
  have q1 := keepRow hb1 (by simp; omega) ((Below.heap_alloc _ _ _ (by simp; omega)).trans ((Below.heap_alloc _ _ _ (by simp)).trans n1))
  have o1 := keepRow hb1 (by simp) ((Below.heap_alloc _ _ _ (by simp)).trans (newRowAt _ _))
  have B1 := ((((Below.refl w.heap.size w).alloc (Nat.le_refl _) _).alloc (by simp) _).alloc (by simp; omega) _).trans (hb1.mono (by simp; omega))
  simp only [sizeAlloc] at o1
  have hz1 : w.heap.size + 1 < w1.heap.size := by have hz := hb1.size; simp only [sizeAlloc] at hz; omega
  clear hb1 n1
  have qc1 := rowCell q1
  have oc1 := rowCell o1
  have of1 := rowFree o1
  clear q1 o1
  go_wp2_with fail
  all_goals go_ret2
  all_goals refine ⟨?_, B1⟩
  all_goals first | (refine enc_end_bad ?_; simp [okB, zr, dnil, *]; done) | (refine enc_end_good ?_ ?_; (simp [okB, zr, dnil, *]); (simp [bodyS, twoW_eq, *]))

end Go.Proofs.Ytkjjamigaamllaa
