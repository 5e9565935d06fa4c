/-
  What tenureref.Encode returns: the Op 6.
-/
import Derived.Test.YtkjjamigaamllaaRefEncHead
namespace Go.Proofs.Ytkjjamigaamllaa
open Go.RowKit

set_option maxRecDepth 100000 in
set_option maxHeartbeats 4000000 in
theorem ref_6 (h o l r t : Int) (d : ByteArray) (w : World) (_hd : d.size ≤ 140737488355328) :
    Calls Try.prog 16 #[.agg #[.int .i64 6, .int .i64 h, .int .i64 o, .int .i64 l, .int .i64 r, .int .i64 t, .string d]] w
      fun e w' => e = .returned (.tuple #[.string (encS 6 h o l r t d), .int .i64 (encE 6 h o l r t d)]) ∧ Below w.heap.size w w' := by
  have c1 := conv1
  go_enter Try.func16, Try.ntmps16
  go_wp2_with (go_at_call 51; refine (word_any _ _).mono ?_; rintro e w' ⟨rfl, rfl⟩)
  refine (two_any _ _).mono ?_
  rintro e w1 ⟨rfl, hb1⟩
  have s1 := twoW_size
  have s0 := oneS_size
  have n1 := newRowAt w (.cells #[.int .i64 6, .int .i64 h, .int .i64 o, .int .i64 l, .int .i64 r, .int .i64 t, .string d] 23)
  have q1 := keepRow hb1 (by simp; omega) ((Below.heap_alloc _ _ _ (by simp; omega)).trans ((Below.heap_alloc _ _ _ (by simp)).trans n1))
  have o1 := keepRow hb1 (by simp) ((Below.heap_alloc _ _ _ (by simp)).trans (newRowAt _ _))
  have B1 := ((((Below.refl w.heap.size w).alloc (Nat.le_refl _) _).alloc (by simp) _).alloc (by simp; omega) _).trans (hb1.mono (by simp; omega))
  simp only [sizeAlloc] at o1
  have hz1 : w.heap.size + 1 < w1.heap.size := by have hz := hb1.size; simp only [sizeAlloc] at hz; omega
  clear hb1 n1
  have qc1 := rowCell q1
  have oc1 := rowCell o1
  have of1 := rowFree o1
  have hst : St w #[.int .i64 6, .int .i64 h, .int .i64 o, .int .i64 l, .int .i64 r, .int .i64 t, .string d] #[.int .i64 6, .int .i64 h, .int .i64 0, .int .i64 0, .int .i64 0, .int .i64 t, .string ⟨#[]⟩] (w1.setCell ⟨w.heap.size + 1, 5, none⟩ (.int .i64 t)) :=
    ⟨setOther q1 (by omega), setRow o1 rfl, B1.setCell (p := ⟨w.heap.size + 1, 5, none⟩) (Nat.le_succ _) _, by simp only [setSize]; exact hz1⟩
  clear q1 o1
  have hz0 : w.heap.size < w1.heap.size := by omega
  go_wp2_with fail
  all_goals go_ret2
  all_goals refine ⟨?_, (hst.alloc _).b⟩
  all_goals first | (refine enc_end_bad ?_; simp [okB, zr, bt_lo, bt_hi, bt_yes, dnil, *]; done) | (refine enc_end_good ?_ ?_; (simp [okB, zr, bt_yes, dnil, *]); (simp [bodyS, twoW_eq, oneS_bt, *]))

end Go.Proofs.Ytkjjamigaamllaa
