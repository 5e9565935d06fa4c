/-
  The law Encodes, walked.
-/
import Derived.Test.YtkjjamigaamllaaRefEncAll
namespace Go.Proofs.Ytkjjamigaamllaa
open Go.RowKit

set_option maxHeartbeats 1000000 in
theorem encodes_any (op h o l r t : Int) (d : ByteArray) (w : World) (hd : d.size ≤ 140737488355328) :
    Calls Try.prog 3 #[.agg #[.int .i64 op, .int .i64 h, .int .i64 o, .int .i64 l, .int .i64 r, .int .i64 t, .string d]] w
      fun e w' => e = .returned (.bool true) ∧ Below w.heap.size w w' := by
  go_enter Try.func3, Try.ntmps3
  go_wp2_with fail
  refine (enc_any _ _ _ _ _ _ _ _ hd).mono ?_
  rintro e w1 ⟨rfl, hb1⟩
  have q1 := keepRow hb1 (by simp) (newRowAt _ _)
  rw [sizeAlloc] at hb1
  have qc1 := rowCell q1
  have hz1 : w.heap.size < w1.heap.size := by have hz := hb1.size; rw [sizeAlloc] at hz; omega
  go_wp2_with fail
  refine (ref_any _ _ _ _ _ _ _ _ hd).mono ?_
  rintro e w2 ⟨rfl, hb2⟩
  go_wp2
  go_ret
  exact ⟨by simp, (((Below.refl _ _).alloc (Nat.le_refl _) _).trans (hb1.mono (by omega))).trans (hb2.mono (by omega))⟩

end Go.Proofs.Ytkjjamigaamllaa
