/-
  The law Decodes, walked.
-/
import Derived.Test.YtkjjamigaamllaaDecAgree
namespace Go.Proofs.Ytkjjamigaamllaa
open Go.RowKit

set_option maxRecDepth 100000 in
set_option maxHeartbeats 1000000 in
theorem decodes_at (op h o l r t k : Int) (d : ByteArray) (s : ByteArray) (w : World) (hs : s.size ≤ 140737488355328)
    (hv : decV s = .tuple #[.agg #[.int .i64 op, .int .i64 h, .int .i64 o, .int .i64 l, .int .i64 r, .int .i64 t, .string d], .int .i64 k]) :
    Calls Try.prog 4 #[.string s] w fun e w' => e = .returned (.bool true) ∧ Below w.heap.size w w' := by
  have k1 := fun w => dec_any s w hs
  have k2 := fun w => rdec_any s w hs
  rw [hv] at k1 k2
  have K1 : Hid (∀ w, Calls Try.prog 17 #[.string s] w fun e w' => e = .returned (.tuple #[.agg #[.int .i64 op, .int .i64 h, .int .i64 o, .int .i64 l, .int .i64 r, .int .i64 t, .string d], .int .i64 k]) ∧ Below w.heap.size w w') := k1
  have K2 : Hid (∀ w, Calls Try.prog 18 #[.string s] w fun e w' => e = .returned (.tuple #[.agg #[.int .i64 op, .int .i64 h, .int .i64 o, .int .i64 l, .int .i64 r, .int .i64 t, .string d], .int .i64 k]) ∧ Below w.heap.size w w') := k2
  clear k1 k2 hv
  go_enter Try.func4, Try.ntmps4
  go_wp2_with fail
  refine (K1.out _).mono ?_
  rintro e w1 ⟨rfl, hb1⟩
  go_wp2_with fail
  refine (K2.out _).mono ?_
  rintro e w2 ⟨rfl, hb2⟩
  have q2 := keepRow hb2 (by simp) (newRowAt _ _)
  have hz2 : w1.heap.size < w2.heap.size := by have hz := hb2.size; rw [sizeAlloc] at hz; omega
  have hz1 := hb1.size
  have qc2 := rowCell q2
  have B2 := (hb1.alloc (by omega) _).trans (hb2.mono (by rw [sizeAlloc]; omega))
  clear hb1 hb2 q2
  go_wp2
  go_ret
  exact ⟨rfl, B2.alloc (by omega) _⟩

theorem decodes_any (s : ByteArray) (w : World) (hs : s.size ≤ 140737488355328) :
    Calls Try.prog 4 #[.string s] w fun e w' => e = .returned (.bool true) ∧ Below w.heap.size w w' := by
  cases hq : isReq s with
  | true => exact decodes_at _ _ _ _ _ _ _ _ s w hs (decV_yes hq rfl rfl rfl rfl rfl rfl rfl)
  | false => exact decodes_at _ _ _ _ _ _ _ _ s w hs (decV_no hq)

end Go.Proofs.Ytkjjamigaamllaa
