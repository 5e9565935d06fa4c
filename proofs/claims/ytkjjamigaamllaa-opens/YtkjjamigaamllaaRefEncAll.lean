/-
  tenureref.Encode, whole: the same bytes and the same error as wire.Encode's.
-/
import Derived.Test.YtkjjamigaamllaaRefEncOne
import Derived.Test.YtkjjamigaamllaaRefEncTwo
import Derived.Test.YtkjjamigaamllaaRefEncThree
import Derived.Test.YtkjjamigaamllaaRefEncFour
import Derived.Test.YtkjjamigaamllaaRefEncFive
import Derived.Test.YtkjjamigaamllaaRefEncSix
namespace Go.Proofs.Ytkjjamigaamllaa
open Go.RowKit

theorem ref_any (op h o l r t : Int) (d : ByteArray) (w : World) (hd : d.size ≤ 140737488355328) :
    Calls Try.prog 16 #[.agg #[.int .i64 op, .int .i64 h, .int .i64 o, .int .i64 l, .int .i64 r, .int .i64 t, .string d]] w
      fun e w' => e = .returned (.tuple #[.string (encS op h o l r t d), .int .i64 (encE op h o l r t d)]) ∧ Below w.heap.size w w' := by
  cases hk : knw op with
  | false =>
    have hn := ok_unknown h o l r t d.size hk
    unfold encS encE
    rw [hn]
    refine ref_unknown op h o l r t d w hd ?_
    simp [knw] at hk
    omega
  | true =>
    rcases knw_cases hk with rfl | rfl | rfl | rfl | rfl | rfl | rfl | rfl | rfl
    · exact ref_1 h o l r t d w hd
    · exact ref_2 h o l r t d w hd
    · exact ref_3 h o l r t d w hd
    · exact ref_4 h o l r t d w hd
    · exact ref_5 h o l r t d w hd
    · exact ref_6 h o l r t d w hd
    · exact ref_7 h o l r t d w hd
    · exact ref_8 h o l r t d w hd
    · exact ref_9 h o l r t d w hd

end Go.Proofs.Ytkjjamigaamllaa
