/-
  What tenureref.Decode returns: the Op 6.
-/
import Derived.Test.YtkjjamigaamllaaRefDecOther
namespace Go.Proofs.Ytkjjamigaamllaa
open Go.RowKit
set_option linter.unusedSimpArgs false

set_option maxRecDepth 100000 in
set_option maxHeartbeats 1000000 in
theorem rdec_6 (s : ByteArray) (w : World) (hs : s.size ≤ 140737488355328) (hop : byt s 0 = 6) :
    Calls Try.prog 18 #[.string s] w fun e w' => e = .returned (rdV s 6 ((atN s 1)) 0 0 0 ((byt s 3)) ⟨#[]⟩) ∧ Below w.heap.size w w' := by
  go_enter Try.func18, Try.ntmps18
  go_wp2_with fail
  refine (one_any s _ _ hs (Or.inl rfl)).mono ?_
  rintro e w1 ⟨rfl, rfl⟩
  go_wp2_with fail
  refine (at_1 s _ hs).mono ?_
  rintro e w1 ⟨rfl, n1, rfl⟩
  go_wp2_with fail
  refine (one_any s _ _ hs (Or.inr (Or.inl rfl))).mono ?_
  rintro e w1 ⟨rfl, rfl⟩
  go_wp2_with fail
  refine (ref_any _ _ _ _ _ _ _ _ empty_le).mono ?_
  rintro e w2 ⟨rfl, hb2⟩
  have q2 : w2.heap[w.heap.size + 1]? = some (.cells #[.int .i64 6, .int .i64 (atN s 1), .int .i64 0, .int .i64 0, .int .i64 0, .int .i64 (byt s 3), .string ⟨#[]⟩] 23 (0, 0)) := keepRow hb2 (by simp only [setSize, sizeAlloc, World.heap_drewN]; omega) (newRowG _ _ _ (by simp))
  have r2 : w2.heap[w.heap.size]? = some (.cells #[.int .i64 0, .int .i64 0, .int .i64 0, .int .i64 0, .int .i64 0, .int .i64 0, .string ⟨#[]⟩] 23 (0, 0)) := keepRow hb2 (by simp only [setSize, sizeAlloc, World.heap_drewN]; omega) ((Below.heap_alloc _ _ _ (by simp [World.drewN])).trans (newRowAt w _))
  have B2 : Below w.heap.size w w2 := Below.trans ((below_drewN ((Below.refl w.heap.size w).alloc (Nat.le_refl _) _) n1).alloc (by simp [World.drewN]) _) (hb2.mono (by simp only [setSize, sizeAlloc, World.heap_drewN]; omega))
  have rc2 := rowCell r2
  have rf2 := rowFree r2
  have qc2 := rowCell q2
  clear hb2 q2
  go_wp2_with fail
  · have rc := rowCell (setRow7 (.int .i64 0) (.int .i64 0) (.int .i64 0) (.int .i64 0) (.int .i64 0) (.int .i64 0) (.string ⟨#[]⟩) r2)
    exact bodyPost_ret (v := .tuple #[.agg #[.int .i64 0, .int .i64 0, .int .i64 0, .int .i64 0, .int .i64 0, .int .i64 0, .string ⟨#[]⟩], .int .i64 1]) (by simp [results, Try.results18, go_sem, rc]) rfl ⟨rd_no2 ‹_›, setBelow7 (g := w.heap.size) (.int .i64 0) (.int .i64 0) (.int .i64 0) (.int .i64 0) (.int .i64 0) (.int .i64 0) (.string ⟨#[]⟩) B2 (Nat.le_refl _)⟩
  · have rc := rowCell (setRow7 (.int .i64 6) (.int .i64 (atN s 1)) (.int .i64 0) (.int .i64 0) (.int .i64 0) (.int .i64 (byt s 3)) (.string ⟨#[]⟩) r2)
    exact bodyPost_ret (v := .tuple #[.agg #[.int .i64 6, .int .i64 (atN s 1), .int .i64 0, .int .i64 0, .int .i64 0, .int .i64 (byt s 3), .string ⟨#[]⟩], .int .i64 0]) (by simp [results, Try.results18, go_sem, rc]) rfl ⟨rd_yes ‹_› ‹_›, setBelow7 (g := w.heap.size) (.int .i64 6) (.int .i64 (atN s 1)) (.int .i64 0) (.int .i64 0) (.int .i64 0) (.int .i64 (byt s 3)) (.string ⟨#[]⟩) B2 (Nat.le_refl _)⟩
  · have rc := rowCell (setRow7 (.int .i64 0) (.int .i64 0) (.int .i64 0) (.int .i64 0) (.int .i64 0) (.int .i64 0) (.string ⟨#[]⟩) r2)
    exact bodyPost_ret (v := .tuple #[.agg #[.int .i64 0, .int .i64 0, .int .i64 0, .int .i64 0, .int .i64 0, .int .i64 0, .string ⟨#[]⟩], .int .i64 1]) (by simp [results, Try.results18, go_sem, rc]) rfl ⟨rd_no1 ‹_›, setBelow7 (g := w.heap.size) (.int .i64 0) (.int .i64 0) (.int .i64 0) (.int .i64 0) (.int .i64 0) (.int .i64 0) (.string ⟨#[]⟩) B2 (Nat.le_refl _)⟩

end Go.Proofs.Ytkjjamigaamllaa
