/-
  What tenureref.Decode returns: a candidate is read, written anew, and taken if its bytes are the ones that came in.
-/
import Derived.Test.YtkjjamigaamllaaDecLeaves
import Derived.Test.YtkjjamigaamllaaRefEncAll
namespace Go.Proofs.Ytkjjamigaamllaa
open Go.RowKit
set_option linter.unusedSimpArgs false

/-- what is answered for a candidate -/
def rdV (s : ByteArray) (op h o l r t : Int) (d : ByteArray) : Value :=
  if encE op h o l r t d = 0 ∧ encS op h o l r t d = s then .tuple #[.agg #[.int .i64 op, .int .i64 h, .int .i64 o, .int .i64 l, .int .i64 r, .int .i64 t, .string d], .int .i64 0]
  else .tuple #[.agg #[.int .i64 0, .int .i64 0, .int .i64 0, .int .i64 0, .int .i64 0, .int .i64 0, .string ⟨#[]⟩], .int .i64 1]

theorem toList_inj {a b : ByteArray} (h : a.toList = b.toList) : a = b := by
  rw [ByteArray.toList_eq, ByteArray.toList_eq] at h
  exact ByteArray.ext (Array.toList_inj.1 h)
theorem rd_no1 {s d : ByteArray} {op h o l r t : Int} (hn : ¬ encE op h o l r t d = 0) :
    Ending.returned (.tuple #[.agg #[.int .i64 0, .int .i64 0, .int .i64 0, .int .i64 0, .int .i64 0, .int .i64 0, .string ⟨#[]⟩], .int .i64 1]) = .returned (rdV s op h o l r t d) := by
  unfold rdV; rw [if_neg (fun c => hn c.1)]
theorem rd_no2 {s d : ByteArray} {op h o l r t : Int} (hn : (!((encS op h o l r t d).toList == s.toList)) = true) :
    Ending.returned (.tuple #[.agg #[.int .i64 0, .int .i64 0, .int .i64 0, .int .i64 0, .int .i64 0, .int .i64 0, .string ⟨#[]⟩], .int .i64 1]) = .returned (rdV s op h o l r t d) := by
  unfold rdV
  rw [if_neg (fun c => by rw [c.2] at hn; simp at hn)]
theorem rd_yes {s d : ByteArray} {op h o l r t : Int} (hy : encE op h o l r t d = 0) (hn : (!((encS op h o l r t d).toList == s.toList)) = false) :
    Ending.returned (.tuple #[.agg #[.int .i64 op, .int .i64 h, .int .i64 o, .int .i64 l, .int .i64 r, .int .i64 t, .string d], .int .i64 0]) = .returned (rdV s op h o l r t d) := by
  unfold rdV
  rw [if_pos ⟨hy, toList_inj (by simpa using hn)⟩]
theorem newRowG (w : World) (o : Obj) (g : Nat) (hg : g = w.heap.size) : (w.alloc o).heap[g]? = some o := by subst hg; exact newRowAt w o
theorem drewRow {w : World} {g n : Nat} {o : Obj} (h : w.heap[g]? = some o) : (w.drewN n).heap[g]? = some o := h
theorem empty_le : (⟨#[]⟩ : ByteArray).size ≤ 140737488355328 := by decide

set_option maxRecDepth 100000 in
set_option maxHeartbeats 1000000 in
theorem rdec_other (s : ByteArray) (w : World) (hs : s.size ≤ 140737488355328) (op : Int) (hop : byt s 0 = op) (g1 : (op == 1) = false) (g3 : (op == 3) = false) (g4 : (op == 4) = false) (g5 : (op == 5) = false) (g6 : (op == 6) = false) :
    Calls Try.prog 18 #[.string s] w fun e w' => e = .returned (rdV s op ((atN s 1)) 0 0 0 0 ⟨#[]⟩) ∧ Below w.heap.size w w' := by
  go_enter Try.func18, Try.ntmps18
  go_wp2_with fail
  refine (one_any s _ _ hs (Or.inl rfl)).mono ?_
  rintro e w1 ⟨rfl, rfl⟩
  go_wp2_with fail
  refine (at_1 s _ hs).mono ?_
  rintro e w1 ⟨rfl, n1, rfl⟩
  go_wp2_with fail
  refine (ref_any _ _ _ _ _ _ _ _ empty_le).mono ?_
  rintro e w2 ⟨rfl, hb2⟩
  have q2 : w2.heap[w.heap.size + 1]? = some (.cells #[.int .i64 op, .int .i64 (atN s 1), .int .i64 0, .int .i64 0, .int .i64 0, .int .i64 0, .string ⟨#[]⟩] 23 (0, 0)) := keepRow hb2 (by simp only [setSize, sizeAlloc, World.heap_drewN]; omega) (newRowG _ _ _ (by simp))
  have r2 : w2.heap[w.heap.size]? = some (.cells #[.int .i64 0, .int .i64 0, .int .i64 0, .int .i64 0, .int .i64 0, .int .i64 0, .string ⟨#[]⟩] 23 (0, 0)) := keepRow hb2 (by simp only [setSize, sizeAlloc, World.heap_drewN]; omega) ((Below.heap_alloc _ _ _ (by simp [World.drewN])).trans (newRowAt w _))
  have B2 : Below w.heap.size w w2 := Below.trans ((below_drewN ((Below.refl w.heap.size w).alloc (Nat.le_refl _) _) n1).alloc (by simp [World.drewN]) _) (hb2.mono (by simp only [setSize, sizeAlloc, World.heap_drewN]; omega))
  have rc2 := rowCell r2
  have rf2 := rowFree r2
  have qc2 := rowCell q2
  clear hb2 q2
  go_wp2_with fail
  · have rc := rowCell (setRow7 (.int .i64 0) (.int .i64 0) (.int .i64 0) (.int .i64 0) (.int .i64 0) (.int .i64 0) (.string ⟨#[]⟩) r2)
    exact bodyPost_ret (v := .tuple #[.agg #[.int .i64 0, .int .i64 0, .int .i64 0, .int .i64 0, .int .i64 0, .int .i64 0, .string ⟨#[]⟩], .int .i64 1]) (by simp [results, Try.results18, go_sem, rc]) rfl ⟨rd_no2 ‹_›, setBelow7 (g := w.heap.size) (.int .i64 0) (.int .i64 0) (.int .i64 0) (.int .i64 0) (.int .i64 0) (.int .i64 0) (.string ⟨#[]⟩) B2 (Nat.le_refl _)⟩
  · have rc := rowCell (setRow7 (.int .i64 op) (.int .i64 (atN s 1)) (.int .i64 0) (.int .i64 0) (.int .i64 0) (.int .i64 0) (.string ⟨#[]⟩) r2)
    exact bodyPost_ret (v := .tuple #[.agg #[.int .i64 op, .int .i64 (atN s 1), .int .i64 0, .int .i64 0, .int .i64 0, .int .i64 0, .string ⟨#[]⟩], .int .i64 0]) (by simp [results, Try.results18, go_sem, rc]) rfl ⟨rd_yes ‹_› ‹_›, setBelow7 (g := w.heap.size) (.int .i64 op) (.int .i64 (atN s 1)) (.int .i64 0) (.int .i64 0) (.int .i64 0) (.int .i64 0) (.string ⟨#[]⟩) B2 (Nat.le_refl _)⟩
  · have rc := rowCell (setRow7 (.int .i64 0) (.int .i64 0) (.int .i64 0) (.int .i64 0) (.int .i64 0) (.int .i64 0) (.string ⟨#[]⟩) r2)
    exact bodyPost_ret (v := .tuple #[.agg #[.int .i64 0, .int .i64 0, .int .i64 0, .int .i64 0, .int .i64 0, .int .i64 0, .string ⟨#[]⟩], .int .i64 1]) (by simp [results, Try.results18, go_sem, rc]) rfl ⟨rd_no1 ‹_›, setBelow7 (g := w.heap.size) (.int .i64 0) (.int .i64 0) (.int .i64 0) (.int .i64 0) (.int .i64 0) (.int .i64 0) (.string ⟨#[]⟩) B2 (Nat.le_refl _)⟩

end Go.Proofs.Ytkjjamigaamllaa
