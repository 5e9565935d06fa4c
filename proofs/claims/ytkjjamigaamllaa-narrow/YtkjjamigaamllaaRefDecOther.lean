/-
  What tenureref.Decode returns: a candidate is read, written anew, and taken if its bytes are the ones that came in.
-/
import Derived.Test.YtkjjamigaamllaaDecLeaves
import Derived.Test.YtkjjamigaamllaaRefEncHead
namespace Go.Proofs.Ytkjjamigaamllaa
open Go.RowKit
set_option linter.unusedSimpArgs false

/-- what is answered for a candidate -/
def rdV (s : ByteArray) (op h o l r t : Int) (d : ByteArray) : Value :=
  if encE op h o l r t d = 0 ∧ encS op h o l r t d = s then .tuple #[.agg #[.int .i64 op, .int .i64 h, .int .i64 o, .int .i64 l, .int .i64 r, .int .i64 t, .string d], .int .i64 0]
  else .tuple #[.agg #[.int .i64 0, .int .i64 0, .int .i64 0, .int .i64 0, .int .i64 0, .int .i64 0, .string ⟨#[]⟩], .int .i64 1]

theorem toList_inj {a b : ByteArray} (h : a.toList = b.toList) : a = b := by
  rw [ByteArray.toList_eq, ByteArray.toList_eq] at h
  exact ByteArray.ext (Array.toList_inj.1 h)
theorem rd_no1 {s d : ByteArray} {op h o l r t : Int} (hn : ¬ encE op h o l r t d = 0) :
    Ending.returned (.tuple #[.agg #[.int .i64 0, .int .i64 0, .int .i64 0, .int .i64 0, .int .i64 0, .int .i64 0, .string ⟨#[]⟩], .int .i64 1]) = .returned (rdV s op h o l r t d) := by
  unfold rdV; rw [if_neg (fun c => hn c.1)]
theorem rd_no2 {s d : ByteArray} {op h o l r t : Int} (hn : (!((encS op h o l r t d).toList == s.toList)) = true) :
    Ending.returned (.tuple #[.agg #[.int .i64 0, .int .i64 0, .int .i64 0, .int .i64 0, .int .i64 0, .int .i64 0, .string ⟨#[]⟩], .int .i64 1]) = .returned (rdV s op h o l r t d) := by
  unfold rdV
  rw [if_neg (fun c => by rw [c.2] at hn; simp at hn)]
theorem rd_yes {s d : ByteArray} {op h o l r t : Int} (hy : encE op h o l r t d = 0) (hn : (!((encS op h o l r t d).toList == s.toList)) = false) :
    Ending.returned (.tuple #[.agg #[.int .i64 op, .int .i64 h, .int .i64 o, .int .i64 l, .int .i64 r, .int .i64 t, .string d], .int .i64 0]) = .returned (rdV s op h o l r t d) := by
  unfold rdV
  rw [if_pos ⟨hy, toList_inj (by simpa using hn)⟩]
theorem newRowG (w : World) (o : Obj) (g : Nat) (hg : g = w.heap.size) : (w.alloc o).heap[g]? = some o := by subst hg; exact newRowAt w o
theorem drewRow {w : World} {g n : Nat} {o : Obj} (h : w.heap[g]? = some o) : (w.drewN n).heap[g]? = some o := h
theorem empty_le : (⟨#[]⟩ : ByteArray).size ≤ 140737488355328 := by decide

end Go.Proofs.Ytkjjamigaamllaa
