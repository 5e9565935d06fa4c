/-
  The document's examples as the row that the program makes of them.
-/
import Derived.Test.YtkjjamigaamllaaKnownPure
namespace Go.Proofs.Ytkjjamigaamllaa
open Go.RowKit
set_option linter.unusedSimpArgs false

/-- the examples as a row -/
def exCells : Array Value := #[.int .i64 0, .string ⟨#[1, 0, 10]⟩, .string ⟨#[0, 0, 0]⟩, .int .i64 0, .string ⟨#[1, 0, 17]⟩, .string ⟨#[7]⟩, .int .i64 0, .string ⟨#[1, 0, 0]⟩, .string ⟨#[6]⟩, .int .i64 0, .string ⟨#[1, 1, 1]⟩, .string ⟨#[6]⟩, .int .i64 0, .string ⟨#[1, 0]⟩, .string ⟨#[1]⟩, .int .i64 0, .string ⟨#[4, 0, 0, 0, 8, 97, 98]⟩, .string ⟨#[0]⟩, .int .i64 0, .string ⟨#[3, 0, 0, 0, 7, 0, 3]⟩, .string ⟨#[0, 0, 97, 98]⟩, .int .i64 0, .string ⟨#[3, 0, 0, 0, 8, 0, 3]⟩, .string ⟨#[6]⟩, .int .i64 0, .string ⟨#[4, 0, 0, 0, 10]⟩, .string ⟨#[0]⟩, .int .i64 0, .string ⟨#[5, 0, 0, 0, 8, 0, 2, 5]⟩, .string ⟨#[0, 0, 1]⟩, .int .i64 0, .string ⟨#[9, 0, 1]⟩, .string ⟨#[0, 0, 2, 5]⟩, .int .i64 0, .string ⟨#[3, 0, 1, 0, 0, 0, 2]⟩, .string ⟨#[0, 97, 98]⟩, .int .i64 0, .string ⟨#[4, 0, 1, 0, 0, 122]⟩, .string ⟨#[5]⟩, .int .i64 0, .string ⟨#[5, 0, 1, 0, 0, 0, 1, 2]⟩, .string ⟨#[5]⟩, .int .i64 0, .string ⟨#[8, 0, 0]⟩, .string ⟨#[9]⟩, .int .i64 0, .string ⟨#[6, 0, 1, 1]⟩, .string ⟨#[0, 0, 0]⟩, .int .i64 1, .string ⟨#[3, 0, 0, 0, 0, 0, 2]⟩, .string ⟨#[0, 97, 98]⟩, .int .i64 0, .string ⟨#[6, 0, 1, 2]⟩, .string ⟨#[3]⟩, .int .i64 0, .string ⟨#[7, 0, 0]⟩, .string ⟨#[0]⟩, .int .i64 0, .string ⟨#[9, 0, 1]⟩, .string ⟨#[4]⟩, .int .i64 1, .string ⟨#[3, 0, 0, 0, 0, 0, 1]⟩, .string ⟨#[4]⟩, .int .i64 0, .string ⟨#[5, 0, 0, 0, 0, 0, 10, 7]⟩, .string ⟨#[0, 0, 17]⟩, .int .i64 0, .string ⟨#[2, 0, 17]⟩, .string ⟨#[9]⟩, .int .i64 0, .string ⟨#[2, 0, 0]⟩, .string ⟨#[0]⟩, .int .i64 0, .string ⟨#[9, 0, 17]⟩, .string ⟨#[4]⟩, .int .i64 0, .string ⟨#[1, 0, 32]⟩, .string ⟨#[0, 0, 16]⟩]
theorem ex_at (i : Nat) (hi : i < 26) : exCells[i * 3]? = some (.int .i64 (exT i : Int)) ∧ exCells[i * 3 + 1]? = some (.string (exA i)) ∧ exCells[i * 3 + 2]? = some (.string (exG i)) := by
  match i, hi with
  | 0, _ => exact ⟨rfl, rfl, rfl⟩
  | 1, _ => exact ⟨rfl, rfl, rfl⟩
  | 2, _ => exact ⟨rfl, rfl, rfl⟩
  | 3, _ => exact ⟨rfl, rfl, rfl⟩
  | 4, _ => exact ⟨rfl, rfl, rfl⟩
  | 5, _ => exact ⟨rfl, rfl, rfl⟩
  | 6, _ => exact ⟨rfl, rfl, rfl⟩
  | 7, _ => exact ⟨rfl, rfl, rfl⟩
  | 8, _ => exact ⟨rfl, rfl, rfl⟩
  | 9, _ => exact ⟨rfl, rfl, rfl⟩
  | 10, _ => exact ⟨rfl, rfl, rfl⟩
  | 11, _ => exact ⟨rfl, rfl, rfl⟩
  | 12, _ => exact ⟨rfl, rfl, rfl⟩
  | 13, _ => exact ⟨rfl, rfl, rfl⟩
  | 14, _ => exact ⟨rfl, rfl, rfl⟩
  | 15, _ => exact ⟨rfl, rfl, rfl⟩
  | 16, _ => exact ⟨rfl, rfl, rfl⟩
  | 17, _ => exact ⟨rfl, rfl, rfl⟩
  | 18, _ => exact ⟨rfl, rfl, rfl⟩
  | 19, _ => exact ⟨rfl, rfl, rfl⟩
  | 20, _ => exact ⟨rfl, rfl, rfl⟩
  | 21, _ => exact ⟨rfl, rfl, rfl⟩
  | 22, _ => exact ⟨rfl, rfl, rfl⟩
  | 23, _ => exact ⟨rfl, rfl, rfl⟩
  | 24, _ => exact ⟨rfl, rfl, rfl⟩
  | 25, _ => exact ⟨rfl, rfl, rfl⟩
  | n + 26, h => omega
theorem exA_size (i : Nat) : (exA i).size ≤ 140737488355328 := by
  unfold exA
  split <;> decide

set_option maxHeartbeats 1600000 in
set_option maxRecDepth 100000 in
theorem example_any (w : World) : Calls Try.prog 43 #[] w fun e w' => e = .returned (.slice (some ⟨w.heap.size, 0, none⟩) 26 26) ∧ w' = w.alloc (.cells exCells 74) := by
  go_enter Try.func43, Try.ntmps43
  go_wp2_with fail
  go_ret
  exact ⟨rfl, rfl⟩

end Go.Proofs.Ytkjjamigaamllaa
