/-
  All things below one are dead, by the document's house.
-/
import Derived.Test.YtkjjamigaamllaaRefLaid
import Derived.Test.YtkjjamigaamllaaHouseAlloc
namespace Go.Proofs.Ytkjjamigaamllaa
open Go.RowKit
set_option linter.unusedSimpArgs false

def RThing.die (x : RThing) (b : Bool) : RThing := { x with dead := x.dead || b }
def boolCells (f : Nat → Bool) (n : Nat) : Array Value := ((List.range n).map fun i => .bool (f i)).toArray
theorem boolCells_at (f : Nat → Bool) {n i : Nat} (h : i < n) : (boolCells f n)[i]? = some (.bool (f i)) := by simp [boolCells, h]
theorem boolCells_set (f : Nat → Bool) (n k : Nat) : (boolCells f n).setIfInBounds k (.bool true) = boolCells (fun i => if i = k then true else f i) n := by
  apply Array.ext
  · simp [boolCells]
  · intro j h1 h2
    simp [boolCells, Array.getElem_setIfInBounds]
    by_cases h : k = j
    · simp [h]
    · simp [h, show j ≠ k by omega]
theorem made_bools (n : Nat) : madeCells (Value.bool false).cells (n * 1) = boolCells (fun _ => false) n := by
  apply Array.ext
  · simp [madeCells, boolCells]
  · intro i h1 h2
    simp [madeCells, boolCells, Value.cells, Nat.mod_one]
/-- make([]bool, n) -/
theorem make_bools (w : World) (n : Nat) (hn : n ≤ 262144) : (Instr.makeSlice 142 (.int .i64 (n : Int)) (.int .i64 (n : Int))).run Try.prog w = .ok (.slice (some ⟨w.heap.size, 0, none⟩) n n) (w.alloc (.cells (boolCells (fun _ => false) n) 4)) := by
  have := run_makeSlice (P := Try.prog) w 142 4 Try.t4 (.bool false) Try.underlying142 (by kernel_rfl) (by kernel_rfl) .i64 .i64 (n : Int) (n : Int) (by omega) (Int.le_refl _) (by show (n : Int).toNat * 1 ≤ _; omega) (by show ((1 : Nat) : Int) * n ≤ _; omega) (by omega)
  rw [this]
  have e : (n : Int).toNat * Try.t4.size = n * 1 := rfl
  rw [e, made_bools]
  rfl

end Go.Proofs.Ytkjjamigaamllaa
