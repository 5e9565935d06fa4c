/-
  All things below one are dead, by the document's house.
-/
import Derived.Test.YtkjjamigaamllabRefLaid
import Derived.Test.YtkjjamigaamllabHouseAlloc
namespace Go.Proofs.Ytkjjamigaamllab
open Go.RowKit
set_option linter.unusedSimpArgs false

def RThing.die (x : RThing) (b : Bool) : RThing := { x with dead := x.dead || b }
def boolCells (f : Nat → Bool) (n : Nat) : Array Value := ((List.range n).map fun i => .bool (f i)).toArray
theorem boolCells_at (f : Nat → Bool) {n i : Nat} (h : i < n) : (boolCells f n)[i]? = some (.bool (f i)) := by simp [boolCells, h]
theorem boolCells_set (f : Nat → Bool) (n k : Nat) : (boolCells f n).setIfInBounds k (.bool true) = boolCells (fun i => if i = k then true else f i) n := by
  apply Array.ext
  · simp [boolCells]
  · intro j h1 h2
    simp [boolCells, Array.getElem_setIfInBounds]
    by_cases h : k = j
    · simp [h]
    · simp [h, show j ≠ k by omega]
theorem made_bools (n : Nat) : madeCells (Value.bool false).cells (n * 1) = boolCells (fun _ => false) n := by
  apply Array.ext
  · simp [madeCells, boolCells]
  · intro i h1 h2
    simp [madeCells, boolCells, Value.cells, Nat.mod_one]

end Go.Proofs.Ytkjjamigaamllab
