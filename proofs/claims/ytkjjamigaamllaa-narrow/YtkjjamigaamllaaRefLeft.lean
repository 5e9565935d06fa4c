/-
  Free and Drop, by the document's house.
-/
import Derived.Test.YtkjjamigaamllaaRefAlloc
namespace Go.Proofs.Ytkjjamigaamllaa
open Go.RowKit
set_option linter.unusedSimpArgs false

def RObj.lost (x : RObj) : RObj := { x with gone := true }
/-- Free is for roots, Drop for what is none -/
def fitsRoot (f op : Int) : Prop := f = -1 ↔ op = 2

end Go.Proofs.Ytkjjamigaamllaa
