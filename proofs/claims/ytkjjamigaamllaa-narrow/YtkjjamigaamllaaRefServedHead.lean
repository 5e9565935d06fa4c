/-
  What the document's house answers, as plain functions; the common head.
-/
import Derived.Test.YtkjjamigaamllaaRefLeft
import Derived.Test.YtkjjamigaamllaaHousePut
namespace Go.Proofs.Ytkjjamigaamllaa
open Go.RowKit
set_option linter.unusedSimpArgs false

/-- what a Read is answered, of a stretch of so many bytes from one on, with these rights -/
def readV (m z : Int) (bs : List Int) (f o l : Int) : Int × ByteArray :=
  if m % 2 = 0 then (5, nilS)
  else if 64 < l ∨ z < o + l then (6, nilS)
  else (0, strOfNums ((bs.drop (f + o).toNat).take l.toNat))
def writeE (m z o : Int) (d : Nat) : Int := if m / 2 % 2 = 0 then 5 else if z < o + (d : Int) then 6 else 0
def RObj.turn (x : RObj) (b : List Int) : RObj := { x with bytes := b }
/-- may what has these rights be given on with those? -/
def shareB (m r : Int) : Bool := decide (m / 4 = 1) && decide (r ≤ 7) && decide (r % 2 ≤ m % 2) && decide (r / 2 % 2 ≤ m / 2 % 2)

end Go.Proofs.Ytkjjamigaamllaa
