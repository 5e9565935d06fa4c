/-
  Alloc, by the document's house.
-/
import Derived.Test.YtkjjamigaamllaaRefClear
import Derived.Deep.RegionLaw
import Derived.Deep.QuietTactic
namespace Go.Proofs.Ytkjjamigaamllaa
open Go.RowKit
set_option linter.unusedSimpArgs false

def RL.pushO (L : RL) (n : Nat) (v : Value) (ob b : Nat) : RL := { L with vo := v, ob := fun i => if i = n then ob else L.ob i, by_ := fun i => if i = n then b else L.by_ i }

theorem newCell3 (w : World) (A B : Obj) (cs : Array Value) (t : TypeId) (i : Nat) : ((((w.alloc A).alloc B).alloc (.cells cs t)).drew).cell? ⟨w.heap.size + 1 + 1, i, none⟩ = cs[i]? := by
  have h0 := newRowAt ((w.alloc A).alloc B) (.cells cs t)
  rw [sizeAlloc, sizeAlloc] at h0
  exact rowCell h0 i

end Go.Proofs.Ytkjjamigaamllaa
