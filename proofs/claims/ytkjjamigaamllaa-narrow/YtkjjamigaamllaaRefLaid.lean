/-
  A thing is laid, by the document's house.
-/
import Derived.Test.YtkjjamigaamllaaRefBase
import Derived.Test.YtkjjamigaamllaaHouseLook
import Derived.Test.YtkjjamigaamllaaAppendMine
namespace Go.Proofs.Ytkjjamigaamllaa
open Go.RowKit
set_option linter.unusedSimpArgs false

def RL.push (L : RL) (n : Nat) (v : Value) (b : Nat) : RL := { L with vt := v, th := fun i => if i = n then b else L.th i }
theorem ptrs_push (f : Nat → Nat) (n b : Nat) : ptrs (fun i => if i = n then b else f i) (n + 1) = ptrs f n ++ [.pointer (some ⟨b, 0, none⟩)] := by
  unfold ptrs
  rw [List.range_succ, List.map_append]
  congr 1
  · apply List.map_congr_left
    intro i hi
    rw [List.mem_range] at hi
    simp [show i ≠ n by omega]
  · simp
theorem ptrs_congr {f f' : Nat → Nat} {n : Nat} (h : ∀ i, i < n → f i = f' i) : ptrs f n = ptrs f' n := by
  unfold ptrs
  apply List.map_congr_left
  intro i hi
  rw [List.mem_range] at hi
  rw [h i hi]

theorem newCell2 (w : World) (o : Obj) (cs : Array Value) (t : TypeId) (i : Nat) : ((w.alloc o).alloc (.cells cs t)).cell? ⟨w.heap.size + 1, i, none⟩ = cs[i]? := by
  have h0 := newRowAt (w.alloc o) (.cells cs t)
  rw [sizeAlloc] at h0
  exact rowCell h0 i

end Go.Proofs.Ytkjjamigaamllaa
