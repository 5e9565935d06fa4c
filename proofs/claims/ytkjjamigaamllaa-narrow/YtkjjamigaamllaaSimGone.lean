/-
  The two houses behind what ended, or was written: Revoke, Drop, Free, Write.
-/
import Derived.Test.YtkjjamigaamllaaSimBase
namespace Go.Proofs.Ytkjjamigaamllaa
open Go.RowKit

theorem die_dead {x : RThing} {b : Bool} : (x.die b).dead = false ↔ x.dead = false ∧ b = false := by
  show (x.dead || b) = false ↔ _
  cases x.dead <;> cases b <;> simp

/-- chunks are those of roots -/
theorem taken_gone {M M' : Mach} {D : Nat → Prop} (G : Gone D M M') {u : Nat} (h : ∀ s, s < M.ns → D (16 * u + s) → (M.s (16 * u + s)).bytes = []) : M'.taken u = M.taken u := by
  unfold Mach.taken
  rw [G.ns]
  refine sumN_congr _ (fun s hs => ?_)
  by_cases hd : D (16 * u + s)
  · rw [G.out _ hd, h s hs hd]; rfl
  · rw [G.same _ hd]

end Go.Proofs.Ytkjjamigaamllaa
