/-
  The document's house (all that was ever laid) and the machine of slots: how the two stand to each other. No program is named here.
-/
import Derived.Test.YtkjjamigaamllaaMachInv
import Derived.Test.YtkjjamigaamllaaRefServedHead
namespace Go.Proofs.Ytkjjamigaamllaa
open Go.RowKit

/-- the place of the slot into which a thing was laid -/
def plc (x : RThing) : Nat := 16 * x.tenant.toNat + x.slot.toNat

theorem sumN_zero {f : Nat → Nat} {n : Nat} (h : ∀ k, k < n → f k = 0) : sumN f n = 0 := by
  induction n with
  | zero => rfl
  | succ n ih => simp [sumN, ih (fun k hk => h k (by omega)), h n (by omega)]
theorem sumN_single {f : Nat → Nat} {n i : Nat} (hi : i < n) (h1 : f i = 1) (h : ∀ k, k < n → k ≠ i → f k = 0) : sumN f n = 1 := by
  have := sumN_upd (f := fun _ => 0) (g := f) n hi (fun k hk hne => h k hk hne)
  rw [sumN_zero (f := fun _ => 0) (fun _ _ => rfl), h1] at this
  omega
theorem sumN_add (f g : Nat → Nat) (n : Nat) : sumN (fun k => f k + g k) n = sumN f n + sumN g n := by
  induction n with
  | zero => rfl
  | succ n ih => simp only [sumN, ih]; omega
theorem sumN_swap (f : Nat → Nat → Nat) (n m : Nat) : sumN (fun i => sumN (fun s => f i s) m) n = sumN (fun s => sumN (fun i => f i s) n) m := by
  induction n with
  | zero => simp only [sumN]; exact (sumN_zero (fun _ _ => rfl)).symm
  | succ n ih =>
    simp only [sumN]
    rw [ih, ← sumN_add]
theorem firstN_congr {f g : Nat → Bool} {n : Nat} (h : ∀ k, k < n → f k = g k) : firstN f n = firstN g n := by
  induction n with
  | zero => rfl
  | succ n ih => simp [firstN, ih (fun k hk => h k (by omega)), h n (by omega)]

end Go.Proofs.Ytkjjamigaamllaa
