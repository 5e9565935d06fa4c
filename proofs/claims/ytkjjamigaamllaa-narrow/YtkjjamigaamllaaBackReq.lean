/-
  What tenurekeep.pick and tenurekeep.request return: a request that is one, and how many bytes it has.
-/
import Derived.Test.YtkjjamigaamllaaRefEncHead
namespace Go.Proofs.Ytkjjamigaamllaa
open Go.RowKit
set_option linter.unusedSimpArgs false

/-- an int -/
def inR (n : Int) : Prop := -9223372036854775808 ≤ n ∧ n ≤ 9223372036854775807

set_option maxHeartbeats 400000 in
theorem pick_any (c m : Int) (w : World) (hc : inR c) (h0 : 0 < m) (h1 : m ≤ 65536) :
    Calls Try.prog 27 #[.int .i64 c, .int .i64 m] w fun e w' => ∃ v : Int, e = .returned (.int .i64 v) ∧ 0 ≤ v ∧ v < m ∧ w' = w := by
  obtain ⟨c0, c1⟩ := hc
  have hm : (m == 0) = false := beq_eq_false_iff_ne.2 (by omega)
  by_cases h : c < 0
  · have e1 : -((c + 1).tmod m) = (-(c + 1)) % m := by rw [← Int.neg_tmod, Int.tmod_eq_emod_of_nonneg (by omega)]
    have E1 : Hid (-((c + 1).tmod m) = (-(c + 1)) % m) := e1
    clear e1
    go_enter Try.func27, Try.ntmps27
    go_wp2
    go_ret
    exact ⟨_, rfl, by rw [E1.out]; exact Int.emod_nonneg _ (by omega), by rw [E1.out]; exact Int.emod_lt_of_pos _ h0, rfl⟩
  · go_enter Try.func27, Try.ntmps27
    go_wp2
    go_ret
    exact ⟨_, rfl, Int.emod_nonneg _ (by omega), Int.emod_lt_of_pos _ h0, rfl⟩

/-- a slice of ints that came in -/
def IsRow (k : IntKind) (w : World) (a : Option Addr) (len cap : Nat) (zs : List Int) : Prop :=
  (a = none ∧ len = 0 ∧ cap = 0 ∧ zs = []) ∨
  ∃ x, a = some x ∧ len ≤ cap ∧ cap ≤ maxLen ∧ zs.length = cap ∧ (∀ i, i < zs.length → w.cell? (x.add i) = some (.int k (zs.getD i 0))) ∧ ∀ n ∈ zs, (Lit.int k n).wf = true

end Go.Proofs.Ytkjjamigaamllaa
