/-
  The small functions of the laws without the document's answer.
-/
import Derived.Test.YtkjjamigaamllaaKeepPure
import Derived.Test.YtkjjamigaamllaaKeepAsk
namespace Go.Proofs.Ytkjjamigaamllaa
open Go.RowKit
set_option linter.unusedSimpArgs false

/-- which of n things a raw number speaks of -/
def pickK (c m : Int) : Int := if c < 0 then (-(c + 1)) % m else c % m
theorem pickK_bd (c : Int) {m : Int} (h : 0 < m) : 0 ≤ pickK c m ∧ pickK c m < m := by
  unfold pickK
  split
  · exact ⟨Int.emod_nonneg _ (by omega), Int.emod_lt_of_pos _ h⟩
  · exact ⟨Int.emod_nonneg _ (by omega), Int.emod_lt_of_pos _ h⟩

set_option maxHeartbeats 1600000 in
theorem kpick_any (c m : Int) (w : World) (hc : inR c) (h0 : 0 < m) (h1 : m ≤ 8796093022210) :
    Calls Try.prog 27 #[.int .i64 c, .int .i64 m] w fun e w' => e = .returned (.int .i64 (pickK c m)) ∧ w' = w := by
  obtain ⟨c0, c1⟩ := hc
  have hm : (m == 0) = false := beq_eq_false_iff_ne.2 (by omega)
  by_cases h : c < 0
  · have e1 : -((c + 1).tmod m) = (-(c + 1)) % m := by rw [← Int.neg_tmod, Int.tmod_eq_emod_of_nonneg (by omega)]
    have E1 : Hid (-((c + 1).tmod m) = pickK c m) := by show _ = _; unfold pickK; rw [if_pos h]; exact e1
    clear e1
    go_enter Try.func27, Try.ntmps27
    go_wp2
    go_ret
    exact ⟨ret_int E1.out, rfl⟩
  · have E1 : Hid (c % m = pickK c m) := by show _ = _; unfold pickK; rw [if_neg h]
    go_enter Try.func27, Try.ntmps27
    go_wp2
    go_ret
    exact ⟨ret_int E1.out, rfl⟩

set_option maxHeartbeats 400000 in
theorem kgood_any (a : ByteArray) (v : Int) (w : World) (h : 0 < a.size) (hv : byt a 0 = v) :
    Calls Try.prog 32 #[.string a] w fun e w' => e = .returned (.bool (v == 0)) ∧ w' = w := by
  have z0 := ne_empty h
  have E : Hid ((a[0].toNat : Int) = v) := byte_of h hv
  clear hv
  go_enter Try.func32, Try.ntmps32
  go_wp2
  go_ret
  exact ⟨by rw [E.out]; rfl, rfl⟩

set_option maxHeartbeats 400000 in
theorem khandle_any (a : ByteArray) (w : World) (h : a.size = 3) :
    Calls Try.prog 34 #[.string a] w fun e w' => e = .returned (.int .i64 (256 * byt a 1 + byt a 2)) ∧ Below w.heap.size w w' := by
  have h1z : 1 < a.size := by omega
  have h2z : 2 < a.size := by omega
  have z3 : ((a.size : Int) == 3) = true := by simp; omega
  have b1 := i64_byte
  have E : Hid ((256 : Int) * (a[1].toNat : Int) + (a[2].toNat : Int) = (256 : Int) * byt a 1 + byt a 2) := by
    show _ = _
    rw [byt_in h1z, byt_in h2z]
  have g1 : (a[1].toNat : Int) ≤ 255 := by have := a[1].toNat_lt; omega
  have g2 : (a[2].toNat : Int) ≤ 255 := by have := a[2].toNat_lt; omega
  go_enter Try.func34, Try.ntmps34
  go_wp2
  go_region
  all_goals go_wp2
  all_goals go_ret
  all_goals exact ⟨ret_int E.out, (Below.refl _ _).drew⟩

set_option maxHeartbeats 400000 in
theorem khandle_no (a : ByteArray) (w : World) (h : a.size ≠ 3) :
    Calls Try.prog 34 #[.string a] w fun e w' => e = .returned (.int .i64 0) ∧ w' = w := by
  have z3 : ((a.size : Int) == 3) = false := by simp; omega
  go_enter Try.func34, Try.ntmps34
  go_wp2
  go_ret
  exact ⟨rfl, rfl⟩

set_option maxHeartbeats 400000 in
theorem kfresh_any {B0 : Nat} {w : World} {rb : Nat} {K : KRun} (t : Nat) (h : KAt B0 w rb K) (ht : t < K.M.nt) :
    Calls Try.prog 47 #[.pointer (some ⟨rb, 0, none⟩), .int .i64 (t : Int)] w fun e w' => e = .returned (.bool (decide (((K.gl t).length : Int) < 4095))) ∧ w' = w := by
  have c4 : w.cell? ⟨rb, 4, none⟩ = some (.slice (some ⟨K.gb, 0, none⟩) K.M.nt K.M.nt) := rowCell h.row 4
  obtain ⟨va, vc, hv⟩ : ∃ va vc, K.gv t = .slice va (K.gl t).length vc := by
    rcases (h.gown t ht).2 with ⟨e1, e2⟩ | ⟨g, cap, cur, e1, _⟩
    · exact ⟨none, 0, by rw [e1]; simp at e2; simp [e2]⟩
    · exact ⟨_, _, e1⟩
  have cg : w.cell? ⟨K.gb, t, none⟩ = some (.slice va (K.gl t).length vc) := by
    rw [rowCell h.garr, ← hv]
    simp [KRun.gcells, ht]
  clear h hv
  have ht2 : (t : Int) < (K.M.nt : Int) := by omega
  go_enter Try.func47, Try.ntmps47
  go_wp2
  go_ret
  exact ⟨rfl, rfl⟩

/-- the kind of a tenant -/
def kindV (a : Int) (t : Nat) : Int := a / 2 ^ t % 2
theorem bit_1 {x : Int} (h : 0 ≤ x ∧ x ≤ 15) : bits BinOp.and IntKind.i64 x 1 = x % 2 := by
  have : x = 0 ∨ x = 1 ∨ x = 2 ∨ x = 3 ∨ x = 4 ∨ x = 5 ∨ x = 6 ∨ x = 7 ∨ x = 8 ∨ x = 9 ∨ x = 10 ∨ x = 11 ∨ x = 12 ∨ x = 13 ∨ x = 14 ∨ x = 15 := by omega
  rcases this with rfl | rfl | rfl | rfl | rfl | rfl | rfl | rfl | rfl | rfl | rfl | rfl | rfl | rfl | rfl | rfl <;> decide
theorem div_pow_bd {x : Int} (h : 0 ≤ x ∧ x ≤ 15) (t : Nat) (ht : t ≤ 4) : 0 ≤ x / 2 ^ t ∧ x / 2 ^ t ≤ 15 := by
  have : t = 0 ∨ t = 1 ∨ t = 2 ∨ t = 3 ∨ t = 4 := by omega
  rcases this with rfl | rfl | rfl | rfl | rfl <;> simp <;> omega

set_option maxHeartbeats 400000 in
theorem kkind_any {B0 : Nat} {w : World} {rb : Nat} {K : KRun} (t : Nat) (h : KAt B0 w rb K) (ha : 0 ≤ K.apart ∧ K.apart ≤ 15) (ht : t ≤ 4) :
    Calls Try.prog 73 #[.pointer (some ⟨rb, 0, none⟩), .int .i64 (t : Int)] w fun e w' => e = .returned (.int .i64 (kindV K.apart t)) ∧ w' = w := by
  have c8 : w.cell? ⟨rb, 8, none⟩ = some (.int .i64 K.apart) := rowCell h.row 8
  clear h
  go_enter Try.func73, Try.ntmps73
  go_wp2
  go_ret
  exact ⟨ret_int (bit_1 (div_pow_bd ha t ht)), rfl⟩

end Go.Proofs.Ytkjjamigaamllaa
