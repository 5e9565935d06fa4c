/-
  What wire.Decode returns.
-/
import Derived.Test.YtkjjamigaamllaaDecLeaves
import Derived.Test.YtkjjamigaamllaaRefEncHead
namespace Go.Proofs.Ytkjjamigaamllaa
open Go.RowKit

/-- where the data begin -/
def dAt (op : Int) : Int := 1 + shH op + shO op + shL op + shR op + shT op

theorem sh_bd (op : Int) : (0 ≤ shH op ∧ shH op ≤ 2) ∧ (0 ≤ shO op ∧ shO op ≤ 2) ∧ (0 ≤ shL op ∧ shL op ≤ 2) ∧ (0 ≤ shR op ∧ shR op ≤ 2) ∧ (0 ≤ shT op ∧ shT op ≤ 2) ∧ (0 ≤ shD op ∧ shD op ≤ 64) := by
  unfold shH shO shL shR shT shD
  refine ⟨?_, ?_, ?_, ?_, ?_, ?_⟩ <;> split <;> simp

set_option maxHeartbeats 400000 in
theorem dec_empty (s : ByteArray) (w : World) (_hs : s.size ≤ 140737488355328) (h0 : s.size = 0) :
    Calls Try.prog 17 #[.string s] w fun e w' => e = .returned (.tuple #[.agg #[.int .i64 0, .int .i64 0, .int .i64 0, .int .i64 0, .int .i64 0, .int .i64 0, .string ⟨#[]⟩], .int .i64 1]) ∧ Below w.heap.size w w' := by
  go_enter Try.func17, Try.ntmps17
  go_wp2
  exact bodyPost_ret (v := .tuple #[.agg #[.int .i64 0, .int .i64 0, .int .i64 0, .int .i64 0, .int .i64 0, .int .i64 0, .string ⟨#[]⟩], .int .i64 1]) (by simp [results, Try.results17, go_sem]) rfl ⟨rfl, (Below.refl _ _).alloc (Nat.le_refl _) _⟩

set_option maxHeartbeats 400000 in
theorem dec_unknown (s : ByteArray) (w : World) (_hs : s.size ≤ 140737488355328) (h0 : 0 < s.size) (op : Int) (hop : wrap64 (s[0].toNat : Int) = op) (hk : knw op = false) :
    Calls Try.prog 17 #[.string s] w fun e w' => e = .returned (.tuple #[.agg #[.int .i64 0, .int .i64 0, .int .i64 0, .int .i64 0, .int .i64 0, .int .i64 0, .string ⟨#[]⟩], .int .i64 1]) ∧ Below w.heap.size w w' := by
  go_enter Try.func17, Try.ntmps17
  go_wp2_with fail
  refine (shape_any _ _).mono ?_
  rintro e w1 ⟨rfl, hb1⟩
  have q1 := keepRow hb1 (by simp) (newRowAt _ _)
  rw [sizeAlloc] at hb1
  have qc1 := rowCell q1
  have qf1 := rowFree q1
  have hz1 : w.heap.size < w1.heap.size := by have hz := hb1.size; rw [sizeAlloc] at hz; omega
  go_wp2_with fail
  have r2 := (Below.heap_alloc _ (.cells #[.int .i64 (shH op), .int .i64 (shO op), .int .i64 (shL op), .int .i64 (shR op), .int .i64 (shT op), .int .i64 (shD op)] 85) _ (by simp only [setSize]; exact hz1)).trans (setRow7 (.int .i64 0) (.int .i64 0) (.int .i64 0) (.int .i64 0) (.int .i64 0) (.int .i64 0) (.string ⟨#[]⟩) q1)
  have B2 := (setBelow7 (g := w.heap.size) (.int .i64 0) (.int .i64 0) (.int .i64 0) (.int .i64 0) (.int .i64 0) (.int .i64 0) (.string ⟨#[]⟩) (((Below.refl w.heap.size w).alloc (Nat.le_refl _) _).trans (hb1.mono (Nat.le_succ _))) (Nat.le_refl _)).alloc (by simp only [setSize]; omega) (.cells #[.int .i64 (shH op), .int .i64 (shO op), .int .i64 (shL op), .int .i64 (shR op), .int .i64 (shT op), .int .i64 (shD op)] 85)
  have rc := rowCell r2
  exact bodyPost_ret (v := .tuple #[.agg #[.int .i64 0, .int .i64 0, .int .i64 0, .int .i64 0, .int .i64 0, .int .i64 0, .string ⟨#[]⟩], .int .i64 1]) (by simp [results, Try.results17, go_sem, rc]) rfl ⟨rfl, B2⟩

set_option maxRecDepth 100000 in
set_option maxHeartbeats 1000000 in
theorem dec_short (s : ByteArray) (w : World) (_hs : s.size ≤ 140737488355328) (h0 : 0 < s.size) (op : Int) (hop : wrap64 (s[0].toNat : Int) = op) (hk : knw op = true)
    (hl : (s.size : Int) < 1 + shH op + shO op + shL op + shR op + shT op) :
    Calls Try.prog 17 #[.string s] w fun e w' => e = .returned (.tuple #[.agg #[.int .i64 0, .int .i64 0, .int .i64 0, .int .i64 0, .int .i64 0, .int .i64 0, .string ⟨#[]⟩], .int .i64 1]) ∧ Below w.heap.size w w' := by
  obtain ⟨⟨a1, a2⟩, ⟨b1, b2⟩, ⟨c1, c2⟩, ⟨d1, d2⟩, ⟨e1, e2⟩, f1, f2⟩ := sh_bd op
  go_enter Try.func17, Try.ntmps17
  go_wp2_with fail
  refine (shape_any _ _).mono ?_
  rintro e w1 ⟨rfl, hb1⟩
  have q1 := keepRow hb1 (by simp) (newRowAt _ _)
  rw [sizeAlloc] at hb1
  have qc1 := rowCell q1
  have qf1 := rowFree q1
  have hz1 : w.heap.size < w1.heap.size := by have hz := hb1.size; rw [sizeAlloc] at hz; omega
  clear f1
  go_wp2_with fail
  have r2 := (Below.heap_alloc _ (.cells #[.int .i64 (shH op), .int .i64 (shO op), .int .i64 (shL op), .int .i64 (shR op), .int .i64 (shT op), .int .i64 (shD op)] 85) _ (by simp only [setSize]; exact hz1)).trans (setRow7 (.int .i64 0) (.int .i64 0) (.int .i64 0) (.int .i64 0) (.int .i64 0) (.int .i64 0) (.string ⟨#[]⟩) q1)
  have B2 := (setBelow7 (g := w.heap.size) (.int .i64 0) (.int .i64 0) (.int .i64 0) (.int .i64 0) (.int .i64 0) (.int .i64 0) (.string ⟨#[]⟩) (((Below.refl w.heap.size w).alloc (Nat.le_refl _) _).trans (hb1.mono (Nat.le_succ _))) (Nat.le_refl _)).alloc (by simp only [setSize]; omega) (.cells #[.int .i64 (shH op), .int .i64 (shO op), .int .i64 (shL op), .int .i64 (shR op), .int .i64 (shT op), .int .i64 (shD op)] 85)
  have rc := rowCell r2
  exact bodyPost_ret (v := .tuple #[.agg #[.int .i64 0, .int .i64 0, .int .i64 0, .int .i64 0, .int .i64 0, .int .i64 0, .string ⟨#[]⟩], .int .i64 1]) (by simp [results, Try.results17, go_sem, rc]) rfl ⟨rfl, B2⟩

set_option maxRecDepth 100000 in
set_option maxHeartbeats 1000000 in
theorem dec_long (s : ByteArray) (w : World) (_hs : s.size ≤ 140737488355328) (h0 : 0 < s.size) (op : Int) (hop : wrap64 (s[0].toNat : Int) = op) (hk : knw op = true)
    (hl : 1 + shH op + shO op + shL op + shR op + shT op + shD op < (s.size : Int)) :
    Calls Try.prog 17 #[.string s] w fun e w' => e = .returned (.tuple #[.agg #[.int .i64 0, .int .i64 0, .int .i64 0, .int .i64 0, .int .i64 0, .int .i64 0, .string ⟨#[]⟩], .int .i64 1]) ∧ Below w.heap.size w w' := by
  obtain ⟨⟨a1, a2⟩, ⟨b1, b2⟩, ⟨c1, c2⟩, ⟨d1, d2⟩, ⟨e1, e2⟩, f1, f2⟩ := sh_bd op
  go_enter Try.func17, Try.ntmps17
  go_wp2_with fail
  refine (shape_any _ _).mono ?_
  rintro e w1 ⟨rfl, hb1⟩
  have q1 := keepRow hb1 (by simp) (newRowAt _ _)
  rw [sizeAlloc] at hb1
  have qc1 := rowCell q1
  have qf1 := rowFree q1
  have hz1 : w.heap.size < w1.heap.size := by have hz := hb1.size; rw [sizeAlloc] at hz; omega
  have hl2 : ¬ (s.size : Int) < 1 + shH op + shO op + shL op + shR op + shT op := by omega
  go_wp2_with fail
  have r2 := (Below.heap_alloc _ (.cells #[.int .i64 (shH op), .int .i64 (shO op), .int .i64 (shL op), .int .i64 (shR op), .int .i64 (shT op), .int .i64 (shD op)] 85) _ (by simp only [setSize]; exact hz1)).trans (setRow7 (.int .i64 0) (.int .i64 0) (.int .i64 0) (.int .i64 0) (.int .i64 0) (.int .i64 0) (.string ⟨#[]⟩) q1)
  have B2 := (setBelow7 (g := w.heap.size) (.int .i64 0) (.int .i64 0) (.int .i64 0) (.int .i64 0) (.int .i64 0) (.int .i64 0) (.string ⟨#[]⟩) (((Below.refl w.heap.size w).alloc (Nat.le_refl _) _).trans (hb1.mono (Nat.le_succ _))) (Nat.le_refl _)).alloc (by simp only [setSize]; omega) (.cells #[.int .i64 (shH op), .int .i64 (shO op), .int .i64 (shL op), .int .i64 (shR op), .int .i64 (shT op), .int .i64 (shD op)] 85)
  have rc := rowCell r2
  exact bodyPost_ret (v := .tuple #[.agg #[.int .i64 0, .int .i64 0, .int .i64 0, .int .i64 0, .int .i64 0, .int .i64 0, .string ⟨#[]⟩], .int .i64 1]) (by simp [results, Try.results17, go_sem, rc]) rfl ⟨rfl, B2⟩

end Go.Proofs.Ytkjjamigaamllaa
