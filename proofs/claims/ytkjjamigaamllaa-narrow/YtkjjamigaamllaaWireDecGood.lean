/-
  What wire.Decode returns where bytes are a request.
-/
import Derived.Test.YtkjjamigaamllaaWireDec
namespace Go.Proofs.Ytkjjamigaamllaa
open Go.RowKit

set_option maxRecDepth 100000 in
set_option maxHeartbeats 2000000 in
theorem dec_good (s : ByteArray) (w : World) (hs : s.size ≤ 140737488355328) (h0 : 0 < s.size) (op : Int) (hop : wrap64 (s[0].toNat : Int) = op) (hk : knw op = true)
    (hl1 : 1 + shH op + shO op + shL op + shR op + shT op ≤ (s.size : Int)) (hl2 : (s.size : Int) ≤ 1 + shH op + shO op + shL op + shR op + shT op + shD op) :
    Calls Try.prog 17 #[.string s] w fun e w' => e = .returned (.tuple #[.agg #[.int .i64 op, .int .i64 (num s 1 (shH op).toNat), .int .i64 (num s (1 + shH op).toNat (shO op).toNat), .int .i64 (num s (1 + shH op + shO op).toNat (shL op).toNat),
      .int .i64 (num s (1 + shH op + shO op + shL op).toNat (shR op).toNat), .int .i64 (num s (1 + shH op + shO op + shL op + shR op).toNat (shT op).toNat), .string (s.extract (1 + shH op + shO op + shL op + shR op + shT op).toNat s.size)], .int .i64 0]) ∧ Below w.heap.size w w' := by
  obtain ⟨⟨a1, a2⟩, ⟨b1, b2⟩, ⟨c1, c2⟩, ⟨d1, d2⟩, ⟨e1, e2⟩, f1, f2⟩ := sh_bd op
  go_enter Try.func17, Try.ntmps17
  go_wp2_with fail
  refine (shape_any _ _).mono ?_
  rintro e w1 ⟨rfl, hb1⟩
  have q1 := keepRow hb1 (by simp) (newRowAt _ _)
  rw [sizeAlloc] at hb1
  have qc1 := rowCell q1
  have qf1 := rowFree q1
  have hz1 : w.heap.size < w1.heap.size := by have hz := hb1.size; rw [sizeAlloc] at hz; omega
  have hn1 : ¬ (s.size : Int) < 1 + shH op + shO op + shL op + shR op + shT op := by omega
  have hn2 : ¬ 1 + shH op + shO op + shL op + shR op + shT op + shD op < (s.size : Int) := by omega
  go_wp2_with fail
  refine (numberAt_any s _ _ _ hs (by omega) (by omega) (by omega) (by omega)).mono ?_
  rintro e w2 ⟨rfl, rfl⟩
  go_wp2_with fail
  refine (numberAt_any s _ _ _ hs (by omega) (by omega) (by omega) (by omega)).mono ?_
  rintro e w2 ⟨rfl, rfl⟩
  go_wp2_with fail
  refine (numberAt_any s _ _ _ hs (by omega) (by omega) (by omega) (by omega)).mono ?_
  rintro e w2 ⟨rfl, rfl⟩
  go_wp2_with fail
  refine (numberAt_any s _ _ _ hs (by omega) (by omega) (by omega) (by omega)).mono ?_
  rintro e w2 ⟨rfl, rfl⟩
  go_wp2_with fail
  refine (numberAt_any s _ _ _ hs (by omega) (by omega) (by omega) (by omega)).mono ?_
  rintro e w2 ⟨rfl, rfl⟩
  go_wp2_with fail
  have r2 := (Below.heap_alloc _ (.cells #[.int .i64 op, .int .i64 (num s 1 (shH op).toNat), .int .i64 (num s (1 + shH op).toNat (shO op).toNat), .int .i64 (num s (1 + shH op + shO op).toNat (shL op).toNat), .int .i64 (num s (1 + shH op + shO op + shL op).toNat (shR op).toNat), .int .i64 (num s (1 + shH op + shO op + shL op + shR op).toNat (shT op).toNat), .string (s.extract (1 + shH op + shO op + shL op + shR op + shT op).toNat s.size)] 23) _ (by simp only [sizeAlloc, setSize]; omega)).trans ((Below.heap_alloc _ (.cells #[.int .i64 (shH op), .int .i64 (shO op), .int .i64 (shL op), .int .i64 (shR op), .int .i64 (shT op), .int .i64 (shD op)] 85) _ (by simp only [setSize]; exact hz1)).trans (setRow7 (.int .i64 op) (.int .i64 (num s 1 (shH op).toNat)) (.int .i64 (num s (1 + shH op).toNat (shO op).toNat)) (.int .i64 (num s (1 + shH op + shO op).toNat (shL op).toNat)) (.int .i64 (num s (1 + shH op + shO op + shL op).toNat (shR op).toNat)) (.int .i64 (num s (1 + shH op + shO op + shL op + shR op).toNat (shT op).toNat)) (.string (s.extract (1 + shH op + shO op + shL op + shR op + shT op).toNat s.size)) q1))
  have B2 := ((setBelow7 (g := w.heap.size) (.int .i64 op) (.int .i64 (num s 1 (shH op).toNat)) (.int .i64 (num s (1 + shH op).toNat (shO op).toNat)) (.int .i64 (num s (1 + shH op + shO op).toNat (shL op).toNat)) (.int .i64 (num s (1 + shH op + shO op + shL op).toNat (shR op).toNat)) (.int .i64 (num s (1 + shH op + shO op + shL op + shR op).toNat (shT op).toNat)) (.string (s.extract (1 + shH op + shO op + shL op + shR op + shT op).toNat s.size)) (((Below.refl w.heap.size w).alloc (Nat.le_refl _) _).trans (hb1.mono (Nat.le_succ _))) (Nat.le_refl _)).alloc (by simp only [setSize]; omega) (.cells #[.int .i64 (shH op), .int .i64 (shO op), .int .i64 (shL op), .int .i64 (shR op), .int .i64 (shT op), .int .i64 (shD op)] 85)).alloc (by simp only [sizeAlloc, setSize]; omega) (.cells #[.int .i64 op, .int .i64 (num s 1 (shH op).toNat), .int .i64 (num s (1 + shH op).toNat (shO op).toNat), .int .i64 (num s (1 + shH op + shO op).toNat (shL op).toNat), .int .i64 (num s (1 + shH op + shO op + shL op).toNat (shR op).toNat), .int .i64 (num s (1 + shH op + shO op + shL op + shR op).toNat (shT op).toNat), .string (s.extract (1 + shH op + shO op + shL op + shR op + shT op).toNat s.size)] 23)
  have rc := rowCell r2
  exact bodyPost_ret (v := .tuple #[.agg #[.int .i64 op, .int .i64 (num s 1 (shH op).toNat), .int .i64 (num s (1 + shH op).toNat (shO op).toNat), .int .i64 (num s (1 + shH op + shO op).toNat (shL op).toNat), .int .i64 (num s (1 + shH op + shO op + shL op).toNat (shR op).toNat), .int .i64 (num s (1 + shH op + shO op + shL op + shR op).toNat (shT op).toNat), .string (s.extract (1 + shH op + shO op + shL op + shR op + shT op).toNat s.size)], .int .i64 0]) (by simp [results, Try.results17, go_sem, rc]) rfl ⟨rfl, B2⟩

end Go.Proofs.Ytkjjamigaamllaa
