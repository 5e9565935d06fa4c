/-
  What wire.Encode returns.
-/
import Derived.Test.YtkjjamigaamllaaWireShape
namespace Go.Proofs.Ytkjjamigaamllaa
open Go.RowKit

theorem sh_range (op : Int) : (shH op = 0 ∨ shH op = 1 ∨ shH op = 2) ∧ (shO op = 0 ∨ shO op = 1 ∨ shO op = 2) ∧ (shL op = 0 ∨ shL op = 1 ∨ shL op = 2) ∧ (shR op = 0 ∨ shR op = 1 ∨ shR op = 2) ∧ (shT op = 0 ∨ shT op = 1 ∨ shT op = 2) := by
  unfold shH shO shL shR shT
  refine ⟨?_, ?_, ?_, ?_, ?_⟩ <;> split <;> simp

theorem numS_size (n b : Int) : (numS n b).size ≤ 2 := by
  unfold numS
  split
  · rw [oneS_size]; omega
  · split
    · rw [twoS_size]; omega
    · simp

set_option maxHeartbeats 1000000 in
theorem enc_unknown (op h o l r t : Int) (d : ByteArray) (w : World) (_hd : d.size ≤ 140737488355328) (hk : knw op = false) :
    Calls Try.prog 15 #[.agg #[.int .i64 op, .int .i64 h, .int .i64 o, .int .i64 l, .int .i64 r, .int .i64 t, .string d]] w
      fun e w' => e = .returned (.tuple #[.string ByteArray.empty, .int .i64 1]) ∧ Below w.heap.size w w' := by
  go_enter Try.func15, Try.ntmps15
  go_wp2_with fail
  refine (shape_any _ _).mono ?_
  rintro e w1 ⟨rfl, hb1⟩
  rw [sizeAlloc] at hb1
  go_wp2
  go_ret2
  refine ⟨rfl, ?_⟩
  have hz := hb1.size
  rw [sizeAlloc] at hz
  exact (((Below.refl _ _).alloc (Nat.le_refl _) _).trans (hb1.mono (by omega))).alloc (by omega) _

set_option maxHeartbeats 1000000 in
theorem enc_bad (op h o l r t : Int) (d : ByteArray) (w : World) (hd : d.size ≤ 140737488355328) (hk : knw op = true)
    (hs : hsB h o l r t d.size (shH op) (shO op) (shL op) (shR op) (shT op) (shD op) = false) :
    Calls Try.prog 15 #[.agg #[.int .i64 op, .int .i64 h, .int .i64 o, .int .i64 l, .int .i64 r, .int .i64 t, .string d]] w
      fun e w' => e = .returned (.tuple #[.string ByteArray.empty, .int .i64 1]) ∧ Below w.heap.size w w' := by
  go_enter Try.func15, Try.ntmps15
  go_wp2_with fail
  refine (shape_any _ _).mono ?_
  rintro e w1 ⟨rfl, hb1⟩
  have q1 := keepRow hb1 (by simp) (newRowAt _ _)
  rw [sizeAlloc] at hb1
  have qc := rowCell q1
  have hz := hb1.size
  rw [sizeAlloc] at hz
  have hz1 : w.heap.size < w1.heap.size := by omega
  go_wp2_with fail
  refine (hasShape_any _ _ _ _ _ _ _ _ _ _ _ _ _ _ hd).mono ?_
  rintro e w2 ⟨rfl, hb2⟩
  rw [sizeAlloc] at hb2
  go_wp2
  go_ret2
  refine ⟨rfl, ?_⟩
  exact ((((Below.refl _ _).alloc (Nat.le_refl _) _).trans (hb1.mono (by omega))).alloc (by omega) _).trans (hb2.mono (by omega))

set_option maxHeartbeats 2000000 in
theorem enc_good (op h o l r t : Int) (d : ByteArray) (w : World) (hd : d.size ≤ 140737488355328) (hk : knw op = true) (hop : fitsB op 1 = true)
    (hs : hsB h o l r t d.size (shH op) (shO op) (shL op) (shR op) (shT op) (shD op) = true) :
    Calls Try.prog 15 #[.agg #[.int .i64 op, .int .i64 h, .int .i64 o, .int .i64 l, .int .i64 r, .int .i64 t, .string d]] w
      fun e w' => e = .returned (.tuple #[.string (numS op 1 ++ numS h (shH op) ++ numS o (shO op) ++ numS l (shL op) ++ numS r (shR op) ++ numS t (shT op) ++ d), .int .i64 0]) ∧ Below w.heap.size w w' := by
  have hs' := hs
  simp only [hsB, Bool.and_eq_true] at hs'
  obtain ⟨fh, fo, fl, fr, ft, _⟩ := hs'
  have z0 := numS_size op 1
  have z1 := numS_size h (shH op)
  have z2 := numS_size o (shO op)
  have z3 := numS_size l (shL op)
  have z4 := numS_size r (shR op)
  have z5 := numS_size t (shT op)
  go_enter Try.func15, Try.ntmps15
  go_wp2_with fail
  refine (shape_any _ _).mono ?_
  rintro e w1 ⟨rfl, hb1⟩
  have q1 := keepRow hb1 (by simp) (newRowAt _ _)
  rw [sizeAlloc] at hb1
  have qc1 := rowCell q1
  have hz1 : w.heap.size < w1.heap.size := by have hz := hb1.size; rw [sizeAlloc] at hz; omega
  go_wp2_with fail
  refine (hasShape_any _ _ _ _ _ _ _ _ _ _ _ _ _ _ hd).mono ?_
  rintro e w2 ⟨rfl, hb2⟩
  have f2 := keepRow hb2 (by simp) (newRowAt _ _)
  have q2 := keepRow hb2 (by simp; omega) ((Below.heap_alloc _ _ _ hz1).trans q1)
  rw [sizeAlloc] at hb2
  clear qc1 q1
  have qc2 := rowCell q2
  have fc2 := rowCell f2
  have hz2 : w1.heap.size < w2.heap.size := by have hz := hb2.size; rw [sizeAlloc] at hz; omega
  have B2 := ((((Below.refl w.heap.size w).alloc (Nat.le_refl _) _).trans (hb1.mono (Nat.le_succ _))).alloc (Nat.le_of_lt hz1) _).trans (hb2.mono (by omega))
  clear hb1 hb2
  go_wp2_with fail
  refine (number_any _ _ _ (Or.inr (Or.inl rfl)) hop).mono ?_
  rintro e w3 ⟨rfl, hb3⟩
  have f3 := keepRow hb3 (by omega) f2
  have q3 := keepRow hb3 (by omega) q2
  clear qc2 fc2 f2 q2
  have qc3 := rowCell q3
  have fc3 := rowCell f3
  have hz3 : w1.heap.size < w3.heap.size := by have hz := hb3.size; omega
  have B3 := B2.trans (hb3.mono (by omega))
  clear hb3 B2 hz2
  go_wp2_with fail
  refine (number_any _ _ _ (sh_range op).1 fh).mono ?_
  rintro e w4 ⟨rfl, hb4⟩
  have f4 := keepRow hb4 (by omega) f3
  have q4 := keepRow hb4 (by omega) q3
  clear qc3 fc3 f3 q3
  have qc4 := rowCell q4
  have fc4 := rowCell f4
  have hz4 : w1.heap.size < w4.heap.size := by have hz := hb4.size; omega
  have B4 := B3.trans (hb4.mono (by omega))
  clear hb4 B3 hz3
  go_wp2_with fail
  refine (number_any _ _ _ (sh_range op).2.1 fo).mono ?_
  rintro e w5 ⟨rfl, hb5⟩
  have f5 := keepRow hb5 (by omega) f4
  have q5 := keepRow hb5 (by omega) q4
  clear qc4 fc4 f4 q4
  have qc5 := rowCell q5
  have fc5 := rowCell f5
  have hz5 : w1.heap.size < w5.heap.size := by have hz := hb5.size; omega
  have B5 := B4.trans (hb5.mono (by omega))
  clear hb5 B4 hz4
  go_wp2_with fail
  refine (number_any _ _ _ (sh_range op).2.2.1 fl).mono ?_
  rintro e w6 ⟨rfl, hb6⟩
  have f6 := keepRow hb6 (by omega) f5
  have q6 := keepRow hb6 (by omega) q5
  clear qc5 fc5 f5 q5
  have qc6 := rowCell q6
  have fc6 := rowCell f6
  have hz6 : w1.heap.size < w6.heap.size := by have hz := hb6.size; omega
  have B6 := B5.trans (hb6.mono (by omega))
  clear hb6 B5 hz5
  go_wp2_with fail
  refine (number_any _ _ _ (sh_range op).2.2.2.1 fr).mono ?_
  rintro e w7 ⟨rfl, hb7⟩
  have f7 := keepRow hb7 (by omega) f6
  have q7 := keepRow hb7 (by omega) q6
  clear qc6 fc6 f6 q6
  have qc7 := rowCell q7
  have fc7 := rowCell f7
  have hz7 : w1.heap.size < w7.heap.size := by have hz := hb7.size; omega
  have B7 := B6.trans (hb7.mono (by omega))
  clear hb7 B6 hz6
  go_wp2_with fail
  refine (number_any _ _ _ (sh_range op).2.2.2.2 ft).mono ?_
  rintro e w8 ⟨rfl, hb8⟩
  have f8 := keepRow hb8 (by omega) f7
  have q8 := keepRow hb8 (by omega) q7
  clear qc7 fc7 f7 q7
  have qc8 := rowCell q8
  have fc8 := rowCell f8
  have hz8 : w1.heap.size < w8.heap.size := by have hz := hb8.size; omega
  have B8 := B7.trans (hb8.mono (by omega))
  clear hb8 B7 hz7
  go_wp2
  go_ret2
  exact ⟨rfl, B8⟩

end Go.Proofs.Ytkjjamigaamllaa
