/-
  What wire.shapeOf and wire.hasShape return.
-/
import Derived.Test.YtkjjamigaamllaaWireLeaves
namespace Go.Proofs.Ytkjjamigaamllaa
open Go.RowKit

set_option maxHeartbeats 400000 in
theorem shape_no (op : Int) (w : World) (h : op < 1 ∨ 9 < op) :
    Calls Try.prog 48 #[.int .i64 op] w fun e w' => e = .returned (.tuple #[.agg #[.int .i64 0, .int .i64 0, .int .i64 0, .int .i64 0, .int .i64 0, .int .i64 0], .bool false]) ∧ Below w.heap.size w w' := by
  have g1 : (op == 1) = false := beq_eq_false_iff_ne.2 (by omega)
  have g2 : (op == 2) = false := beq_eq_false_iff_ne.2 (by omega)
  have g3 : (op == 3) = false := beq_eq_false_iff_ne.2 (by omega)
  have g4 : (op == 4) = false := beq_eq_false_iff_ne.2 (by omega)
  have g5 : (op == 5) = false := beq_eq_false_iff_ne.2 (by omega)
  have g6 : (op == 6) = false := beq_eq_false_iff_ne.2 (by omega)
  have g7 : (op == 7) = false := beq_eq_false_iff_ne.2 (by omega)
  have g8 : (op == 8) = false := beq_eq_false_iff_ne.2 (by omega)
  have g9 : (op == 9) = false := beq_eq_false_iff_ne.2 (by omega)
  clear h
  go_enter Try.func48, Try.ntmps48
  go_wp2
  exact bodyPost_ret (v := .tuple #[.agg #[.int .i64 0, .int .i64 0, .int .i64 0, .int .i64 0, .int .i64 0, .int .i64 0], .bool false]) (by simp [results, Try.results48, go_sem]) rfl ⟨rfl, (Below.refl _ _).alloc (Nat.le_refl _) _⟩

set_option maxHeartbeats 400000 in
theorem shape_any (op : Int) (w : World) :
    Calls Try.prog 48 #[.int .i64 op] w fun e w' => e = .returned (.tuple #[.agg #[.int .i64 (shH op), .int .i64 (shO op), .int .i64 (shL op), .int .i64 (shR op), .int .i64 (shT op), .int .i64 (shD op)], .bool (knw op)]) ∧ Below w.heap.size w w' := by
  by_cases hr : 1 ≤ op ∧ op ≤ 9
  · have hc : op = 1 ∨ op = 2 ∨ op = 3 ∨ op = 4 ∨ op = 5 ∨ op = 6 ∨ op = 7 ∨ op = 8 ∨ op = 9 := by omega
    clear hr
    rcases hc with rfl | rfl | rfl | rfl | rfl | rfl | rfl | rfl | rfl <;>
    · go_enter Try.func48, Try.ntmps48
      go_wp2
      exact bodyPost_ret (by simp [results, Try.results48, go_sem]; decide) rfl ⟨rfl, (Below.refl _ _).alloc (Nat.le_refl _) _⟩
  · have := shape_no op w (by omega)
    refine this.mono ?_
    rintro e w' ⟨rfl, hb⟩
    refine ⟨?_, hb⟩
    have e1 : shH op = 0 := if_neg (by omega)
    have e2 : shO op = 0 := if_neg (by omega)
    have e3 : shL op = 0 := if_neg (by omega)
    have e4 : shR op = 0 := if_neg (by omega)
    have e5 : shT op = 0 := if_neg (by omega)
    have e6 : shD op = 0 := if_neg (by omega)
    have e7 : knw op = false := by unfold knw; by_cases h : 1 ≤ op <;> simp [h]; omega
    rw [e1, e2, e3, e4, e5, e6, e7]

def hsB (h o l r t : Int) (d : Nat) (fh fo fl fr ft fd : Int) : Bool :=
  fitsB h fh && (fitsB o fo && (fitsB l fl && (fitsB r fr && (fitsB t ft && decide ((d : Int) ≤ fd)))))

set_option maxHeartbeats 1000000 in
theorem hasShape_any (op h o l r t : Int) (d : ByteArray) (fh fo fl fr ft fd : Int) (w : World) (_hd : d.size ≤ 140737488355328) :
    Calls Try.prog 49 #[.agg #[.int .i64 op, .int .i64 h, .int .i64 o, .int .i64 l, .int .i64 r, .int .i64 t, .string d], .agg #[.int .i64 fh, .int .i64 fo, .int .i64 fl, .int .i64 fr, .int .i64 ft, .int .i64 fd]] w
      fun e w' => e = .returned (.bool (hsB h o l r t d.size fh fo fl fr ft fd)) ∧ Below w.heap.size w w' := by
  go_enter Try.func49, Try.ntmps49
  go_wp2_with (go_at_call 68; refine (fits_any _ _ _).mono ?_; rintro e w' ⟨rfl, rfl⟩)
  all_goals go_ret
  all_goals exact ⟨ret_bool (by simp [hsB, *]), ((Below.refl _ _).alloc (Nat.le_refl _) _).alloc (by simp) _⟩

end Go.Proofs.Ytkjjamigaamllaa
