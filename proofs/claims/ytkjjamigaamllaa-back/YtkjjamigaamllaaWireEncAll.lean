/-
  wire.Encode, whole: the bytes and the error of the document's table.
-/
import Derived.Test.YtkjjamigaamllaaWireEnc
namespace Go.Proofs.Ytkjjamigaamllaa
open Go.RowKit

theorem knw_cases {op : Int} (h : knw op = true) : op = 1 ∨ op = 2 ∨ op = 3 ∨ op = 4 ∨ op = 5 ∨ op = 6 ∨ op = 7 ∨ op = 8 ∨ op = 9 := by
  simp [knw] at h; omega

theorem ok_unknown {op : Int} (h o l r t : Int) (d : Nat) (hk : knw op = false) : okB op h o l r t d = false := by
  have hn : ¬ (1 ≤ op ∧ op ≤ 9) := by
    intro hc
    simp [knw] at hk
    omega
  unfold okB
  rw [if_neg (by omega), if_neg (by omega), if_neg (by omega), if_neg (by omega), if_neg (by omega), if_neg (by omega)]

theorem hs_ok {op : Int} (h o l r t : Int) (d : Nat) (hk : knw op = true) : hsB h o l r t d (shH op) (shO op) (shL op) (shR op) (shT op) (shD op) = okB op h o l r t d := by
  have hd2 : decide ((d : Int) ≤ 64) = decide (d ≤ 64) := by rw [Bool.eq_iff_iff]; simp; omega
  rcases knw_cases hk with rfl | rfl | rfl | rfl | rfl | rfl | rfl | rfl | rfl <;>
    simp [hsB, okB, shH, shO, shL, shR, shT, shD, fitsB, hd2, Bool.and_assoc]

theorem body_eq {op : Int} (h o l r t : Int) (d : ByteArray) (hk : knw op = true) (hs : okB op h o l r t d.size = true) :
    numS op 1 ++ numS h (shH op) ++ numS o (shO op) ++ numS l (shL op) ++ numS r (shR op) ++ numS t (shT op) ++ d = bodyS op h o l r t d := by
  rcases knw_cases hk with rfl | rfl | rfl | rfl | rfl | rfl | rfl | rfl | rfl <;>
    simp [okB] at hs <;>
    first
    | (have hx := hs.2; subst hx; simp [numS, bodyS, shH, shO, shL, shR, shT, ByteArray.append_empty]; done)
    | (simp [numS, bodyS, shH, shO, shL, shR, shT, ByteArray.append_empty]; done)

theorem op_fits {op : Int} (hk : knw op = true) : fitsB op 1 = true := by
  rcases knw_cases hk with rfl | rfl | rfl | rfl | rfl | rfl | rfl | rfl | rfl <;> decide

theorem enc_any (op h o l r t : Int) (d : ByteArray) (w : World) (hd : d.size ≤ 140737488355328) :
    Calls Try.prog 15 #[.agg #[.int .i64 op, .int .i64 h, .int .i64 o, .int .i64 l, .int .i64 r, .int .i64 t, .string d]] w
      fun e w' => e = .returned (.tuple #[.string (encS op h o l r t d), .int .i64 (encE op h o l r t d)]) ∧ Below w.heap.size w w' := by
  cases hk : knw op with
  | false =>
    have hn := ok_unknown h o l r t d.size hk
    unfold encS encE
    rw [hn]
    exact enc_unknown op h o l r t d w hd hk
  | true =>
    cases hs : okB op h o l r t d.size with
    | false =>
      unfold encS encE
      rw [hs]
      exact enc_bad op h o l r t d w hd hk (by rw [hs_ok h o l r t d.size hk]; exact hs)
    | true =>
      unfold encS encE
      rw [hs]
      have hb := body_eq h o l r t d hk hs
      have := enc_good op h o l r t d w hd hk (op_fits hk) (by rw [hs_ok h o l r t d.size hk]; exact hs)
      rw [hb] at this
      exact this

end Go.Proofs.Ytkjjamigaamllaa
