/-
  The two ways to read a request agree: plain mathematics.
-/
import Derived.Test.YtkjjamigaamllaaWireDec
import Derived.Test.YtkjjamigaamllaaRefDecOther
namespace Go.Proofs.Ytkjjamigaamllaa
open Go.RowKit

theorem strOf_append (xs ys : List Int) : strOfNums xs ++ strOfNums ys = strOfNums (xs ++ ys) := by
  unfold strOfNums
  rw [ByteArray.mk_append_mk, List.map_append]

theorem byte_back (s : ByteArray) (i : Nat) (h : i < s.size) : UInt8.ofNat (byt s i).toNat = s[i] := by
  rw [← byt_in h, Int.toNat_natCast]; simp

/-- the first bytes, out of their numbers -/
theorem firsts (s : ByteArray) (n : Nat) (h : n ≤ s.size) : strOfNums ((List.range n).map fun i => byt s i) = s.extract 0 n := by
  apply ByteArray.ext
  apply Array.ext
  · simp [strOfNums]; omega
  · intro i h1 h2
    have hi : i < n := by simpa [strOfNums] using h1
    simp [strOfNums]
    exact byte_back s i (by omega)

theorem whole (s : ByteArray) (n : Nat) (h : s.size = n) : strOfNums ((List.range n).map fun i => byt s i) = s := by
  rw [firsts s n (by omega), ← h]; simp

theorem two_num (s : ByteArray) (a : Nat) : twoS (num s a 2) = strOfNums [byt s a, byt s (a + 1)] := by
  have h1 := byt_bd s a
  have h2 := byt_bd s (a + 1)
  unfold twoS
  simp only [num]
  have e1 : ((0 * 256 + byt s (a + 0)) * 256 + byt s (a + 1)) / 256 = byt s a := by simp; omega
  have e2 : ((0 * 256 + byt s (a + 0)) * 256 + byt s (a + 1)) % 256 = byt s (a + 1) := by simp; omega
  rw [e1, e2]

theorem num_wd (s : ByteArray) (a : Nat) : wd (num s a 2) = true := wd_iff.2 (num_bd2 s a 2 (Nat.le_refl _))
theorem at_wd (s : ByteArray) (a : Nat) : wd (atN s a) = true := by
  unfold atN
  split
  · exact num_wd s a
  · decide
theorem byt_bt (s : ByteArray) (a : Nat) : bt (byt s a) = true := bt_iff.2 (byt_bd s a)
theorem at_num {s : ByteArray} {a : Nat} (h : a + 1 < s.size) : atN s a = num s a 2 := by unfold atN; rw [if_pos h]

theorem rdV_pos {s d : ByteArray} {op h o l r t : Int} (hok : okB op h o l r t d.size = true) (hb : bodyS op h o l r t d = s) :
    rdV s op h o l r t d = .tuple #[.agg #[.int .i64 op, .int .i64 h, .int .i64 o, .int .i64 l, .int .i64 r, .int .i64 t, .string d], .int .i64 0] := by
  unfold rdV
  rw [if_pos]
  unfold encE encS
  rw [if_pos hok, if_pos hok]
  exact ⟨rfl, hb⟩
theorem rdV_neg {s d : ByteArray} {op h o l r t : Int} (hn : okB op h o l r t d.size = true → ¬ bodyS op h o l r t d = s) :
    rdV s op h o l r t d = .tuple #[.agg #[.int .i64 0, .int .i64 0, .int .i64 0, .int .i64 0, .int .i64 0, .int .i64 0, .string ⟨#[]⟩], .int .i64 1] := by
  unfold rdV
  rw [if_neg]
  rintro ⟨h1, h2⟩
  unfold encE at h1
  unfold encS at h2
  by_cases hok : okB op h o l r t d.size = true
  · rw [if_pos hok] at h2
    exact hn hok h2
  · rw [if_neg hok] at h1
    exact absurd h1 (by decide)

/-- the bytes of a request that is no Write, where they are as many as they must be -/
theorem body2 (s : ByteArray) (h : s.size = 3) : oneS (byt s 0) ++ twoS (num s 1 2) = s := by
  rw [two_num]; unfold oneS; rw [strOf_append]; exact whole s 3 h
theorem body3 (s : ByteArray) (h : s.size = 7) : oneS (byt s 0) ++ twoS (num s 1 2) ++ twoS (num s 3 2) ++ twoS (num s 5 2) = s := by
  rw [two_num, two_num, two_num]; unfold oneS; rw [strOf_append, strOf_append, strOf_append]; exact whole s 7 h
theorem body5 (s : ByteArray) (h : s.size = 8) : oneS (byt s 0) ++ twoS (num s 1 2) ++ twoS (num s 3 2) ++ twoS (num s 5 2) ++ oneS (byt s 7) = s := by
  rw [two_num, two_num, two_num]; unfold oneS; rw [strOf_append, strOf_append, strOf_append, strOf_append]; exact whole s 8 h
theorem body6 (s : ByteArray) (h : s.size = 4) : oneS (byt s 0) ++ twoS (num s 1 2) ++ oneS (byt s 3) = s := by
  rw [two_num]; unfold oneS; rw [strOf_append, strOf_append]; exact whole s 4 h
theorem body4 (s : ByteArray) (h : 5 ≤ s.size) : oneS (byt s 0) ++ twoS (num s 1 2) ++ twoS (num s 3 2) ++ s.extract 5 s.size = s := by
  rw [two_num, two_num]; unfold oneS; rw [strOf_append, strOf_append]
  have e := firsts s 5 h
  have e2 : (List.range 5).map (fun i => byt s i) = [byt s 0] ++ [byt s 1, byt s (1 + 1)] ++ [byt s 3, byt s (3 + 1)] := rfl
  rw [e2] at e
  rw [e]
  apply ByteArray.ext
  apply Array.ext'
  simp

end Go.Proofs.Ytkjjamigaamllaa
