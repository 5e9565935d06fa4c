/-
  Plain functions on numbers and bytes: what a request's bytes are, by the document's table (P3). No program is named here.
-/
import Derived.Laws.BytesArg
import Derived.RowKit
namespace Go.Proofs.Ytkjjamigaamllaa
open Go.RowKit

/-- may it stand in two bytes? -/
def wd (n : Int) : Bool := decide (0 ≤ n) && decide (n ≤ 65535)
/-- may it stand in one byte? -/
def bt (n : Int) : Bool := decide (0 ≤ n) && decide (n ≤ 255)
/-- is it zero? -/
def zr (n : Int) : Bool := n == 0
/-- a number of two bytes -/
def twoS (n : Int) : ByteArray := strOfNums [n / 256, n % 256]
/-- a number of one byte -/
def oneS (n : Int) : ByteArray := strOfNums [n]

/-- a number of two bytes, whatever the number is -/
def twoW (n : Int) : ByteArray := strOfNums [wrap64 (n.tdiv 256) % 256, n.tmod 256 % 256]
/-- a number of one byte, whatever the number is -/
def oneW (n : Int) : ByteArray := strOfNums [n.tmod 256 % 256]
/-- wire.fits -/
def fitsB (n b : Int) : Bool := if b = 1 then bt n else if b = 2 then wd n else zr n
/-- wire.number -/
def numS (n b : Int) : ByteArray := if b = 1 then oneS n else if b = 2 then twoS n else ByteArray.empty

/-- wire.shapeOf: of each field how many bytes, of Data how many at most -/
def shH (op : Int) : Int := if op = 2 ∨ op = 7 ∨ op = 8 ∨ op = 9 ∨ op = 3 ∨ op = 4 ∨ op = 5 ∨ op = 6 then 2 else 0
def shO (op : Int) : Int := if op = 3 ∨ op = 4 ∨ op = 5 then 2 else 0
def shL (op : Int) : Int := if op = 1 ∨ op = 3 ∨ op = 5 then 2 else 0
def shR (op : Int) : Int := if op = 5 then 1 else 0
def shT (op : Int) : Int := if op = 6 then 1 else 0
def shD (op : Int) : Int := if op = 4 then 64 else 0
def knw (op : Int) : Bool := decide (1 ≤ op) && decide (op ≤ 9)

/-- is a request one, by its Op's row? -/
def okB (op h o l r t : Int) (d : Nat) : Bool :=
  if op = 1 then zr h && zr o && wd l && zr r && zr t && decide (d = 0)
  else if op = 2 ∨ op = 7 ∨ op = 8 ∨ op = 9 then wd h && zr o && zr l && zr r && zr t && decide (d = 0)
  else if op = 3 then wd h && wd o && wd l && zr r && zr t && decide (d = 0)
  else if op = 4 then wd h && wd o && zr l && zr r && zr t && decide (d ≤ 64)
  else if op = 5 then wd h && wd o && wd l && bt r && zr t && decide (d = 0)
  else if op = 6 then wd h && zr o && zr l && zr r && bt t && decide (d = 0)
  else false

/-- the bytes of a request that is one -/
def bodyS (op h o l r t : Int) (d : ByteArray) : ByteArray :=
  if op = 1 then oneS op ++ twoS l
  else if op = 3 then oneS op ++ twoS h ++ twoS o ++ twoS l
  else if op = 4 then oneS op ++ twoS h ++ twoS o ++ d
  else if op = 5 then oneS op ++ twoS h ++ twoS o ++ twoS l ++ oneS r
  else if op = 6 then oneS op ++ twoS h ++ oneS t
  else oneS op ++ twoS h

def encS (op h o l r t : Int) (d : ByteArray) : ByteArray := if okB op h o l r t d.size = true then bodyS op h o l r t d else ByteArray.empty
def encE (op h o l r t : Int) (d : ByteArray) : Int := if okB op h o l r t d.size = true then 0 else 1

theorem wd_pos {n : Int} (h : 0 ≤ n) : decide (n ≤ 65535) = wd n := by simp [wd, h]
theorem wd_neg {n : Int} (h : n < 0) : false = wd n := by simp [wd]; omega
theorem bt_pos {n : Int} (h : 0 ≤ n) : decide (n ≤ 255) = bt n := by simp [bt, h]
theorem bt_neg {n : Int} (h : n < 0) : false = bt n := by simp [bt]; omega
theorem wd_iff {n : Int} : wd n = true ↔ 0 ≤ n ∧ n ≤ 65535 := by simp [wd]
theorem bt_iff {n : Int} : bt n = true ↔ 0 ≤ n ∧ n ≤ 255 := by simp [bt]
theorem zr_iff {n : Int} : zr n = true ↔ n = 0 := by simp [zr]
theorem fitsB1 (n : Int) : fitsB n 1 = bt n := rfl
theorem fitsB2 (n : Int) : fitsB n 2 = wd n := rfl
theorem fitsB0 (n : Int) : fitsB n 0 = zr n := rfl
theorem fitsBx (n b : Int) (h1 : ¬ b = 1) (h2 : ¬ b = 2) : fitsB n b = zr n := by unfold fitsB; rw [if_neg h1, if_neg h2]
theorem twoW_eq {n : Int} (h : wd n = true) : twoW n = twoS n := by
  rw [wd_iff] at h
  unfold twoW twoS
  rw [Int.tdiv_eq_ediv_of_nonneg h.1, Int.tmod_eq_emod_of_nonneg h.1]
  have e1 : wrap64 (n / 256) % 256 = n / 256 := by unfold wrap64; omega
  have e2 : n % 256 % 256 = n % 256 := by omega
  rw [e1, e2]
theorem oneW_eq {n : Int} (h : bt n = true) : oneW n = oneS n := by
  rw [bt_iff] at h
  unfold oneW oneS
  rw [Int.tmod_eq_emod_of_nonneg h.1]
  have e2 : n % 256 % 256 = n := by omega
  rw [e2]
theorem oneS_bt {n : Int} (h0 : 0 ≤ n) (h1 : n ≤ 255) : oneS (n % 256) = oneS n := by
  have e : n % 256 = n := by omega
  rw [e]
theorem bt_yes {n : Int} (h0 : 0 ≤ n) (h1 : n ≤ 255) : bt n = true := bt_iff.2 ⟨h0, h1⟩
theorem bt_lo {n : Int} (h : n < 0) : bt n = false := (bt_neg h).symm
theorem bt_hi {n : Int} (h : 255 < n) : bt n = false := by simp [bt]; omega
theorem twoW_size (n : Int) : (twoW n).size = 2 := strOfNums_size _
theorem oneW_size (n : Int) : (oneW n).size = 1 := strOfNums_size _
theorem oneS_size (n : Int) : (oneS n).size = 1 := strOfNums_size _
theorem twoS_size (n : Int) : (twoS n).size = 2 := strOfNums_size _

end Go.Proofs.Ytkjjamigaamllaa
