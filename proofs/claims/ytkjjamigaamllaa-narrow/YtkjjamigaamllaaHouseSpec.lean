/-
  What the requests are answered, and what they make of the house: the document's P7 to P14 as plain functions of our machine. No program is named here.
-/
import Derived.Test.YtkjjamigaamllaaHouseEmpty
import Derived.Test.YtkjjamigaamllaaDecAgree
namespace Go.Proofs.Ytkjjamigaamllaa
open Go.RowKit

/-- no bytes -/
def nilS : ByteArray := ⟨#[]⟩
/-- a number of one byte, whatever the number is -/
def oneC (n : Int) : ByteArray := strOfNums [n % 256]

/-- the root that Alloc lays -/
def HSlot.new (u : Nat) (p : Nat) (l : Int) : HSlot := ⟨u + 1, true, -1, (p : Int), 0, l, 7, List.replicate l.toNat 0⟩
/-- Alloc (P7): the error, what the reply has more, the house behind it -/
def Mach.alloc (M : Mach) (t : Nat) (l : Int) : Int × ByteArray × Mach :=
  if ¬ (1 ≤ l ∧ l ≤ 256) then (6, nilS, M)
  else if M.nc < M.taken t + chunksN l.toNat then (7, nilS, M)
  else match M.next t with
    | none => (8, nilS, M)
    | some n => (0, twoW (16 * ((M.s (16 * t + n)).uses : Int) + (n : Int)), M.set (16 * t + n) (HSlot.new (M.s (16 * t + n)).uses (16 * t + n) l))

/-- the bytes of the stretch that lies at a place, so many from one on -/
def Mach.part (M : Mach) (p : Nat) (o l : Int) : List Int := ((M.s (M.s p).root.toNat).bytes.drop ((M.s p).first + o).toNat).take l.toNat
/-- Read (P9) -/
def Mach.read (M : Mach) (p : Nat) (o l : Int) : Int × ByteArray :=
  if (M.s p).rights % 2 = 0 then (5, nilS)
  else if 64 < l ∨ (M.s p).len < o + l then (6, nilS)
  else (0, strOfNums (M.part p o l))

/-- bytes of which some are written anew: k of d, from a on -/
def spl (bs : List Int) (a : Nat) (d : ByteArray) : Nat → List Int
  | 0 => bs
  | k + 1 => (spl bs a d k).set (a + k) (byt d k)
theorem spl_len (bs : List Int) (a : Nat) (d : ByteArray) (k : Nat) : (spl bs a d k).length = bs.length := by
  induction k with
  | zero => rfl
  | succ k ih => simp [spl, ih]
/-- Write (P10) -/
def Mach.writeE (M : Mach) (p : Nat) (o : Int) (d : ByteArray) : Int :=
  if (M.s p).rights / 2 % 2 = 0 then 5
  else if (M.s p).len < o + (d.size : Int) then 6
  else 0
def HSlot.withBytes (x : HSlot) (b : List Int) : HSlot := { x with bytes := b }
def Mach.write (M : Mach) (p : Nat) (o : Int) (d : ByteArray) : Mach :=
  if M.writeE p o d = 0 then M.set (M.s p).root.toNat ((M.s (M.s p).root.toNat).withBytes (spl (M.s (M.s p).root.toNat).bytes ((M.s p).first + o).toNat d d.size)) else M
/-- Info (P14) -/
def Mach.info (M : Mach) (p : Nat) : ByteArray := twoW (M.s p).len ++ oneC (M.s p).rights

/-- WHAT IS TRUE OF EVERY HOUSE that requests have made -/
structure Mach.Inv (M : Mach) : Prop where
  ok : M.Ok
  nt1 : 1 ≤ M.nt
  ns1 : 1 ≤ M.ns
  nc1 : 1 ≤ M.nc
  /-- only the tenants' own slots hold something -/
  mine : ∀ p, (M.s p).full = true → p / 16 < M.nt ∧ p % 16 < M.ns
  used : ∀ p, (M.s p).full = true → 1 ≤ (M.s p).uses
  /-- an empty slot holds nothing -/
  bare : ∀ p, (M.s p).full = false → M.s p = HSlot.none (M.s p).uses
  /-- a root -/
  root : ∀ p, (M.s p).full = true → (M.s p).frm = -1 → (M.s p).root = (p : Int) ∧ (M.s p).first = 0 ∧ 1 ≤ (M.s p).len ∧ (M.s p).len = ((M.s p).bytes.length : Int) ∧ (M.s p).rights = 7
  /-- what is no root comes from a slot that holds something, and reaches no further -/
  down : ∀ p, (M.s p).full = true → (M.s p).frm ≠ -1 → ∃ q : Nat, (M.s p).frm = (q : Int) ∧ q < 64 ∧ (M.s q).full = true ∧ (M.s p).root = (M.s q).root ∧ (M.s q).first ≤ (M.s p).first ∧ (M.s p).first + (M.s p).len ≤ (M.s q).first + (M.s q).len ∧ 0 ≤ (M.s p).len ∧ (M.s p).bytes = []
  /-- the root of what is held is held, and has all its bytes -/
  top : ∀ p, (M.s p).full = true → ∃ r : Nat, (M.s p).root = (r : Int) ∧ r < 64 ∧ (M.s r).full = true ∧ (M.s r).frm = -1 ∧ 0 ≤ (M.s p).first ∧ 0 ≤ (M.s p).len ∧ (M.s p).first + (M.s p).len ≤ ((M.s r).bytes.length : Int)
  rights : ∀ p, 0 ≤ (M.s p).rights ∧ (M.s p).rights ≤ 7
  byte : ∀ p, ∀ b ∈ (M.s p).bytes, 0 ≤ b ∧ b ≤ 255
  /-- no slot comes from itself, by however many steps -/
  rank : ∃ rk : Nat → Nat, ∀ p q : Nat, (M.s p).full = true → (M.s p).frm = (q : Int) → rk q < rk p

theorem Mach.Inv.root_bytes {M : Mach} (inv : M.Inv) {r : Nat} (h : (M.s r).full = true) (hf : (M.s r).frm = -1) : (M.s r).bytes ≠ [] := by
  intro hh
  obtain ⟨_, _, h1, h2, _⟩ := inv.root r h hf
  rw [hh] at h2
  simp at h2
  omega

end Go.Proofs.Ytkjjamigaamllaa
