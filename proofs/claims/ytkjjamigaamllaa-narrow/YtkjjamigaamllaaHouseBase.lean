/-
  The house as a machine of our own (slots by their places), how the landed house lies in memory, and what a call may turn.
-/
import Derived.Test.YtkjjamigaamllaaJoinWire
namespace Go.Proofs.Ytkjjamigaamllaa
open Go.RowKit

/-- what a slot is: how often it was laid, whether it holds something, what (from which place, of which root, from which byte on, how many, with which rights), and the bytes of the object, if it holds a root -/
structure HSlot where
  uses : Nat
  full : Bool
  frm : Int
  root : Int
  first : Int
  len : Int
  rights : Int
  bytes : List Int

/-- the house: how many tenants, slots, chunks; the slots by their places -/
structure Mach where
  nt : Nat
  ns : Nat
  nc : Nat
  s : Nat → HSlot

/-- a slot that is empty -/
def HSlot.none (u : Nat) : HSlot := ⟨u, false, 0, 0, 0, 0, 0, []⟩
def Mach.set (M : Mach) (p : Nat) (x : HSlot) : Mach := { M with s := fun q => if q = p then x else M.s q }
theorem Mach.set_same (M : Mach) (p : Nat) (x : HSlot) : (M.set p x).s p = x := by simp [Mach.set]
theorem Mach.set_other (M : Mach) {p q : Nat} (x : HSlot) (h : q ≠ p) : (M.set p x).s q = M.s q := by simp [Mach.set, h]

/-- the slice of a slot's bytes -/
def bytesV (l : List Int) (b : Nat) : Value := if l = [] then .slice Option.none 0 0 else .slice (some ⟨b, 0, Option.none⟩) l.length l.length
theorem bytesV_nil (b : Nat) : bytesV [] b = .slice Option.none 0 0 := by simp [bytesV]
theorem bytesV_some {l : List Int} (b : Nat) (h : l ≠ []) : bytesV l b = .slice (some ⟨b, 0, Option.none⟩) l.length l.length := by simp [bytesV, h]

/-- bytes as a row of cells -/
def byteCells (l : List Int) : Array Value := (l.map (Value.int .u8)).toArray

/-- THE HOUSE IN MEMORY: its block, and the rows of its objects' bytes -/
structure HAt (w : World) (g : Nat) (M : Mach) (bl : Nat → Nat) : Prop where
  lt : g < w.heap.size
  free : ∀ i, w.frozen? ⟨g, i, none⟩ = false
  c0 : w.cell? ⟨g, 0, none⟩ = some (.int .i64 (M.nt : Int))
  c1 : w.cell? ⟨g, 1, none⟩ = some (.int .i64 (M.ns : Int))
  c2 : w.cell? ⟨g, 2, none⟩ = some (.int .i64 (M.nc : Int))
  uses : ∀ p, p < 64 → w.cell? ⟨g, 3 + p * 8, none⟩ = some (.int .i64 ((M.s p).uses : Int))
  full : ∀ p, p < 64 → w.cell? ⟨g, 3 + p * 8 + 1, none⟩ = some (.bool (M.s p).full)
  frm : ∀ p, p < 64 → w.cell? ⟨g, 3 + p * 8 + 2, none⟩ = some (.int .i64 (M.s p).frm)
  root : ∀ p, p < 64 → w.cell? ⟨g, 3 + p * 8 + 3, none⟩ = some (.int .i64 (M.s p).root)
  first : ∀ p, p < 64 → w.cell? ⟨g, 3 + p * 8 + 4, none⟩ = some (.int .i64 (M.s p).first)
  len : ∀ p, p < 64 → w.cell? ⟨g, 3 + p * 8 + 5, none⟩ = some (.int .i64 (M.s p).len)
  rights : ∀ p, p < 64 → w.cell? ⟨g, 3 + p * 8 + 6, none⟩ = some (.int .i64 (M.s p).rights)
  bytes : ∀ p, p < 64 → w.cell? ⟨g, 3 + p * 8 + 7, none⟩ = some (bytesV (M.s p).bytes (bl p))
  row : ∀ p, p < 64 → (M.s p).bytes ≠ [] → bl p < w.heap.size ∧ bl p ≠ g ∧ w.heap[bl p]? = some (.cells (byteCells (M.s p).bytes) 5 (0, 0))
  inj : ∀ p q, p < 64 → q < 64 → (M.s p).bytes ≠ [] → (M.s q).bytes ≠ [] → bl p = bl q → p = q

/-- the blocks that are the house's -/
def HFoot (g : Nat) (M : Mach) (bl : Nat → Nat) (k : Nat) : Prop := k = g ∨ ∃ p, p < 64 ∧ (M.s p).bytes ≠ [] ∧ k = bl p

/-- WHAT A CALL MAY TURN: the blocks of F, and new ones -/
structure Frm (F : Nat → Prop) (w w' : World) : Prop where
  os : w'.os = w.os
  tape : w'.tape = w.tape
  output : w'.output = w.output
  size : w.heap.size ≤ w'.heap.size
  block : ∀ k, k < w.heap.size → ¬ F k → w'.heap[k]? = w.heap[k]?

theorem Frm.refl (F : Nat → Prop) (w : World) : Frm F w w := ⟨rfl, rfl, rfl, Nat.le_refl _, fun _ _ _ => rfl⟩
theorem Frm.ofBelow {F : Nat → Prop} {w w' : World} (h : Below w.heap.size w w') : Frm F w w' := ⟨h.os, h.tape, h.output, h.size, fun k hk _ => h.block k hk⟩
theorem Frm.trans {F G : Nat → Prop} {a b c : World} (h : Frm F a b) (k : Frm G b c) (hG : ∀ i, i < a.heap.size → G i → F i) : Frm F a c :=
  ⟨k.os.trans h.os, k.tape.trans h.tape, k.output.trans h.output, Nat.le_trans h.size k.size,
    fun i hi hn => (k.block i (Nat.lt_of_lt_of_le hi h.size) (fun hg => hn (hG i hi hg))).trans (h.block i hi hn)⟩
theorem Frm.mono {F G : Nat → Prop} {a b : World} (h : Frm F a b) (hG : ∀ i, i < a.heap.size → F i → G i) : Frm G a b :=
  ⟨h.os, h.tape, h.output, h.size, fun i hi hn => h.block i hi (fun hf => hn (hG i hi hf))⟩
theorem Frm.below {F : Nat → Prop} {B : Nat} {a b : World} (h : Frm F a b) (hB : B ≤ a.heap.size) (hF : ∀ k, F k → B ≤ k) : Below B a b :=
  ⟨h.os, h.tape, h.output, h.size, fun k hk => h.block k (by omega) (fun hf => by have := hF k hf; omega)⟩
theorem Frm.setCell (F : Nat → Prop) (w : World) (a : Addr) (v : Value) (h : F a.block) : Frm F w (w.setCell a v) :=
  ⟨rfl, rfl, rfl, by simp, fun k _ hn => Below.heap_setCell w a v k (fun e => hn (e ▸ h))⟩
theorem Frm.alloc (F : Nat → Prop) (w : World) (o : Obj) : Frm F w (w.alloc o) := Frm.ofBelow ((Below.refl _ _).alloc (Nat.le_refl _) o)
theorem Frm.drew (F : Nat → Prop) (w : World) : Frm F w w.drew := Frm.ofBelow ((Below.refl _ _).drew)
theorem Frm.cell {F : Nat → Prop} {w w' : World} (h : Frm F w w') {p : Addr} (hp : p.block < w.heap.size) (hn : ¬ F p.block) : w'.cell? p = w.cell? p := World.cell?_of_block (w := w) (h.block p.block hp hn)
theorem Frm.frozen {F : Nat → Prop} {w w' : World} (h : Frm F w w') {p : Addr} (hp : p.block < w.heap.size) (hn : ¬ F p.block) : w'.frozen? p = w.frozen? p := World.frozen?_of_block (w := w) (h.block p.block hp hn)

/-- a call that does not reach the house leaves it as it was -/
theorem HAt.frame {F : Nat → Prop} {w w' : World} {g : Nat} {M : Mach} {bl : Nat → Nat} (h : HAt w g M bl) (hf : Frm F w w') (hn : ∀ k, HFoot g M bl k → ¬ F k) : HAt w' g M bl := by
  have hg : ¬ F g := hn g (Or.inl rfl)
  have hc : ∀ i, w'.cell? ⟨g, i, none⟩ = w.cell? ⟨g, i, none⟩ := fun i => hf.cell (p := ⟨g, i, none⟩) h.lt hg
  exact {
    lt := Nat.lt_of_lt_of_le h.lt hf.size
    free := fun i => (hf.frozen (p := ⟨g, i, none⟩) h.lt hg).trans (h.free i)
    c0 := (hc _).trans h.c0
    c1 := (hc _).trans h.c1
    c2 := (hc _).trans h.c2
    uses := fun p hp => (hc _).trans (h.uses p hp)
    full := fun p hp => (hc _).trans (h.full p hp)
    frm := fun p hp => (hc _).trans (h.frm p hp)
    root := fun p hp => (hc _).trans (h.root p hp)
    first := fun p hp => (hc _).trans (h.first p hp)
    len := fun p hp => (hc _).trans (h.len p hp)
    rights := fun p hp => (hc _).trans (h.rights p hp)
    bytes := fun p hp => (hc _).trans (h.bytes p hp)
    row := fun p hp hb => by
      obtain ⟨h1, h2, h3⟩ := h.row p hp hb
      exact ⟨Nat.lt_of_lt_of_le h1 hf.size, h2, (hf.block _ h1 (hn _ (Or.inr ⟨p, hp, hb, rfl⟩))).trans h3⟩
    inj := h.inj }
theorem HAt.below {w w' : World} {g : Nat} {M : Mach} {bl : Nat → Nat} (h : HAt w g M bl) (hf : Below w.heap.size w w') : HAt w' g M bl :=
  h.frame (Frm.ofBelow (F := fun _ => False) hf) (fun _ _ h => h)

/-- the first number below n at which f says yes -/
def firstN (f : Nat → Bool) : Nat → Option Nat
  | 0 => none
  | n + 1 => match firstN f n with
    | some k => some k
    | none => if f n then some n else none
theorem firstN_none {f : Nat → Bool} {n : Nat} (h : ∀ k, k < n → f k = false) : firstN f n = none := by
  induction n with
  | zero => rfl
  | succ n ih => simp [firstN, ih (fun k hk => h k (by omega)), h n (by omega)]
theorem firstN_some {f : Nat → Bool} {n i : Nat} (hi : i < n) (hf : f i = true) (h : ∀ k, k < i → f k = false) : firstN f n = some i := by
  induction n with
  | zero => omega
  | succ n ih =>
    by_cases hn : i < n
    · simp [firstN, ih hn]
    · obtain rfl : i = n := by omega
      simp [firstN, firstN_none h, hf]
theorem firstN_spec (f : Nat → Bool) (n : Nat) : (firstN f n = none ∧ ∀ k, k < n → f k = false) ∨ ∃ i, firstN f n = some i ∧ i < n ∧ f i = true ∧ ∀ k, k < i → f k = false := by
  induction n with
  | zero => exact Or.inl ⟨rfl, fun k hk => by omega⟩
  | succ n ih =>
    rcases ih with ⟨h1, h2⟩ | ⟨i, h1, h2, h3, h4⟩
    · cases hf : f n with
      | true => exact Or.inr ⟨n, by simp [firstN, h1, hf], by omega, hf, h2⟩
      | false =>
        refine Or.inl ⟨by simp [firstN, h1, hf], fun k hk => ?_⟩
        by_cases hk2 : k < n
        · exact h2 k hk2
        · obtain rfl : k = n := by omega
          exact hf
    · exact Or.inr ⟨i, by simp [firstN, h1], by omega, h3, h4⟩

/-- the sum of f below n -/
def sumN (f : Nat → Nat) : Nat → Nat
  | 0 => 0
  | n + 1 => sumN f n + f n
theorem sumN_le {f : Nat → Nat} {c : Nat} (n : Nat) (h : ∀ k, k < n → f k ≤ c) : sumN f n ≤ n * c := by
  induction n with
  | zero => simp [sumN]
  | succ n ih =>
    have h1 := ih (fun k hk => h k (by omega))
    have h2 := h n (by omega)
    simp [sumN, Nat.add_mul]
    omega
theorem sumN_mono {f : Nat → Nat} {m n : Nat} (h : m ≤ n) : sumN f m ≤ sumN f n := by
  induction n with
  | zero => obtain rfl : m = 0 := by omega
            exact Nat.le_refl _
  | succ n ih =>
    by_cases hm : m ≤ n
    · have := ih hm; simp [sumN]; omega
    · obtain rfl : m = n + 1 := by omega
      exact Nat.le_refl _
theorem sumN_congr {f g : Nat → Nat} (n : Nat) (h : ∀ k, k < n → f k = g k) : sumN f n = sumN g n := by
  induction n with
  | zero => rfl
  | succ n ih => simp [sumN, ih (fun k hk => h k (by omega)), h n (by omega)]
theorem sumN_upd {f g : Nat → Nat} {i : Nat} (n : Nat) (hi : i < n) (h : ∀ k, k < n → k ≠ i → g k = f k) : sumN g n + f i = sumN f n + g i := by
  induction n with
  | zero => omega
  | succ n ih =>
    by_cases hn : i < n
    · have h1 := ih hn (fun k hk hne => h k (by omega) hne)
      have h2 := h n (by omega) (by omega)
      simp [sumN]
      omega
    · obtain rfl : i = n := by omega
      have h1 := sumN_congr (f := g) (g := f) i (fun k hk => h k (by omega) (by omega))
      simp [sumN]
      omega

/-- how many chunks so many bytes need -/
def chunksN (n : Nat) : Nat := (n + 7) / 8
/-- the tenant's chunks that are taken, its slots that hold something -/
def Mach.taken (M : Mach) (t : Nat) : Nat := sumN (fun n => chunksN (M.s (16 * t + n)).bytes.length) M.ns
def Mach.used (M : Mach) (t : Nat) : Nat := sumN (fun n => if (M.s (16 * t + n)).full then 1 else 0) M.ns
/-- the handle by which what lies at a place is held -/
def Mach.handle (M : Mach) (p : Nat) : Int := 16 * (((M.s p).uses : Int) - 1) + (p : Int) % 16
/-- the number of the slot by which a tenant holds something by a handle -/
def Mach.find (M : Mach) (t : Nat) (h : Int) : Option Nat := firstN (fun n => (M.s (16 * t + n)).full && M.handle (16 * t + n) == h) M.ns
/-- the number of the tenant's next slot -/
def Mach.next (M : Mach) (t : Nat) : Option Nat := firstN (fun n => !(M.s (16 * t + n)).full && decide ((M.s (16 * t + n)).uses ≤ 4095)) M.ns

/-- what is asked of a house's numbers -/
structure Mach.Ok (M : Mach) : Prop where
  nt : M.nt ≤ 4
  ns : M.ns ≤ 16
  nc : M.nc ≤ 32
  uses : ∀ p, (M.s p).uses ≤ 4096
  bytes : ∀ p, (M.s p).bytes.length ≤ 256

end Go.Proofs.Ytkjjamigaamllaa
