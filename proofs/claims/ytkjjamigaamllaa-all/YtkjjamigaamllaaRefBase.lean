/-
  The document's house (all that was ever laid): its state as plain numbers, and how it lies in memory.
-/
import Derived.Test.YtkjjamigaamllaaHouseBase
import Derived.Laws.AppendOwn
namespace Go.Proofs.Ytkjjamigaamllaa
open Go.RowKit

/-- what was laid into a slot once -/
structure RThing where
  tenant : Int
  slot : Int
  handle : Int
  frm : Int
  obj : Int
  first : Int
  size : Int
  rights : Int
  dead : Bool
structure RObj where
  owner : Int
  bytes : List Int
  gone : Bool
/-- the document's house -/
structure RH where
  nt : Nat
  ns : Nat
  nc : Nat
  nO : Nat
  O : Nat → RObj
  nT : Nat
  T : Nat → RThing
/-- where it lies: the two slices, the blocks of the objects, of their bytes, of the things -/
structure RL where
  vo : Value
  vt : Value
  ob : Nat → Nat
  by_ : Nat → Nat
  th : Nat → Nat

def RThing.cells (x : RThing) : Array Value := #[.int .i64 x.tenant, .int .i64 x.slot, .int .i64 x.handle, .int .i64 x.frm, .int .i64 x.obj, .int .i64 x.first, .int .i64 x.size, .int .i64 x.rights, .bool x.dead]
def RObj.cells (x : RObj) (b : Nat) : Array Value := #[.int .i64 x.owner, .slice (some ⟨b, 0, none⟩) x.bytes.length x.bytes.length, .bool x.gone]
/-- the pointers to the first n blocks of f -/
def ptrs (f : Nat → Nat) (n : Nat) : List Value := (List.range n).map fun i => .pointer (some ⟨f i, 0, none⟩)

/-- THE DOCUMENT's HOUSE IN MEMORY -/
structure RAt (w : World) (g : Nat) (R : RH) (L : RL) : Prop where
  row : w.heap[g]? = some (.cells #[.int .i64 (R.nt : Int), .int .i64 (R.ns : Int), .int .i64 (R.nc : Int), L.vo, L.vt] 102 (0, 0))
  os : w.ownsRow 0 136 1 L.vo R.nO (ptrs L.ob R.nO)
  ts : w.ownsRow 0 131 1 L.vt R.nT (ptrs L.th R.nT)
  oAt : ∀ i, i < R.nO → w.heap[L.ob i]? = some (.cells ((R.O i).cells (L.by_ i)) 138 (0, 0))
  bAt : ∀ i, i < R.nO → w.heap[L.by_ i]? = some (.cells (byteCells (R.O i).bytes) 5 (0, 0))
  tAt : ∀ i, i < R.nT → w.heap[L.th i]? = some (.cells (R.T i).cells 130 (0, 0))
  oInj : ∀ i j, i < R.nO → j < R.nO → L.ob i = L.ob j → i = j
  bInj : ∀ i j, i < R.nO → j < R.nO → L.by_ i = L.by_ j → i = j
  tInj : ∀ i j, i < R.nT → j < R.nT → L.th i = L.th j → i = j

/-- the blocks that are the document's house's -/
def RFoot (g : Nat) (R : RH) (L : RL) (k : Nat) : Prop :=
  k = g ∨ some k = L.vo.ownBlock ∨ some k = L.vt.ownBlock ∨ (∃ i, i < R.nO ∧ (k = L.ob i ∨ k = L.by_ i)) ∨ (∃ i, i < R.nT ∧ k = L.th i)

theorem lt_of_row {w : World} {g : Nat} {o : Obj} (h : w.heap[g]? = some o) : g < w.heap.size := by
  rcases Nat.lt_or_ge g w.heap.size with h1 | h1
  · exact h1
  · rw [Array.getElem?_eq_none h1] at h; cases h
theorem ne_of_type {w : World} {a b : Nat} {cs ds : Array Value} {s t : TypeId} {f : Nat × Nat} (ha : w.heap[a]? = some (.cells cs s f)) (hb : w.heap[b]? = some (.cells ds t f)) (h : s ≠ t) : a ≠ b := by
  rintro rfl
  rw [ha] at hb
  injection hb with hb
  injection hb with _ h2 _
  exact h h2

/-- of an own row: its slice, and its cells -/
theorem owns_form {w : World} {ty : TypeId} {v : Value} {n : Nat} {xs : List Value} (h : w.ownsRow 0 ty 1 v n xs) :
    ∃ a cap, v = .slice a n cap ∧ ∀ i, i < n → ∃ b, a = some ⟨b, 0, none⟩ ∧ w.cell? ⟨b, i, none⟩ = xs[i]? := by
  obtain ⟨hl, h⟩ := h
  rcases h with ⟨rfl, rfl⟩ | ⟨g, cap, cur, rfl, _, hg, h1, _, h3, h4⟩
  · exact ⟨none, 0, rfl, fun i hi => by omega⟩
  · refine ⟨_, cap, rfl, fun i hi => ⟨g, rfl, ?_⟩⟩
    rw [rowCell hg, ← h4]
    rw [List.getElem?_take_of_lt (by omega)]
    simp
theorem ptrs_at {f : Nat → Nat} {n i : Nat} (hi : i < n) : (ptrs f n)[i]? = some (.pointer (some ⟨f i, 0, none⟩)) := by
  simp [ptrs, hi]
theorem ptrs_len (f : Nat → Nat) (n : Nat) : (ptrs f n).length = n := by simp [ptrs]

theorem RAt.thing {w : World} {g : Nat} {R : RH} {L : RL} (h : RAt w g R L) : ∃ a cap, L.vt = .slice a R.nT cap ∧ ∀ i, i < R.nT → ∃ b, a = some ⟨b, 0, none⟩ ∧ w.cell? ⟨b, i, none⟩ = some (.pointer (some ⟨L.th i, 0, none⟩)) := by
  obtain ⟨a, cap, h1, h2⟩ := owns_form h.ts
  refine ⟨a, cap, h1, fun i hi => ?_⟩
  obtain ⟨b, h3, h4⟩ := h2 i hi
  exact ⟨b, h3, h4.trans (ptrs_at hi)⟩
theorem RAt.object {w : World} {g : Nat} {R : RH} {L : RL} (h : RAt w g R L) : ∃ a cap, L.vo = .slice a R.nO cap ∧ ∀ i, i < R.nO → ∃ b, a = some ⟨b, 0, none⟩ ∧ w.cell? ⟨b, i, none⟩ = some (.pointer (some ⟨L.ob i, 0, none⟩)) := by
  obtain ⟨a, cap, h1, h2⟩ := owns_form h.os
  refine ⟨a, cap, h1, fun i hi => ?_⟩
  obtain ⟨b, h3, h4⟩ := h2 i hi
  exact ⟨b, h3, h4.trans (ptrs_at hi)⟩

theorem owns_frame {w w' : World} {ty : TypeId} {v : Value} {n : Nat} {xs : List Value} (h : w.ownsRow 0 ty 1 v n xs) (hb : ∀ k, some k = v.ownBlock → w'.heap[k]? = w.heap[k]?) : w'.ownsRow 0 ty 1 v n xs := by
  obtain ⟨hl, h⟩ := h
  refine ⟨hl, ?_⟩
  rcases h with h | ⟨g, cap, cur, rfl, h0, hg, r⟩
  · exact Or.inl h
  · exact Or.inr ⟨g, cap, cur, rfl, h0, (hb g rfl).trans hg, r⟩
theorem owns_lt {w : World} {ty : TypeId} {v : Value} {n : Nat} {xs : List Value} (h : w.ownsRow 0 ty 1 v n xs) {k : Nat} (hk : some k = v.ownBlock) : k < w.heap.size ∧ ∃ cur, w.heap[k]? = some (.cells cur ty (0, 0)) := by
  obtain ⟨_, h⟩ := h
  rcases h with ⟨rfl, _⟩ | ⟨g, cap, cur, rfl, _, hg, _⟩
  · cases hk
  · injection hk with hk; subst hk; exact ⟨lt_of_row hg, cur, hg⟩

/-- all of the house's blocks are there -/
theorem RAt.foot_lt {w : World} {g : Nat} {R : RH} {L : RL} (h : RAt w g R L) {k : Nat} (hk : RFoot g R L k) : k < w.heap.size := by
  rcases hk with rfl | hk | hk | ⟨i, hi, rfl | rfl⟩ | ⟨i, hi, rfl⟩
  · exact lt_of_row h.row
  · exact (owns_lt h.os hk).1
  · exact (owns_lt h.ts hk).1
  · exact lt_of_row (h.oAt i hi)
  · exact lt_of_row (h.bAt i hi)
  · exact lt_of_row (h.tAt i hi)
/-- a call that does not reach the house leaves it as it was -/
theorem RAt.frame {F : Nat → Prop} {w w' : World} {g : Nat} {R : RH} {L : RL} (h : RAt w g R L) (hf : Frm F w w') (hn : ∀ k, RFoot g R L k → ¬ F k) : RAt w' g R L := by
  have hb : ∀ k, RFoot g R L k → w'.heap[k]? = w.heap[k]? := fun k hk => hf.block k (h.foot_lt hk) (hn k hk)
  refine ⟨(hb _ (Or.inl rfl)).trans h.row, owns_frame h.os (fun k hk => hb k (Or.inr (Or.inl hk))), owns_frame h.ts (fun k hk => hb k (Or.inr (Or.inr (Or.inl hk)))), fun i hi => ?_, fun i hi => ?_, fun i hi => ?_, h.oInj, h.bInj, h.tInj⟩
  · exact (hb _ (Or.inr (Or.inr (Or.inr (Or.inl ⟨i, hi, Or.inl rfl⟩))))).trans (h.oAt i hi)
  · exact (hb _ (Or.inr (Or.inr (Or.inr (Or.inl ⟨i, hi, Or.inr rfl⟩))))).trans (h.bAt i hi)
  · exact (hb _ (Or.inr (Or.inr (Or.inr (Or.inr ⟨i, hi, rfl⟩))))).trans (h.tAt i hi)
theorem RAt.below {w w' : World} {g : Nat} {R : RH} {L : RL} (h : RAt w g R L) (hf : Below w.heap.size w w') : RAt w' g R L :=
  h.frame (Frm.ofBelow (F := fun _ => False) hf) (fun _ _ h => h)

/-- is there a number below n at which f says yes? -/
def anyN (f : Nat → Bool) : Nat → Bool
  | 0 => false
  | n + 1 => anyN f n || f n
theorem anyN_true {f : Nat → Bool} {n : Nat} : anyN f n = true ↔ ∃ i, i < n ∧ f i = true := by
  induction n with
  | zero => simp [anyN]
  | succ n ih =>
    simp only [anyN, Bool.or_eq_true, ih]
    constructor
    · rintro (⟨i, h1, h2⟩ | h)
      · exact ⟨i, by omega, h2⟩
      · exact ⟨n, by omega, h⟩
    · rintro ⟨i, h1, h2⟩
      by_cases h : i < n
      · exact Or.inl ⟨i, h, h2⟩
      · obtain rfl : i = n := by omega
        exact Or.inr h2
theorem anyN_false {f : Nat → Bool} {n : Nat} : anyN f n = false ↔ ∀ i, i < n → f i = false := by
  constructor
  · intro h i hi
    cases hf : f i with
    | false => rfl
    | true => rw [anyN_true.2 ⟨i, hi, hf⟩] at h; cases h
  · intro h
    cases ha : anyN f n with
    | false => rfl
    | true => obtain ⟨i, h1, h2⟩ := anyN_true.1 ha; rw [h i h1] at h2; cases h2

/-- the document's own counts -/
def RThing.here (x : RThing) (t s : Int) : Bool := x.tenant == t && x.slot == s
def RH.count (R : RH) (t s : Int) : Nat := sumN (fun i => if (R.T i).here t s then 1 else 0) R.nT
def RH.holds (R : RH) (t s : Int) : Bool := anyN (fun i => (R.T i).here t s && !(R.T i).dead) R.nT
def RH.chunks (R : RH) (t : Int) : Nat := sumN (fun i => if (R.O i).owner == t && !(R.O i).gone then chunksN (R.O i).bytes.length else 0) R.nO
def RH.live (R : RH) (t : Int) : Nat := sumN (fun i => if (R.T i).tenant == t && !(R.T i).dead then 1 else 0) R.nT
def RH.held (R : RH) (t h : Int) : Option Nat := firstN (fun i => (R.T i).tenant == t && (R.T i).handle == h && !(R.T i).dead) R.nT

/-- what is asked of the document's house's numbers -/
structure RH.Ok (R : RH) : Prop where
  nt : R.nt ≤ 4
  ns : R.ns ≤ 16
  nc : R.nc ≤ 32
  nO : R.nO ≤ 262144
  nT : R.nT ≤ 262144
  bytes : ∀ i, (R.O i).bytes.length ≤ 256

end Go.Proofs.Ytkjjamigaamllaa
