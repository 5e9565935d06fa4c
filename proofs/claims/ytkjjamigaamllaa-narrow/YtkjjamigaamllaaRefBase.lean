/-
  The document's house (all that was ever laid): its state as plain numbers, and how it lies in memory.
-/
import Derived.Test.YtkjjamigaamllaaHouseBase
import Derived.Laws.AppendOwn
namespace Go.Proofs.Ytkjjamigaamllaa
open Go.RowKit

/-- what was laid into a slot once -/
structure RThing where
  tenant : Int
  slot : Int
  handle : Int
  frm : Int
  obj : Int
  first : Int
  size : Int
  rights : Int
  dead : Bool
structure RObj where
  owner : Int
  bytes : List Int
  gone : Bool
/-- where it lies: the two slices, the blocks of the objects, of their bytes, of the things -/
structure RL where
  vo : Value
  vt : Value
  ob : Nat → Nat
  by_ : Nat → Nat
  th : Nat → Nat

def RThing.cells (x : RThing) : Array Value := #[.int .i64 x.tenant, .int .i64 x.slot, .int .i64 x.handle, .int .i64 x.frm, .int .i64 x.obj, .int .i64 x.first, .int .i64 x.size, .int .i64 x.rights, .bool x.dead]
def RObj.cells (x : RObj) (b : Nat) : Array Value := #[.int .i64 x.owner, .slice (some ⟨b, 0, none⟩) x.bytes.length x.bytes.length, .bool x.gone]
/-- the pointers to the first n blocks of f -/
def ptrs (f : Nat → Nat) (n : Nat) : List Value := (List.range n).map fun i => .pointer (some ⟨f i, 0, none⟩)

theorem lt_of_row {w : World} {g : Nat} {o : Obj} (h : w.heap[g]? = some o) : g < w.heap.size := by
  rcases Nat.lt_or_ge g w.heap.size with h1 | h1
  · exact h1
  · rw [Array.getElem?_eq_none h1] at h; cases h
theorem ne_of_type {w : World} {a b : Nat} {cs ds : Array Value} {s t : TypeId} {f : Nat × Nat} (ha : w.heap[a]? = some (.cells cs s f)) (hb : w.heap[b]? = some (.cells ds t f)) (h : s ≠ t) : a ≠ b := by
  rintro rfl
  rw [ha] at hb
  injection hb with hb
  injection hb with _ h2 _
  exact h h2

/-- of an own row: its slice, and its cells -/
theorem owns_form {w : World} {ty : TypeId} {v : Value} {n : Nat} {xs : List Value} (h : w.ownsRow 0 ty 1 v n xs) :
    ∃ a cap, v = .slice a n cap ∧ ∀ i, i < n → ∃ b, a = some ⟨b, 0, none⟩ ∧ w.cell? ⟨b, i, none⟩ = xs[i]? := by
  obtain ⟨hl, h⟩ := h
  rcases h with ⟨rfl, rfl⟩ | ⟨g, cap, cur, rfl, _, hg, h1, _, h3, h4⟩
  · exact ⟨none, 0, rfl, fun i hi => by omega⟩
  · refine ⟨_, cap, rfl, fun i hi => ⟨g, rfl, ?_⟩⟩
    rw [rowCell hg, ← h4]
    rw [List.getElem?_take_of_lt (by omega)]
    simp
theorem ptrs_at {f : Nat → Nat} {n i : Nat} (hi : i < n) : (ptrs f n)[i]? = some (.pointer (some ⟨f i, 0, none⟩)) := by
  simp [ptrs, hi]
theorem ptrs_len (f : Nat → Nat) (n : Nat) : (ptrs f n).length = n := by simp [ptrs]

theorem owns_frame {w w' : World} {ty : TypeId} {v : Value} {n : Nat} {xs : List Value} (h : w.ownsRow 0 ty 1 v n xs) (hb : ∀ k, some k = v.ownBlock → w'.heap[k]? = w.heap[k]?) : w'.ownsRow 0 ty 1 v n xs := by
  obtain ⟨hl, h⟩ := h
  refine ⟨hl, ?_⟩
  rcases h with h | ⟨g, cap, cur, rfl, h0, hg, r⟩
  · exact Or.inl h
  · exact Or.inr ⟨g, cap, cur, rfl, h0, (hb g rfl).trans hg, r⟩
theorem owns_lt {w : World} {ty : TypeId} {v : Value} {n : Nat} {xs : List Value} (h : w.ownsRow 0 ty 1 v n xs) {k : Nat} (hk : some k = v.ownBlock) : k < w.heap.size ∧ ∃ cur, w.heap[k]? = some (.cells cur ty (0, 0)) := by
  obtain ⟨_, h⟩ := h
  rcases h with ⟨rfl, _⟩ | ⟨g, cap, cur, rfl, _, hg, _⟩
  · cases hk
  · injection hk with hk; subst hk; exact ⟨lt_of_row hg, cur, hg⟩

/-- is there a number below n at which f says yes? -/
def anyN (f : Nat → Bool) : Nat → Bool
  | 0 => false
  | n + 1 => anyN f n || f n
theorem anyN_true {f : Nat → Bool} {n : Nat} : anyN f n = true ↔ ∃ i, i < n ∧ f i = true := by
  induction n with
  | zero => simp [anyN]
  | succ n ih =>
    simp only [anyN, Bool.or_eq_true, ih]
    constructor
    · rintro (⟨i, h1, h2⟩ | h)
      · exact ⟨i, by omega, h2⟩
      · exact ⟨n, by omega, h⟩
    · rintro ⟨i, h1, h2⟩
      by_cases h : i < n
      · exact Or.inl ⟨i, h, h2⟩
      · obtain rfl : i = n := by omega
        exact Or.inr h2
theorem anyN_false {f : Nat → Bool} {n : Nat} : anyN f n = false ↔ ∀ i, i < n → f i = false := by
  constructor
  · intro h i hi
    cases hf : f i with
    | false => rfl
    | true => rw [anyN_true.2 ⟨i, hi, hf⟩] at h; cases h
  · intro h
    cases ha : anyN f n with
    | false => rfl
    | true => obtain ⟨i, h1, h2⟩ := anyN_true.1 ha; rw [h i h1] at h2; cases h2

/-- the document's own counts -/
def RThing.here (x : RThing) (t s : Int) : Bool := x.tenant == t && x.slot == s

end Go.Proofs.Ytkjjamigaamllaa
