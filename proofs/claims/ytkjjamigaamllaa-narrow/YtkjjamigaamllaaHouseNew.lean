/-
  New, by the landed house.
-/
import Derived.Test.YtkjjamigaamllaaHouseLook
namespace Go.Proofs.Ytkjjamigaamllaa
open Go.RowKit
set_option linter.unusedSimpArgs false

/-- is a configuration one? -/
def confB (t s c : Int) : Bool := decide (1 ≤ t) && decide (t ≤ 4) && decide (1 ≤ s) && decide (s ≤ 16) && decide (1 ≤ c) && decide (c ≤ 32)
/-- a new house -/
def Mach.new (t s c : Nat) : Mach := ⟨t, s, c, fun _ => HSlot.none 0⟩

def isZ : Option Value → Bool
  | some (.int .i64 n) => n == 0
  | _ => false
def isF : Option Value → Bool
  | some (.bool b) => !b
  | _ => false
def isN : Option Value → Bool
  | some (.slice none a b) => a == 0 && b == 0
  | _ => false
theorem isZ_eq {v : Option Value} (h : isZ v = true) : v = some (.int .i64 0) := by
  unfold isZ at h
  split at h
  · simp at h; rw [h]
  · cases h
theorem isF_eq {v : Option Value} (h : isF v = true) : v = some (.bool false) := by
  unfold isF at h
  split at h
  · simp at h; rw [h]
  · cases h
theorem isN_eq {v : Option Value} (h : isN v = true) : v = some (.slice none 0 0) := by
  unfold isN at h
  split at h
  · simp at h; rw [h.1, h.2]
  · cases h
def zeroHouse (z : Array Value) : Bool := (List.range 64).all fun p => isZ z[3 + p * 8]? && isF z[3 + p * 8 + 1]? && isZ z[3 + p * 8 + 2]? && isZ z[3 + p * 8 + 3]? && isZ z[3 + p * 8 + 4]? && isZ z[3 + p * 8 + 5]? && isZ z[3 + p * 8 + 6]? && isN z[3 + p * 8 + 7]?
theorem zeroHouse_is : zeroHouse Try.zeroCells115 = true := by kernel_rfl
theorem zeroHouse_size : Try.zeroCells115.size = 515 := by kernel_rfl
theorem zeroHouse_at (p : Nat) (hp : p < 64) : Try.zeroCells115[3 + p * 8]? = some (.int .i64 0) ∧ Try.zeroCells115[3 + p * 8 + 1]? = some (.bool false) ∧ Try.zeroCells115[3 + p * 8 + 2]? = some (.int .i64 0) ∧ Try.zeroCells115[3 + p * 8 + 3]? = some (.int .i64 0) ∧ Try.zeroCells115[3 + p * 8 + 4]? = some (.int .i64 0) ∧ Try.zeroCells115[3 + p * 8 + 5]? = some (.int .i64 0) ∧ Try.zeroCells115[3 + p * 8 + 6]? = some (.int .i64 0) ∧ Try.zeroCells115[3 + p * 8 + 7]? = some (.slice none 0 0) := by
  have h := zeroHouse_is
  generalize Try.zeroCells115 = z at h ⊢
  unfold zeroHouse at h
  rw [List.all_eq_true] at h
  have := h p (List.mem_range.2 hp)
  simp only [Bool.and_eq_true] at this
  obtain ⟨⟨⟨⟨⟨⟨⟨h0, h1⟩, h2⟩, h3⟩, h4⟩, h5⟩, h6⟩, h7⟩ := this
  exact ⟨isZ_eq h0, isF_eq h1, isZ_eq h2, isZ_eq h3, isZ_eq h4, isZ_eq h5, isZ_eq h6, isN_eq h7⟩

theorem new_at {w : World} {g : Nat} {t s c : Nat} {ty : TypeId}
    (h : w.heap[g]? = some (.cells (((Try.zeroCells115.setIfInBounds 0 (.int .i64 (t : Int))).setIfInBounds 1 (.int .i64 (s : Int))).setIfInBounds 2 (.int .i64 (c : Int))) ty (0, 0))) : HAt w g (Mach.new t s c) id := by
  have hz := zeroHouse_at
  have hs := zeroHouse_size
  generalize Try.zeroCells115 = z at h hz hs
  have hc := rowCell h
  have far : ∀ i, 3 ≤ i → w.cell? ⟨g, i, none⟩ = z[i]? := fun i hi => by
    rw [hc, Array.getElem?_setIfInBounds_ne (by omega), Array.getElem?_setIfInBounds_ne (by omega), Array.getElem?_setIfInBounds_ne (by omega)]
  have hlt : g < w.heap.size := by
    rcases Nat.lt_or_ge g w.heap.size with h1 | h1
    · exact h1
    · rw [Array.getElem?_eq_none h1] at h; cases h
  refine { lt := hlt, free := rowFree h, c0 := ?_, c1 := ?_, c2 := ?_, uses := ?_, full := ?_, frm := ?_, root := ?_, first := ?_, len := ?_, rights := ?_, bytes := ?_, row := ?_, inj := ?_ }
  · rw [hc, Array.getElem?_setIfInBounds_ne (by omega), Array.getElem?_setIfInBounds_ne (by omega), Array.getElem?_setIfInBounds_self_of_lt (by omega)]; rfl
  · rw [hc, Array.getElem?_setIfInBounds_ne (by omega), Array.getElem?_setIfInBounds_self_of_lt (by simp; omega)]; rfl
  · rw [hc, Array.getElem?_setIfInBounds_self_of_lt (by simp; omega)]; rfl
  · intro p hp; rw [far _ (by omega), (hz p hp).1]; rfl
  · intro p hp; rw [far _ (by omega), (hz p hp).2.1]; rfl
  · intro p hp; rw [far _ (by omega), (hz p hp).2.2.1]; rfl
  · intro p hp; rw [far _ (by omega), (hz p hp).2.2.2.1]; rfl
  · intro p hp; rw [far _ (by omega), (hz p hp).2.2.2.2.1]; rfl
  · intro p hp; rw [far _ (by omega), (hz p hp).2.2.2.2.2.1]; rfl
  · intro p hp; rw [far _ (by omega), (hz p hp).2.2.2.2.2.2.1]; rfl
  · intro p hp; rw [far _ (by omega), (hz p hp).2.2.2.2.2.2.2]; rfl
  · intro p hp hb; exact absurd rfl hb
  · intro p q hp hq hb; exact absurd rfl hb

set_option maxHeartbeats 1600000 in
set_option maxRecDepth 100000 in
theorem new_good (t s c : Nat) (w : World) (h : confB t s c = true) :
    Calls Try.prog 42 #[.agg #[.int .i64 (t : Int), .int .i64 (s : Int), .int .i64 (c : Int)]] w fun e w' => e = .returned (.tuple #[.pointer (some ⟨w.heap.size + 1, 0, none⟩), .int .i64 0]) ∧ HAt w' (w.heap.size + 1) (Mach.new t s c) id ∧ Below w.heap.size w w' := by
  have hh : 1 ≤ (t : Int) ∧ (t : Int) ≤ 4 ∧ 1 ≤ (s : Int) ∧ (s : Int) ≤ 16 ∧ 1 ≤ (c : Int) ∧ (c : Int) ≤ 32 := by simp [confB] at h; omega
  obtain ⟨h1, h2, h3, h4, h5, h6⟩ := hh
  clear h
  go_enter Try.func42, Try.ntmps42
  go_wp2
  go_ret2
  refine ⟨rfl, new_at (ty := 115) ?_, ((Below.refl _ _).alloc (Nat.le_refl _) _).alloc (by simp) _⟩
  have := newRowAt (w.alloc (Obj.cells #[.int .i64 (t : Int), .int .i64 (s : Int), .int .i64 (c : Int)] 32)) (Obj.cells (((Try.zeroCells115.setIfInBounds 0 (.int .i64 (t : Int))).setIfInBounds 1 (.int .i64 (s : Int))).setIfInBounds 2 (.int .i64 (c : Int))) 115)
  rw [sizeAlloc] at this
  exact this

set_option maxHeartbeats 1600000 in
set_option maxRecDepth 100000 in
theorem new_bad (t s c : Int) (w : World) (h : confB t s c = false) :
    Calls Try.prog 42 #[.agg #[.int .i64 t, .int .i64 s, .int .i64 c]] w fun e w' => e = .returned (.tuple #[.pointer none, .int .i64 2]) ∧ Below w.heap.size w w' := by
  have hh : t < 1 ∨ (1 ≤ t ∧ 4 < t) ∨ (1 ≤ t ∧ t ≤ 4 ∧ s < 1) ∨ (1 ≤ t ∧ t ≤ 4 ∧ 1 ≤ s ∧ 16 < s) ∨ (1 ≤ t ∧ t ≤ 4 ∧ 1 ≤ s ∧ s ≤ 16 ∧ c < 1) ∨ (1 ≤ t ∧ t ≤ 4 ∧ 1 ≤ s ∧ s ≤ 16 ∧ 1 ≤ c ∧ 32 < c) := by simp [confB] at h; omega
  clear h
  rcases hh with h1 | ⟨h1, h2⟩ | ⟨h1, h2, h3⟩ | ⟨h1, h2, h3, h4⟩ | ⟨h1, h2, h3, h4, h5⟩ | ⟨h1, h2, h3, h4, h5, h6⟩ <;>
  · go_enter Try.func42, Try.ntmps42
    go_wp2
    go_ret2
    exact ⟨rfl, (Below.refl _ _).alloc (Nat.le_refl _) _⟩

end Go.Proofs.Ytkjjamigaamllaa
