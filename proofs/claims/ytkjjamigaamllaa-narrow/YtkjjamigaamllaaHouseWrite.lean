/-
  The functions of the landed house that lay something into a slot and empty it: lay, empty, emptyBelow.
-/
import Derived.Test.YtkjjamigaamllaaHouseRead
import Derived.Laws.IdiomCopy
namespace Go.Proofs.Ytkjjamigaamllaa
open Go.RowKit
set_option linter.unusedSimpArgs false

/-- the cells of a slot but its bytes -/
def HSlot.cells (x : HSlot) : List Value := [.int .i64 (x.uses : Int), .bool x.full, .int .i64 x.frm, .int .i64 x.root, .int .i64 x.first, .int .i64 x.len, .int .i64 x.rights]

theorem sizeSets (g : Nat) : ∀ (vs : List Value) (o : Nat) (w : World), (w.setCells g o vs).heap.size = w.heap.size
  | [], _, _ => rfl
  | v :: r, o, w => by rw [World.setCells, sizeSets g r]; simp
theorem Frm.setCells (F : Nat → Prop) (g : Nat) (h : F g) : ∀ (vs : List Value) (o : Nat) (w : World), Frm F w (w.setCells g o vs)
  | [], _, w => Frm.refl _ _
  | v :: r, o, w => by
    rw [World.setCells]
    exact (Frm.setCell F w ⟨g, o, none⟩ v h).trans (Frm.setCells F g h r (o + 1) _) (fun _ _ h => h)

/-- one slot is written anew: its first seven cells, its bytes' cell as it says -/
theorem HAt.slotSet {w w' : World} {g : Nat} {M : Mach} {bl : Nat → Nat} {p : Nat} (x : HSlot) (b : Nat) (h : HAt w g M bl) (hp : p < 64)
    (hf : Frm (· = g) w w') (hfr : ∀ i, w'.frozen? ⟨g, i, none⟩ = false)
    (hout : ∀ i, (i < 3 + p * 8 ∨ 3 + p * 8 + 8 ≤ i) → w'.cell? ⟨g, i, none⟩ = w.cell? ⟨g, i, none⟩)
    (hin : ∀ j (hj : j < 7), w'.cell? ⟨g, 3 + p * 8 + j, none⟩ = some (x.cells[j]'(by simpa [HSlot.cells] using hj)))
    (h7 : w'.cell? ⟨g, 3 + p * 8 + 7, none⟩ = some (bytesV x.bytes b))
    (hrow : x.bytes ≠ [] → b < w'.heap.size ∧ b ≠ g ∧ w'.heap[b]? = some (.cells (byteCells x.bytes) 5 (0, 0)) ∧ ∀ q, q < 64 → q ≠ p → (M.s q).bytes ≠ [] → bl q ≠ b) :
    HAt w' g (M.set p x) (fun q => if q = p then b else bl q) := by
  have cell : ∀ q i, q < 64 → q ≠ p → i < 8 → w'.cell? ⟨g, 3 + q * 8 + i, none⟩ = w.cell? ⟨g, 3 + q * 8 + i, none⟩ := fun q i hq hne hi => hout _ (by omega)
  have put : ∀ (q : Nat), q < 64 → ∀ (i : Nat) (hi : i < 8) (u v : Value), (q = p → w'.cell? ⟨g, 3 + p * 8 + i, none⟩ = some v) → (q ≠ p → w.cell? ⟨g, 3 + q * 8 + i, none⟩ = some u) → w'.cell? ⟨g, 3 + q * 8 + i, none⟩ = some (if q = p then v else u) := by
    intro q hq i hi u v h1 h2
    by_cases e : q = p
    · subst e; rw [if_pos rfl]; exact h1 rfl
    · rw [if_neg e, cell q i hq e hi]; exact h2 e
  have sx : ∀ q, (M.set p x).s q = if q = p then x else M.s q := fun q => rfl
  refine { lt := Nat.lt_of_lt_of_le h.lt hf.size, free := hfr, c0 := ?_, c1 := ?_, c2 := ?_, uses := ?_, full := ?_, frm := ?_, root := ?_, first := ?_, len := ?_, rights := ?_, bytes := ?_, row := ?_, inj := ?_ }
  · rw [hout _ (by omega)]; exact h.c0
  · rw [hout _ (by omega)]; exact h.c1
  · rw [hout _ (by omega)]; exact h.c2
  · intro q hq
    have := put q hq 0 (by omega) _ _ (fun _ => hin 0 (by omega)) (fun _ => h.uses q hq)
    rw [sx]
    by_cases e : q = p
    · rw [if_pos e] at this ⊢; exact this
    · rw [if_neg e] at this ⊢; exact this
  · intro q hq
    have := put q hq 1 (by omega) _ _ (fun _ => hin 1 (by omega)) (fun _ => h.full q hq)
    rw [sx]
    by_cases e : q = p
    · rw [if_pos e] at this ⊢; exact this
    · rw [if_neg e] at this ⊢; exact this
  · intro q hq
    have := put q hq 2 (by omega) _ _ (fun _ => hin 2 (by omega)) (fun _ => h.frm q hq)
    rw [sx]
    by_cases e : q = p
    · rw [if_pos e] at this ⊢; exact this
    · rw [if_neg e] at this ⊢; exact this
  · intro q hq
    have := put q hq 3 (by omega) _ _ (fun _ => hin 3 (by omega)) (fun _ => h.root q hq)
    rw [sx]
    by_cases e : q = p
    · rw [if_pos e] at this ⊢; exact this
    · rw [if_neg e] at this ⊢; exact this
  · intro q hq
    have := put q hq 4 (by omega) _ _ (fun _ => hin 4 (by omega)) (fun _ => h.first q hq)
    rw [sx]
    by_cases e : q = p
    · rw [if_pos e] at this ⊢; exact this
    · rw [if_neg e] at this ⊢; exact this
  · intro q hq
    have := put q hq 5 (by omega) _ _ (fun _ => hin 5 (by omega)) (fun _ => h.len q hq)
    rw [sx]
    by_cases e : q = p
    · rw [if_pos e] at this ⊢; exact this
    · rw [if_neg e] at this ⊢; exact this
  · intro q hq
    have := put q hq 6 (by omega) _ _ (fun _ => hin 6 (by omega)) (fun _ => h.rights q hq)
    rw [sx]
    by_cases e : q = p
    · rw [if_pos e] at this ⊢; exact this
    · rw [if_neg e] at this ⊢; exact this
  · intro q hq
    have := put q hq 7 (by omega) _ _ (fun _ => h7) (fun _ => h.bytes q hq)
    rw [sx]
    by_cases e : q = p
    · rw [if_pos e] at this; rw [if_pos e, if_pos e]; exact this
    · rw [if_neg e] at this; rw [if_neg e, if_neg e]; exact this
  · intro q hq
    rw [sx]
    by_cases e : q = p
    · rw [if_pos e, if_pos e]
      intro hx
      exact ⟨(hrow hx).1, (hrow hx).2.1, (hrow hx).2.2.1⟩
    · rw [if_neg e, if_neg e]
      intro hx
      obtain ⟨h1, h2, h3⟩ := h.row q hq hx
      exact ⟨Nat.lt_of_lt_of_le h1 hf.size, h2, (hf.block _ h1 h2).trans h3⟩
  · intro q r hq hr
    rw [sx, sx]
    by_cases e : q = p <;> by_cases e2 : r = p
    · intros; omega
    · rw [if_pos e, if_neg e2, if_pos e, if_neg e2]
      intro hx hy hz
      exact absurd hz.symm ((hrow hx).2.2.2 r hr e2 hy)
    · rw [if_neg e, if_pos e2, if_neg e, if_pos e2]
      intro hx hy hz
      exact absurd hz ((hrow hy).2.2.2 q hq e hx)
    · rw [if_neg e, if_neg e2, if_neg e, if_neg e2]
      exact h.inj q r hq hr

theorem HAt.same {w : World} {g : Nat} {M : Mach} {bl bl' : Nat → Nat} (h : HAt w g M bl) (e : bl = bl') : HAt w g M bl' := e ▸ h

/-- the seven cells of one slot, and nothing else of the house -/
theorem HAt.cellsSet {w w' : World} {g : Nat} {M : Mach} {bl : Nat → Nat} {p : Nat} (x : HSlot) (h : HAt w g M bl) (hp : p < 64)
    (hx : x.bytes = (M.s p).bytes) (hb : Below w.heap.size (w.setCells g (3 + p * 8) x.cells) w') : HAt w' g (M.set p x) bl ∧ Frm (· = g) w w' := by
  have hfrm : Frm (· = g) w w' := (Frm.setCells (· = g) g rfl x.cells (3 + p * 8) w).trans (Frm.ofBelow (F := fun _ => False) (by rw [sizeSets]; exact hb)) (fun _ _ h => h.elim)
  refine ⟨?_, hfrm⟩
  have hs := sizeSets g x.cells (3 + p * 8) w
  have hc : ∀ i, w'.cell? ⟨g, i, none⟩ = (w.setCells g (3 + p * 8) x.cells).cell? ⟨g, i, none⟩ := fun i => hb.cell (p := ⟨g, i, none⟩) h.lt
  have hl : x.cells.length = 7 := rfl
  refine (h.slotSet (p := p) (w' := w') x (bl p) hp hfrm ?_ ?_ ?_ ?_ ?_).same (funext fun q => ?_)
  · intro i
    rw [hb.frozen (p := ⟨g, i, none⟩) h.lt, World.frozen?_setCells]
    exact h.free i
  · intro i hi
    rw [hc, World.cell?_setCells_out]
    intro _ _
    rw [hl]
    show i < _ ∨ _ ≤ i
    omega
  · intro j hj
    rw [hc]
    refine World.cell?_setCells_in g x.cells (3 + p * 8) w ?_ j (by rw [hl]; exact hj)
    intro j hj
    rw [hl] at hj
    have : j = 0 ∨ j = 1 ∨ j = 2 ∨ j = 3 ∨ j = 4 ∨ j = 5 ∨ j = 6 := by omega
    rcases this with rfl | rfl | rfl | rfl | rfl | rfl | rfl
    · rw [Nat.add_zero, h.uses p hp]; rfl
    · rw [h.full p hp]; rfl
    · rw [h.frm p hp]; rfl
    · rw [h.root p hp]; rfl
    · rw [h.first p hp]; rfl
    · rw [h.len p hp]; rfl
    · rw [h.rights p hp]; rfl
  · rw [hc, World.cell?_setCells_out, hx]
    · exact h.bytes p hp
    · intro _ _
      rw [hl]
      exact Or.inr (Nat.le_refl _)
  · intro hne
    rw [hx] at hne ⊢
    obtain ⟨h1, h2, h3⟩ := h.row p hp hne
    refine ⟨Nat.lt_of_lt_of_le h1 hfrm.size, h2, (hfrm.block _ h1 h2).trans h3, fun q hq hqp hqb e => hqp (h.inj q p hq hp hqb hne e)⟩
  · by_cases e : q = p
    · rw [if_pos e, e]
    · rw [if_neg e]

/-- what lay makes of a slot -/
def HSlot.laid (x : HSlot) (a r f l m : Int) : HSlot := ⟨x.uses + 1, true, a, r, f, l, m, x.bytes⟩

set_option maxHeartbeats 800000 in
theorem lay_any {g : Nat} {M : Mach} {bl : Nat → Nat} {w : World} (p : Nat) (a r f l m : Int) (h : HAt w g M bl) (ok : M.Ok) (hp : p < 64) :
    Calls Try.prog 91 #[.pointer (some ⟨g, 0, none⟩), .int .i64 (p : Int), .agg #[.int .i64 a, .int .i64 r, .int .i64 f, .int .i64 l, .int .i64 m]] w fun e w' => e = .returned (.tuple #[]) ∧ HAt w' g (M.set p ((M.s p).laid a r f l m)) bl ∧ Frm (· = g) w w' := by
  have cu := h.uses p hp
  have cf := h.full p hp
  have c2 := h.frm p hp
  have c3 := h.root p hp
  have c4 := h.first p hp
  have c5 := h.len p hp
  have c6 := h.rights p hp
  have hu := ok.uses p
  have hg := h.lt
  have f0 := h.free (3 + p * 8)
  have f1 := h.free (3 + p * 8 + 1)
  have f2 := h.free (3 + p * 8 + 2)
  have f3 := h.free (3 + p * 8 + 3)
  have f4 := h.free (3 + p * 8 + 4)
  have f5 := h.free (3 + p * 8 + 5)
  have f6 := h.free (3 + p * 8 + 6)
  have HH : Hid (HAt w g M bl ∧ M.Ok) := ⟨h, ok⟩
  clear h ok
  go_enter Try.func91, Try.ntmps91
  go_wp2
  go_region
  all_goals go_wp2
  all_goals go_region
  all_goals go_wp2
  all_goals go_end0
  all_goals exact ⟨rfl, HH.out.1.cellsSet ((M.s p).laid a r f l m) hp rfl ((((Below.refl _ (w.setCells g (3 + p * 8) ((M.s p).laid a r f l m).cells)).alloc (by rw [sizeSets]; exact Nat.le_refl _) _).drew).drew)⟩

end Go.Proofs.Ytkjjamigaamllaa
