/-
  What the small functions of wire and of the document's answer return, on numbers and bytes.
-/
import Derived.Test.YtkjjamigaamllaaProg
import Derived.Test.YtkjjamigaamllaaWireMath
import Derived.WalkKit
import Derived.WalkSpells
import Derived.WalkLawsBesides
namespace Go.Proofs.Ytkjjamigaamllaa
open Go.RowKit

theorem ret_bool {a b : Bool} (h : a = b) : Ending.returned (.bool a) = .returned (.bool b) := by rw [h]

theorem bcell {W w1 : World} (hb : Below W.heap.size W w1) : (∀ b o, b < W.heap.size → w1.cell? ⟨b, o, none⟩ = W.cell? ⟨b, o, none⟩) ∧ (∀ b o, b < W.heap.size → w1.frozen? ⟨b, o, none⟩ = W.frozen? ⟨b, o, none⟩) :=
  ⟨fun b o h => hb.cell (p := ⟨b, o, none⟩) h, fun b o h => hb.frozen (p := ⟨b, o, none⟩) h⟩

/-- a block that a call does not reach stands -/
theorem keepRow {B g : Nat} {w w' : World} {cs : Array Value} {t : TypeId} (hb : Below B w w') (hg : g < B) (h : w.heap[g]? = some (.cells cs t (0, 0))) : w'.heap[g]? = some (.cells cs t (0, 0)) := by
  rw [hb.block g hg]; exact h
theorem rowCell {g : Nat} {w : World} {cs : Array Value} {t : TypeId} (h : w.heap[g]? = some (.cells cs t (0, 0))) : ∀ i, w.cell? ⟨g, i, none⟩ = cs[i]? := fun i => by simp [World.cell?, h]
theorem rowFree {g : Nat} {w : World} {cs : Array Value} {t : TypeId} (h : w.heap[g]? = some (.cells cs t (0, 0))) : ∀ i, w.frozen? ⟨g, i, none⟩ = false := fun i => by simp [World.frozen?, h]
theorem newRowAt (w : World) (o : Obj) : (w.alloc o).heap[w.heap.size]? = some o := by
  show (w.heap.push o)[w.heap.size]? = _
  simp
theorem sizeAlloc (w : World) (o : Obj) : (w.alloc o).heap.size = w.heap.size + 1 := by simp

/-- string([]byte{a}) of a new row -/
theorem conv1 (w : World) (a : Int) (g : Nat) (hg : g = w.heap.size) :
    (convert 90 9 (.slice (some ⟨g, 0, none⟩) 1 1)).run Try.prog (w.alloc (.cells #[.int .u8 a] 5)) = .ok (.string (oneS a)) (w.alloc (.cells #[.int .u8 a] 5)) := by
  subst hg
  exact run_convert_bytes_arg (P := Try.prog) (w.alloc (.cells #[.int .u8 a] 5)) 90 5 Try.underlying90 Try.underlying5 w.heap.size 0 1 1 [a] rfl
    (fun i hi => by obtain rfl : i = 0 := by omega
                    simp [World.cell?_alloc_mark]) 9 Try.underlying9

/-- string([]byte{a, b}) of a new row -/
theorem conv2 (w : World) (a b : Int) (g : Nat) (hg : g = w.heap.size) :
    (convert 90 9 (.slice (some ⟨g, 0, none⟩) 2 2)).run Try.prog (w.alloc (.cells #[.int .u8 a, .int .u8 b] 5)) = .ok (.string (strOfNums [a, b])) (w.alloc (.cells #[.int .u8 a, .int .u8 b] 5)) := by
  subst hg
  exact run_convert_bytes_arg (P := Try.prog) (w.alloc (.cells #[.int .u8 a, .int .u8 b] 5)) 90 5 Try.underlying90 Try.underlying5 w.heap.size 0 2 2 [a, b] rfl
    (fun i hi => by
      have : i = 0 ∨ i = 1 := by omega
      rcases this with rfl | rfl <;> simp [World.cell?_alloc_mark]) 9 Try.underlying9

set_option maxHeartbeats 400000 in
theorem word_any (n : Int) (w : World) :
    Calls Try.prog 51 #[.int .i64 n] w fun e w' => e = .returned (.bool (wd n)) ∧ w' = w := by
  by_cases h : 0 ≤ n
  · go_enter Try.func51, Try.ntmps51
    go_wp2
    go_ret
    exact ⟨ret_bool (wd_pos h), rfl⟩
  · go_enter Try.func51, Try.ntmps51
    go_wp2
    go_ret
    exact ⟨ret_bool (wd_neg (by omega)), rfl⟩

set_option maxHeartbeats 400000 in
theorem fits_any (n b : Int) (w : World) :
    Calls Try.prog 68 #[.int .i64 n, .int .i64 b] w fun e w' => e = .returned (.bool (fitsB n b)) ∧ w' = w := by
  by_cases h1 : b = 1
  · subst h1
    by_cases h : 0 ≤ n <;>
    · go_enter Try.func68, Try.ntmps68
      go_wp2
      go_ret
      first | exact ⟨ret_bool (bt_pos h), rfl⟩ | exact ⟨ret_bool (bt_neg h), rfl⟩
  · by_cases h2 : b = 2
    · subst h2
      by_cases h : 0 ≤ n <;>
      · go_enter Try.func68, Try.ntmps68
        go_wp2
        go_ret
        first | exact ⟨ret_bool (wd_pos h), rfl⟩ | exact ⟨ret_bool (wd_neg h), rfl⟩
    · have g1 : (b == 1) = false := by simp [h1]
      have g2 : (b == 2) = false := by simp [h2]
      go_enter Try.func68, Try.ntmps68
      go_wp2
      go_ret
      exact ⟨ret_bool (fitsBx n b h1 h2).symm, rfl⟩

set_option maxHeartbeats 400000 in
theorem number_any (n b : Int) (w : World) (hb : b = 0 ∨ b = 1 ∨ b = 2) (h : fitsB n b = true) :
    Calls Try.prog 50 #[.int .i64 n, .int .i64 b] w fun e w' => e = .returned (.string (numS n b)) ∧ Below w.heap.size w w' := by
  have c1 := conv1
  have c2 := conv2
  rcases hb with rfl | rfl | rfl
  · clear h
    go_enter Try.func50, Try.ntmps50
    go_wp2
    go_ret
    exact ⟨by simp [numS]; rfl, Below.refl _ _⟩
  · simp [fitsB, bt] at h
    obtain ⟨h0, h1⟩ := h
    go_enter Try.func50, Try.ntmps50
    go_wp2
    go_ret
    exact ⟨by simp [numS], (Below.refl _ _).alloc (Nat.le_refl _) _⟩
  · simp [fitsB, wd] at h
    obtain ⟨h0, h1⟩ := h
    go_enter Try.func50, Try.ntmps50
    go_wp2
    go_ret
    exact ⟨by simp [numS, twoS], (Below.refl _ _).alloc (Nat.le_refl _) _⟩

set_option maxHeartbeats 400000 in
theorem two_any (n : Int) (w : World) :
    Calls Try.prog 52 #[.int .i64 n] w fun e w' => e = .returned (.string (twoW n)) ∧ Below w.heap.size w w' := by
  have c2 := conv2
  go_enter Try.func52, Try.ntmps52
  go_wp2
  go_ret
  exact ⟨rfl, (Below.refl _ _).alloc (Nat.le_refl _) _⟩

end Go.Proofs.Ytkjjamigaamllaa
