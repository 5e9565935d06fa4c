/-
  All things below one are dead, by the document's house.
-/
import Derived.Test.YtkjjamigaamllaaRefLaid
import Derived.Test.YtkjjamigaamllaaHouseAlloc
namespace Go.Proofs.Ytkjjamigaamllaa
open Go.RowKit
set_option linter.unusedSimpArgs false

def RThing.die (x : RThing) (b : Bool) : RThing := { x with dead := x.dead || b }
def RH.kill (R : RH) (i : Nat) : RH := { R with T := fun j => if j = i then (R.T i).die true else R.T j }
/-- what the first k rounds of the clearing make: the house, and what is below -/
def clr (R : RH) (top : Nat) : Nat → RH × (Nat → Bool)
  | 0 => (R, fun _ => false)
  | k + 1 => if top < k ∧ ((R.T k).frm = (top : Int) ∨ (0 ≤ (R.T k).frm ∧ (clr R top k).2 (R.T k).frm.toNat = true)) then ((clr R top k).1.kill k, fun i => if i = k then true else (clr R top k).2 i) else clr R top k

theorem clr_low (R : RH) (top k : Nat) (h : k ≤ top + 1) : clr R top k = (R, fun _ => false) := by
  induction k with
  | zero => rfl
  | succ k ih => rw [clr, if_neg (by omega), ih (by omega)]
theorem clr_yes {R : RH} {top k : Nat} (h : top < k) (hf : (R.T k).frm = (top : Int) ∨ (0 ≤ (R.T k).frm ∧ (clr R top k).2 (R.T k).frm.toNat = true)) : clr R top (k + 1) = ((clr R top k).1.kill k, fun i => if i = k then true else (clr R top k).2 i) := by
  rw [clr, if_pos ⟨h, hf⟩]
theorem clr_no {R : RH} {top k : Nat} (hf : ¬ ((R.T k).frm = (top : Int) ∨ (0 ≤ (R.T k).frm ∧ (clr R top k).2 (R.T k).frm.toNat = true))) : clr R top (k + 1) = clr R top k := by
  rw [clr, if_neg (fun h => hf h.2)]
theorem clr_T (R : RH) (top k : Nat) : (clr R top k).1 = { R with T := fun i => (R.T i).die ((clr R top k).2 i) } ∧ ∀ i, k ≤ i → (clr R top k).2 i = false := by
  induction k with
  | zero =>
    refine ⟨?_, fun _ _ => rfl⟩
    show R = _
    have : (fun i => (R.T i).die ((clr R top 0).2 i)) = R.T := funext fun i => by simp [clr, RThing.die]
    rw [this]
  | succ k ih =>
    obtain ⟨ih1, ih2⟩ := ih
    by_cases h : top < k ∧ ((R.T k).frm = (top : Int) ∨ (0 ≤ (R.T k).frm ∧ (clr R top k).2 (R.T k).frm.toNat = true))
    · rw [clr_yes h.1 h.2]
      refine ⟨?_, fun i hi => ?_⟩
      · show (clr R top k).1.kill k = _
        rw [ih1]
        show RH.mk _ _ _ _ _ _ _ = RH.mk _ _ _ _ _ _ _
        congr 1
        funext i
        by_cases e : i = k
        · subst e
          simp [RThing.die]
        · simp [e]
      · show (if i = k then true else (clr R top k).2 i) = false
        rw [if_neg (by omega)]
        exact ih2 i (by omega)
    · rw [clr, if_neg h]
      exact ⟨ih1, fun i hi => ih2 i (by omega)⟩

def boolCells (f : Nat → Bool) (n : Nat) : Array Value := ((List.range n).map fun i => .bool (f i)).toArray
theorem boolCells_at (f : Nat → Bool) {n i : Nat} (h : i < n) : (boolCells f n)[i]? = some (.bool (f i)) := by simp [boolCells, h]
theorem boolCells_set (f : Nat → Bool) (n k : Nat) : (boolCells f n).setIfInBounds k (.bool true) = boolCells (fun i => if i = k then true else f i) n := by
  apply Array.ext
  · simp [boolCells]
  · intro j h1 h2
    simp [boolCells, Array.getElem_setIfInBounds]
    by_cases h : k = j
    · simp [h]
    · simp [h, show j ≠ k by omega]
theorem made_bools (n : Nat) : madeCells (Value.bool false).cells (n * 1) = boolCells (fun _ => false) n := by
  apply Array.ext
  · simp [madeCells, boolCells]
  · intro i h1 h2
    simp [madeCells, boolCells, Value.cells, Nat.mod_one]
/-- make([]bool, n) -/
theorem make_bools (w : World) (n : Nat) (hn : n ≤ 262144) : (Instr.makeSlice 142 (.int .i64 (n : Int)) (.int .i64 (n : Int))).run Try.prog w = .ok (.slice (some ⟨w.heap.size, 0, none⟩) n n) (w.alloc (.cells (boolCells (fun _ => false) n) 4)) := by
  have := run_makeSlice (P := Try.prog) w 142 4 Try.t4 (.bool false) Try.underlying142 (by kernel_rfl) (by kernel_rfl) .i64 .i64 (n : Int) (n : Int) (by omega) (Int.le_refl _) (by show (n : Int).toNat * 1 ≤ _; omega) (by show ((1 : Nat) : Int) * n ≤ _; omega) (by omega)
  rw [this]
  have e : (n : Int).toNat * Try.t4.size = n * 1 := rfl
  rw [e, made_bools]
  rfl

theorem RAt.killed {w : World} {g : Nat} {R : RH} {L : RL} {i : Nat} (h : RAt w g R L) (hi : i < R.nT) :
    RAt (w.setCell ⟨L.th i, 8, none⟩ (.bool true)) g (R.kill i) L ∧ Frm (RFoot g R L) w (w.setCell ⟨L.th i, 8, none⟩ (.bool true)) := by
  have hrow := h.tAt i hi
  have other : ∀ (j : Nat) (cs : Array Value) (ty : TypeId), w.heap[j]? = some (.cells cs ty (0, 0)) → ty ≠ 130 → (w.setCell ⟨L.th i, 8, none⟩ (.bool true)).heap[j]? = some (.cells cs ty (0, 0)) := fun j cs ty hj hne => by
    rw [Below.heap_setCell _ _ _ _ (fun e => ne_of_type hj hrow hne e)]
    exact hj
  refine ⟨⟨other _ _ _ h.row (by decide), ?_, ?_, fun j hj => other _ _ _ (h.oAt j hj) (by decide), fun j hj => other _ _ _ (h.bAt j hj) (by decide), fun j hj => ?_, h.oInj, h.bInj, h.tInj⟩, Frm.setCell _ _ _ _ (Or.inr (Or.inr (Or.inr (Or.inr ⟨i, hi, rfl⟩))))⟩
  · refine owns_frame h.os (fun k hk => ?_)
    obtain ⟨_, cur, hc⟩ := owns_lt h.os hk
    rw [other _ _ _ hc (by decide), hc]
  · refine owns_frame h.ts (fun k hk => ?_)
    obtain ⟨_, cur, hc⟩ := owns_lt h.ts hk
    rw [other _ _ _ hc (by decide), hc]
  · show _ = some (Obj.cells (if j = i then (R.T i).die true else R.T j).cells _ _)
    by_cases e : j = i
    · subst e
      rw [if_pos rfl]
      have := Go.Joins.block_setCell (i := 8) hrow (.bool true)
      have e2 : ((R.T j).die true).cells = (R.T j).cells.setIfInBounds 8 (.bool true) := by simp [RThing.die, RThing.cells]
      rw [e2]
      exact this
    · rw [if_neg e, Below.heap_setCell _ _ _ _ (fun e2 => e (h.tInj j i hj hi e2))]
      exact h.tAt j hj

set_option maxHeartbeats 1600000 in
theorem cleared_any {g : Nat} {R : RH} {L : RL} {w : World} (top : Nat) (h : RAt w g R L) (ok : R.Ok) (htop : top < R.nT) (hfrm : ∀ i, i < R.nT → (R.T i).frm < (i : Int)) :
    Calls Try.prog 101 #[.pointer (some ⟨g, 0, none⟩), .int .i64 (top : Int)] w fun e w' => e = .returned (.tuple #[]) ∧ RAt w' g (clr R top R.nT).1 L ∧ Frm (RFoot g R L) w w' := by
  obtain ⟨a, cap, hv, hob⟩ := h.thing
  have c4 : w.cell? ⟨g, 4, none⟩ = some (.slice a R.nT cap) := by rw [← hv]; exact rowCell h.row 4
  have hnT := ok.nT
  have hmk := make_bools w R.nT hnT
  have HH : Hid (RAt w g R L ∧ L.vt = .slice a R.nT cap ∧ (∀ i, i < R.nT → (R.T i).frm < (i : Int))) := ⟨h, hv, hfrm⟩
  clear h ok hob hv hfrm
  go_enter Try.func101, Try.ntmps101
  go_wp2
  go_loopw [5] (fun i W => ∃ k : Nat, top + 1 ≤ k ∧ k ≤ R.nT ∧ i = .int .i64 (k : Int) ∧ RAt W g (clr R top k).1 L ∧ Frm (RFoot g R L) w W ∧ W.heap[w.heap.size]? = some (.cells (boolCells (clr R top k).2 R.nT) 4 (0, 0))) (fun i _ => R.nT - (intOf i).toNat)
  case atStart =>
    refine ⟨top + 1, by omega, by omega, by simp, ?_, ?_, ?_⟩
    · rw [clr_low R top _ (Nat.le_refl _)]; exact HH.out.1.below ((Below.refl _ _).alloc (Nat.le_refl _) _)
    · exact Frm.alloc _ _ _
    · rw [clr_low R top _ (Nat.le_refl _)]; exact newRowAt _ _
  case round =>
    obtain ⟨k, hk1, hk, rfl, hR, hF, hB⟩ := hrel
    obtain ⟨eR, eF⟩ := clr_T R top k
    obtain ⟨a2, cap2, hv2, hob2⟩ := hR.thing
    rw [HH.out.2.1] at hv2
    injection hv2 with e1 e2 e3
    have nTk : (clr R top k).1.nT = R.nT := by rw [eR]
    have d4 : wr.cell? ⟨g, 4, none⟩ = some (.slice a R.nT cap) := by rw [← HH.out.2.1]; exact rowCell hR.row 4
    rw [← e1, nTk] at hob2
    have HX : Hid (RAt wr g (clr R top k).1 L ∧ Frm (RFoot g R L) w wr ∧ wr.heap[w.heap.size]? = some (.cells (boolCells (clr R top k).2 R.nT) 4 (0, 0)) ∧ (∀ i, i < R.nT → ∃ b, a = some ⟨b, 0, none⟩ ∧ wr.cell? ⟨b, i, none⟩ = some (.pointer (some ⟨L.th i, 0, none⟩)))) := ⟨hR, hF, hB, hob2⟩
    clear hR hF hB hob2 e1 e2 e3 c4 hmk
    by_cases hlt : k < R.nT
    · have hlt2 : (k : Int) < (R.nT : Int) := by omega
      obtain ⟨b, rfl, cb⟩ := HX.out.2.2.2 k hlt
      have hrow := HX.out.1.tAt k (by rw [nTk]; exact hlt)
      have eT : (clr R top k).1.T k = (R.T k).die ((clr R top k).2 k) := by rw [eR]
      rw [eT] at hrow
      have o3 : wr.cell? ⟨L.th k, 3, none⟩ = some (.int .i64 (R.T k).frm) := rowCell hrow 3
      have o8 : wr.cell? ⟨L.th k, 8, none⟩ = some (.bool ((R.T k).dead || (clr R top k).2 k)) := rowCell hrow 8
      have f8 := rowFree hrow 8
      have bk : wr.cell? ⟨w.heap.size, k, none⟩ = some (.bool ((clr R top k).2 k)) := by rw [rowCell HX.out.2.2.1, boolCells_at _ hlt]
      have fk := rowFree HX.out.2.2.1 k
      have hne : ¬ L.th k = w.heap.size := by
        have := HX.out.1.foot_lt (k := L.th k) (Or.inr (Or.inr (Or.inr (Or.inr ⟨k, by rw [nTk]; exact hlt, rfl⟩))))
        have h2 : L.th k < w.heap.size := lt_of_row (HH.out.1.tAt k hlt)
        omega
      have hne2 : Hid (L.th k < w.heap.size) := lt_of_row (HH.out.1.tAt k hlt)
      have yes : Hid (clr R top (k + 1) = ((clr R top k).1.kill k, fun i => if i = k then true else (clr R top k).2 i) → ∃ q : Nat, top + 1 ≤ q ∧ q ≤ R.nT ∧ (Value.int .i64 ((k : Int) + 1)) = .int .i64 (q : Int) ∧ RAt ((wr.setCell ⟨w.heap.size, k, none⟩ (.bool true)).setCell ⟨L.th k, 8, none⟩ (.bool true)) g (clr R top q).1 L ∧ Frm (RFoot g R L) w ((wr.setCell ⟨w.heap.size, k, none⟩ (.bool true)).setCell ⟨L.th k, 8, none⟩ (.bool true)) ∧ ((wr.setCell ⟨w.heap.size, k, none⟩ (.bool true)).setCell ⟨L.th k, 8, none⟩ (.bool true)).heap[w.heap.size]? = some (.cells (boolCells (clr R top q).2 R.nT) 4 (0, 0))) := by
        intro hc
        refine ⟨k + 1, by omega, by omega, by simp, ?_, ?_, ?_⟩
        · rw [hc]
          have h1 : RAt (wr.setCell ⟨w.heap.size, k, none⟩ (.bool true)) g (clr R top k).1 L := HX.out.1.frame (F := (· = w.heap.size)) (Frm.setCell _ _ _ _ rfl) (fun j hj e => by
            subst e
            have hj2 : RFoot g R L w.heap.size := by
              rcases hj with hj | hj | hj | ⟨i, hi, hj⟩ | ⟨i, hi, hj⟩
              · exact Or.inl hj
              · exact Or.inr (Or.inl hj)
              · exact Or.inr (Or.inr (Or.inl hj))
              · exact Or.inr (Or.inr (Or.inr (Or.inl ⟨i, by rw [eR] at hi; exact hi, hj⟩)))
              · exact Or.inr (Or.inr (Or.inr (Or.inr ⟨i, by rw [nTk] at hi; exact hi, hj⟩)))
            have := HH.out.1.foot_lt hj2
            omega)
          exact (h1.killed (i := k) (by rw [nTk]; exact hlt)).1
        · refine (HX.out.2.1.trans (Frm.setCell (· = w.heap.size) _ ⟨w.heap.size, k, none⟩ _ rfl) (fun j hj e => by omega)).trans (Frm.setCell (· = L.th k) _ ⟨L.th k, 8, none⟩ _ rfl) (fun j _ e => Or.inr (Or.inr (Or.inr (Or.inr ⟨k, hlt, e⟩))))
        · rw [hc, Below.heap_setCell _ _ _ _ (fun e => by have h3 := hne2.out; have e : w.heap.size = L.th k := e; omega)]
          have := Go.Joins.block_setCell (i := k) HX.out.2.2.1 (.bool true)
          rw [boolCells_set] at this
          exact this
      have no : Hid (clr R top (k + 1) = clr R top k → ∃ q : Nat, top + 1 ≤ q ∧ q ≤ R.nT ∧ (Value.int .i64 ((k : Int) + 1)) = .int .i64 (q : Int) ∧ RAt wr g (clr R top q).1 L ∧ Frm (RFoot g R L) w wr ∧ wr.heap[w.heap.size]? = some (.cells (boolCells (clr R top q).2 R.nT) 4 (0, 0))) := by
        intro hc
        refine ⟨k + 1, by omega, by omega, by simp, ?_, HX.out.2.1, ?_⟩
        · rw [hc]; exact HX.out.1
        · rw [hc]; exact HX.out.2.2.1
      have hgt : top < k := by omega
      have g1 : g ≠ w.heap.size := by have := lt_of_row HH.out.1.row; omega
      have g2 : w.heap.size ≠ g := fun e => g1 e.symm
      have b1 : b ≠ w.heap.size := by
        have h3 : b < w.heap.size := (owns_lt HH.out.1.ts (k := b) (by rw [HH.out.2.1]; rfl)).1
        omega
      have b2 : w.heap.size ≠ b := fun e => b1 e.symm
      have t2 : w.heap.size ≠ L.th k := fun e => hne e.symm
      have hfk := HH.out.2.2 k hlt
      clear hrow eT eR eF nTk
      by_cases h1 : (R.T k).frm = (top : Int)
      · have hc := clr_yes hgt (Or.inl h1)
        have HC : Hid (clr R top (k + 1) = ((clr R top k).1.kill k, fun i => if i = k then true else (clr R top k).2 i)) := hc
        have h1b : ((R.T k).frm == (top : Int)) = true := by simp [h1]
        clear hc
        go_wp2
        go_roundw
        case rel => exact yes.out HC.out
        case measure => simp [intOf]; omega
      · have h1b : ((R.T k).frm == (top : Int)) = false := by simp [h1]
        by_cases h2 : 0 ≤ (R.T k).frm
        · obtain ⟨q, hq⟩ : ∃ q : Nat, (R.T k).frm = (q : Int) := ⟨(R.T k).frm.toNat, by omega⟩
          have bq : wr.cell? ⟨w.heap.size, q, none⟩ = some (.bool ((clr R top k).2 q)) := by rw [rowCell HX.out.2.2.1, boolCells_at _ (by omega)]
          have hqt : (R.T k).frm.toNat = q := by omega
          cases hb : (clr R top k).2 q with
          | true =>
            rw [hb] at bq
            have HC : Hid (clr R top (k + 1) = ((clr R top k).1.kill k, fun i => if i = k then true else (clr R top k).2 i)) := clr_yes hgt (Or.inr ⟨h2, by rw [hqt]; exact hb⟩)
            rw [hq] at o3 h1b hfk
            have hqk : (q : Int) < (R.nT : Int) := by omega
            clear hqt h1 h2 hq
            go_wp2
            go_roundw
            case rel => exact yes.out HC.out
            case measure => simp [intOf]; omega
          | false =>
            rw [hb] at bq
            have HC : Hid (clr R top (k + 1) = clr R top k) := clr_no (by rintro (h3 | ⟨_, h3⟩); exact h1 h3; rw [hqt, hb] at h3; cases h3)
            rw [hq] at o3 h1b hfk
            have hqk : (q : Int) < (R.nT : Int) := by omega
            clear hqt h1 h2 hq
            go_wp2
            go_roundw
            case rel => exact no.out HC.out
            case measure => simp [intOf]; omega
        · have HC : Hid (clr R top (k + 1) = clr R top k) := clr_no (by rintro (h3 | ⟨h3, _⟩); exact h1 h3; exact h2 h3)
          go_wp2
          go_roundw
          case rel => exact no.out HC.out
          case measure => simp [intOf]; omega
    · obtain rfl : k = R.nT := by omega
      clear eR eF nTk
      go_wp2
      go_end0
      exact ⟨rfl, HX.out.1, HX.out.2.1⟩

end Go.Proofs.Ytkjjamigaamllaa
