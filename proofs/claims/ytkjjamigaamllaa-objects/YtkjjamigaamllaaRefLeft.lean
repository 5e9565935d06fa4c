/-
  Free and Drop, by the document's house.
-/
import Derived.Test.YtkjjamigaamllaaRefAlloc
namespace Go.Proofs.Ytkjjamigaamllaa
open Go.RowKit
set_option linter.unusedSimpArgs false

/-- what is true of the document's house -/
structure RH.Inv (R : RH) : Prop where
  ok : R.Ok
  frm : ∀ i, i < R.nT → -1 ≤ (R.T i).frm ∧ (R.T i).frm < (i : Int)
  obj : ∀ i, i < R.nT → ∃ k : Nat, (R.T i).obj = (k : Int) ∧ k < R.nO
  part : ∀ i, i < R.nT → 0 ≤ (R.T i).first ∧ 0 ≤ (R.T i).size ∧ (R.T i).first + (R.T i).size ≤ ((R.O (R.T i).obj.toNat).bytes.length : Int)
  rights : ∀ i, i < R.nT → 0 ≤ (R.T i).rights ∧ (R.T i).rights ≤ 7
  bytes : ∀ k, k < R.nO → (R.O k).bytes ≠ []

def RObj.lost (x : RObj) : RObj := { x with gone := true }
def RH.lose (R : RH) (k : Nat) : RH := { R with O := fun i => if i = k then (R.O k).lost else R.O i }

theorem RAt.lost {w : World} {g : Nat} {R : RH} {L : RL} {k : Nat} (h : RAt w g R L) (hk : k < R.nO) :
    RAt (w.setCell ⟨L.ob k, 2, none⟩ (.bool true)) g (R.lose k) L ∧ Frm (RFoot g R L) w (w.setCell ⟨L.ob k, 2, none⟩ (.bool true)) := by
  have hrow := h.oAt k hk
  have other : ∀ (j : Nat) (cs : Array Value) (ty : TypeId), w.heap[j]? = some (.cells cs ty (0, 0)) → ty ≠ 138 → (w.setCell ⟨L.ob k, 2, none⟩ (.bool true)).heap[j]? = some (.cells cs ty (0, 0)) := fun j cs ty hj hne => by
    rw [Below.heap_setCell _ _ _ _ (fun e => ne_of_type hj hrow hne e)]
    exact hj
  have eb : ∀ j, ((R.lose k).O j).bytes = (R.O j).bytes := fun j => by
    show (if j = k then (R.O k).lost else R.O j).bytes = _
    by_cases e : j = k
    · rw [if_pos e, e]; rfl
    · rw [if_neg e]
  refine ⟨⟨other _ _ _ h.row (by decide), ?_, ?_, fun j hj => ?_, fun j hj => ?_, fun j hj => other _ _ _ (h.tAt j hj) (by decide), h.oInj, h.bInj, h.tInj⟩, Frm.setCell _ _ _ _ (Or.inr (Or.inr (Or.inr (Or.inl ⟨k, hk, Or.inl rfl⟩))))⟩
  · refine owns_frame h.os (fun i hi => ?_)
    obtain ⟨_, cur, hc⟩ := owns_lt h.os hi
    rw [other _ _ _ hc (by decide), hc]
  · refine owns_frame h.ts (fun i hi => ?_)
    obtain ⟨_, cur, hc⟩ := owns_lt h.ts hi
    rw [other _ _ _ hc (by decide), hc]
  · show _ = some (Obj.cells ((if j = k then (R.O k).lost else R.O j).cells (L.by_ j)) _ _)
    by_cases e : j = k
    · subst e
      rw [if_pos rfl]
      have := Go.Joins.block_setCell (i := 2) hrow (.bool true)
      have e2 : ((R.O j).lost).cells (L.by_ j) = ((R.O j).cells (L.by_ j)).setIfInBounds 2 (.bool true) := by simp [RObj.lost, RObj.cells]
      rw [e2]
      exact this
    · rw [if_neg e, Below.heap_setCell _ _ _ _ (fun e2 => e (h.oInj j k hj hk e2))]
      exact h.oAt j hj
  · rw [eb]
    exact other _ _ _ (h.bAt j hj) (by decide)

/-- the house behind a Free (2) or a Drop (8) of thing n -/
def RH.left (R : RH) (n : Nat) (op : Int) : RH := if op = 2 then ((clr R n R.nT).1.kill n).lose (R.T n).obj.toNat else (clr R n R.nT).1.kill n

/-- Free is for roots, Drop for what is none -/
def fitsRoot (f op : Int) : Prop := f = -1 ↔ op = 2

set_option maxHeartbeats 1600000 in
theorem left_any {g : Nat} {R : RH} {L : RL} {w : World} (n : Nat) (op : Int) (h : RAt w g R L) (inv : R.Inv) (hn : n < R.nT) (hop : op = 2 ∨ op = 8) :
    Calls Try.prog 99 #[.pointer (some ⟨g, 0, none⟩), .int .i64 (n : Int), .int .i64 op] w
      fun e w' => (¬ fitsRoot (R.T n).frm op ∧ e = .returned (.tuple #[.string ⟨#[]⟩, .int .i64 9]) ∧ w' = w) ∨
        (fitsRoot (R.T n).frm op ∧ e = .returned (.tuple #[.string ⟨#[]⟩, .int .i64 0]) ∧ RAt w' g (R.left n op) L ∧ Frm (RFoot g R L) w w') := by
  obtain ⟨a, cap, hv, hob⟩ := h.thing
  obtain ⟨b, rfl, cb⟩ := hob n hn
  have c4 : w.cell? ⟨g, 4, none⟩ = some (.slice (some ⟨b, 0, none⟩) R.nT cap) := by rw [← hv]; exact rowCell h.row 4
  have o3 : w.cell? ⟨L.th n, 3, none⟩ = some (.int .i64 (R.T n).frm) := rowCell (h.tAt n hn) 3
  have hnT := inv.ok.nT
  have hn2 : (n : Int) < (R.nT : Int) := by omega
  have HH : Hid (RAt w g R L ∧ R.Inv) := ⟨h, inv⟩
  clear h inv hob hv
  by_cases hiff : (R.T n).frm = -1 ↔ op = 2
  · have HI : Hid (fitsRoot (R.T n).frm op) := hiff
    have go : Hid (Calls Try.prog 101 #[.pointer (some ⟨g, 0, none⟩), .int .i64 (n : Int)] w fun e w' => e = .returned (.tuple #[]) ∧ RAt w' g (clr R n R.nT).1 L ∧ Frm (RFoot g R L) w w') :=
      cleared_any n HH.out.1 HH.out.2.ok hn (fun i hi => (HH.out.2.frm i hi).2)
    have kin : Hid (∀ w1, RAt w1 g (clr R n R.nT).1 L → RAt (w1.setCell ⟨L.th n, 8, none⟩ (.bool true)) g ((clr R n R.nT).1.kill n) L ∧ Frm (RFoot g R L) w1 (w1.setCell ⟨L.th n, 8, none⟩ (.bool true)) ∧ (∃ b8, w1.cell? ⟨L.th n, 8, none⟩ = some b8) ∧ w1.frozen? ⟨L.th n, 8, none⟩ = false) := by
      intro w1 h1
      have e := (clr_T R n R.nT).1
      have hnn : n < (clr R n R.nT).1.nT := by rw [e]; exact hn
      obtain ⟨k1, k2⟩ := h1.killed hnn
      refine ⟨k1, k2.mono (fun j _ hj => ?_), ⟨_, rowCell (h1.tAt n hnn) 8⟩, rowFree (h1.tAt n hnn) 8⟩
      rcases hj with hj | hj | hj | ⟨i, hi, hj⟩ | ⟨i, hi, hj⟩
      · exact Or.inl hj
      · exact Or.inr (Or.inl hj)
      · exact Or.inr (Or.inr (Or.inl hj))
      · exact Or.inr (Or.inr (Or.inr (Or.inl ⟨i, by rw [e] at hi; exact hi, hj⟩)))
      · exact Or.inr (Or.inr (Or.inr (Or.inr ⟨i, by rw [e] at hi; exact hi, hj⟩)))
    rcases hop with rfl | rfl
    · have hf : (R.T n).frm = -1 := hiff.2 rfl
      rw [hf] at o3
      clear hiff
      go_enter Try.func99, Try.ntmps99
      go_wp2_with fail
      refine go.out.mono ?_
      rintro e w1 ⟨rfl, h1, hF1⟩
      obtain ⟨k1, k2, ⟨b8, k3⟩, k4⟩ := kin.out w1 h1
      obtain ⟨ko, hko, hkl⟩ := HH.out.2.obj n hn
      have e := (clr_T R n R.nT).1
      obtain ⟨oa, ocap, hov, hoo⟩ := k1.object
      have enO : ((clr R n R.nT).1.kill n).nO = R.nO := by rw [e]; rfl
      rw [enO] at hov hoo
      obtain ⟨ob, rfl, cob⟩ := hoo ko hkl
      have d3 : (w1.setCell ⟨L.th n, 8, none⟩ (.bool true)).cell? ⟨g, 3, none⟩ = some (.slice (some ⟨ob, 0, none⟩) R.nO ocap) := by rw [← hov]; exact rowCell k1.row 3
      have enT : ((clr R n R.nT).1.kill n).nT = R.nT := by rw [e]; rfl
      have tn := k1.tAt n (by rw [enT]; exact hn)
      have d4 : (w1.setCell ⟨L.th n, 8, none⟩ (.bool true)).cell? ⟨L.th n, 4, none⟩ = some (.int .i64 (ko : Int)) := by
        have e2 : (((clr R n R.nT).1.kill n).T n).obj = (R.T n).obj := by rw [e]; show (if n = n then _ else _ : RThing).obj = _; rw [if_pos rfl]; rfl
        rw [← hko, ← e2]
        exact rowCell tn 4
      have kl2 : (ko : Int) < (R.nO : Int) := by omega
      have oo := k1.oAt ko (by rw [enO]; exact hkl)
      have d2 : (w1.setCell ⟨L.th n, 8, none⟩ (.bool true)).cell? ⟨L.ob ko, 2, none⟩ = some (.bool (((clr R n R.nT).1.kill n).O ko).gone) := rowCell oo 2
      have f2 := rowFree oo 2
      obtain ⟨l1, l2⟩ := k1.lost (k := ko) (by rw [enO]; exact hkl)
      have HZ : Hid (RAt ((w1.setCell ⟨L.th n, 8, none⟩ (.bool true)).setCell ⟨L.ob ko, 2, none⟩ (.bool true)) g (R.left n 2) L ∧ Frm (RFoot g R L) w ((w1.setCell ⟨L.th n, 8, none⟩ (.bool true)).setCell ⟨L.ob ko, 2, none⟩ (.bool true))) := by
        refine ⟨?_, (hF1.trans k2 (fun _ _ h => h)).trans (Frm.setCell (· = L.ob ko) _ ⟨L.ob ko, 2, none⟩ _ rfl) (fun j _ hj => Or.inr (Or.inr (Or.inr (Or.inl ⟨ko, hkl, Or.inl hj⟩))))⟩
        have e3 : R.left n 2 = ((clr R n R.nT).1.kill n).lose ko := by unfold RH.left; rw [if_pos rfl, hko]; rfl
        rw [e3]
        exact l1
      obtain ⟨W, hW⟩ : ∃ W, W = w1.setCell ⟨L.th n, 8, none⟩ (.bool true) := ⟨_, rfl⟩
      rw [← hW] at d3 d4 d2 f2 cob HZ
      have HW : Hid (W = w1.setCell ⟨L.th n, 8, none⟩ (.bool true)) := hW
      clear h1 hF1 k1 k2 hov hoo e enO enT tn oo l1 l2 hko hW c4 o3 cb
      go_wp2
      rw [← HW.out]
      go_region
      all_goals go_wp2
      all_goals go_ret2
      all_goals exact Or.inr ⟨HI.out, rfl, HZ.out.1.below ((Below.refl _ _).drew), HZ.out.2.trans (Frm.drew (fun _ => False) _) (fun _ _ h => h.elim)⟩
    · have hf : ¬ (R.T n).frm = -1 := fun e => absurd (hiff.1 e) (by decide)
      have hf2 : ((R.T n).frm == -1) = false := by simp [hf]
      clear hiff
      go_enter Try.func99, Try.ntmps99
      go_wp2_with fail
      refine go.out.mono ?_
      rintro e w1 ⟨rfl, h1, hF1⟩
      obtain ⟨k1, k2, ⟨b8, k3⟩, k4⟩ := kin.out w1 h1
      have HZ : Hid (RAt (w1.setCell ⟨L.th n, 8, none⟩ (.bool true)) g (R.left n 8) L ∧ Frm (RFoot g R L) w (w1.setCell ⟨L.th n, 8, none⟩ (.bool true))) := by
        refine ⟨?_, hF1.trans k2 (fun _ _ h => h)⟩
        have e3 : R.left n 8 = (clr R n R.nT).1.kill n := by unfold RH.left; rw [if_neg (by decide)]
        rw [e3]
        exact k1
      clear h1 hF1 k1 k2 c4 o3 cb
      go_wp2
      go_ret2
      exact Or.inr ⟨HI.out, rfl, HZ.out.1, HZ.out.2⟩
  · have HI : Hid (¬ fitsRoot (R.T n).frm op) := hiff
    rcases hop with rfl | rfl
    · have hf : ¬ (R.T n).frm = -1 := fun e => HI.out ⟨fun _ => rfl, fun _ => e⟩
      have hf2 : ((R.T n).frm == -1) = false := by simp [hf]
      clear hiff
      go_enter Try.func99, Try.ntmps99
      go_wp2
      go_ret2
      exact Or.inl ⟨HI.out, rfl, rfl⟩
    · have hf : (R.T n).frm = -1 := by
        rcases Classical.em ((R.T n).frm = -1) with h1 | h1
        · exact h1
        · exact (HI.out (Iff.intro (fun e => absurd e h1) (fun e => absurd e (by decide)))).elim
      rw [hf] at o3
      clear hiff
      go_enter Try.func99, Try.ntmps99
      go_wp2
      go_ret2
      exact Or.inl ⟨HI.out, rfl, rfl⟩

end Go.Proofs.Ytkjjamigaamllaa
