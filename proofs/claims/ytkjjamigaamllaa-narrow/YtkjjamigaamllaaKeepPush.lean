/-
  A run whose tenants are given a handle more, or hear a reply more.
-/
import Derived.Test.YtkjjamigaamllaaKeepRun
namespace Go.Proofs.Ytkjjamigaamllaa
open Go.RowKit
set_option linter.unusedSimpArgs false

/-- a handle more for a tenant -/
def KRun.pushG (K : KRun) (to : Nat) (x : Int) (v : Value) : KRun := { K with gv := fun i => if i = to then v else K.gv i, gl := fun i => if i = to then K.gl i ++ [x] else K.gl i }
/-- a reply more -/
def KRun.pushH (K : KRun) (s : ByteArray) (v : Value) : KRun := { K with hv := v, hl := K.hl ++ [s] }

theorem gcells_get (K : KRun) (i : Nat) : K.gcells[i]? = if i < K.M.nt then some (K.gv i) else none := by
  unfold KRun.gcells
  by_cases h : i < K.M.nt
  · simp [h]
  · simp [h]
theorem gcells_push (K : KRun) (to : Nat) (x : Int) (v : Value) : K.gcells.setIfInBounds to v = (K.pushG to x v).gcells := by
  apply Array.ext_getElem?
  intro j
  rw [Array.getElem?_setIfInBounds, gcells_get, gcells_get]
  have hs : K.gcells.size = K.M.nt := by simp [KRun.gcells]
  have hm : (K.pushG to x v).M = K.M := rfl
  rw [hs, hm]
  by_cases e : to = j
  · subst e
    rw [if_pos rfl]
    have : (K.pushG to x v).gv to = v := if_pos rfl
    rw [this]
  · rw [if_neg e]
    have : (K.pushG to x v).gv j = K.gv j := if_neg (fun h => e h.symm)
    rw [this]

theorem KAt.foot_lt {B0 : Nat} {w : World} {rb : Nat} {K : KRun} (h : KAt B0 w rb K) {k : Nat} (hk : HFoot K.gx K.M K.bl k) : k < w.heap.size := by
  rcases hk with rfl | ⟨p, hp, hb, rfl⟩
  · exact h.x.lt
  · exact (h.x.row p hp hb).1

theorem KAt.pushedG {B0 : Nat} {w V w3 : World} {rb : Nat} {K : KRun} (h : KAt B0 w rb K) (hV : Below w.heap.size w V) {to : Nat} (hto : to < K.M.nt) (x : Int) {k cap : Nat}
    (hown : w3.ownsRow 0 3 1 (.slice (some ⟨k, 0, none⟩) ((K.gl to).length + 1) cap) ((K.gl to).length + 1) ((K.gl to).map (Value.int .i64) ++ [.int .i64 x]))
    (hgr : V.grownBy w3 (K.gv to).ownBlock) (hk : some k = (K.gv to).ownBlock ∨ V.heap.size ≤ k) :
    KAt B0 (w3.setCell ⟨K.gb, to, none⟩ (.slice (some ⟨k, 0, none⟩) ((K.gl to).length + 1) cap)) rb (K.pushG to x (.slice (some ⟨k, 0, none⟩) ((K.gl to).length + 1) cap)) ∧
      KTo rb K (K.pushG to x (.slice (some ⟨k, 0, none⟩) ((K.gl to).length + 1) cap)) w (w3.setCell ⟨K.gb, to, none⟩ (.slice (some ⟨k, 0, none⟩) ((K.gl to).length + 1) cap)) := by
  have h2 := h.below hV
  obtain ⟨U, hU⟩ : ∃ U, U = (.slice (some ⟨k, 0, none⟩) ((K.gl to).length + 1) cap : Value) := ⟨_, rfl⟩
  rw [← hU] at hown ⊢
  have hUk : U.ownBlock = some k := by rw [hU]; rfl
  have hVs := hV.size
  have old : ∀ j, j < V.heap.size → some j ≠ (K.gv to).ownBlock → w3.heap[j]? = V.heap[j]? := fun j hj hne => hgr.block j hj hne
  have ownT : ∀ {j : Nat}, some j = (K.gv to).ownBlock → j < V.heap.size ∧ ∃ cur, V.heap[j]? = some (.cells cur 3 (0, 0)) := fun hj => owns_lt (h2.gown to hto) hj
  have gbv : some K.gb ≠ (K.gv to).ownBlock := fun e => by
    obtain ⟨_, cur, hc⟩ := ownT e
    exact ne_of_type h2.garr hc (by decide) rfl
  have rbv : some rb ≠ (K.gv to).ownBlock := fun e => by
    obtain ⟨_, cur, hc⟩ := ownT e
    exact ne_of_type h2.row hc (by decide) rfl
  have rbg : rb ≠ K.gb := ne_of_type h2.row h2.garr (by decide)
  have hkg : k ≠ K.gb := by
    rcases hk with hk | hk
    · exact fun e => gbv (e ▸ hk)
    · have := lt_of_row h2.garr; omega
  obtain ⟨W, hW⟩ : ∃ W, W = w3.setCell ⟨K.gb, to, none⟩ U := ⟨_, rfl⟩
  rw [← hW]
  have fr : Frm (fun j => j = K.gb ∨ some j = (K.gv to).ownBlock) V W := by
    refine ⟨hW ▸ hgr.os, hW ▸ hgr.tape, hW ▸ hgr.output, ?_, fun j hj hn => ?_⟩
    · rw [hW]; have := hgr.size; simp; omega
    · rw [hW, Below.heap_setCell _ _ _ _ (fun e => hn (Or.inl e))]
      exact old j hj (fun e => hn (Or.inr e))
  have hB0 := h.lt
  refine ⟨⟨?_, ?_, fun i hi => ?_, ?_, ?_, h.inv, fun i j hi hj hne => ?_, h.fr, h.fg, fun i hi q hq => ?_, h.fh, h.b0, h.g0, fun i hi q hq => ?_, h.h0, h.x0⟩, ?_⟩
  · rw [fr.block rb (lt_of_row h2.row) (by rintro (e | e); exact rbg e; exact rbv e)]
    exact h2.row
  · have h3 : w3.heap[K.gb]? = some (.cells K.gcells 44 (0, 0)) := (old _ (lt_of_row h2.garr) gbv).trans h2.garr
    have := Go.Joins.block_setCell (i := to) h3 U
    rw [gcells_push K to x U, ← hW] at this
    exact this
  · by_cases e : i = to
    · subst e
      have e1 : (K.pushG i x U).gv i = U := if_pos rfl
      have e2 : (K.pushG i x U).gl i = K.gl i ++ [x] := if_pos rfl
      rw [e1, e2, List.length_append, List.map_append]
      refine owns_frame hown (fun j hj => ?_)
      rw [hUk] at hj
      injection hj with hj
      rw [hW]
      exact Below.heap_setCell _ _ _ _ (by rw [hj]; exact hkg)
    · have e1 : (K.pushG to x U).gv i = K.gv i := if_neg e
      have e2 : (K.pushG to x U).gl i = K.gl i := if_neg e
      rw [e1, e2]
      refine owns_frame (h2.gown i hi) (fun j hj => ?_)
      obtain ⟨hjl, cur, hc⟩ := owns_lt (h2.gown i hi) hj
      refine fr.block j hjl ?_
      rintro (q | q)
      · exact ne_of_type hc h2.garr (by decide) q
      · exact h.gne i to hi hto e j hj q
  · refine owns_frame h2.hown (fun j hj => ?_)
    obtain ⟨hjl, cur, hc⟩ := owns_lt h2.hown hj
    refine fr.block j hjl ?_
    rintro (q | q)
    · exact ne_of_type hc h2.garr (by decide) q
    · obtain ⟨_, cur2, hc2⟩ := ownT q
      exact ne_of_type hc hc2 (by decide) rfl
  · refine h2.x.frame fr (fun j hj hh => ?_)
    rcases hh with q | q
    · exact h.fg (q ▸ hj)
    · exact h.fv to hto j q hj
  · intro q hq1 hq2
    have key : ∀ i', i' < K.M.nt → i' ≠ to → some q = U.ownBlock → some q = (K.gv i').ownBlock → False := fun i' hi' hne' a1 a2 => by
      rw [hUk] at a1
      injection a1 with a1
      subst a1
      rcases hk with hk | hk
      · exact h.gne i' to hi' hto hne' _ a2 hk
      · have := (owns_lt (h2.gown i' hi') a2).1; omega
    by_cases e : i = to
    · by_cases e2 : j = to
      · omega
      · rw [show (K.pushG to x U).gv i = U from if_pos e] at hq1
        rw [show (K.pushG to x U).gv j = K.gv j from if_neg e2] at hq2
        exact key j hj e2 hq1 hq2
    · rw [show (K.pushG to x U).gv i = K.gv i from if_neg e] at hq1
      by_cases e2 : j = to
      · rw [show (K.pushG to x U).gv j = U from if_pos e2] at hq2
        exact key i hi e hq2 hq1
      · rw [show (K.pushG to x U).gv j = K.gv j from if_neg e2] at hq2
        exact h.gne i j hi hj hne q hq1 hq2
  · by_cases e : i = to
    · rw [show (K.pushG to x U).gv i = U from if_pos e, hUk] at hq
      injection hq with hq
      subst hq
      intro hh
      rcases hk with hk | hk
      · exact h.fv to hto _ hk hh
      · have := h2.foot_lt hh; omega
    · rw [show (K.pushG to x U).gv i = K.gv i from if_neg e] at hq
      exact h.fv i hi q hq
  · by_cases e : i = to
    · rw [show (K.pushG to x U).gv i = U from if_pos e, hUk] at hq
      injection hq with hq
      subst hq
      rcases hk with hk | hk
      · exact h.v0 to hto _ hk
      · omega
    · rw [show (K.pushG to x U).gv i = K.gv i from if_neg e] at hq
      exact h.v0 i hi q hq
  · refine ⟨(Frm.ofBelow (F := KOwn rb K) hV).trans fr (fun j _ hj => ?_), fun j hj => ?_⟩
    · rcases hj with e | e
      · exact Or.inl (Or.inr (Or.inl e))
      · exact Or.inl (Or.inr (Or.inr (Or.inl ⟨to, hto, e⟩)))
    · rcases hj with (e | e | ⟨i, hi, e⟩ | e) | hj
      · exact Or.inl (Or.inl (Or.inl e))
      · exact Or.inl (Or.inl (Or.inr (Or.inl e)))
      · by_cases ei : i = to
        · rw [show (K.pushG to x U).gv i = U from if_pos ei, hUk] at e
          injection e with e
          subst e
          rcases hk with hk | hk
          · exact Or.inl (Or.inl (Or.inr (Or.inr (Or.inl ⟨to, hto, hk⟩))))
          · exact Or.inr (by omega)
        · rw [show (K.pushG to x U).gv i = K.gv i from if_neg ei] at e
          exact Or.inl (Or.inl (Or.inr (Or.inr (Or.inl ⟨i, hi, e⟩))))
      · exact Or.inl (Or.inl (Or.inr (Or.inr (Or.inr e))))
      · exact Or.inl (Or.inr hj)

theorem KAt.pushedH {B0 : Nat} {w V w3 : World} {rb : Nat} {K : KRun} (h : KAt B0 w rb K) (hV : Below w.heap.size w V) (s : ByteArray) {k cap : Nat}
    (hown : w3.ownsRow 0 9 1 (.slice (some ⟨k, 0, none⟩) (K.hl.length + 1) cap) (K.hl.length + 1) (K.hl.map Value.string ++ [.string s]))
    (hgr : V.grownBy w3 K.hv.ownBlock) (hk : some k = K.hv.ownBlock ∨ V.heap.size ≤ k) :
    KAt B0 (w3.setCell ⟨rb, 10, none⟩ (.slice (some ⟨k, 0, none⟩) (K.hl.length + 1) cap)) rb (K.pushH s (.slice (some ⟨k, 0, none⟩) (K.hl.length + 1) cap)) ∧
      KTo rb K (K.pushH s (.slice (some ⟨k, 0, none⟩) (K.hl.length + 1) cap)) w (w3.setCell ⟨rb, 10, none⟩ (.slice (some ⟨k, 0, none⟩) (K.hl.length + 1) cap)) := by
  have h2 := h.below hV
  obtain ⟨U, hU⟩ : ∃ U, U = (.slice (some ⟨k, 0, none⟩) (K.hl.length + 1) cap : Value) := ⟨_, rfl⟩
  rw [← hU] at hown ⊢
  have hUk : U.ownBlock = some k := by rw [hU]; rfl
  have hVs := hV.size
  have old : ∀ j, j < V.heap.size → some j ≠ K.hv.ownBlock → w3.heap[j]? = V.heap[j]? := fun j hj hne => hgr.block j hj hne
  have ownT : ∀ {j : Nat}, some j = K.hv.ownBlock → j < V.heap.size ∧ ∃ cur, V.heap[j]? = some (.cells cur 9 (0, 0)) := fun hj => owns_lt h2.hown hj
  have rbv : some rb ≠ K.hv.ownBlock := fun e => by
    obtain ⟨_, cur, hc⟩ := ownT e
    exact ne_of_type h2.row hc (by decide) rfl
  have hkr : k ≠ rb := by
    rcases hk with hk | hk
    · exact fun e => rbv (e ▸ hk)
    · have := lt_of_row h2.row; omega
  obtain ⟨W, hW⟩ : ∃ W, W = w3.setCell ⟨rb, 10, none⟩ U := ⟨_, rfl⟩
  rw [← hW]
  have fr : Frm (fun j => j = rb ∨ some j = K.hv.ownBlock) V W := by
    refine ⟨hW ▸ hgr.os, hW ▸ hgr.tape, hW ▸ hgr.output, ?_, fun j hj hn => ?_⟩
    · rw [hW]; have := hgr.size; simp; omega
    · rw [hW, Below.heap_setCell _ _ _ _ (fun e => hn (Or.inl e))]
      exact old j hj (fun e => hn (Or.inr e))
  have hB0 := h.lt
  refine ⟨⟨?_, ?_, fun i hi => ?_, ?_, ?_, h.inv, h.gne, h.fr, h.fg, h.fv, fun q hq => ?_, h.b0, h.g0, h.v0, fun q hq => ?_, h.x0⟩, ?_⟩
  · have h3 : w3.heap[rb]? = some (.cells K.cells 56 (0, 0)) := (old _ (lt_of_row h2.row) rbv).trans h2.row
    have := Go.Joins.block_setCell (i := 10) h3 U
    rw [← hW] at this
    exact this
  · show W.heap[K.gb]? = some (.cells K.gcells _ _)
    rw [fr.block _ (lt_of_row h2.garr) (by
      rintro (e | e)
      · exact ne_of_type h2.garr h2.row (by decide) e
      · obtain ⟨_, cur, hc⟩ := ownT e
        exact ne_of_type h2.garr hc (by decide) rfl)]
    exact h2.garr
  · refine owns_frame (h2.gown i hi) (fun j hj => ?_)
    obtain ⟨hjl, cur, hc⟩ := owns_lt (h2.gown i hi) hj
    refine fr.block j hjl ?_
    rintro (q | q)
    · exact ne_of_type hc h2.row (by decide) q
    · obtain ⟨_, cur2, hc2⟩ := ownT q
      exact ne_of_type hc hc2 (by decide) rfl
  · show W.ownsRow 0 _ 1 U (K.hl ++ [s]).length ((K.hl ++ [s]).map Value.string)
    rw [List.length_append, List.map_append]
    refine owns_frame hown (fun j hj => ?_)
    rw [hUk] at hj
    injection hj with hj
    rw [hW]
    exact Below.heap_setCell _ _ _ _ (by rw [hj]; exact hkr)
  · refine h2.x.frame fr (fun j hj hh => ?_)
    rcases hh with q | q
    · exact h.fr (q ▸ hj)
    · exact h.fh j q hj
  · have hq : some q = U.ownBlock := hq
    rw [hUk] at hq
    injection hq with hq
    subst hq
    intro hh
    rcases hk with hk | hk
    · exact h.fh _ hk hh
    · have := h2.foot_lt hh; omega
  · have hq : some q = U.ownBlock := hq
    rw [hUk] at hq
    injection hq with hq
    subst hq
    rcases hk with hk | hk
    · exact h.h0 _ hk
    · omega
  · refine ⟨(Frm.ofBelow (F := KOwn rb K) hV).trans fr (fun j _ hj => ?_), fun j hj => ?_⟩
    · rcases hj with e | e
      · exact Or.inl (Or.inl e)
      · exact Or.inl (Or.inr (Or.inr (Or.inr e)))
    · rcases hj with (e | e | ⟨i, hi, e⟩ | e) | hj
      · exact Or.inl (Or.inl (Or.inl e))
      · exact Or.inl (Or.inl (Or.inr (Or.inl e)))
      · exact Or.inl (Or.inl (Or.inr (Or.inr (Or.inl ⟨i, hi, e⟩))))
      · have e : some j = U.ownBlock := e
        rw [hUk] at e
        injection e with e
        subst e
        rcases hk with hk | hk
        · exact Or.inl (Or.inl (Or.inr (Or.inr (Or.inr hk))))
        · exact Or.inr (by omega)
      · exact Or.inl (Or.inr hj)

end Go.Proofs.Ytkjjamigaamllaa
