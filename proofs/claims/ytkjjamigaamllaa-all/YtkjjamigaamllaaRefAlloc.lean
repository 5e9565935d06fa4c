/-
  Alloc, by the document's house.
-/
import Derived.Test.YtkjjamigaamllaaRefClear
import Derived.Deep.RegionLaw
import Derived.Deep.QuietTactic
namespace Go.Proofs.Ytkjjamigaamllaa
open Go.RowKit
set_option linter.unusedSimpArgs false

def RH.pushO (R : RH) (x : RObj) : RH := { R with nO := R.nO + 1, O := fun i => if i = R.nO then x else R.O i }
def RL.pushO (L : RL) (n : Nat) (v : Value) (ob b : Nat) : RL := { L with vo := v, ob := fun i => if i = n then ob else L.ob i, by_ := fun i => if i = n then b else L.by_ i }

theorem RAt.pushingO {w w1 : World} {g : Nat} {R : RH} {L : RL} {c1 c2 c3 : Array Value} {t1 t2 t3 : TypeId} (h : RAt w g R L) (hgr : ((((w.alloc (.cells c1 t1)).alloc (.cells c2 t2)).alloc (.cells c3 t3)).drew).grownBy w1 L.vo.ownBlock) :
    w1.heap[g]? = some (.cells #[.int .i64 (R.nt : Int), .int .i64 (R.ns : Int), .int .i64 (R.nc : Int), L.vo, L.vt] 102 (0, 0)) ∧ w1.heap[w.heap.size]? = some (.cells c1 t1 (0, 0)) ∧ w1.heap[w.heap.size + 1]? = some (.cells c2 t2 (0, 0)) ∧ w.heap.size + 3 ≤ w1.heap.size ∧ ∀ j, j < w.heap.size → some j ≠ L.vo.ownBlock → w1.heap[j]? = w.heap[j]? := by
  have hg := lt_of_row h.row
  have hsz : ((((w.alloc (.cells c1 t1)).alloc (.cells c2 t2)).alloc (.cells c3 t3)).drew).heap.size = w.heap.size + 3 := by
    show (((w.alloc (.cells c1 t1)).alloc (.cells c2 t2)).alloc (.cells c3 t3)).heap.size = _
    simp
  have old : ∀ j, j < w.heap.size → some j ≠ L.vo.ownBlock → w1.heap[j]? = w.heap[j]? := fun j hj hne => by
    rw [hgr.block j (by omega) hne]
    show (((w.alloc (.cells c1 t1)).alloc (.cells c2 t2)).alloc (.cells c3 t3)).heap[j]? = _
    rw [Below.heap_alloc _ _ _ (by simp; omega), Below.heap_alloc _ _ _ (by simp; omega), Below.heap_alloc _ _ _ hj]
  refine ⟨?_, ?_, ?_, by have := hgr.size; omega, old⟩
  · rw [old g hg (fun e => by
      obtain ⟨_, cur, hc⟩ := owns_lt h.os e
      exact ne_of_type h.row hc (by decide) rfl)]
    exact h.row
  · rw [hgr.block _ (by omega) (fun e => by have := (owns_lt h.os e).1; omega)]
    show (((w.alloc (.cells c1 t1)).alloc (.cells c2 t2)).alloc (.cells c3 t3)).heap[_]? = _
    rw [Below.heap_alloc _ _ _ (by simp; omega), Below.heap_alloc _ _ _ (by simp)]
    exact newRowAt _ _
  · rw [hgr.block _ (by omega) (fun e => by have := (owns_lt h.os e).1; omega)]
    show (((w.alloc (.cells c1 t1)).alloc (.cells c2 t2)).alloc (.cells c3 t3)).heap[_]? = _
    rw [Below.heap_alloc _ _ _ (by simp)]
    have := newRowAt (w.alloc (.cells c1 t1)) (.cells c2 t2)
    rw [sizeAlloc] at this
    exact this

/-- behind the append and the store -/
theorem RAt.pushedO {w w1 : World} {g : Nat} {R : RH} {L : RL} {x : RObj} {c3 : Array Value} {t3 : TypeId} {k cap : Nat} (h : RAt w g R L)
    (hown : w1.ownsRow 0 136 1 (.slice (some ⟨k, 0, none⟩) (R.nO + 1) cap) (R.nO + 1) (ptrs L.ob R.nO ++ [.pointer (some ⟨w.heap.size + 1, 0, none⟩)]))
    (hgr : ((((w.alloc (.cells (byteCells x.bytes) 5)).alloc (.cells (x.cells w.heap.size) 138)).alloc (.cells c3 t3)).drew).grownBy w1 L.vo.ownBlock) (hk : some k = L.vo.ownBlock ∨ w.heap.size + 3 ≤ k) :
    RAt (w1.setCell ⟨g, 3, none⟩ (.slice (some ⟨k, 0, none⟩) (R.nO + 1) cap)) g (R.pushO x) (L.pushO R.nO (.slice (some ⟨k, 0, none⟩) (R.nO + 1) cap) (w.heap.size + 1) w.heap.size) ∧
      Frm (RFoot g R L) w (w1.setCell ⟨g, 3, none⟩ (.slice (some ⟨k, 0, none⟩) (R.nO + 1) cap)) ∧
      ∀ j, RFoot g (R.pushO x) (L.pushO R.nO (.slice (some ⟨k, 0, none⟩) (R.nO + 1) cap) (w.heap.size + 1) w.heap.size) j → RFoot g R L j ∨ w.heap.size ≤ j := by
  obtain ⟨V, hV⟩ : ∃ V, V = (.slice (some ⟨k, 0, none⟩) (R.nO + 1) cap : Value) := ⟨_, rfl⟩
  rw [← hV] at hown ⊢
  have hVk : V.ownBlock = some k := by rw [hV]; rfl
  obtain ⟨q1, q2, q3, q4, old⟩ := h.pushingO hgr
  have hg := lt_of_row h.row
  have hgv : some g ≠ L.vo.ownBlock := fun e => by
    obtain ⟨_, cur, hc⟩ := owns_lt h.os e
    exact ne_of_type h.row hc (by decide) rfl
  have old2 : ∀ j, j < w.heap.size → some j ≠ L.vo.ownBlock → j ≠ g → (w1.setCell ⟨g, 3, none⟩ V).heap[j]? = w.heap[j]? := fun j hj hne hjg => by
    rw [Below.heap_setCell _ _ _ _ hjg]; exact old j hj hne
  have hkg : k ≠ g := by
    rcases hk with hk | hk
    · exact fun e => hgv (e ▸ hk)
    · omega
  have nv : ∀ (a : Nat) (cs : Array Value) (ty : TypeId), w.heap[a]? = some (.cells cs ty (0, 0)) → ty ≠ 136 → some a ≠ L.vo.ownBlock := fun a cs ty ha hne e => by
    obtain ⟨_, cur, hc⟩ := owns_lt h.os e
    exact ne_of_type ha hc hne rfl
  have sO : ∀ i, (L.pushO R.nO V (w.heap.size + 1) w.heap.size).ob i = if i = R.nO then w.heap.size + 1 else L.ob i := fun i => rfl
  have sB : ∀ i, (L.pushO R.nO V (w.heap.size + 1) w.heap.size).by_ i = if i = R.nO then w.heap.size else L.by_ i := fun i => rfl
  have sX : ∀ i, (R.pushO x).O i = if i = R.nO then x else R.O i := fun i => rfl
  refine ⟨⟨?_, ?_, ?_, ?_, ?_, ?_, ?_, ?_, h.tInj⟩, ?_, ?_⟩
  · have := Go.Joins.block_setCell (i := 3) q1 V
    exact this
  · have : ptrs (L.pushO R.nO V (w.heap.size + 1) w.heap.size).ob (R.nO + 1) = ptrs L.ob R.nO ++ [.pointer (some ⟨w.heap.size + 1, 0, none⟩)] := ptrs_push _ _ _
    show World.ownsRow _ 0 _ 1 V (R.nO + 1) (ptrs (L.pushO R.nO V (w.heap.size + 1) w.heap.size).ob (R.nO + 1))
    rw [this]
    refine owns_frame hown (fun j hj => ?_)
    rw [hVk] at hj
    injection hj with hj
    exact Below.heap_setCell _ _ _ _ (by rw [hj]; exact hkg)
  · refine owns_frame h.ts (fun j hj => ?_)
    obtain ⟨h1, cur, h2⟩ := owns_lt h.ts hj
    exact old2 j h1 (nv j cur _ h2 (by decide)) (fun e => ne_of_type h.row (e ▸ h2) (by decide) rfl)
  · intro i hi
    have hi2 : i < R.nO + 1 := hi
    rw [sO, sB, sX]
    by_cases e : i = R.nO
    · rw [if_pos e, if_pos e, if_pos e, Below.heap_setCell _ _ _ _ (by show w.heap.size + 1 ≠ g; omega)]
      exact q3
    · rw [if_neg e, if_neg e, if_neg e]
      have h1 := h.oAt i (by omega)
      exact (old2 _ (lt_of_row h1) (nv _ _ _ h1 (by decide)) (fun e => ne_of_type h.row (e ▸ h1) (by decide) rfl)).trans h1
  · intro i hi
    have hi2 : i < R.nO + 1 := hi
    rw [sB, sX]
    by_cases e : i = R.nO
    · rw [if_pos e, if_pos e, Below.heap_setCell _ _ _ _ (by show w.heap.size ≠ g; omega)]
      exact q2
    · rw [if_neg e, if_neg e]
      have h1 := h.bAt i (by omega)
      exact (old2 _ (lt_of_row h1) (nv _ _ _ h1 (by decide)) (fun e => ne_of_type h.row (e ▸ h1) (by decide) rfl)).trans h1
  · intro i hi
    have h1 := h.tAt i hi
    exact (old2 _ (lt_of_row h1) (nv _ _ _ h1 (by decide)) (fun e => ne_of_type h.row (e ▸ h1) (by decide) rfl)).trans h1
  · intro i j hi hj
    have hi2 : i < R.nO + 1 := hi
    have hj2 : j < R.nO + 1 := hj
    rw [sO, sO]
    by_cases e : i = R.nO <;> by_cases e2 : j = R.nO
    · intros; omega
    · rw [if_pos e, if_neg e2]
      intro e3
      have := lt_of_row (h.oAt j (by omega))
      omega
    · rw [if_neg e, if_pos e2]
      intro e3
      have := lt_of_row (h.oAt i (by omega))
      omega
    · rw [if_neg e, if_neg e2]
      exact h.oInj i j (by omega) (by omega)
  · intro i j hi hj
    have hi2 : i < R.nO + 1 := hi
    have hj2 : j < R.nO + 1 := hj
    rw [sB, sB]
    by_cases e : i = R.nO <;> by_cases e2 : j = R.nO
    · intros; omega
    · rw [if_pos e, if_neg e2]
      intro e3
      have := lt_of_row (h.bAt j (by omega))
      omega
    · rw [if_neg e, if_pos e2]
      intro e3
      have := lt_of_row (h.bAt i (by omega))
      omega
    · rw [if_neg e, if_neg e2]
      exact h.bInj i j (by omega) (by omega)
  · refine ⟨hgr.os, hgr.tape, hgr.output, by simp; omega, fun j hj hn => ?_⟩
    exact old2 j hj (fun e => hn (Or.inr (Or.inl e))) (fun e => hn (Or.inl e))
  · rintro j (rfl | hj | hj | ⟨i, hi, hj⟩ | hj)
    · exact Or.inl (Or.inl rfl)
    · have hj : some j = V.ownBlock := hj
      rw [hVk] at hj
      injection hj with hj
      subst hj
      rcases hk with hk | hk
      · exact Or.inl (Or.inr (Or.inl hk))
      · exact Or.inr (by omega)
    · exact Or.inl (Or.inr (Or.inr (Or.inl hj)))
    · rw [sO, sB] at hj
      have hi2 : i < R.nO + 1 := hi
      by_cases e : i = R.nO
      · rw [if_pos e, if_pos e] at hj; exact Or.inr (by omega)
      · rw [if_neg e, if_neg e] at hj; exact Or.inl (Or.inr (Or.inr (Or.inr (Or.inl ⟨i, by omega, hj⟩))))
    · exact Or.inl (Or.inr (Or.inr (Or.inr (Or.inr hj))))

theorem RAt.owns_laid {R : RH} (t f o a l m : Int) : (R.laid t f o a l m).nO = R.nO ∧ (R.laid t f o a l m).O = R.O := by
  unfold RH.laid
  split <;> exact ⟨rfl, rfl⟩

theorem RAt.owns3 {w : World} {g : Nat} {R : RH} {L : RL} (h : RAt w g R L) {v : Value} {n : Nat} (hv : L.vo = v) (hn : R.nO = n) (A B C : Obj) : ((((w.alloc A).alloc B).alloc C).drew).ownsRow 0 136 1 v n (ptrs L.ob n) := by
  subst hv hn
  refine owns_frame h.os (fun j hj => ?_)
  have hj2 := (owns_lt h.os hj).1
  show (((w.alloc A).alloc B).alloc C).heap[j]? = _
  rw [Below.heap_alloc _ _ _ (by simp; omega), Below.heap_alloc _ _ _ (by simp; omega), Below.heap_alloc _ _ _ hj2]
theorem newCell3 (w : World) (A B : Obj) (cs : Array Value) (t : TypeId) (i : Nat) : ((((w.alloc A).alloc B).alloc (.cells cs t)).drew).cell? ⟨w.heap.size + 1 + 1, i, none⟩ = cs[i]? := by
  have h0 := newRowAt ((w.alloc A).alloc B) (.cells cs t)
  rw [sizeAlloc, sizeAlloc] at h0
  exact rowCell h0 i

/-- Alloc by the document's house -/
def RH.allocE (R : RH) (t l : Int) : Int := if ¬ (1 ≤ l ∧ l ≤ 256) then 6 else if R.nc < R.chunks t + chunksN l.toNat then 7 else R.laidE t
def RH.allocS (R : RH) (t l : Int) : ByteArray := if ¬ (1 ≤ l ∧ l ≤ 256) then ⟨#[]⟩ else if R.nc < R.chunks t + chunksN l.toNat then ⟨#[]⟩ else R.laidS t
def RH.alloc (R : RH) (t l : Int) : RH := if ¬ (1 ≤ l ∧ l ≤ 256) then R else if R.nc < R.chunks t + chunksN l.toNat then R else match R.next t with
  | some _ => (R.laid t (-1) (R.nO : Int) 0 l 7).pushO ⟨t, List.replicate l.toNat 0, false⟩
  | none => R

set_option maxHeartbeats 3200000 in
theorem ralloc_any {g : Nat} {R : RH} {L : RL} {w : World} (t l : Nat) (h : RAt w g R L) (ok : R.Ok) (hl : l ≤ 65535) :
    Calls Try.prog 97 #[.pointer (some ⟨g, 0, none⟩), .int .i64 (t : Int), .int .i64 (l : Int)] w
      fun e w' => e = .returned (.tuple #[.string (R.allocS t l), .int .i64 (R.allocE t l)]) ∧ ∃ L', RAt w' g (R.alloc t l) L' ∧ Frm (RFoot g R L) w w' ∧ (∀ j, RFoot g (R.alloc t l) L' j → RFoot g R L j ∨ w.heap.size ≤ j) := by
  have hnc := ok.nc
  have hnO := ok.nO
  have hch : R.chunks (t : Int) ≤ 8388608 := chunks_bd ok (t : Int) R.nO (Nat.le_refl _)
  have c2 : w.cell? ⟨g, 2, none⟩ = some (.int .i64 (R.nc : Int)) := rowCell h.row 2
  have HH : Hid (RAt w g R L ∧ R.Ok) := ⟨h, ok⟩
  clear h ok
  by_cases h1 : 1 ≤ l ∧ l ≤ 256
  · obtain ⟨h1a, h1b⟩ := h1
    have hC : chunksN l ≤ 32 := by unfold chunksN; omega
    go_enter Try.func97, Try.ntmps97
    go_wp2
    go_quiet (first | (go_at_call 85; exact Calls.quiet_of_same (chunks_any (t : Int) (HH.out.1.below (belowDrewN _ _ _)) HH.out.2)) | (go_at_call 96; exact Calls.quiet_of_same (needs_any l _ (by omega))))
    obtain ⟨W, hW⟩ : ∃ W, W = w.drewN nq := ⟨_, rfl⟩
    have hb : Below w.heap.size w W := hW ▸ belowDrewN _ _ _
    rw [← hW]
    clear hW
    obtain ⟨va, vc, hv, _⟩ := HH.out.1.object
    have hR := HH.out.1.below hb
    have c3 : W.cell? ⟨g, 3, none⟩ = some (.slice va R.nO vc) := by rw [← hv]; exact rowCell hR.row 3
    have HX : Hid (RAt W g R L ∧ R.Ok ∧ Below w.heap.size w W ∧ L.vo = .slice va R.nO vc) := ⟨hR, HH.out.2, hb, hv⟩
    clear hb HH c2 hR hv
    by_cases h2 : R.nc < R.chunks (t : Int) + chunksN l
    · have h2' : ((R.nc : Int) < (R.chunks (t : Int) : Int) + (chunksN l : Int)) := by omega
      have HA : Hid (R.allocE t l = 7 ∧ R.allocS t l = ⟨#[]⟩ ∧ R.alloc t l = R) := by
        refine ⟨?_, ?_, ?_⟩
        · unfold RH.allocE; rw [if_neg (fun h => h ⟨by omega, by omega⟩), if_pos (by simpa using h2)]
        · unfold RH.allocS; rw [if_neg (fun h => h ⟨by omega, by omega⟩), if_pos (by simpa using h2)]
        · unfold RH.alloc; rw [if_neg (fun h => h ⟨by omega, by omega⟩), if_pos (by simpa using h2)]
      clear h2
      go_wp2
      go_ret2
      exact ⟨by rw [HA.out.1, HA.out.2.1]; rfl, L, by rw [HA.out.2.2]; exact HX.out.1, Frm.ofBelow HX.out.2.2.1, fun j hj => Or.inl (by rw [HA.out.2.2] at hj; exact hj)⟩
    · have h2' : ¬ ((R.nc : Int) < (R.chunks (t : Int) : Int) + (chunksN l : Int)) := by omega
      have HA : Hid (R.allocE t l = R.laidE t ∧ R.allocS t l = R.laidS t ∧ R.alloc t l = match R.next t with
          | some _ => (R.laid t (-1) (R.nO : Int) 0 l 7).pushO ⟨t, List.replicate l 0, false⟩
          | none => R) := by
        refine ⟨?_, ?_, ?_⟩
        · unfold RH.allocE; rw [if_neg (fun h => h ⟨by omega, by omega⟩), if_neg (by simpa using h2)]
        · unfold RH.allocS; rw [if_neg (fun h => h ⟨by omega, by omega⟩), if_neg (by simpa using h2)]
        · unfold RH.alloc; rw [if_neg (fun h => h ⟨by omega, by omega⟩), if_neg (by simpa using h2)]; rfl
      clear h2
      go_wp2_with fail
      refine (laid_any (t : Int) (-1) (R.nO : Int) 0 (l : Int) 7 HX.out.1 HX.out.2.1).mono ?_
      rintro e w2 ⟨rfl, L2, hR2, hF2, hJ2, hvo, _⟩
      cases hn : R.next (t : Int) with
      | none =>
        have e1 : R.laidE (t : Int) = 8 := by unfold RH.laidE; rw [hn]
        have e2 : R.laidS (t : Int) = ⟨#[]⟩ := by unfold RH.laidS; rw [hn]
        have e3 : R.laid (t : Int) (-1) (R.nO : Int) 0 (l : Int) 7 = R := by unfold RH.laid; rw [hn]
        rw [e1, e2]
        rw [e3] at hR2 hJ2
        have HY : Hid (RAt w2 g R L2 ∧ Frm (RFoot g R L) W w2 ∧ (∀ j, RFoot g R L2 j → RFoot g R L j ∨ W.heap.size ≤ j) ∧ R.allocE t l = 8 ∧ R.allocS t l = ⟨#[]⟩ ∧ R.alloc t l = R) := ⟨hR2, hF2, hJ2, HA.out.1.trans e1, HA.out.2.1.trans e2, by rw [HA.out.2.2, hn]⟩
        clear hR2 hF2 hJ2 hvo e1 e2 e3 hn
        go_wp2
        go_ret2
        obtain ⟨y1, y2, y3, y4, y5, y6⟩ := HY.out
        exact ⟨by rw [y4, y5]; rfl, L2, by rw [y6]; exact y1, (Frm.ofBelow (F := RFoot g R L) HX.out.2.2.1).trans y2 (fun _ _ h => h), fun j hj => by
          rw [y6] at hj
          rcases y3 j hj with h3 | h3
          · exact Or.inl h3
          · exact Or.inr (Nat.le_trans HX.out.2.2.1.size h3)⟩
      | some s =>
        have e1 : R.laidE (t : Int) = 0 := by unfold RH.laidE; rw [hn]
        obtain ⟨o1, o2⟩ := RAt.owns_laid (R := R) (t : Int) (-1) (R.nO : Int) 0 (l : Int) 7
        have d3 : w2.cell? ⟨g, 3, none⟩ = some (.slice va R.nO vc) := by
          have := rowCell hR2.row 3
          rw [hvo] at this
          rw [HX.out.2.2.2] at this
          exact this
        have g2 := lt_of_row hR2.row
        have HY : Hid (RAt w2 g (R.laid (t : Int) (-1) (R.nO : Int) 0 (l : Int) 7) L2 ∧ Frm (RFoot g R L) W w2 ∧ (∀ j, RFoot g (R.laid (t : Int) (-1) (R.nO : Int) 0 (l : Int) 7) L2 j → RFoot g R L j ∨ W.heap.size ≤ j) ∧ (R.laid (t : Int) (-1) (R.nO : Int) 0 (l : Int) 7).nO = R.nO ∧ L2.vo = .slice va R.nO vc ∧ R.allocE t l = 0 ∧ R.allocS t l = R.laidS t ∧ R.alloc t l = (R.laid t (-1) (R.nO : Int) 0 l 7).pushO ⟨t, List.replicate l 0, false⟩) :=
          ⟨hR2, hF2, hJ2, o1, hvo.trans HX.out.2.2.2, HA.out.1.trans e1, HA.out.2.1, by rw [HA.out.2.2, hn]⟩
        rw [e1]
        clear hR2 hF2 hJ2 hvo e1 o1 o2 hn c3
        have hmk := fun W => make_bytes W l hl
        have a1 : ∀ A, (w2.alloc A).cell? ⟨g, 3, none⟩ = some (.slice va R.nO vc) := fun A => by
          rw [((Below.refl w2.heap.size w2).alloc (Nat.le_refl _) A).cell (p := ⟨g, 3, none⟩) g2]; exact d3
        have a2 : ∀ A B, ((w2.alloc A).alloc B).cell? ⟨g, 3, none⟩ = some (.slice va R.nO vc) := fun A B => by
          rw [(((Below.refl w2.heap.size w2).alloc (Nat.le_refl _) A).alloc (by simp) B).cell (p := ⟨g, 3, none⟩) g2]; exact d3
        have a3 : ∀ A B C, (((w2.alloc A).alloc B).alloc C).cell? ⟨g, 3, none⟩ = some (.slice va R.nO vc) := fun A B C => by
          rw [((((Below.refl w2.heap.size w2).alloc (Nat.le_refl _) A).alloc (by simp) B).alloc (by simp; omega) C).cell (p := ⟨g, 3, none⟩) g2]; exact d3
        go_wp2_with fail
        go_region_law (
          (refine step_append_mine rfl _ _ 99 rfl 136 Try.t136 (.pointer none) 8 Try.underlying99 (by kernel_rfl) (by kernel_rfl) (by kernel_rfl) (by kernel_rfl) rfl (.slice va R.nO vc) R.nO (ptrs L2.ob R.nO) rfl (HY.out.1.owns3 HY.out.2.2.2.2.1 HY.out.2.2.2.1 _ _ _) ⟨w2.heap.size + 1 + 1, 0, none⟩ (.pointer (some ⟨w2.heap.size + 1, 0, none⟩)) rfl (newCell3 _ _ _ _ _ 0) rfl (by unfold maxLen; omega) (by omega) ?_
           intro kk cap w3 hown hgr hkk
           obtain ⟨r1, r2, r3, r4, r5⟩ := HY.out.1.pushingO (by rw [HY.out.2.2.2.2.1]; exact hgr)
           have HP : Hid _ := HY.out.1.pushedO (x := ⟨t, List.replicate l 0, false⟩) (k := kk) (cap := cap) (by rw [HY.out.2.2.2.1]; exact hown) (by rw [HY.out.2.2.2.2.1]; simpa [RObj.cells] using hgr) (by rw [HY.out.2.2.2.2.1]; simpa [World.drew] using hkk)
           have d3 := rowCell r1 3
           have e3 := rowFree r1 3
           clear hown hgr hkk r1 r2 r3 r4 r5))
        all_goals
          go_wp2
          go_ret2
          obtain ⟨y1, y2, y3, y4, y5, y6, y7, y8⟩ := HY.out
          obtain ⟨p1, p2, p3⟩ := HP.out
          rw [y4] at p1 p2 p3
          refine ⟨by rw [y6, y7]; rfl, _, by rw [y8]; exact p1, ((Frm.ofBelow (F := RFoot g R L) HX.out.2.2.1).trans y2 (fun _ _ h => h)).trans p2 (fun j hj h => ?_), fun j hj => ?_⟩
          · rcases y3 j h with h3 | h3
            · exact h3
            · have := HX.out.2.2.1.size
              omega
          · rw [y8] at hj
            have q1 := HX.out.2.2.1.size
            have q2 := y2.size
            rcases p3 j hj with h3 | h3
            · rcases y3 j h3 with h4 | h4
              · exact Or.inl h4
              · exact Or.inr (by omega)
            · exact Or.inr (by omega)
  · have HA : Hid (R.allocE t l = 6 ∧ R.allocS t l = ⟨#[]⟩ ∧ R.alloc t l = R) := by
      refine ⟨?_, ?_, ?_⟩
      · unfold RH.allocE; rw [if_pos (by omega)]
      · unfold RH.allocS; rw [if_pos (by omega)]
      · unfold RH.alloc; rw [if_pos (by omega)]
    by_cases h2 : l = 0
    · subst h2
      go_enter Try.func97, Try.ntmps97
      go_wp2
      go_ret2
      exact ⟨by rw [HA.out.1, HA.out.2.1]; rfl, L, by rw [HA.out.2.2]; exact HH.out.1, Frm.refl _ _, fun j hj => Or.inl (by rw [HA.out.2.2] at hj; exact hj)⟩
    · have h3 : (256 : Int) < (l : Int) := by omega
      clear h1
      go_enter Try.func97, Try.ntmps97
      go_wp2
      go_ret2
      exact ⟨by rw [HA.out.1, HA.out.2.1]; rfl, L, by rw [HA.out.2.2]; exact HH.out.1, Frm.refl _ _, fun j hj => Or.inl (by rw [HA.out.2.2] at hj; exact hj)⟩

end Go.Proofs.Ytkjjamigaamllaa
