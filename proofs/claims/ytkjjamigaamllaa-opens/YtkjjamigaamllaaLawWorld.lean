/-
  The houses that a script has made, as the laws keep them; New of both, Look of all.
-/
import Derived.Test.YtkjjamigaamllaaLawPair
namespace Go.Proofs.Ytkjjamigaamllaa
open Go.RowKit
set_option linter.unusedSimpArgs false

structure WAt (B0 : Nat) (w : World) (b : Nat) (ops : Int) (n : Nat) (v : Value) (Ps : Nat → HPair) : Prop where
  row : w.heap[b]? = some (.cells #[v, .int .i64 ops] 36 (0, 0))
  own : w.ownsRow 0 96 1 v n (ptrs (fun i => (Ps i).pb) n)
  pair : ∀ i, i < n → PairAt w (Ps i)
  dis : ∀ i j, i < n → j < n → i ≠ j → ∀ k, PFoot (Ps i) k → ¬ PFoot (Ps j) k
  bw : ∀ i, i < n → ¬ PFoot (Ps i) b
  bv : ∀ i, i < n → ∀ k, some k = v.ownBlock → ¬ PFoot (Ps i) k
  b0 : B0 ≤ b
  v0 : ∀ k, some k = v.ownBlock → B0 ≤ k
  p0 : ∀ i, i < n → ∀ k, PFoot (Ps i) k → B0 ≤ k

theorem WAt.below {B0 : Nat} {w w' : World} {b : Nat} {ops : Int} {n : Nat} {v : Value} {Ps : Nat → HPair} (h : WAt B0 w b ops n v Ps) (hb : Below w.heap.size w w') : WAt B0 w' b ops n v Ps :=
  ⟨(hb.block _ (lt_of_row h.row)).trans h.row, owns_frame h.own (fun k hk => hb.block k (owns_lt h.own hk).1), fun i hi => (h.pair i hi).below hb, h.dis, h.bw, h.bv, h.b0, h.v0, h.p0⟩
theorem WAt.lt {B0 : Nat} {w : World} {b : Nat} {ops : Int} {n : Nat} {v : Value} {Ps : Nat → HPair} (h : WAt B0 w b ops n v Ps) : B0 ≤ w.heap.size := by
  have := lt_of_row h.row
  have := h.b0
  omega

/-- a new house and the document's new house -/
theorem sim_new {t s c : Nat} (h : confB t s c = true) : Sim (RH.new t s c) (Mach.new t s c) := by
  have hh : (1 ≤ t ∧ t ≤ 4) ∧ (1 ≤ s ∧ s ≤ 16) ∧ (1 ≤ c ∧ c ≤ 32) := by simp [confB] at h; omega
  have z : ∀ {i : Nat}, i < (RH.new t s c).nT → False := fun h => Nat.not_lt_zero _ h
  have zo : ∀ {i : Nat}, i < (RH.new t s c).nO → False := fun h => Nat.not_lt_zero _ h
  refine { nt := rfl, ns := rfl, nc := rfl, inv := inv_new hh.1 hh.2.1 hh.2.2, rinv := ⟨⟨hh.1.2, hh.2.1.2, hh.2.2.2, Nat.zero_le _, Nat.zero_le _, fun _ => Nat.zero_le _⟩, fun i hi => (z hi).elim, fun i hi => (z hi).elim, fun i hi => (z hi).elim, fun i hi => (z hi).elim, fun i hi => (zo hi).elim⟩, spot := fun i hi => (z hi).elim, uses := fun p hp => rfl, mate := fun i hi => (z hi).elim, full := fun p hp => (by cases hp), uniq := fun i j hi => (z hi).elim, one := fun i j hi => (z hi).elim, chunks := fun u hu => ?_, tot := ?_, nO := Nat.le_refl _ }
  · show sumN _ _ = 0
    exact sumN_zero (fun k _ => by simp [Mach.new, HSlot.none, chunksN])
  · exact (sumN_zero (fun k _ => rfl)).symm

theorem hfoot_new {g t s c k : Nat} (h : HFoot g (Mach.new t s c) id k) : k = g := by
  rcases h with h | ⟨p, _, hb, _⟩
  · exact h
  · exact absurd rfl hb
theorem rfoot_new {g t s c k : Nat} (h : RFoot g (RH.new t s c) RL.new k) : k = g := by
  rcases h with h | h | h | ⟨i, hi, _⟩ | ⟨i, hi, _⟩
  · exact h
  · cases h
  · cases h
  · exact (Nat.not_lt_zero _ hi).elim
  · exact (Nat.not_lt_zero _ hi).elim

/-- a pair more -/
theorem WAt.pushed {B0 : Nat} {w w2 w3 : World} {b : Nat} {ops : Int} {n : Nat} {v : Value} {Ps : Nat → HPair} (h : WAt B0 w b ops n v Ps) (hb : Below w.heap.size w w2)
    {t s c gx gy : Nat} (hc : confB t s c = true) (hx : HAt w2 gx (Mach.new t s c) id) (hy : RAt w2 gy (RH.new t s c) RL.new) (gx0 : w.heap.size ≤ gx) (gy0 : w.heap.size ≤ gy) (hxy : gx ≠ gy)
    {k cap : Nat} {N : Obj} (hown : w3.ownsRow 0 96 1 (.slice (some ⟨k, 0, none⟩) (n + 1) cap) (n + 1) (ptrs (fun i => (Ps i).pb) n ++ [.pointer (some ⟨w2.heap.size, 0, none⟩)]))
    (hgr : ((w2.alloc (.cells #[.pointer (some ⟨gx, 0, none⟩), .pointer (some ⟨gy, 0, none⟩)] 98)).alloc N).grownBy w3 v.ownBlock) (hk : some k = v.ownBlock ∨ w2.heap.size + 2 ≤ k) :
    WAt B0 (w3.setCell ⟨b, 0, none⟩ (.slice (some ⟨k, 0, none⟩) (n + 1) cap)) b ops (n + 1) (.slice (some ⟨k, 0, none⟩) (n + 1) cap) (fun i => if i = n then ⟨gx, Mach.new t s c, id, gy, RH.new t s c, RL.new, w2.heap.size⟩ else Ps i) ∧
      Below B0 w (w3.setCell ⟨b, 0, none⟩ (.slice (some ⟨k, 0, none⟩) (n + 1) cap)) := by
  have h2 := h.below hb
  obtain ⟨V, hV⟩ : ∃ V, V = (.slice (some ⟨k, 0, none⟩) (n + 1) cap : Value) := ⟨_, rfl⟩
  rw [← hV] at hown ⊢
  have hVk : V.ownBlock = some k := by rw [hV]; rfl
  have hbl := lt_of_row h2.row
  have hbw := lt_of_row h.row
  have hsz : ((w2.alloc (.cells #[.pointer (some ⟨gx, 0, none⟩), .pointer (some ⟨gy, 0, none⟩)] 98)).alloc N).heap.size = w2.heap.size + 2 := by simp
  have hbv : some b ≠ v.ownBlock := fun e => by
    obtain ⟨_, cur, hc⟩ := owns_lt h2.own e
    exact ne_of_type h2.row hc (by decide) rfl
  have old : ∀ j, j < w2.heap.size → some j ≠ v.ownBlock → w3.heap[j]? = w2.heap[j]? := fun j hj hne => by
    rw [hgr.block j (by omega) hne, Below.heap_alloc _ _ _ (by simp; omega), Below.heap_alloc _ _ _ hj]
  have hvlt : ∀ j, some j = v.ownBlock → j < w.heap.size := fun j hj => (owns_lt h.own hj).1
  have hkb : k ≠ b := by
    rcases hk with hk | hk
    · exact fun e => hbv (e ▸ hk)
    · omega
  obtain ⟨W, hW⟩ : ∃ W, W = w3.setCell ⟨b, 0, none⟩ V := ⟨_, rfl⟩
  rw [← hW]
  have fr : Frm (fun j => j = b ∨ some j = v.ownBlock) w2 W := by
    refine ⟨hW ▸ hgr.os, hW ▸ hgr.tape, hW ▸ hgr.output, ?_, fun j hj hn => ?_⟩
    · rw [hW]; have := hgr.size; simp; omega
    · rw [hW, Below.heap_setCell _ _ _ _ (fun e => hn (Or.inl e))]
      exact old j hj (fun e => hn (Or.inr e))
  have fresh : ∀ j, w.heap.size ≤ j → ¬ (j = b ∨ some j = v.ownBlock) := fun j hj hh => by
    rcases hh with e | e
    · omega
    · have := hvlt j e; omega
  have hpair : w3.heap[w2.heap.size]? = some (.cells #[.pointer (some ⟨gx, 0, none⟩), .pointer (some ⟨gy, 0, none⟩)] 98 (0, 0)) := by
    rw [hgr.block _ (by omega) (fun e => by have := hvlt _ e; have := hb.size; omega), Below.heap_alloc _ _ _ (by simp)]
    exact newRowAt _ _
  have hbs := hb.size
  have hxl := hx.lt
  have hyl := lt_of_row hy.row
  have newFoot : ∀ j, PFoot ⟨gx, Mach.new t s c, id, gy, RH.new t s c, RL.new, w2.heap.size⟩ j → w.heap.size ≤ j := by
    rintro j (e | e | e)
    · have e : j = w2.heap.size := e; omega
    · have e := hfoot_new e; have e : j = gx := e; omega
    · have e := rfoot_new e; have e : j = gy := e; omega
  have newPair : PairAt W ⟨gx, Mach.new t s c, id, gy, RH.new t s c, RL.new, w2.heap.size⟩ := by
    refine ⟨?_, hx.frame fr (fun j hj => fresh j (by have := hfoot_new hj; omega)), hy.frame fr (fun j hj => fresh j (by have := rfoot_new hj; omega)), sim_new hc, fun j hj hr => ?_, fun hh => ?_, fun hh => ?_⟩
    · show W.heap[w2.heap.size]? = _
      rw [hW, Below.heap_setCell _ _ _ _ (by show w2.heap.size ≠ b; omega)]
      exact hpair
    · have e1 : j = gx := hfoot_new hj; have e2 : j = gy := rfoot_new hr; omega
    · have e := hfoot_new hh; have e : w2.heap.size = gx := e; omega
    · have e := rfoot_new hh; have e : w2.heap.size = gy := e; omega
  have oldPair : ∀ i, i < n → PairAt W (Ps i) := fun i hi => (h2.pair i hi).frame fr (fun j hj hh => by
    rcases hh with e | e
    · exact h2.bw i hi (e ▸ hj)
    · exact h2.bv i hi j e hj)
  have oldLt : ∀ i, i < n → ∀ j, PFoot (Ps i) j → j < w.heap.size := fun i hi j hj => (h.pair i hi).foot_lt hj
  have sP : ∀ i, (if i = n then (⟨gx, Mach.new t s c, id, gy, RH.new t s c, RL.new, w2.heap.size⟩ : HPair) else Ps i) = if i = n then (⟨gx, Mach.new t s c, id, gy, RH.new t s c, RL.new, w2.heap.size⟩ : HPair) else Ps i := fun _ => rfl
  have hB0 := h.lt
  refine ⟨⟨?_, ?_, fun i hi => ?_, fun i j hi hj hne q => ?_, fun i hi => ?_, fun i hi q hq => ?_, h.b0, fun q hq => ?_, fun i hi q => ?_⟩, ?_⟩
  · have h3 : w3.heap[b]? = some (.cells #[v, .int .i64 ops] 36 (0, 0)) := (old b hbl hbv).trans h2.row
    have := Go.Joins.block_setCell (i := 0) h3 V
    rw [hW]
    exact this
  · have e : (fun i => (if i = n then (⟨gx, Mach.new t s c, id, gy, RH.new t s c, RL.new, w2.heap.size⟩ : HPair) else Ps i).pb) = fun i => if i = n then w2.heap.size else (Ps i).pb := by
      funext i
      by_cases e : i = n
      · rw [if_pos e, if_pos e]
      · rw [if_neg e, if_neg e]
    rw [e, ptrs_push]
    refine owns_frame hown (fun j hj => ?_)
    rw [hVk] at hj
    injection hj with hj
    rw [hW]
    exact Below.heap_setCell _ _ _ _ (by rw [hj]; exact hkb)
  · by_cases e : i = n
    · simp only [if_pos e]; exact newPair
    · simp only [if_neg e]; exact oldPair i (by omega)
  · by_cases e : i = n <;> by_cases e2 : j = n
    · omega
    · simp only [if_pos e, if_neg e2]
      intro h1 h4
      have := newFoot q h1
      have := oldLt j (by omega) q h4
      omega
    · simp only [if_neg e, if_pos e2]
      intro h1 h4
      have := newFoot q h4
      have := oldLt i (by omega) q h1
      omega
    · simp only [if_neg e, if_neg e2]
      exact h.dis i j (by omega) (by omega) hne q
  · by_cases e : i = n
    · simp only [if_pos e]; intro hh; have := newFoot b hh; omega
    · simp only [if_neg e]; exact h.bw i (by omega)
  · rw [hVk] at hq
    injection hq with hq
    subst hq
    by_cases e : i = n
    · simp only [if_pos e]
      intro hh
      rcases hk with hk | hk
      · have := newFoot q hh; have := hvlt q hk; omega
      · have := newPair.foot_lt hh
        rcases hh with e1 | e1 | e1
        · have e1 : q = w2.heap.size := e1; omega
        · have e1 := hfoot_new e1; have e1 : q = gx := e1; omega
        · have e1 := rfoot_new e1; have e1 : q = gy := e1; omega
    · simp only [if_neg e]
      intro hh
      rcases hk with hk | hk
      · exact h.bv i (by omega) q hk hh
      · have := oldLt i (by omega) q hh; omega
  · rw [hVk] at hq
    injection hq with hq
    subst hq
    rcases hk with hk | hk
    · exact h.v0 q hk
    · omega
  · by_cases e : i = n
    · simp only [if_pos e]; intro hh; have := newFoot q hh; omega
    · simp only [if_neg e]; exact h.p0 i (by omega) q
  · refine (hb.mono hB0).trans (fr.below (by omega) (fun j hj => ?_))
    rcases hj with e | e
    · rw [e]; exact h.b0
    · exact h.v0 j e

end Go.Proofs.Ytkjjamigaamllaa
