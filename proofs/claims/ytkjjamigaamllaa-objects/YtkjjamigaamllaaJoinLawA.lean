/-
  Joined: LawPair, LawWorld, LawOpened, LawOpens.
-/
import Derived.Test.YtkjjamigaamllaaRefLook
import Derived.Test.YtkjjamigaamllaaJoinSim
import Derived.Test.YtkjjamigaamllaaRefLaid
namespace Go.Proofs.Ytkjjamigaamllaa
open Go.RowKit
set_option linter.unusedSimpArgs false

/- LawPair -/

structure HPair where
  gx : Nat
  M : Mach
  bl : Nat → Nat
  gy : Nat
  R : RH
  L : RL
  pb : Nat

structure PairAt (w : World) (P : HPair) : Prop where
  row : w.heap[P.pb]? = some (.cells #[.pointer (some ⟨P.gx, 0, none⟩), .pointer (some ⟨P.gy, 0, none⟩)] 98 (0, 0))
  x : HAt w P.gx P.M P.bl
  y : RAt w P.gy P.R P.L
  sim : Sim P.R P.M
  dis : ∀ k, HFoot P.gx P.M P.bl k → ¬ RFoot P.gy P.R P.L k
  ph : ¬ HFoot P.gx P.M P.bl P.pb
  pr : ¬ RFoot P.gy P.R P.L P.pb

/-- the blocks of a pair -/
def PFoot (P : HPair) (k : Nat) : Prop := k = P.pb ∨ HFoot P.gx P.M P.bl k ∨ RFoot P.gy P.R P.L k

theorem HAt.foot_lt {w : World} {g : Nat} {M : Mach} {bl : Nat → Nat} (h : HAt w g M bl) {k : Nat} (hk : HFoot g M bl k) : k < w.heap.size := by
  rcases hk with rfl | ⟨p, hp, hb, rfl⟩
  · exact h.lt
  · exact (h.row p hp hb).1
theorem PairAt.foot_lt {w : World} {P : HPair} (h : PairAt w P) {k : Nat} (hk : PFoot P k) : k < w.heap.size := by
  rcases hk with rfl | hk | hk
  · exact lt_of_row h.row
  · exact h.x.foot_lt hk
  · exact h.y.foot_lt hk
theorem PairAt.frame {F : Nat → Prop} {w w' : World} {P : HPair} (h : PairAt w P) (hf : Frm F w w') (hn : ∀ k, PFoot P k → ¬ F k) : PairAt w' P :=
  ⟨(hf.block _ (lt_of_row h.row) (hn _ (Or.inl rfl))).trans h.row, h.x.frame hf (fun k hk => hn k (Or.inr (Or.inl hk))), h.y.frame hf (fun k hk => hn k (Or.inr (Or.inr hk))), h.sim, h.dis, h.ph, h.pr⟩
theorem PairAt.below {w w' : World} {P : HPair} (h : PairAt w P) (hf : Below w.heap.size w w') : PairAt w' P :=
  h.frame (Frm.ofBelow (F := fun _ => False) hf) (fun _ _ h => h)

theorem look_same {R : RH} {M : Mach} (S : Sim R M) (t : Int) : rlookV R t = lookV M t := by
  unfold rlookV lookV
  rw [S.nt]
  cases hb : hasB M.nt t with
  | false => rfl
  | true =>
    obtain ⟨n, rfl⟩ : ∃ n : Nat, t = (n : Int) := ⟨t.toNat, by simp [hasB] at hb; omega⟩
    have hn : n < M.nt := by simp [hasB] at hb; omega
    rw [if_pos rfl, if_pos rfl, S.live hn, ← S.chunks n hn]
    rfl
theorem look_form (M : Mach) (t : Int) : ∃ a c e : Int, lookV M t = .tuple #[.agg #[.int .i64 a, .int .i64 c], .int .i64 e] := by
  unfold lookV
  split
  · exact ⟨_, _, _, rfl⟩
  · exact ⟨_, _, _, rfl⟩

set_option maxHeartbeats 1600000 in
set_option maxRecDepth 100000 in
theorem looked_any {w : World} {P : HPair} (t : Int) (h : PairAt w P) :
    Calls Try.prog 57 #[.pointer (some ⟨P.pb, 0, none⟩), .int .i64 t] w fun e w' => e = .returned (.bool true) ∧ Below w.heap.size w w' := by
  obtain ⟨a, c, e, hV⟩ := look_form P.M t
  have hR := (look_same h.sim t).trans hV
  have r0 : w.cell? ⟨P.pb, 0, none⟩ = some (.pointer (some ⟨P.gx, 0, none⟩)) := rowCell h.row 0
  have HH : Hid (PairAt w P) := h
  clear h
  go_enter Try.func57, Try.ntmps57
  go_wp2_with fail
  refine (look_any t HH.out.x HH.out.sim.inv.ok).mono ?_
  rintro e1 w1 ⟨rfl, hb1⟩
  rw [hV]
  obtain ⟨W, hW⟩ : ∃ W, W = w1.alloc (.cells #[.int .i64 a, .int .i64 c] 76) := ⟨_, rfl⟩
  have hWb : Below w.heap.size w W := hW ▸ hb1.alloc hb1.size _
  have hP := HH.out.below hWb
  have r1 : W.cell? ⟨P.pb, 1, none⟩ = some (.pointer (some ⟨P.gy, 0, none⟩)) := rowCell hP.row 1
  have v0 : W.heap[w1.heap.size]? = some (.cells #[.int .i64 a, .int .i64 c] 76 (0, 0)) := hW ▸ newRowAt _ _
  have HX : Hid (PairAt W P ∧ Below w.heap.size w W ∧ W = w1.alloc (.cells #[.int .i64 a, .int .i64 c] 76) ∧ W.heap[w1.heap.size]? = some (.cells #[.int .i64 a, .int .i64 c] 76 (0, 0))) := ⟨hP, hWb, hW, v0⟩
  have hpw : P.pb < w1.heap.size := Nat.lt_of_lt_of_le (lt_of_row HH.out.row) hb1.size
  have r1' : w1.cell? ⟨P.pb, 1, none⟩ = some (.pointer (some ⟨P.gy, 0, none⟩)) := by rw [hb1.cell (p := ⟨P.pb, 1, none⟩) (lt_of_row HH.out.row)]; exact rowCell HH.out.row 1
  clear hWb hP hb1 hW v0 hV
  go_wp2_with fail
  rw [← HX.out.2.2.1]
  refine (rlook_any t HX.out.1.y HX.out.1.sim.rinv.ok).mono ?_
  rintro e1 w2 ⟨rfl, hb2⟩
  rw [hR]
  have k0 := keepRow hb2 (lt_of_row HX.out.2.2.2) HX.out.2.2.2
  have v0 := rowCell k0 0
  have v1 := rowCell k0 1
  have hz : w1.heap.size < w2.heap.size := Nat.lt_of_lt_of_le (lt_of_row HX.out.2.2.2) hb2.size
  have HB : Hid (Below w.heap.size w w2) := HX.out.2.1.trans (hb2.mono HX.out.2.1.size)
  clear hb2 k0 r1 r1' r0 hR
  go_wp2
  go_ret
  exact ⟨rfl, HB.out.alloc HB.out.size _⟩

/- LawWorld -/

structure WAt (B0 : Nat) (w : World) (b : Nat) (ops : Int) (n : Nat) (v : Value) (Ps : Nat → HPair) : Prop where
  row : w.heap[b]? = some (.cells #[v, .int .i64 ops] 36 (0, 0))
  own : w.ownsRow 0 96 1 v n (ptrs (fun i => (Ps i).pb) n)
  pair : ∀ i, i < n → PairAt w (Ps i)
  dis : ∀ i j, i < n → j < n → i ≠ j → ∀ k, PFoot (Ps i) k → ¬ PFoot (Ps j) k
  bw : ∀ i, i < n → ¬ PFoot (Ps i) b
  bv : ∀ i, i < n → ∀ k, some k = v.ownBlock → ¬ PFoot (Ps i) k
  b0 : B0 ≤ b
  v0 : ∀ k, some k = v.ownBlock → B0 ≤ k
  p0 : ∀ i, i < n → ∀ k, PFoot (Ps i) k → B0 ≤ k

theorem WAt.below {B0 : Nat} {w w' : World} {b : Nat} {ops : Int} {n : Nat} {v : Value} {Ps : Nat → HPair} (h : WAt B0 w b ops n v Ps) (hb : Below w.heap.size w w') : WAt B0 w' b ops n v Ps :=
  ⟨(hb.block _ (lt_of_row h.row)).trans h.row, owns_frame h.own (fun k hk => hb.block k (owns_lt h.own hk).1), fun i hi => (h.pair i hi).below hb, h.dis, h.bw, h.bv, h.b0, h.v0, h.p0⟩
theorem WAt.lt {B0 : Nat} {w : World} {b : Nat} {ops : Int} {n : Nat} {v : Value} {Ps : Nat → HPair} (h : WAt B0 w b ops n v Ps) : B0 ≤ w.heap.size := by
  have := lt_of_row h.row
  have := h.b0
  omega

/-- a new house and the document's new house -/
theorem sim_new {t s c : Nat} (h : confB t s c = true) : Sim (RH.new t s c) (Mach.new t s c) := by
  have hh : (1 ≤ t ∧ t ≤ 4) ∧ (1 ≤ s ∧ s ≤ 16) ∧ (1 ≤ c ∧ c ≤ 32) := by simp [confB] at h; omega
  have z : ∀ {i : Nat}, i < (RH.new t s c).nT → False := fun h => Nat.not_lt_zero _ h
  have zo : ∀ {i : Nat}, i < (RH.new t s c).nO → False := fun h => Nat.not_lt_zero _ h
  refine { nt := rfl, ns := rfl, nc := rfl, inv := inv_new hh.1 hh.2.1 hh.2.2, rinv := ⟨⟨hh.1.2, hh.2.1.2, hh.2.2.2, Nat.zero_le _, Nat.zero_le _, fun _ => Nat.zero_le _⟩, fun i hi => (z hi).elim, fun i hi => (z hi).elim, fun i hi => (z hi).elim, fun i hi => (z hi).elim, fun i hi => (zo hi).elim⟩, spot := fun i hi => (z hi).elim, uses := fun p hp => rfl, mate := fun i hi => (z hi).elim, full := fun p hp => (by cases hp), uniq := fun i j hi => (z hi).elim, one := fun i j hi => (z hi).elim, chunks := fun u hu => ?_, tot := ?_, nO := Nat.le_refl _ }
  · show sumN _ _ = 0
    exact sumN_zero (fun k _ => by simp [Mach.new, HSlot.none, chunksN])
  · exact (sumN_zero (fun k _ => rfl)).symm

theorem hfoot_new {g t s c k : Nat} (h : HFoot g (Mach.new t s c) id k) : k = g := by
  rcases h with h | ⟨p, _, hb, _⟩
  · exact h
  · exact absurd rfl hb
theorem rfoot_new {g t s c k : Nat} (h : RFoot g (RH.new t s c) RL.new k) : k = g := by
  rcases h with h | h | h | ⟨i, hi, _⟩ | ⟨i, hi, _⟩
  · exact h
  · cases h
  · cases h
  · exact (Nat.not_lt_zero _ hi).elim
  · exact (Nat.not_lt_zero _ hi).elim

/-- a pair more -/
theorem WAt.pushed {B0 : Nat} {w w2 w3 : World} {b : Nat} {ops : Int} {n : Nat} {v : Value} {Ps : Nat → HPair} (h : WAt B0 w b ops n v Ps) (hb : Below w.heap.size w w2)
    {t s c gx gy : Nat} (hc : confB t s c = true) (hx : HAt w2 gx (Mach.new t s c) id) (hy : RAt w2 gy (RH.new t s c) RL.new) (gx0 : w.heap.size ≤ gx) (gy0 : w.heap.size ≤ gy) (hxy : gx ≠ gy)
    {k cap : Nat} {N : Obj} (hown : w3.ownsRow 0 96 1 (.slice (some ⟨k, 0, none⟩) (n + 1) cap) (n + 1) (ptrs (fun i => (Ps i).pb) n ++ [.pointer (some ⟨w2.heap.size, 0, none⟩)]))
    (hgr : ((w2.alloc (.cells #[.pointer (some ⟨gx, 0, none⟩), .pointer (some ⟨gy, 0, none⟩)] 98)).alloc N).grownBy w3 v.ownBlock) (hk : some k = v.ownBlock ∨ w2.heap.size + 2 ≤ k) :
    WAt B0 (w3.setCell ⟨b, 0, none⟩ (.slice (some ⟨k, 0, none⟩) (n + 1) cap)) b ops (n + 1) (.slice (some ⟨k, 0, none⟩) (n + 1) cap) (fun i => if i = n then ⟨gx, Mach.new t s c, id, gy, RH.new t s c, RL.new, w2.heap.size⟩ else Ps i) ∧
      Below B0 w (w3.setCell ⟨b, 0, none⟩ (.slice (some ⟨k, 0, none⟩) (n + 1) cap)) := by
  have h2 := h.below hb
  obtain ⟨V, hV⟩ : ∃ V, V = (.slice (some ⟨k, 0, none⟩) (n + 1) cap : Value) := ⟨_, rfl⟩
  rw [← hV] at hown ⊢
  have hVk : V.ownBlock = some k := by rw [hV]; rfl
  have hbl := lt_of_row h2.row
  have hbw := lt_of_row h.row
  have hsz : ((w2.alloc (.cells #[.pointer (some ⟨gx, 0, none⟩), .pointer (some ⟨gy, 0, none⟩)] 98)).alloc N).heap.size = w2.heap.size + 2 := by simp
  have hbv : some b ≠ v.ownBlock := fun e => by
    obtain ⟨_, cur, hc⟩ := owns_lt h2.own e
    exact ne_of_type h2.row hc (by decide) rfl
  have old : ∀ j, j < w2.heap.size → some j ≠ v.ownBlock → w3.heap[j]? = w2.heap[j]? := fun j hj hne => by
    rw [hgr.block j (by omega) hne, Below.heap_alloc _ _ _ (by simp; omega), Below.heap_alloc _ _ _ hj]
  have hvlt : ∀ j, some j = v.ownBlock → j < w.heap.size := fun j hj => (owns_lt h.own hj).1
  have hkb : k ≠ b := by
    rcases hk with hk | hk
    · exact fun e => hbv (e ▸ hk)
    · omega
  obtain ⟨W, hW⟩ : ∃ W, W = w3.setCell ⟨b, 0, none⟩ V := ⟨_, rfl⟩
  rw [← hW]
  have fr : Frm (fun j => j = b ∨ some j = v.ownBlock) w2 W := by
    refine ⟨hW ▸ hgr.os, hW ▸ hgr.tape, hW ▸ hgr.output, ?_, fun j hj hn => ?_⟩
    · rw [hW]; have := hgr.size; simp; omega
    · rw [hW, Below.heap_setCell _ _ _ _ (fun e => hn (Or.inl e))]
      exact old j hj (fun e => hn (Or.inr e))
  have fresh : ∀ j, w.heap.size ≤ j → ¬ (j = b ∨ some j = v.ownBlock) := fun j hj hh => by
    rcases hh with e | e
    · omega
    · have := hvlt j e; omega
  have hpair : w3.heap[w2.heap.size]? = some (.cells #[.pointer (some ⟨gx, 0, none⟩), .pointer (some ⟨gy, 0, none⟩)] 98 (0, 0)) := by
    rw [hgr.block _ (by omega) (fun e => by have := hvlt _ e; have := hb.size; omega), Below.heap_alloc _ _ _ (by simp)]
    exact newRowAt _ _
  have hbs := hb.size
  have hxl := hx.lt
  have hyl := lt_of_row hy.row
  have newFoot : ∀ j, PFoot ⟨gx, Mach.new t s c, id, gy, RH.new t s c, RL.new, w2.heap.size⟩ j → w.heap.size ≤ j := by
    rintro j (e | e | e)
    · have e : j = w2.heap.size := e; omega
    · have e := hfoot_new e; have e : j = gx := e; omega
    · have e := rfoot_new e; have e : j = gy := e; omega
  have newPair : PairAt W ⟨gx, Mach.new t s c, id, gy, RH.new t s c, RL.new, w2.heap.size⟩ := by
    refine ⟨?_, hx.frame fr (fun j hj => fresh j (by have := hfoot_new hj; omega)), hy.frame fr (fun j hj => fresh j (by have := rfoot_new hj; omega)), sim_new hc, fun j hj hr => ?_, fun hh => ?_, fun hh => ?_⟩
    · show W.heap[w2.heap.size]? = _
      rw [hW, Below.heap_setCell _ _ _ _ (by show w2.heap.size ≠ b; omega)]
      exact hpair
    · have e1 : j = gx := hfoot_new hj; have e2 : j = gy := rfoot_new hr; omega
    · have e := hfoot_new hh; have e : w2.heap.size = gx := e; omega
    · have e := rfoot_new hh; have e : w2.heap.size = gy := e; omega
  have oldPair : ∀ i, i < n → PairAt W (Ps i) := fun i hi => (h2.pair i hi).frame fr (fun j hj hh => by
    rcases hh with e | e
    · exact h2.bw i hi (e ▸ hj)
    · exact h2.bv i hi j e hj)
  have oldLt : ∀ i, i < n → ∀ j, PFoot (Ps i) j → j < w.heap.size := fun i hi j hj => (h.pair i hi).foot_lt hj
  have sP : ∀ i, (if i = n then (⟨gx, Mach.new t s c, id, gy, RH.new t s c, RL.new, w2.heap.size⟩ : HPair) else Ps i) = if i = n then (⟨gx, Mach.new t s c, id, gy, RH.new t s c, RL.new, w2.heap.size⟩ : HPair) else Ps i := fun _ => rfl
  have hB0 := h.lt
  refine ⟨⟨?_, ?_, fun i hi => ?_, fun i j hi hj hne q => ?_, fun i hi => ?_, fun i hi q hq => ?_, h.b0, fun q hq => ?_, fun i hi q => ?_⟩, ?_⟩
  · have h3 : w3.heap[b]? = some (.cells #[v, .int .i64 ops] 36 (0, 0)) := (old b hbl hbv).trans h2.row
    have := Go.Joins.block_setCell (i := 0) h3 V
    rw [hW]
    exact this
  · have e : (fun i => (if i = n then (⟨gx, Mach.new t s c, id, gy, RH.new t s c, RL.new, w2.heap.size⟩ : HPair) else Ps i).pb) = fun i => if i = n then w2.heap.size else (Ps i).pb := by
      funext i
      by_cases e : i = n
      · rw [if_pos e, if_pos e]
      · rw [if_neg e, if_neg e]
    rw [e, ptrs_push]
    refine owns_frame hown (fun j hj => ?_)
    rw [hVk] at hj
    injection hj with hj
    rw [hW]
    exact Below.heap_setCell _ _ _ _ (by rw [hj]; exact hkb)
  · by_cases e : i = n
    · simp only [if_pos e]; exact newPair
    · simp only [if_neg e]; exact oldPair i (by omega)
  · by_cases e : i = n <;> by_cases e2 : j = n
    · omega
    · simp only [if_pos e, if_neg e2]
      intro h1 h4
      have := newFoot q h1
      have := oldLt j (by omega) q h4
      omega
    · simp only [if_neg e, if_pos e2]
      intro h1 h4
      have := newFoot q h4
      have := oldLt i (by omega) q h1
      omega
    · simp only [if_neg e, if_neg e2]
      exact h.dis i j (by omega) (by omega) hne q
  · by_cases e : i = n
    · simp only [if_pos e]; intro hh; have := newFoot b hh; omega
    · simp only [if_neg e]; exact h.bw i (by omega)
  · rw [hVk] at hq
    injection hq with hq
    subst hq
    by_cases e : i = n
    · simp only [if_pos e]
      intro hh
      rcases hk with hk | hk
      · have := newFoot q hh; have := hvlt q hk; omega
      · have := newPair.foot_lt hh
        rcases hh with e1 | e1 | e1
        · have e1 : q = w2.heap.size := e1; omega
        · have e1 := hfoot_new e1; have e1 : q = gx := e1; omega
        · have e1 := rfoot_new e1; have e1 : q = gy := e1; omega
    · simp only [if_neg e]
      intro hh
      rcases hk with hk | hk
      · exact h.bv i (by omega) q hk hh
      · have := oldLt i (by omega) q hh; omega
  · rw [hVk] at hq
    injection hq with hq
    subst hq
    rcases hk with hk | hk
    · exact h.v0 q hk
    · omega
  · by_cases e : i = n
    · simp only [if_pos e]; intro hh; have := newFoot q hh; omega
    · simp only [if_neg e]; exact h.p0 i (by omega) q
  · refine (hb.mono hB0).trans (fr.below (by omega) (fun j hj => ?_))
    rcases hj with e | e
    · rw [e]; exact h.b0
    · exact h.v0 j e

/- LawOpened -/

set_option maxHeartbeats 3200000 in
set_option maxRecDepth 100000 in
theorem opened_good {B0 : Nat} {w : World} {b : Nat} {ops : Int} {n : Nat} {v : Value} {Ps : Nat → HPair} (t s c : Nat) (h : WAt B0 w b ops n v Ps) (hc : confB t s c = true) (hn : n ≤ 8796093022208) :
    Calls Try.prog 20 #[.pointer (some ⟨b, 0, none⟩), .agg #[.int .i64 (t : Int), .int .i64 (s : Int), .int .i64 (c : Int)]] w
      fun e w' => e = .returned (.bool true) ∧ ∃ v' Ps', WAt B0 w' b ops (n + 1) v' Ps' ∧ Below B0 w w' := by
  obtain ⟨va, vc, hv, _⟩ := owns_form h.own
  have HH : Hid (WAt B0 w b ops n v Ps ∧ v = .slice va n vc) := ⟨h, hv⟩
  clear h hv
  go_enter Try.func20, Try.ntmps20
  go_wp2_with fail
  refine (new_good t s c _ hc).mono ?_
  rintro e w1 ⟨rfl, hx, hb1⟩
  rw [sizeAlloc] at hx
  simp only [sizeAlloc] at hb1 ⊢
  obtain ⟨bx0, hbx0⟩ : ∃ bx0, bx0 = w.heap.size := ⟨_, rfl⟩
  have k1 := keepRow hb1 (by omega) (newRowAt w (.cells #[.int .i64 (t : Int), .int .i64 (s : Int), .int .i64 (c : Int)] 32))
  have z1 : w.heap.size + 1 ≤ w1.heap.size := hb1.size |> fun h => by rw [sizeAlloc] at h; exact h
  have B1 : Below w.heap.size w w1 := ((Below.refl w.heap.size w).alloc (Nat.le_refl _) _).trans (hb1.mono (by omega))
  have q0 := rowCell k1 0
  have q1 := rowCell k1 1
  have q2 := rowCell k1 2
  have HX : Hid (HAt w1 (w.heap.size + 1 + 1) (Mach.new t s c) id ∧ Below w.heap.size w w1 ∧ w.heap.size + 1 ≤ w1.heap.size) := ⟨hx, B1, z1⟩
  clear hb1 k1 B1 hx
  go_wp2_with fail
  refine (rnew_good t s c w1 hc).mono ?_
  rintro e w2 ⟨rfl, hy, hb2⟩
  have z2 := hb2.size
  have hx2 := HX.out.1.below hb2
  have B2 : Below w.heap.size w w2 := HX.out.2.1.trans (hb2.mono HX.out.2.1.size)
  have hW := HH.out.1.below B2
  have hbl : b < w2.heap.size := lt_of_row hW.row
  have d0 : w2.cell? ⟨b, 0, none⟩ = some (.slice va n vc) := by rw [← HH.out.2]; exact rowCell hW.row 0
  have HY : Hid (HAt w2 (w.heap.size + 1 + 1) (Mach.new t s c) id ∧ RAt w2 (w1.heap.size + 1) (RH.new t s c) RL.new ∧ Below w.heap.size w w2 ∧ WAt B0 w2 b ops n v Ps) := ⟨hx2, hy, B2, hW⟩
  clear hb2 hx2 B2 hW hy q0 q1 q2
  go_wp2_with (first
    | (at_builtin
       refine wpList_append_mine _ rfl _ _ 34 rfl 96 Try.t96 (.pointer none) 8 Try.underlying34 (by kernel_rfl) (by kernel_rfl) (by kernel_rfl) (by kernel_rfl) rfl (.slice va n vc) n (ptrs (fun i => (Ps i).pb) n) rfl ?c1 ⟨w2.heap.size + 1, 0, none⟩ (.pointer (some ⟨w2.heap.size, 0, none⟩)) rfl ?c2 rfl ?c3 ?c4 ?_
       rotate_left 4
       intro kk cap w3 hown hgr hkk
       have HP : Hid _ := HH.out.1.pushed HY.out.2.2.1 hc HY.out.1 HY.out.2.1 (by omega) (by have := HX.out.2.2; omega) (by have := HX.out.1.lt; omega) hown (by rw [HH.out.2]; exact hgr) (by rw [HH.out.2]; simpa using hkk)
       have r1 : w3.heap[b]? = some (.cells #[v, .int .i64 ops] 36 (0, 0)) := by
         have hne : some b ≠ v.ownBlock := fun e => by
           obtain ⟨_, cur, hcc⟩ := owns_lt HY.out.2.2.2.own e
           exact ne_of_type HY.out.2.2.2.row hcc (by decide) rfl
         rw [hgr.block b (by simp; omega) (by rw [← HH.out.2]; exact hne), Below.heap_alloc _ _ _ (by simp; omega), Below.heap_alloc _ _ _ hbl]
         exact HY.out.2.2.2.row
       have d0 := rowCell r1 0
       have e0 := rowFree r1 0
       clear hown hgr hkk r1))
  case c1 => exact owns_frame (HH.out.2 ▸ HY.out.2.2.2.own) (fun j hj => by
    have hj2 := (owns_lt HY.out.2.2.2.own (by rw [HH.out.2]; exact hj)).1
    rw [Below.heap_alloc _ _ _ (by simp; omega), Below.heap_alloc _ _ _ hj2])
  case c2 => exact newCell2 _ _ _ _ 0
  case c3 => unfold maxLen; omega
  case c4 => omega
  go_ret
  exact ⟨rfl, _, _, HP.out.1, HP.out.2⟩

set_option maxHeartbeats 3200000 in
set_option maxRecDepth 100000 in
theorem opened_bad {B0 : Nat} {w : World} {b : Nat} {ops : Int} {n : Nat} {v : Value} {Ps : Nat → HPair} (t s c : Int) (h : WAt B0 w b ops n v Ps) (hc : confB t s c = false) :
    Calls Try.prog 20 #[.pointer (some ⟨b, 0, none⟩), .agg #[.int .i64 t, .int .i64 s, .int .i64 c]] w
      fun e w' => e = .returned (.bool true) ∧ WAt B0 w' b ops n v Ps ∧ Below B0 w w' := by
  have HH : Hid (WAt B0 w b ops n v Ps) := h
  clear h
  go_enter Try.func20, Try.ntmps20
  go_wp2_with fail
  refine (new_bad t s c _ hc).mono ?_
  rintro e w1 ⟨rfl, hb1⟩
  simp only [sizeAlloc] at hb1
  have k1 := keepRow hb1 (by omega) (newRowAt w (.cells #[.int .i64 t, .int .i64 s, .int .i64 c] 32))
  have z1 : w.heap.size + 1 ≤ w1.heap.size := hb1.size |> fun h => by rw [sizeAlloc] at h; exact h
  have B1 : Below w.heap.size w w1 := ((Below.refl w.heap.size w).alloc (Nat.le_refl _) _).trans (hb1.mono (by omega))
  have q0 := rowCell k1 0
  have q1 := rowCell k1 1
  have q2 := rowCell k1 2
  have HX : Hid (Below w.heap.size w w1) := B1
  clear hb1 k1 B1
  go_wp2_with fail
  refine (rnew_bad t s c w1 hc).mono ?_
  rintro e w2 ⟨rfl, hb2⟩
  have HY : Hid (Below w.heap.size w w2) := HX.out.trans (hb2.mono HX.out.size)
  clear hb2 q0 q1 q2
  go_wp2
  go_ret
  exact ⟨rfl, HH.out.below HY.out, HY.out.mono HH.out.lt⟩

set_option maxHeartbeats 3200000 in
set_option maxRecDepth 100000 in
theorem all_any {B0 : Nat} {w : World} {b : Nat} {ops : Int} {n : Nat} {v : Value} {Ps : Nat → HPair} (h : WAt B0 w b ops n v Ps) (hn : n ≤ 8796093022209) :
    Calls Try.prog 21 #[.pointer (some ⟨b, 0, none⟩)] w fun e w' => e = .returned (.bool true) ∧ WAt B0 w' b ops n v Ps ∧ Below B0 w w' := by
  obtain ⟨va, vc, hv, _⟩ := owns_form h.own
  have HH : Hid (WAt B0 w b ops n v Ps ∧ v = .slice va n vc) := ⟨h, hv⟩
  have fin : Hid (∀ W, Below w.heap.size w W → WAt B0 W b ops n v Ps ∧ Below B0 w W) := fun W hW => ⟨h.below hW, hW.mono h.lt⟩
  have facts : Hid (∀ W, Below w.heap.size w W → W.cell? ⟨b, 0, none⟩ = some (.slice va n vc) ∧ ∀ i, i < n → ∃ ab, va = some ⟨ab, 0, none⟩ ∧ W.cell? ⟨ab, i, none⟩ = some (.pointer (some ⟨(Ps i).pb, 0, none⟩)) ∧ PairAt W (Ps i)) := by
    intro W hW
    have hh := h.below hW
    refine ⟨by rw [← hv]; exact rowCell hh.row 0, fun i hi => ?_⟩
    obtain ⟨a2, c2, e1, e2⟩ := owns_form hh.own
    rw [hv] at e1
    injection e1 with e3 e4 e5
    obtain ⟨ab, e6, e7⟩ := e2 i hi
    exact ⟨ab, e3.trans e6, e7.trans (ptrs_at hi), hh.pair i hi⟩
  clear h hv
  go_enter Try.func21, Try.ntmps21
  go_wp2
  go_loopw [3] (fun i W => ∃ k : Nat, k ≤ n ∧ i = .int .i64 (k : Int) ∧ Below w.heap.size w W) (fun i _ => n - (intOf i).toNat)
  case atStart => exact ⟨0, by omega, rfl, Below.refl _ _⟩
  case round =>
    obtain ⟨k, hk, rfl, hb⟩ := hrel
    obtain ⟨d0, dp⟩ := facts.out wr hb
    have HB : Hid (Below w.heap.size w wr) := hb
    clear hb
    by_cases hlt : k < n
    · have hlt2 : (k : Int) < (n : Int) := by omega
      obtain ⟨ab, rfl, cb, hP⟩ := dp k hlt
      have hP' : Hid (PairAt wr (Ps k)) := hP
      have r1 : wr.cell? ⟨(Ps k).pb, 1, none⟩ = some (.pointer (some ⟨(Ps k).gy, 0, none⟩)) := rowCell hP.row 1
      have y0 : wr.cell? ⟨(Ps k).gy, 0, none⟩ = some (.int .i64 ((Ps k).R.nt : Int)) := rowCell hP.y.row 0
      have hnt : (Ps k).R.nt ≤ 4 := hP.sim.rinv.ok.nt
      clear hP dp
      go_wp2
      obtain ⟨V, hVe⟩ : ∃ V, V = wr := ⟨_, rfl⟩
      subst hVe
      have keep : Hid (∀ W, Below V.heap.size V W → PairAt W (Ps k) ∧ Below w.heap.size w W) := fun W hW => ⟨hP'.out.below hW, HB.out.trans (hW.mono HB.out.size)⟩
      go_loopw [5] (fun i W => ∃ j : Nat, j ≤ (Ps k).R.nt + 2 ∧ i = .int .i64 ((j : Int) - 1) ∧ Below V.heap.size V W) (fun i _ => (Ps k).R.nt + 2 - (intOf i + 1).toNat)
      case atStart => exact ⟨0, by omega, rfl, Below.refl _ _⟩
      case round =>
        obtain ⟨j, hj, rfl, hb2⟩ := hrel
        obtain ⟨kp, kb⟩ := keep.out wr hb2
        have u1 : wr.cell? ⟨(Ps k).pb, 1, none⟩ = some (.pointer (some ⟨(Ps k).gy, 0, none⟩)) := rowCell kp.row 1
        have u0 : wr.cell? ⟨(Ps k).gy, 0, none⟩ = some (.int .i64 ((Ps k).R.nt : Int)) := rowCell kp.y.row 0
        have HK : Hid (PairAt wr (Ps k) ∧ Below w.heap.size w wr ∧ Below V.heap.size V wr) := ⟨kp, kb, hb2⟩
        clear kp kb hb2 d0 cb r1 y0
        by_cases hle : (j : Int) - 1 ≤ ((Ps k).R.nt : Int)
        · go_wp2_with fail
          refine (looked_any ((j : Int) - 1) HK.out.1).mono ?_
          rintro e w3 ⟨rfl, hb3⟩
          have HL : Hid (Below V.heap.size V w3) := HK.out.2.2.trans (hb3.mono HK.out.2.2.size)
          clear hb3 u1 u0
          go_wp2
          go_roundw
          case rel => exact ⟨j + 1, by omega, by simp, HL.out⟩
          case measure => simp [intOf]; omega
        · go_wp2
          go_roundw
          case rel => exact ⟨k + 1, by omega, rfl, HK.out.2.1⟩
          case measure => simp [intOf]; omega
    · obtain rfl : k = n := by omega
      go_wp2
      go_ret
      exact ⟨rfl, (fin.out _ HB.out).1, (fin.out _ HB.out).2⟩

/- LawOpens -/

set_option maxHeartbeats 400000 in
theorem some_any (w : World) : Calls Try.prog 19 #[] w fun e w' => e = .returned (.agg #[.int .i64 2, .int .i64 3, .int .i64 4]) ∧ Below w.heap.size w w' := by
  go_enter Try.func19, Try.ntmps19
  go_wp2
  exact bodyPost_ret (v := .agg #[.int .i64 2, .int .i64 3, .int .i64 4]) (by simp [results, Try.results19, go_sem]) rfl ⟨rfl, (Below.refl _ _).alloc (Nat.le_refl _) _⟩

theorem opened_any {B0 : Nat} {w : World} {b : Nat} {ops : Int} {n : Nat} {v : Value} {Ps : Nat → HPair} (t s c : Int) (h : WAt B0 w b ops n v Ps) (hn : n ≤ 8796093022208) :
    Calls Try.prog 20 #[.pointer (some ⟨b, 0, none⟩), .agg #[.int .i64 t, .int .i64 s, .int .i64 c]] w
      fun e w' => e = .returned (.bool true) ∧ ∃ n' v' Ps', WAt B0 w' b ops n' v' Ps' ∧ Below B0 w w' ∧ n ≤ n' ∧ n' ≤ n + 1 ∧ (confB t s c = true → n' = n + 1) := by
  cases hc : confB t s c with
  | false =>
    refine (opened_bad t s c h hc).mono ?_
    rintro e w' ⟨rfl, h1, h2⟩
    exact ⟨rfl, n, v, Ps, h1, h2, Nat.le_refl _, by omega, fun h => (by cases h)⟩
  | true =>
    obtain ⟨t', rfl⟩ : ∃ t' : Nat, t = (t' : Int) := ⟨t.toNat, by simp [confB] at hc; omega⟩
    obtain ⟨s', rfl⟩ : ∃ s' : Nat, s = (s' : Int) := ⟨s.toNat, by simp [confB] at hc; omega⟩
    obtain ⟨c', rfl⟩ : ∃ c' : Nat, c = (c' : Int) := ⟨c.toNat, by simp [confB] at hc; omega⟩
    refine (opened_good t' s' c' h hc hn).mono ?_
    rintro e w' ⟨rfl, v', Ps', h1, h2⟩
    exact ⟨rfl, n + 1, v', Ps', h1, h2, by omega, by omega, fun _ => rfl⟩

/-- a world without a house yet -/
theorem world_new {w : World} {b : Nat} {ops : Int} {B0 : Nat} (h : w.heap[b]? = some (.cells #[.slice none 0 0, .int .i64 ops] 36 (0, 0))) (hb : B0 ≤ b) : WAt B0 w b ops 0 (.slice none 0 0) (fun _ => ⟨0, Mach.new 0 0 0, id, 0, RH.new 0 0 0, RL.new, 0⟩) :=
  ⟨h, ⟨rfl, Or.inl ⟨rfl, rfl⟩⟩, fun i hi => absurd hi (Nat.not_lt_zero _), fun i j hi => absurd hi (Nat.not_lt_zero _), fun i hi => absurd hi (Nat.not_lt_zero _), fun i hi => absurd hi (Nat.not_lt_zero _), hb, fun k hk => (by cases hk), fun i hi => absurd hi (Nat.not_lt_zero _)⟩

set_option maxHeartbeats 1600000 in
set_option maxRecDepth 100000 in
theorem opens_any (t s c : Int) (w : World) :
    Calls Try.prog 5 #[.agg #[.int .i64 t, .int .i64 s, .int .i64 c]] w fun e w' => e = .returned (.bool true) ∧ Below w.heap.size w w' := by
  go_enter Try.func5, Try.ntmps5
  go_wp2_with fail
  refine (some_any _).mono ?_
  rintro e w1 ⟨rfl, hb1⟩
  have z1 := hb1.size
  simp only [sizeAlloc] at z1
  have rC := keepRow hb1 (by simp; omega) ((Below.heap_alloc _ _ _ (by simp)).trans (newRowAt w (.cells #[.int .i64 t, .int .i64 s, .int .i64 c] 32)))
  have rW0 := newRowAt (w.alloc (.cells #[.int .i64 t, .int .i64 s, .int .i64 c] 32)) (.cells #[.slice none 0 0, .int .i64 0] 36)
  rw [sizeAlloc] at rW0
  have rW := keepRow hb1 (by simp) rW0
  have B1 : Below w.heap.size w w1 := (((Below.refl w.heap.size w).alloc (Nat.le_refl _) _).alloc (by simp) _).trans (hb1.mono (by simp; omega))
  obtain ⟨V, hV⟩ : ∃ V, V = w1.alloc (.cells #[.int .i64 2, .int .i64 3, .int .i64 4] 32) := ⟨_, rfl⟩
  have hVb : Below w1.heap.size w1 V := hV ▸ (Below.refl _ _).alloc (Nat.le_refl _) _
  have rC2 := keepRow hVb (by omega) rC
  have rW2 := keepRow hVb (by omega) rW
  have q0 := rowCell rC2 0
  have q1 := rowCell rC2 1
  have q2 := rowCell rC2 2
  have HX : Hid (WAt (w.heap.size + 1) V (w.heap.size + 1) 0 0 (.slice none 0 0) (fun _ => ⟨0, Mach.new 0 0 0, id, 0, RH.new 0 0 0, RL.new, 0⟩) ∧ Below w.heap.size w V ∧ V = w1.alloc (.cells #[.int .i64 2, .int .i64 3, .int .i64 4] 32) ∧ V.heap[w.heap.size]? = some (.cells #[.int .i64 t, .int .i64 s, .int .i64 c] 32 (0, 0))) :=
    ⟨world_new rW2 (Nat.le_refl _), B1.trans (hVb.mono B1.size), hV, rC2⟩
  clear hb1 rC rW0 rW B1 hVb rC2 rW2 hV
  go_wp2_with fail
  rw [← HX.out.2.2.1]
  refine (opened_any 2 3 4 HX.out.1 (by omega)).mono ?_
  rintro e w2 ⟨rfl, n1, v1, P1, hW1, hB1, hn1, hn2, hn3⟩
  have hn1e : n1 = 1 := hn3 (by decide)
  subst hn1e
  have z2 := hB1.size
  have rC3 := keepRow hB1 (by omega) HX.out.2.2.2
  have u0 := rowCell rC3 0
  have u1 := rowCell rC3 1
  have u2 := rowCell rC3 2
  have HY : Hid (WAt (w.heap.size + 1) w2 (w.heap.size + 1) 0 1 v1 P1 ∧ Below w.heap.size w w2) := ⟨hW1, HX.out.2.1.trans (hB1.mono (by omega))⟩
  clear hW1 hB1 rC3 hn1 hn2 hn3 q0 q1 q2
  go_wp2_with fail
  refine (opened_any t s c HY.out.1 (by omega)).mono ?_
  rintro e w3 ⟨rfl, n2, v2, P2, hW2, hB2, hn1, hn2, hn3⟩
  have HZ : Hid (WAt (w.heap.size + 1) w3 (w.heap.size + 1) 0 n2 v2 P2 ∧ Below w.heap.size w w3) := ⟨hW2, HY.out.2.trans (hB2.mono (by omega))⟩
  clear hW2 hB2 hn3 u0 u1 u2
  go_wp2_with fail
  refine (all_any HZ.out.1 (by omega)).mono ?_
  rintro e w4 ⟨rfl, hW3, hB3⟩
  obtain ⟨va, vc, hv, _⟩ := owns_form hW3.own
  have x0 : w4.cell? ⟨w.heap.size + 1, 0, none⟩ = some (.slice va n2 vc) := by rw [← hv]; exact rowCell hW3.row 0
  have HB : Hid (Below w.heap.size w w4) := HZ.out.2.trans (hB3.mono (by omega))
  have hpos : (0 : Int) < (n2 : Int) := by omega
  clear hW3 hB3 hv
  go_wp2
  go_ret
  exact ⟨ret_bool (by simp; omega), HB.out⟩

end Go.Proofs.Ytkjjamigaamllaa
