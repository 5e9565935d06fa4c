/-
  Two runs side by side, of which the one leaves out the requests of one kind.
-/
import Derived.Test.YtkjjamigaamllabKeepApartPure
import Derived.Test.YtkjjamigaamllabJoinLive
namespace Go.Proofs.Ytkjjamigaamllab
open Go.RowKit
set_option linter.unusedSimpArgs false

structure Apt (a : Int) (Kr Kq : KRun) : Prop where
  ar : Kr.apart = a
  aq : Kq.apart = a
  sh : Kq.shares = Kr.shares
  gr : Kq.grants = Kr.grants
  br : Kr.but = 0
  bq : Kq.but = 2
  E : EqK a 0 Kr.M Kq.M
  Sr : Shut a Kr.M
  Sq : Shut a Kq.M
  ir : Kr.M.Inv
  iq : Kq.M.Inv
  gdr : KGood Kr.M Kr.gl
  gdq : KGood Kq.M Kq.gl
  gl : ∀ t, t < Kr.M.nt → kindV a t = 0 → Kq.gl t = Kr.gl t
  hl : Kq.hl = Kr.hl

theorem reqQ_six {gl : List Int} {shares grants : Bool} {apart : Int} {t : Nat} {o : KOp} {q : KReq} (h : reqQ gl shares grants apart t o = some q) (h6 : q.op = 6) : kindV apart q.to.toNat = kindV apart t := by
  unfold reqQ at h
  have fin : ∀ {q2 : KReq}, some q2 = some q → q2.op ≠ 6 → kindV apart q.to.toNat = kindV apart t := fun e hk => by injection e with e; rw [e] at hk; exact absurd h6 hk
  by_cases e1 : o.op = 1
  · rw [if_pos e1] at h; exact fin h (by simp)
  rw [if_neg e1] at h
  by_cases e2 : o.op = 2
  · rw [if_pos e2] at h; exact fin h (by simp)
  rw [if_neg e2] at h
  by_cases e3 : o.op = 3
  · rw [if_pos e3] at h; exact fin h (by simp)
  rw [if_neg e3] at h
  by_cases e4 : o.op = 4
  · rw [if_pos e4] at h; exact fin h (by simp)
  rw [if_neg e4] at h
  by_cases e9 : o.op = 9
  · rw [if_pos e9] at h; exact fin h (by simp)
  rw [if_neg e9] at h
  by_cases es : shares = false
  · rw [if_pos es] at h; cases h
  rw [if_neg es] at h
  by_cases e5 : o.op = 5
  · rw [if_pos e5] at h; exact fin h (by simp)
  rw [if_neg e5] at h
  by_cases e7 : o.op = 7
  · rw [if_pos e7] at h; exact fin h (by simp)
  rw [if_neg e7] at h
  by_cases e8 : o.op = 8
  · rw [if_pos e8] at h; exact fin h (by simp)
  rw [if_neg e8] at h
  by_cases e6 : o.op = 6
  · rw [if_pos e6] at h
    by_cases c : grants = true ∧ kindV apart (pickK o.a 5).toNat = kindV apart t
    · rw [if_pos c] at h
      injection h with h
      rw [← h]
      exact c.2
    · rw [if_neg c] at h; cases h
  · rw [if_neg e6] at h; cases h

theorem gave_other {gl : Nat → List Int} {t : Nat} {op to e : Int} {m : ByteArray} {i : Nat} (h1 : i ≠ t) (h2 : op = 6 → i ≠ to.toNat) : gave gl t op to e m i = gl i := by
  unfold gave
  by_cases c : e = 0 ∧ (op = 1 ∨ op = 5)
  · rw [if_pos c]; show (if i = t then _ else _) = _; rw [if_neg h1]
  · rw [if_neg c]
    by_cases c2 : e = 0 ∧ op = 6
    · rw [if_pos c2]; show (if i = to.toNat then _ else _) = _; rw [if_neg (h2 c2.2)]
    · rw [if_neg c2]
theorem gave_alike {gl gl2 : Nat → List Int} {t : Nat} {op to e : Int} {m : ByteArray} {i : Nat} (h : gl2 i = gl i) : gave gl2 t op to e m i = gave gl t op to e m i := by
  unfold gave
  by_cases c : e = 0 ∧ (op = 1 ∨ op = 5)
  · rw [if_pos c, if_pos c]; show (if i = t then gl2 i ++ _ else gl2 i) = (if i = t then gl i ++ _ else gl i); rw [h]
  · rw [if_neg c, if_neg c]
    by_cases c2 : e = 0 ∧ op = 6
    · rw [if_pos c2, if_pos c2]; show (if i = to.toNat then gl2 i ++ _ else gl2 i) = (if i = to.toNat then gl i ++ _ else gl i); rw [h]
    · rw [if_neg c2, if_neg c2]; exact h
theorem kindV_two (a : Int) (t : Nat) : kindV a t = 0 ∨ kindV a t = 1 := by unfold kindV; omega

/-- ONE STEP OF A SCRIPT, on both -/
theorem Apt.step {a : Int} {Kr Kq Kr' Kq' : KRun} (A : Apt a Kr Kq) {o : KOp} (h1 : KPlay1 Kr o Kr') (h2 : KPlay1 Kq o Kq') : Apt a Kr' Kq' := by
  have hnt1 := A.ir.nt1
  obtain ⟨t, ht⟩ : ∃ t, t = (pickK o.tenant Kr.M.nt).toNat := ⟨_, rfl⟩
  have htn : t < Kr.M.nt := by have := pickK_bd o.tenant (m := (Kr.M.nt : Int)) (by omega); omega
  have ht2 : t = (pickK o.tenant Kq.M.nt).toNat := by rw [A.E.nt]; exact ht
  rcases kindV_two a t with hk | hk
  · -- of the kind that is asked in both
    have hreq : reqQ (Kq.gl t) Kq.shares Kq.grants Kq.apart t o = reqQ (Kr.gl t) Kr.shares Kr.grants Kr.apart t o := by rw [A.gl t htn hk, A.sh, A.gr, A.ar, A.aq]
    cases h1 with
    | skip hs1 =>
      have hs1 : reqQ (Kr.gl t) Kr.shares Kr.grants Kr.apart t o = none := by
        rw [← ht] at hs1
        rcases hs1 with h | h
        · exact h
        · rw [A.br, A.ar, hk] at h; exact absurd h (by decide)
      cases h2 with
      | skip _ => exact A
      | ask q er m K1 _ hq => rw [← ht2, hreq, hs1] at hq; cases hq
    | ask q er m K1 _ hq hb hst hM hgl hc hh =>
      rw [← ht] at hq hst hh
      cases h2 with
      | skip hs2 =>
        rw [← ht2] at hs2
        rcases hs2 with h | h
        · rw [hreq, hq] at h; cases h
        · rw [A.bq, A.aq, hk] at h; exact absurd h (by decide)
      | ask q2 er2 m2 K12 _ hq2 hb2 hst2 hM2 hgl2 hc2 hh2 =>
        rw [← ht2] at hq2 hst2 hh2
        obtain rfl : q = q2 := by rw [hreq, hq] at hq2; injection hq2
        have hok := reqQ_ok (A.gdr.num t) hq
        have hsix : q.op = 6 → kindV a q.to.toNat = kindV a t := fun h6 => by have := reqQ_six hq h6; rw [A.ar] at this; exact this
        obtain ⟨N', qn, En⟩ := step_eq A.ir A.Sr A.Sq (hk.symm ▸ A.E) hsix hst.q
        obtain ⟨rfl, rfl, hN⟩ := hst2.q.det qn
        have i1 := (StepS.inv A.ir htn ((stepS_body hok).2 hst.q)).1
        have i2 := (StepS.inv A.iq (by rw [A.E.nt]; exact htn) ((stepS_body hok).2 hst2.q)).1
        have g1 : KGood K1.M K1.gl := by rw [hst.gl]; exact A.gdr.step A.ir (ok_bd hok).2.2.2.2.1.1 hst.q
        have g2 : KGood K12.M K12.gl := by rw [hst2.gl]; exact A.gdq.step A.iq (ok_bd hok).2.2.2.2.1.1 hst2.q
        have s1 := (step_shut A.ir A.Sr hsix hst.q).1
        have s2 := (step_shut A.iq A.Sq hsix hst2.q).1
        refine ⟨hc.2.2.2.1.trans (hst.apart.trans A.ar), hc2.2.2.2.1.trans (hst2.apart.trans A.aq), by rw [hc.2.1, hc2.2.1, hst.shares, hst2.shares]; exact A.sh, by rw [hc.2.2.1, hc2.2.2.1, hst.grants, hst2.grants]; exact A.gr, hc.2.2.2.2.trans (hst.but.trans A.br), hc2.2.2.2.2.trans (hst2.but.trans A.bq), ?_, by rw [hM]; exact s1, by rw [hM2]; exact s2, by rw [hM]; exact i1, by rw [hM2]; exact i2, by rw [hM, hgl]; exact g1, by rw [hM2, hgl2]; exact g2, fun i hi hki => ?_, ?_⟩
        · rw [hM, hM2, hN]; exact hk ▸ En
        · rw [hM, hst.nt] at hi
          rw [hgl, hgl2, hst.gl, hst2.gl]
          exact gave_alike (A.gl i hi hki)
        · rw [hh, hh2, A.ar, A.aq, hk, if_pos rfl, if_pos rfl, hst.hl, hst2.hl, A.hl]
  · -- of the kind that is left out
    have hq' : Kq' = Kq := by
      cases h2 with
      | skip _ => rfl
      | ask q2 er2 m2 K12 _ hq2 hb2 => rw [← ht2, A.bq, A.aq, hk] at hb2; exact absurd (by decide) hb2
    subst hq'
    cases h1 with
    | skip _ => exact A
    | ask q er m K1 _ hq hb hst hM hgl hc hh =>
      rw [← ht] at hq hst hh
      have hok := reqQ_ok (A.gdr.num t) hq
      have hsix : q.op = 6 → kindV a q.to.toNat = kindV a t := fun h6 => by have := reqQ_six hq h6; rw [A.ar] at this; exact this
      obtain ⟨s1, un⟩ := step_shut A.ir A.Sr hsix hst.q
      have i1 := (StepS.inv A.ir htn ((stepS_body hok).2 hst.q)).1
      have g1 : KGood K1.M K1.gl := by rw [hst.gl]; exact A.gdr.step A.ir (ok_bd hok).2.2.2.2.1.1 hst.q
      refine ⟨hc.2.2.2.1.trans (hst.apart.trans A.ar), A.aq, by rw [hc.2.1, hst.shares]; exact A.sh, by rw [hc.2.2.1, hst.grants]; exact A.gr, hc.2.2.2.2.trans (hst.but.trans A.br), A.bq, ⟨by rw [hM, hst.nt]; exact A.E.nt, by rw [hM, hst.ns]; exact A.E.ns, by rw [hM, hst.nc]; exact A.E.nc, fun p hp => ?_⟩, by rw [hM]; exact s1, A.Sq, by rw [hM]; exact i1, A.iq, by rw [hM, hgl]; exact g1, A.gdq, fun i hi hki => ?_, ?_⟩
      · rw [hM, un p (by rw [hp, hk]; decide)]; exact A.E.s p hp
      · rw [hM, hst.nt] at hi
        rw [hgl, hst.gl, gave_other (fun e => by rw [e, hk] at hki; exact absurd hki (by decide)) (fun h6 e => by rw [e, hsix h6, hk] at hki; exact absurd hki (by decide))]
        exact A.gl i hi hki
      · rw [hh, A.ar, hk, if_neg (by decide), hst.hl]; exact A.hl
theorem Apt.plays {a : Int} {f : Nat → KOp} {n : Nat} {Kr Kq Kr' Kq' : KRun} (A : Apt a Kr Kq) (h1 : KPlays f n Kr Kr') (h2 : KPlays f n Kq Kq') : Apt a Kr' Kq' := by
  induction n generalizing Kr' Kq' with
  | zero => cases h1; cases h2; exact A
  | succ n ih =>
    cases h1 with
    | snoc _ _ K1 _ h1 p1 =>
      cases h2 with
      | snoc _ _ K2 _ h2 p2 => exact (ih h1 h2).step p1 p2

/-- what is not the run's may turn -/
theorem KAt.frame {B0 : Nat} {w w' : World} {rb : Nat} {K : KRun} {F : Nat → Prop} (h : KAt B0 w rb K) (fr : Frm F w w') (hd : ∀ k, KOwn rb K k → ¬ F k) : KAt B0 w' rb K := by
  have same : ∀ k, KFoot rb K k → w'.heap[k]? = w.heap[k]? := fun k hk => fr.block k (h.kfoot_lt hk).1 (hd k (Or.inl hk))
  exact ⟨(same rb (Or.inl rfl)).trans h.row, (same K.gb (Or.inr (Or.inl rfl))).trans h.garr, fun i hi => owns_frame (h.gown i hi) (fun k hk => same k (Or.inr (Or.inr (Or.inl ⟨i, hi, hk⟩)))), owns_frame h.hown (fun k hk => same k (Or.inr (Or.inr (Or.inr hk)))), h.x.frame fr (fun k hk => hd k (Or.inr hk)), h.inv, h.gne, h.fr, h.fg, h.fv, h.fh, h.b0, h.g0, h.v0, h.h0, h.x0⟩
/-- two runs side by side -/
structure Two (w0 w : World) (rb qb : Nat) (Kr Kq : KRun) : Prop where
  r : KAt w0.heap.size w rb Kr
  q : KAt w0.heap.size w qb Kq
  gr : KGood Kr.M Kr.gl
  gq : KGood Kq.M Kq.gl
  d : ∀ k, KOwn rb Kr k → ¬ KOwn qb Kq k
  b : Below w0.heap.size w0 w
theorem Two.left {w0 w w' : World} {rb qb : Nat} {Kr Kq Kr' : KRun} (h : Two w0 w rb qb Kr Kq) (hk : KAt w0.heap.size w' rb Kr') (hg : KGood Kr'.M Kr'.gl) (t : KTo rb Kr Kr' w w') : Two w0 w' rb qb Kr' Kq :=
  ⟨hk, h.q.frame t.fr (fun k hk hh => h.d k hh hk), hg, h.gq, fun k hk hh => by
    rcases t.foot k hk with h1 | h1
    · exact h.d k h1 hh
    · have := h.q.own_lt hh; omega, h.b.trans (t.below h.r)⟩
theorem Two.right {w0 w w' : World} {rb qb : Nat} {Kr Kq Kq' : KRun} (h : Two w0 w rb qb Kr Kq) (hk : KAt w0.heap.size w' qb Kq') (hg : KGood Kq'.M Kq'.gl) (t : KTo qb Kq Kq' w w') : Two w0 w' rb qb Kr Kq' :=
  ⟨h.r.frame t.fr (fun k hk hh => h.d k hk hh), hk, h.gr, hg, fun k hk hh => by
    rcases t.foot k hh with h1 | h1
    · exact h.d k hk h1
    · have := h.r.own_lt hk; omega, h.b.trans (t.below h.q)⟩
theorem Two.below {w0 w w' : World} {rb qb : Nat} {Kr Kq : KRun} (h : Two w0 w rb qb Kr Kq) (hb : Below w.heap.size w w') : Two w0 w' rb qb Kr Kq :=
  ⟨h.r.below hb, h.q.below hb, h.gr, h.gq, h.d, h.b.trans (hb.mono h.b.size)⟩
theorem bM3_shut (a : Int) (nt ns nc : Nat) : Shut a (bM3 nt ns nc) := ⟨fun p q hf => by simp [bM3, HSlot.none] at hf, fun p q hf => by simp [bM3, HSlot.none] at hf⟩

end Go.Proofs.Ytkjjamigaamllab
