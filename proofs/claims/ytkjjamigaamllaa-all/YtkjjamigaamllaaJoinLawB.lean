/-
  Joined: LawAsked, LawAskedAll, LawScript, LawUpToAll.
-/
import Derived.Test.YtkjjamigaamllaaJoinLawA
import Derived.Test.YtkjjamigaamllaaJoinRef
import Derived.Test.YtkjjamigaamllaaBackReq
import Derived.Deep.QuietTactic
import Derived.ProofKit
import Derived.OpenShut
import Derived.ShutString
import Derived.ChangeOld
import Derived.SizedLaws
import Derived.Deep.Slices
namespace Go.Proofs.Ytkjjamigaamllaa
open Go.RowKit
set_option linter.unusedSimpArgs false
open Go.ChangeShapes Go.WideShapes Go.ChangeAt Go.RowKit

/- LawAsked -/

/-- one pair is turned -/
theorem WAt.update {B0 : Nat} {w w' : World} {b : Nat} {ops : Int} {n : Nat} {v : Value} {Ps : Nat → HPair} (h : WAt B0 w b ops n v Ps) {i : Nat} (hi : i < n) {P : HPair} (hP : PairAt w' P) (hpb : P.pb = (Ps i).pb)
    (fr : Frm (fun k => HFoot (Ps i).gx (Ps i).M (Ps i).bl k ∨ RFoot (Ps i).gy (Ps i).R (Ps i).L k) w w') (foot : ∀ k, PFoot P k → PFoot (Ps i) k ∨ w.heap.size ≤ k) :
    WAt B0 w' b ops n v (fun j => if j = i then P else Ps j) ∧ Below B0 w w' := by
  have hlt := h.lt
  have nf : ∀ k, ¬ PFoot (Ps i) k → ¬ (HFoot (Ps i).gx (Ps i).M (Ps i).bl k ∨ RFoot (Ps i).gy (Ps i).R (Ps i).L k) := fun k hk hh => hk (Or.inr hh)
  have oldLt : ∀ j, j < n → ∀ k, PFoot (Ps j) k → k < w.heap.size := fun j hj k hk => (h.pair j hj).foot_lt hk
  have hbl := lt_of_row h.row
  refine ⟨⟨?_, ?_, fun j hj => ?_, fun j l hj hl hne k => ?_, fun j hj => ?_, fun j hj k hk => ?_, h.b0, h.v0, fun j hj k => ?_⟩, ?_⟩
  · exact (fr.block b hbl (nf b (h.bw i hi))).trans h.row
  · have e : (fun j => (if j = i then P else Ps j).pb) = fun j => (Ps j).pb := by
      funext j
      by_cases e : j = i
      · rw [if_pos e, hpb, e]
      · rw [if_neg e]
    rw [e]
    exact owns_frame h.own (fun k hk => fr.block k (owns_lt h.own hk).1 (nf k (h.bv i hi k hk)))
  · by_cases e : j = i
    · simp only [if_pos e]; exact hP
    · simp only [if_neg e]
      exact (h.pair j hj).frame fr (fun k hk => nf k (h.dis j i hj hi e k hk))
  · by_cases e : j = i <;> by_cases e2 : l = i
    · omega
    · simp only [if_pos e, if_neg e2]
      intro h1 h2
      rcases foot k h1 with h3 | h3
      · exact h.dis i l hi hl (fun x => e2 x.symm) k h3 h2
      · have := oldLt l hl k h2; omega
    · simp only [if_neg e, if_pos e2]
      intro h1 h2
      rcases foot k h2 with h3 | h3
      · exact h.dis j i hj hi e k h1 h3
      · have := oldLt j hj k h1; omega
    · simp only [if_neg e, if_neg e2]
      exact h.dis j l hj hl hne k
  · by_cases e : j = i
    · simp only [if_pos e]
      intro h1
      rcases foot b h1 with h3 | h3
      · exact h.bw i hi h3
      · omega
    · simp only [if_neg e]; exact h.bw j hj
  · by_cases e : j = i
    · simp only [if_pos e]
      intro h1
      rcases foot k h1 with h3 | h3
      · exact h.bv i hi k hk h3
      · have := (owns_lt h.own hk).1; omega
    · simp only [if_neg e]; exact h.bv j hj k hk
  · by_cases e : j = i
    · simp only [if_pos e]
      intro h1
      rcases foot k h1 with h3 | h3
      · exact h.p0 i hi k h3
      · omega
    · simp only [if_neg e]; exact h.p0 j hj k
  · exact fr.below hlt (fun k hk => h.p0 i hi k (Or.inr hk))

/-- the landed house and then the document's have gone the same step -/
theorem pair_step {V w2 w3 : World} {P : HPair} {t : Nat} {s : ByteArray} {er er2 : Int} {m m2 : ByteArray} (h : PairAt V P) (h1 : HPost P.M P.bl P.gx t V s w2 er m)
    (h2 : RPost (StepS P.M t s) P.R P.L P.gy w2 w3 er2 m2) :
    er = er2 ∧ m = m2 ∧ ∃ P', PairAt w3 P' ∧ P'.pb = P.pb ∧ Frm (fun k => HFoot P.gx P.M P.bl k ∨ RFoot P.gy P.R P.L k) V w3 ∧ ∀ k, PFoot P' k → PFoot P k ∨ V.heap.size ≤ k := by
  obtain ⟨M', bl', st, hx, fr, ft⟩ := h1
  obtain ⟨R', L', M2, st2, sim, hy, fr2, ft2⟩ := h2
  obtain ⟨e1, e2, e3⟩ := st.det st2
  subst e3
  have z1 := fr.size
  have F : Frm (fun k => HFoot P.gx P.M P.bl k ∨ RFoot P.gy P.R P.L k) V w3 := (fr.mono (fun _ _ h => Or.inl h)).trans fr2 (fun _ _ h => Or.inr h)
  have hxl : ∀ k, HFoot P.gx M' bl' k → k < w2.heap.size := fun k hk => hx.foot_lt hk
  have ryl : ∀ k, RFoot P.gy P.R P.L k → k < V.heap.size := fun k hk => h.y.foot_lt hk
  have hnr : ∀ k, HFoot P.gx M' bl' k → ¬ RFoot P.gy P.R P.L k := fun k hk hr => by
    rcases ft k hk with h3 | h3
    · exact h.dis k h3 hr
    · have := ryl k hr; omega
  have pbl := lt_of_row h.row
  refine ⟨e1, e2, ⟨P.gx, M', bl', P.gy, R', L', P.pb⟩, ⟨?_, ?_, hy, sim, fun k hk hr => ?_, fun hh => ?_, fun hh => ?_⟩, rfl, F, ?_⟩
  · exact (F.block P.pb pbl (fun hh => hh.elim h.ph h.pr)).trans h.row
  · exact hx.frame fr2 hnr
  · rcases ft2 k hr with h3 | h3
    · exact hnr k hk h3
    · have := hxl k hk; omega
  · rcases ft P.pb hh with h3 | h3
    · exact h.ph h3
    · omega
  · rcases ft2 P.pb hh with h3 | h3
    · exact h.pr h3
    · omega
  · rintro k (hk | hk | hk)
    · exact Or.inl (Or.inl hk)
    · exact (ft k hk).imp (fun h => Or.inr (Or.inl h)) id
    · exact (ft2 k hk).imp (fun h => Or.inr (Or.inr h)) (fun h => by omega)

/-- which of n things a raw number speaks of -/
def pickV (c m : Int) : Int := if c < 0 then (-(c + 1)) % m else c % m
theorem pickV_bd (c : Int) {m : Int} (h : 0 < m) : 0 ≤ pickV c m ∧ pickV c m < m := by
  unfold pickV
  split
  · exact ⟨Int.emod_nonneg _ (by omega), Int.emod_lt_of_pos _ h⟩
  · exact ⟨Int.emod_nonneg _ (by omega), Int.emod_lt_of_pos _ h⟩

set_option maxHeartbeats 1600000 in
theorem pick2_any (c m : Int) (w : World) (hc : inR c) (h0 : 0 < m) (h1 : m ≤ 8796093022210) :
    Calls Try.prog 71 #[.int .i64 c, .int .i64 m] w fun e w' => e = .returned (.int .i64 (pickV c m)) ∧ w' = w := by
  obtain ⟨c0, c1⟩ := hc
  have hm : (m == 0) = false := beq_eq_false_iff_ne.2 (by omega)
  by_cases h : c < 0
  · have e1 : -((c + 1).tmod m) = (-(c + 1)) % m := by rw [← Int.neg_tmod, Int.tmod_eq_emod_of_nonneg (by omega)]
    have E1 : Hid (-((c + 1).tmod m) = pickV c m) := by show _ = _; unfold pickV; rw [if_pos h]; exact e1
    clear e1
    go_enter Try.func71, Try.ntmps71
    go_wp2
    go_ret
    exact ⟨ret_int E1.out, rfl⟩
  · have E1 : Hid (c % m = pickV c m) := by show _ = _; unfold pickV; rw [if_neg h]
    go_enter Try.func71, Try.ntmps71
    go_wp2
    go_ret
    exact ⟨ret_int E1.out, rfl⟩

/- LawAskedAll -/

set_option maxRecDepth 100000 in
set_option maxHeartbeats 6400000 in
theorem asked_any {B0 : Nat} {w : World} {b : Nat} {n : Nat} {v : Value} {Ps : Nat → HPair} (i : Nat) (t : Int) (s : ByteArray) (h : WAt B0 w b 1023 n v Ps) (hi : i < n) (hs : s.size ≤ 140737488355328) :
    Calls Try.prog 58 #[.pointer (some ⟨b, 0, none⟩), .pointer (some ⟨(Ps i).pb, 0, none⟩), .int .i64 t, .string s] w
      fun e w' => e = .returned (.bool true) ∧ ∃ Ps', WAt B0 w' b 1023 n v Ps' ∧ Below B0 w w' := by
  have HH : Hid (WAt B0 w b 1023 n v Ps ∧ True) := ⟨h, trivial⟩
  clear h
  go_enter Try.func58, Try.ntmps58
  go_wp2_with fail
  refine (rdec_any s w hs).mono ?_
  rintro e w1 ⟨rfl, hb⟩
  rcases dec_cases s with hd | ⟨op, x, o, l, r, to, d, hd, hok, _⟩
  · rw [hd, show noV = .tuple #[.agg #[.int .i64 0, .int .i64 0, .int .i64 0, .int .i64 0, .int .i64 0, .int .i64 0, .string ⟨#[]⟩], .int .i64 1] from rfl]
    obtain ⟨W, hW⟩ : ∃ W, W = w1.alloc (.cells #[.int .i64 0, .int .i64 0, .int .i64 0, .int .i64 0, .int .i64 0, .int .i64 0, .string ⟨#[]⟩] 23) := ⟨_, rfl⟩
    have hWb : Below w.heap.size w W := hW ▸ hb.alloc hb.size _
    have hWW := HH.out.1.below hWb
    have o0 : W.cell? ⟨b, 1, none⟩ = some (.int .i64 1023) := rowCell hWW.row 1
    have n0 : W.cell? ⟨w1.heap.size, 0, none⟩ = some (.int .i64 0) := hW ▸ rowCell (newRowAt _ _) 0
    have HX : Hid (WAt B0 W b 1023 n v Ps ∧ Below w.heap.size w W ∧ W = w1.alloc (.cells #[.int .i64 0, .int .i64 0, .int .i64 0, .int .i64 0, .int .i64 0, .int .i64 0, .string ⟨#[]⟩] 23)) := ⟨hWW, hWb, hW⟩
    have HN : Hid True := trivial
    clear hb hd hWb hWW hW
    go_wp2_with fail
    rw [← HX.out.2.2]
    go_quiet (fail)
    obtain ⟨V, hVe⟩ : ∃ V, V = W.drewN nq := ⟨_, rfl⟩
    have hVb : Below W.heap.size W V := hVe ▸ belowDrewN _ _ _
    rw [← hVe]
    have hWV := HX.out.1.below hVb
    have HV : Hid (WAt B0 V b 1023 n v Ps ∧ Below w.heap.size w V) := ⟨hWV, HX.out.2.1.trans (hVb.mono HX.out.2.1.size)⟩
    have r0 : V.cell? ⟨(Ps i).pb, 0, none⟩ = some (.pointer (some ⟨(Ps i).gx, 0, none⟩)) := rowCell (hWV.pair i hi).row 0
    clear hVe hVb hWV n0 o0 HN
    cases hb : hasB (Ps i).M.nt t with
    | false =>
      have hb2 : hasB (Ps i).R.nt t = false := by rw [(HV.out.1.pair i hi).sim.nt]; exact hb
      go_wp2_with fail
      refine (ask_none t s (HV.out.1.pair i hi).x hb).mono ?_
      rintro e w2 ⟨rfl, rfl⟩
      have r1 : w2.cell? ⟨(Ps i).pb, 1, none⟩ = some (.pointer (some ⟨(Ps i).gy, 0, none⟩)) := rowCell (HV.out.1.pair i hi).row 1
      go_wp2_with fail
      refine (rask_none t s (HV.out.1.pair i hi).y hb2).mono ?_
      rintro e w3 ⟨rfl, rfl⟩
      go_wp2
      go_ret
      exact ⟨rfl, Ps, HV.out.1, HV.out.2.mono HH.out.1.lt⟩
    | true =>
      go_wp2_with fail
      refine (ask_any t s (HV.out.1.pair i hi).x (HV.out.1.pair i hi).sim.inv hs hb).mono ?_
      rintro e w2 ⟨er, m, rfl, hp1⟩
      obtain ⟨_, _, hst1, _, hfr1, _⟩ := id hp1
      have hP := HV.out.1.pair i hi
      have hy2 := hP.y.frame hfr1 (fun k hk hh => hP.dis k hh hk)
      have r1 : w2.cell? ⟨(Ps i).pb, 1, none⟩ = some (.pointer (some ⟨(Ps i).gy, 0, none⟩)) := by
        rw [hfr1.cell (p := ⟨(Ps i).pb, 1, none⟩) (lt_of_row hP.row) hP.ph]
        exact rowCell hP.row 1
      have HP : Hid (HPost (Ps i).M (Ps i).bl (Ps i).gx t.toNat V s w2 er m ∧ RAt w2 (Ps i).gy (Ps i).R (Ps i).L) := ⟨hp1, hy2⟩
      clear hp1 hst1 hfr1 hP hy2 r0
      go_wp2_with fail
      refine (rask_any t s HP.out.2 (HV.out.1.pair i hi).sim hs hb).mono ?_
      rintro e w3 ⟨er2, m2, rfl, hp2⟩
      obtain ⟨e1, e2, P', g1, g2, g3, g4⟩ := pair_step (HV.out.1.pair i hi) HP.out.1 hp2
      obtain ⟨g5, g6⟩ := HV.out.1.update hi g1 g2 g3 g4
      have HZ : Hid (∃ Ps', WAt B0 w3 b 1023 n v Ps' ∧ Below B0 w w3) := ⟨_, g5, (HV.out.2.mono HH.out.1.lt).trans g6⟩
      subst e1 e2
      clear hp2 g1 g2 g3 g4 g5 g6 r1
      go_wp2
      go_ret
      exact ⟨rfl, HZ.out⟩
  · have hk := ok_known hok
    have HD : Hid (decV s = yesV op x o l r to d) := hd
    rw [hd, show yesV op x o l r to d = .tuple #[.agg #[.int .i64 op, .int .i64 x, .int .i64 o, .int .i64 l, .int .i64 r, .int .i64 to, .string d], .int .i64 0] from rfl]
    obtain ⟨W, hW⟩ : ∃ W, W = w1.alloc (.cells #[.int .i64 op, .int .i64 x, .int .i64 o, .int .i64 l, .int .i64 r, .int .i64 to, .string d] 23) := ⟨_, rfl⟩
    have hWb : Below w.heap.size w W := hW ▸ hb.alloc hb.size _
    have hWW := HH.out.1.below hWb
    have o0 : W.cell? ⟨b, 1, none⟩ = some (.int .i64 1023) := rowCell hWW.row 1
    have n0 : W.cell? ⟨w1.heap.size, 0, none⟩ = some (.int .i64 op) := hW ▸ rowCell (newRowAt _ _) 0
    have HX : Hid (WAt B0 W b 1023 n v Ps ∧ Below w.heap.size w W ∧ W = w1.alloc (.cells #[.int .i64 op, .int .i64 x, .int .i64 o, .int .i64 l, .int .i64 r, .int .i64 to, .string d] 23)) := ⟨hWW, hWb, hW⟩
    have HN : Hid True := trivial
    clear hd hok hb hWb hWW hW
    have b1 : bits BinOp.and IntKind.i64 511 1 = 1 := by decide
    have b2 : bits BinOp.and IntKind.i64 255 1 = 1 := by decide
    have b3 : bits BinOp.and IntKind.i64 127 1 = 1 := by decide
    have b4 : bits BinOp.and IntKind.i64 63 1 = 1 := by decide
    have b5 : bits BinOp.and IntKind.i64 31 1 = 1 := by decide
    have b6 : bits BinOp.and IntKind.i64 15 1 = 1 := by decide
    have b7 : bits BinOp.and IntKind.i64 7 1 = 1 := by decide
    have b8 : bits BinOp.and IntKind.i64 3 1 = 1 := by decide
    have b9 : bits BinOp.and IntKind.i64 1 1 = 1 := by decide
    rcases knw_cases hk with rfl | rfl | rfl | rfl | rfl | rfl | rfl | rfl | rfl
    · clear hk
      go_wp2_with fail
      rw [← HX.out.2.2]
      go_quiet (fail)
      obtain ⟨V, hVe⟩ : ∃ V, V = W.drewN nq := ⟨_, rfl⟩
      have hVb : Below W.heap.size W V := hVe ▸ belowDrewN _ _ _
      rw [← hVe]
      have hWV := HX.out.1.below hVb
      have HV : Hid (WAt B0 V b 1023 n v Ps ∧ Below w.heap.size w V) := ⟨hWV, HX.out.2.1.trans (hVb.mono HX.out.2.1.size)⟩
      have r0 : V.cell? ⟨(Ps i).pb, 0, none⟩ = some (.pointer (some ⟨(Ps i).gx, 0, none⟩)) := rowCell (hWV.pair i hi).row 0
      clear hVe hVb hWV n0 o0 HN
      cases hb : hasB (Ps i).M.nt t with
      | false =>
        have hb2 : hasB (Ps i).R.nt t = false := by rw [(HV.out.1.pair i hi).sim.nt]; exact hb
        go_wp2_with fail
        refine (ask_none t s (HV.out.1.pair i hi).x hb).mono ?_
        rintro e w2 ⟨rfl, rfl⟩
        have r1 : w2.cell? ⟨(Ps i).pb, 1, none⟩ = some (.pointer (some ⟨(Ps i).gy, 0, none⟩)) := rowCell (HV.out.1.pair i hi).row 1
        go_wp2_with fail
        refine (rask_none t s (HV.out.1.pair i hi).y hb2).mono ?_
        rintro e w3 ⟨rfl, rfl⟩
        go_wp2
        go_ret
        exact ⟨rfl, Ps, HV.out.1, HV.out.2.mono HH.out.1.lt⟩
      | true =>
        go_wp2_with fail
        refine (ask_any t s (HV.out.1.pair i hi).x (HV.out.1.pair i hi).sim.inv hs hb).mono ?_
        rintro e w2 ⟨er, m, rfl, hp1⟩
        obtain ⟨_, _, hst1, _, hfr1, _⟩ := id hp1
        have hP := HV.out.1.pair i hi
        have hy2 := hP.y.frame hfr1 (fun k hk hh => hP.dis k hh hk)
        have r1 : w2.cell? ⟨(Ps i).pb, 1, none⟩ = some (.pointer (some ⟨(Ps i).gy, 0, none⟩)) := by
          rw [hfr1.cell (p := ⟨(Ps i).pb, 1, none⟩) (lt_of_row hP.row) hP.ph]
          exact rowCell hP.row 1
        have HP : Hid (HPost (Ps i).M (Ps i).bl (Ps i).gx t.toNat V s w2 er m ∧ RAt w2 (Ps i).gy (Ps i).R (Ps i).L) := ⟨hp1, hy2⟩
        clear hp1 hst1 hfr1 hP hy2 r0
        go_wp2_with fail
        refine (rask_any t s HP.out.2 (HV.out.1.pair i hi).sim hs hb).mono ?_
        rintro e w3 ⟨er2, m2, rfl, hp2⟩
        obtain ⟨e1, e2, P', g1, g2, g3, g4⟩ := pair_step (HV.out.1.pair i hi) HP.out.1 hp2
        obtain ⟨g5, g6⟩ := HV.out.1.update hi g1 g2 g3 g4
        have HZ : Hid (∃ Ps', WAt B0 w3 b 1023 n v Ps' ∧ Below B0 w w3) := ⟨_, g5, (HV.out.2.mono HH.out.1.lt).trans g6⟩
        subst e1 e2
        clear hp2 g1 g2 g3 g4 g5 g6 r1
        go_wp2
        go_ret
        exact ⟨rfl, HZ.out⟩
    · clear hk
      go_wp2_with fail
      rw [← HX.out.2.2]
      go_quiet (fail)
      obtain ⟨V, hVe⟩ : ∃ V, V = W.drewN nq := ⟨_, rfl⟩
      have hVb : Below W.heap.size W V := hVe ▸ belowDrewN _ _ _
      rw [← hVe]
      have hWV := HX.out.1.below hVb
      have HV : Hid (WAt B0 V b 1023 n v Ps ∧ Below w.heap.size w V) := ⟨hWV, HX.out.2.1.trans (hVb.mono HX.out.2.1.size)⟩
      have r0 : V.cell? ⟨(Ps i).pb, 0, none⟩ = some (.pointer (some ⟨(Ps i).gx, 0, none⟩)) := rowCell (hWV.pair i hi).row 0
      clear hVe hVb hWV n0 o0 HN
      cases hb : hasB (Ps i).M.nt t with
      | false =>
        have hb2 : hasB (Ps i).R.nt t = false := by rw [(HV.out.1.pair i hi).sim.nt]; exact hb
        go_wp2_with fail
        refine (ask_none t s (HV.out.1.pair i hi).x hb).mono ?_
        rintro e w2 ⟨rfl, rfl⟩
        have r1 : w2.cell? ⟨(Ps i).pb, 1, none⟩ = some (.pointer (some ⟨(Ps i).gy, 0, none⟩)) := rowCell (HV.out.1.pair i hi).row 1
        go_wp2_with fail
        refine (rask_none t s (HV.out.1.pair i hi).y hb2).mono ?_
        rintro e w3 ⟨rfl, rfl⟩
        go_wp2
        go_ret
        exact ⟨rfl, Ps, HV.out.1, HV.out.2.mono HH.out.1.lt⟩
      | true =>
        go_wp2_with fail
        refine (ask_any t s (HV.out.1.pair i hi).x (HV.out.1.pair i hi).sim.inv hs hb).mono ?_
        rintro e w2 ⟨er, m, rfl, hp1⟩
        obtain ⟨_, _, hst1, _, hfr1, _⟩ := id hp1
        have hP := HV.out.1.pair i hi
        have hy2 := hP.y.frame hfr1 (fun k hk hh => hP.dis k hh hk)
        have r1 : w2.cell? ⟨(Ps i).pb, 1, none⟩ = some (.pointer (some ⟨(Ps i).gy, 0, none⟩)) := by
          rw [hfr1.cell (p := ⟨(Ps i).pb, 1, none⟩) (lt_of_row hP.row) hP.ph]
          exact rowCell hP.row 1
        have HP : Hid (HPost (Ps i).M (Ps i).bl (Ps i).gx t.toNat V s w2 er m ∧ RAt w2 (Ps i).gy (Ps i).R (Ps i).L) := ⟨hp1, hy2⟩
        clear hp1 hst1 hfr1 hP hy2 r0
        go_wp2_with fail
        refine (rask_any t s HP.out.2 (HV.out.1.pair i hi).sim hs hb).mono ?_
        rintro e w3 ⟨er2, m2, rfl, hp2⟩
        obtain ⟨e1, e2, P', g1, g2, g3, g4⟩ := pair_step (HV.out.1.pair i hi) HP.out.1 hp2
        obtain ⟨g5, g6⟩ := HV.out.1.update hi g1 g2 g3 g4
        have HZ : Hid (∃ Ps', WAt B0 w3 b 1023 n v Ps' ∧ Below B0 w w3) := ⟨_, g5, (HV.out.2.mono HH.out.1.lt).trans g6⟩
        subst e1 e2
        clear hp2 g1 g2 g3 g4 g5 g6 r1
        go_wp2
        go_ret
        exact ⟨rfl, HZ.out⟩
    · clear hk
      go_wp2_with fail
      rw [← HX.out.2.2]
      go_quiet (fail)
      obtain ⟨V, hVe⟩ : ∃ V, V = W.drewN nq := ⟨_, rfl⟩
      have hVb : Below W.heap.size W V := hVe ▸ belowDrewN _ _ _
      rw [← hVe]
      have hWV := HX.out.1.below hVb
      have HV : Hid (WAt B0 V b 1023 n v Ps ∧ Below w.heap.size w V) := ⟨hWV, HX.out.2.1.trans (hVb.mono HX.out.2.1.size)⟩
      have r0 : V.cell? ⟨(Ps i).pb, 0, none⟩ = some (.pointer (some ⟨(Ps i).gx, 0, none⟩)) := rowCell (hWV.pair i hi).row 0
      clear hVe hVb hWV n0 o0 HN
      cases hb : hasB (Ps i).M.nt t with
      | false =>
        have hb2 : hasB (Ps i).R.nt t = false := by rw [(HV.out.1.pair i hi).sim.nt]; exact hb
        go_wp2_with fail
        refine (ask_none t s (HV.out.1.pair i hi).x hb).mono ?_
        rintro e w2 ⟨rfl, rfl⟩
        have r1 : w2.cell? ⟨(Ps i).pb, 1, none⟩ = some (.pointer (some ⟨(Ps i).gy, 0, none⟩)) := rowCell (HV.out.1.pair i hi).row 1
        go_wp2_with fail
        refine (rask_none t s (HV.out.1.pair i hi).y hb2).mono ?_
        rintro e w3 ⟨rfl, rfl⟩
        go_wp2
        go_ret
        exact ⟨rfl, Ps, HV.out.1, HV.out.2.mono HH.out.1.lt⟩
      | true =>
        go_wp2_with fail
        refine (ask_any t s (HV.out.1.pair i hi).x (HV.out.1.pair i hi).sim.inv hs hb).mono ?_
        rintro e w2 ⟨er, m, rfl, hp1⟩
        obtain ⟨_, _, hst1, _, hfr1, _⟩ := id hp1
        have hP := HV.out.1.pair i hi
        have hy2 := hP.y.frame hfr1 (fun k hk hh => hP.dis k hh hk)
        have r1 : w2.cell? ⟨(Ps i).pb, 1, none⟩ = some (.pointer (some ⟨(Ps i).gy, 0, none⟩)) := by
          rw [hfr1.cell (p := ⟨(Ps i).pb, 1, none⟩) (lt_of_row hP.row) hP.ph]
          exact rowCell hP.row 1
        have HP : Hid (HPost (Ps i).M (Ps i).bl (Ps i).gx t.toNat V s w2 er m ∧ RAt w2 (Ps i).gy (Ps i).R (Ps i).L) := ⟨hp1, hy2⟩
        clear hp1 hst1 hfr1 hP hy2 r0
        go_wp2_with fail
        refine (rask_any t s HP.out.2 (HV.out.1.pair i hi).sim hs hb).mono ?_
        rintro e w3 ⟨er2, m2, rfl, hp2⟩
        obtain ⟨e1, e2, P', g1, g2, g3, g4⟩ := pair_step (HV.out.1.pair i hi) HP.out.1 hp2
        obtain ⟨g5, g6⟩ := HV.out.1.update hi g1 g2 g3 g4
        have HZ : Hid (∃ Ps', WAt B0 w3 b 1023 n v Ps' ∧ Below B0 w w3) := ⟨_, g5, (HV.out.2.mono HH.out.1.lt).trans g6⟩
        subst e1 e2
        clear hp2 g1 g2 g3 g4 g5 g6 r1
        go_wp2
        go_ret
        exact ⟨rfl, HZ.out⟩
    · clear hk
      go_wp2_with fail
      rw [← HX.out.2.2]
      go_quiet (fail)
      obtain ⟨V, hVe⟩ : ∃ V, V = W.drewN nq := ⟨_, rfl⟩
      have hVb : Below W.heap.size W V := hVe ▸ belowDrewN _ _ _
      rw [← hVe]
      have hWV := HX.out.1.below hVb
      have HV : Hid (WAt B0 V b 1023 n v Ps ∧ Below w.heap.size w V) := ⟨hWV, HX.out.2.1.trans (hVb.mono HX.out.2.1.size)⟩
      have r0 : V.cell? ⟨(Ps i).pb, 0, none⟩ = some (.pointer (some ⟨(Ps i).gx, 0, none⟩)) := rowCell (hWV.pair i hi).row 0
      clear hVe hVb hWV n0 o0 HN
      cases hb : hasB (Ps i).M.nt t with
      | false =>
        have hb2 : hasB (Ps i).R.nt t = false := by rw [(HV.out.1.pair i hi).sim.nt]; exact hb
        go_wp2_with fail
        refine (ask_none t s (HV.out.1.pair i hi).x hb).mono ?_
        rintro e w2 ⟨rfl, rfl⟩
        have r1 : w2.cell? ⟨(Ps i).pb, 1, none⟩ = some (.pointer (some ⟨(Ps i).gy, 0, none⟩)) := rowCell (HV.out.1.pair i hi).row 1
        go_wp2_with fail
        refine (rask_none t s (HV.out.1.pair i hi).y hb2).mono ?_
        rintro e w3 ⟨rfl, rfl⟩
        go_wp2
        go_ret
        exact ⟨rfl, Ps, HV.out.1, HV.out.2.mono HH.out.1.lt⟩
      | true =>
        go_wp2_with fail
        refine (ask_any t s (HV.out.1.pair i hi).x (HV.out.1.pair i hi).sim.inv hs hb).mono ?_
        rintro e w2 ⟨er, m, rfl, hp1⟩
        obtain ⟨_, _, hst1, _, hfr1, _⟩ := id hp1
        have hP := HV.out.1.pair i hi
        have hy2 := hP.y.frame hfr1 (fun k hk hh => hP.dis k hh hk)
        have r1 : w2.cell? ⟨(Ps i).pb, 1, none⟩ = some (.pointer (some ⟨(Ps i).gy, 0, none⟩)) := by
          rw [hfr1.cell (p := ⟨(Ps i).pb, 1, none⟩) (lt_of_row hP.row) hP.ph]
          exact rowCell hP.row 1
        have HP : Hid (HPost (Ps i).M (Ps i).bl (Ps i).gx t.toNat V s w2 er m ∧ RAt w2 (Ps i).gy (Ps i).R (Ps i).L) := ⟨hp1, hy2⟩
        clear hp1 hst1 hfr1 hP hy2 r0
        go_wp2_with fail
        refine (rask_any t s HP.out.2 (HV.out.1.pair i hi).sim hs hb).mono ?_
        rintro e w3 ⟨er2, m2, rfl, hp2⟩
        obtain ⟨e1, e2, P', g1, g2, g3, g4⟩ := pair_step (HV.out.1.pair i hi) HP.out.1 hp2
        obtain ⟨g5, g6⟩ := HV.out.1.update hi g1 g2 g3 g4
        have HZ : Hid (∃ Ps', WAt B0 w3 b 1023 n v Ps' ∧ Below B0 w w3) := ⟨_, g5, (HV.out.2.mono HH.out.1.lt).trans g6⟩
        subst e1 e2
        clear hp2 g1 g2 g3 g4 g5 g6 r1
        go_wp2
        go_ret
        exact ⟨rfl, HZ.out⟩
    · clear hk
      go_wp2_with fail
      rw [← HX.out.2.2]
      go_quiet (fail)
      obtain ⟨V, hVe⟩ : ∃ V, V = W.drewN nq := ⟨_, rfl⟩
      have hVb : Below W.heap.size W V := hVe ▸ belowDrewN _ _ _
      rw [← hVe]
      have hWV := HX.out.1.below hVb
      have HV : Hid (WAt B0 V b 1023 n v Ps ∧ Below w.heap.size w V) := ⟨hWV, HX.out.2.1.trans (hVb.mono HX.out.2.1.size)⟩
      have r0 : V.cell? ⟨(Ps i).pb, 0, none⟩ = some (.pointer (some ⟨(Ps i).gx, 0, none⟩)) := rowCell (hWV.pair i hi).row 0
      clear hVe hVb hWV n0 o0 HN
      cases hb : hasB (Ps i).M.nt t with
      | false =>
        have hb2 : hasB (Ps i).R.nt t = false := by rw [(HV.out.1.pair i hi).sim.nt]; exact hb
        go_wp2_with fail
        refine (ask_none t s (HV.out.1.pair i hi).x hb).mono ?_
        rintro e w2 ⟨rfl, rfl⟩
        have r1 : w2.cell? ⟨(Ps i).pb, 1, none⟩ = some (.pointer (some ⟨(Ps i).gy, 0, none⟩)) := rowCell (HV.out.1.pair i hi).row 1
        go_wp2_with fail
        refine (rask_none t s (HV.out.1.pair i hi).y hb2).mono ?_
        rintro e w3 ⟨rfl, rfl⟩
        go_wp2
        go_ret
        exact ⟨rfl, Ps, HV.out.1, HV.out.2.mono HH.out.1.lt⟩
      | true =>
        go_wp2_with fail
        refine (ask_any t s (HV.out.1.pair i hi).x (HV.out.1.pair i hi).sim.inv hs hb).mono ?_
        rintro e w2 ⟨er, m, rfl, hp1⟩
        obtain ⟨_, _, hst1, _, hfr1, _⟩ := id hp1
        have hP := HV.out.1.pair i hi
        have hy2 := hP.y.frame hfr1 (fun k hk hh => hP.dis k hh hk)
        have r1 : w2.cell? ⟨(Ps i).pb, 1, none⟩ = some (.pointer (some ⟨(Ps i).gy, 0, none⟩)) := by
          rw [hfr1.cell (p := ⟨(Ps i).pb, 1, none⟩) (lt_of_row hP.row) hP.ph]
          exact rowCell hP.row 1
        have HP : Hid (HPost (Ps i).M (Ps i).bl (Ps i).gx t.toNat V s w2 er m ∧ RAt w2 (Ps i).gy (Ps i).R (Ps i).L) := ⟨hp1, hy2⟩
        clear hp1 hst1 hfr1 hP hy2 r0
        go_wp2_with fail
        refine (rask_any t s HP.out.2 (HV.out.1.pair i hi).sim hs hb).mono ?_
        rintro e w3 ⟨er2, m2, rfl, hp2⟩
        obtain ⟨e1, e2, P', g1, g2, g3, g4⟩ := pair_step (HV.out.1.pair i hi) HP.out.1 hp2
        obtain ⟨g5, g6⟩ := HV.out.1.update hi g1 g2 g3 g4
        have HZ : Hid (∃ Ps', WAt B0 w3 b 1023 n v Ps' ∧ Below B0 w w3) := ⟨_, g5, (HV.out.2.mono HH.out.1.lt).trans g6⟩
        subst e1 e2
        clear hp2 g1 g2 g3 g4 g5 g6 r1
        go_wp2
        go_ret
        exact ⟨rfl, HZ.out⟩
    · clear hk
      go_wp2_with fail
      rw [← HX.out.2.2]
      go_quiet (fail)
      obtain ⟨V, hVe⟩ : ∃ V, V = W.drewN nq := ⟨_, rfl⟩
      have hVb : Below W.heap.size W V := hVe ▸ belowDrewN _ _ _
      rw [← hVe]
      have hWV := HX.out.1.below hVb
      have HV : Hid (WAt B0 V b 1023 n v Ps ∧ Below w.heap.size w V) := ⟨hWV, HX.out.2.1.trans (hVb.mono HX.out.2.1.size)⟩
      have r0 : V.cell? ⟨(Ps i).pb, 0, none⟩ = some (.pointer (some ⟨(Ps i).gx, 0, none⟩)) := rowCell (hWV.pair i hi).row 0
      clear hVe hVb hWV n0 o0 HN
      cases hb : hasB (Ps i).M.nt t with
      | false =>
        have hb2 : hasB (Ps i).R.nt t = false := by rw [(HV.out.1.pair i hi).sim.nt]; exact hb
        go_wp2_with fail
        refine (ask_none t s (HV.out.1.pair i hi).x hb).mono ?_
        rintro e w2 ⟨rfl, rfl⟩
        have r1 : w2.cell? ⟨(Ps i).pb, 1, none⟩ = some (.pointer (some ⟨(Ps i).gy, 0, none⟩)) := rowCell (HV.out.1.pair i hi).row 1
        go_wp2_with fail
        refine (rask_none t s (HV.out.1.pair i hi).y hb2).mono ?_
        rintro e w3 ⟨rfl, rfl⟩
        go_wp2
        go_ret
        exact ⟨rfl, Ps, HV.out.1, HV.out.2.mono HH.out.1.lt⟩
      | true =>
        go_wp2_with fail
        refine (ask_any t s (HV.out.1.pair i hi).x (HV.out.1.pair i hi).sim.inv hs hb).mono ?_
        rintro e w2 ⟨er, m, rfl, hp1⟩
        obtain ⟨_, _, hst1, _, hfr1, _⟩ := id hp1
        have hP := HV.out.1.pair i hi
        have hy2 := hP.y.frame hfr1 (fun k hk hh => hP.dis k hh hk)
        have r1 : w2.cell? ⟨(Ps i).pb, 1, none⟩ = some (.pointer (some ⟨(Ps i).gy, 0, none⟩)) := by
          rw [hfr1.cell (p := ⟨(Ps i).pb, 1, none⟩) (lt_of_row hP.row) hP.ph]
          exact rowCell hP.row 1
        have HP : Hid (HPost (Ps i).M (Ps i).bl (Ps i).gx t.toNat V s w2 er m ∧ RAt w2 (Ps i).gy (Ps i).R (Ps i).L) := ⟨hp1, hy2⟩
        clear hp1 hst1 hfr1 hP hy2 r0
        go_wp2_with fail
        refine (rask_any t s HP.out.2 (HV.out.1.pair i hi).sim hs hb).mono ?_
        rintro e w3 ⟨er2, m2, rfl, hp2⟩
        obtain ⟨e1, e2, P', g1, g2, g3, g4⟩ := pair_step (HV.out.1.pair i hi) HP.out.1 hp2
        obtain ⟨g5, g6⟩ := HV.out.1.update hi g1 g2 g3 g4
        have HZ : Hid (∃ Ps', WAt B0 w3 b 1023 n v Ps' ∧ Below B0 w w3) := ⟨_, g5, (HV.out.2.mono HH.out.1.lt).trans g6⟩
        subst e1 e2
        clear hp2 g1 g2 g3 g4 g5 g6 r1
        go_wp2
        go_ret
        exact ⟨rfl, HZ.out⟩
    · clear hk
      go_wp2_with fail
      rw [← HX.out.2.2]
      go_quiet (fail)
      obtain ⟨V, hVe⟩ : ∃ V, V = W.drewN nq := ⟨_, rfl⟩
      have hVb : Below W.heap.size W V := hVe ▸ belowDrewN _ _ _
      rw [← hVe]
      have hWV := HX.out.1.below hVb
      have HV : Hid (WAt B0 V b 1023 n v Ps ∧ Below w.heap.size w V) := ⟨hWV, HX.out.2.1.trans (hVb.mono HX.out.2.1.size)⟩
      have r0 : V.cell? ⟨(Ps i).pb, 0, none⟩ = some (.pointer (some ⟨(Ps i).gx, 0, none⟩)) := rowCell (hWV.pair i hi).row 0
      clear hVe hVb hWV n0 o0 HN
      cases hb : hasB (Ps i).M.nt t with
      | false =>
        have hb2 : hasB (Ps i).R.nt t = false := by rw [(HV.out.1.pair i hi).sim.nt]; exact hb
        go_wp2_with fail
        refine (ask_none t s (HV.out.1.pair i hi).x hb).mono ?_
        rintro e w2 ⟨rfl, rfl⟩
        have r1 : w2.cell? ⟨(Ps i).pb, 1, none⟩ = some (.pointer (some ⟨(Ps i).gy, 0, none⟩)) := rowCell (HV.out.1.pair i hi).row 1
        go_wp2_with fail
        refine (rask_none t s (HV.out.1.pair i hi).y hb2).mono ?_
        rintro e w3 ⟨rfl, rfl⟩
        go_wp2
        go_ret
        exact ⟨rfl, Ps, HV.out.1, HV.out.2.mono HH.out.1.lt⟩
      | true =>
        go_wp2_with fail
        refine (ask_any t s (HV.out.1.pair i hi).x (HV.out.1.pair i hi).sim.inv hs hb).mono ?_
        rintro e w2 ⟨er, m, rfl, hp1⟩
        obtain ⟨_, _, hst1, _, hfr1, _⟩ := id hp1
        have hP := HV.out.1.pair i hi
        have hy2 := hP.y.frame hfr1 (fun k hk hh => hP.dis k hh hk)
        have r1 : w2.cell? ⟨(Ps i).pb, 1, none⟩ = some (.pointer (some ⟨(Ps i).gy, 0, none⟩)) := by
          rw [hfr1.cell (p := ⟨(Ps i).pb, 1, none⟩) (lt_of_row hP.row) hP.ph]
          exact rowCell hP.row 1
        have HP : Hid (HPost (Ps i).M (Ps i).bl (Ps i).gx t.toNat V s w2 er m ∧ RAt w2 (Ps i).gy (Ps i).R (Ps i).L) := ⟨hp1, hy2⟩
        clear hp1 hst1 hfr1 hP hy2 r0
        go_wp2_with fail
        refine (rask_any t s HP.out.2 (HV.out.1.pair i hi).sim hs hb).mono ?_
        rintro e w3 ⟨er2, m2, rfl, hp2⟩
        obtain ⟨e1, e2, P', g1, g2, g3, g4⟩ := pair_step (HV.out.1.pair i hi) HP.out.1 hp2
        obtain ⟨g5, g6⟩ := HV.out.1.update hi g1 g2 g3 g4
        have HZ : Hid (∃ Ps', WAt B0 w3 b 1023 n v Ps' ∧ Below B0 w w3) := ⟨_, g5, (HV.out.2.mono HH.out.1.lt).trans g6⟩
        subst e1 e2
        clear hp2 g1 g2 g3 g4 g5 g6 r1
        go_wp2
        go_ret
        exact ⟨rfl, HZ.out⟩
    · clear hk
      go_wp2_with fail
      rw [← HX.out.2.2]
      go_quiet (fail)
      obtain ⟨V, hVe⟩ : ∃ V, V = W.drewN nq := ⟨_, rfl⟩
      have hVb : Below W.heap.size W V := hVe ▸ belowDrewN _ _ _
      rw [← hVe]
      have hWV := HX.out.1.below hVb
      have HV : Hid (WAt B0 V b 1023 n v Ps ∧ Below w.heap.size w V) := ⟨hWV, HX.out.2.1.trans (hVb.mono HX.out.2.1.size)⟩
      have r0 : V.cell? ⟨(Ps i).pb, 0, none⟩ = some (.pointer (some ⟨(Ps i).gx, 0, none⟩)) := rowCell (hWV.pair i hi).row 0
      clear hVe hVb hWV n0 o0 HN
      cases hb : hasB (Ps i).M.nt t with
      | false =>
        have hb2 : hasB (Ps i).R.nt t = false := by rw [(HV.out.1.pair i hi).sim.nt]; exact hb
        go_wp2_with fail
        refine (ask_none t s (HV.out.1.pair i hi).x hb).mono ?_
        rintro e w2 ⟨rfl, rfl⟩
        have r1 : w2.cell? ⟨(Ps i).pb, 1, none⟩ = some (.pointer (some ⟨(Ps i).gy, 0, none⟩)) := rowCell (HV.out.1.pair i hi).row 1
        go_wp2_with fail
        refine (rask_none t s (HV.out.1.pair i hi).y hb2).mono ?_
        rintro e w3 ⟨rfl, rfl⟩
        go_wp2
        go_ret
        exact ⟨rfl, Ps, HV.out.1, HV.out.2.mono HH.out.1.lt⟩
      | true =>
        go_wp2_with fail
        refine (ask_any t s (HV.out.1.pair i hi).x (HV.out.1.pair i hi).sim.inv hs hb).mono ?_
        rintro e w2 ⟨er, m, rfl, hp1⟩
        obtain ⟨_, _, hst1, _, hfr1, _⟩ := id hp1
        have hP := HV.out.1.pair i hi
        have hy2 := hP.y.frame hfr1 (fun k hk hh => hP.dis k hh hk)
        have r1 : w2.cell? ⟨(Ps i).pb, 1, none⟩ = some (.pointer (some ⟨(Ps i).gy, 0, none⟩)) := by
          rw [hfr1.cell (p := ⟨(Ps i).pb, 1, none⟩) (lt_of_row hP.row) hP.ph]
          exact rowCell hP.row 1
        have HP : Hid (HPost (Ps i).M (Ps i).bl (Ps i).gx t.toNat V s w2 er m ∧ RAt w2 (Ps i).gy (Ps i).R (Ps i).L) := ⟨hp1, hy2⟩
        clear hp1 hst1 hfr1 hP hy2 r0
        go_wp2_with fail
        refine (rask_any t s HP.out.2 (HV.out.1.pair i hi).sim hs hb).mono ?_
        rintro e w3 ⟨er2, m2, rfl, hp2⟩
        obtain ⟨e1, e2, P', g1, g2, g3, g4⟩ := pair_step (HV.out.1.pair i hi) HP.out.1 hp2
        obtain ⟨g5, g6⟩ := HV.out.1.update hi g1 g2 g3 g4
        have HZ : Hid (∃ Ps', WAt B0 w3 b 1023 n v Ps' ∧ Below B0 w w3) := ⟨_, g5, (HV.out.2.mono HH.out.1.lt).trans g6⟩
        subst e1 e2
        clear hp2 g1 g2 g3 g4 g5 g6 r1
        go_wp2
        go_ret
        exact ⟨rfl, HZ.out⟩
    · clear hk
      go_wp2_with fail
      rw [← HX.out.2.2]
      go_quiet (fail)
      obtain ⟨V, hVe⟩ : ∃ V, V = W.drewN nq := ⟨_, rfl⟩
      have hVb : Below W.heap.size W V := hVe ▸ belowDrewN _ _ _
      rw [← hVe]
      have hWV := HX.out.1.below hVb
      have HV : Hid (WAt B0 V b 1023 n v Ps ∧ Below w.heap.size w V) := ⟨hWV, HX.out.2.1.trans (hVb.mono HX.out.2.1.size)⟩
      have r0 : V.cell? ⟨(Ps i).pb, 0, none⟩ = some (.pointer (some ⟨(Ps i).gx, 0, none⟩)) := rowCell (hWV.pair i hi).row 0
      clear hVe hVb hWV n0 o0 HN
      cases hb : hasB (Ps i).M.nt t with
      | false =>
        have hb2 : hasB (Ps i).R.nt t = false := by rw [(HV.out.1.pair i hi).sim.nt]; exact hb
        go_wp2_with fail
        refine (ask_none t s (HV.out.1.pair i hi).x hb).mono ?_
        rintro e w2 ⟨rfl, rfl⟩
        have r1 : w2.cell? ⟨(Ps i).pb, 1, none⟩ = some (.pointer (some ⟨(Ps i).gy, 0, none⟩)) := rowCell (HV.out.1.pair i hi).row 1
        go_wp2_with fail
        refine (rask_none t s (HV.out.1.pair i hi).y hb2).mono ?_
        rintro e w3 ⟨rfl, rfl⟩
        go_wp2
        go_ret
        exact ⟨rfl, Ps, HV.out.1, HV.out.2.mono HH.out.1.lt⟩
      | true =>
        go_wp2_with fail
        refine (ask_any t s (HV.out.1.pair i hi).x (HV.out.1.pair i hi).sim.inv hs hb).mono ?_
        rintro e w2 ⟨er, m, rfl, hp1⟩
        obtain ⟨_, _, hst1, _, hfr1, _⟩ := id hp1
        have hP := HV.out.1.pair i hi
        have hy2 := hP.y.frame hfr1 (fun k hk hh => hP.dis k hh hk)
        have r1 : w2.cell? ⟨(Ps i).pb, 1, none⟩ = some (.pointer (some ⟨(Ps i).gy, 0, none⟩)) := by
          rw [hfr1.cell (p := ⟨(Ps i).pb, 1, none⟩) (lt_of_row hP.row) hP.ph]
          exact rowCell hP.row 1
        have HP : Hid (HPost (Ps i).M (Ps i).bl (Ps i).gx t.toNat V s w2 er m ∧ RAt w2 (Ps i).gy (Ps i).R (Ps i).L) := ⟨hp1, hy2⟩
        clear hp1 hst1 hfr1 hP hy2 r0
        go_wp2_with fail
        refine (rask_any t s HP.out.2 (HV.out.1.pair i hi).sim hs hb).mono ?_
        rintro e w3 ⟨er2, m2, rfl, hp2⟩
        obtain ⟨e1, e2, P', g1, g2, g3, g4⟩ := pair_step (HV.out.1.pair i hi) HP.out.1 hp2
        obtain ⟨g5, g6⟩ := HV.out.1.update hi g1 g2 g3 g4
        have HZ : Hid (∃ Ps', WAt B0 w3 b 1023 n v Ps' ∧ Below B0 w w3) := ⟨_, g5, (HV.out.2.mono HH.out.1.lt).trans g6⟩
        subst e1 e2
        clear hp2 g1 g2 g3 g4 g5 g6 r1
        go_wp2
        go_ret
        exact ⟨rfl, HZ.out⟩

/- LawScript -/

/-- a step of a script -/
structure ScrOp where
  kind : Int
  house : Int
  tenant : Int
  s : ByteArray
  t : Int
  sl : Int
  c : Int

/-- how a step lies in memory -/
structure OpAt (W : World) (b o : Nat) (x : ScrOp) : Prop where
  c0 : W.cell? ⟨b, o, none⟩ = some (.int .i64 x.kind)
  c1 : W.cell? ⟨b, o + 1, none⟩ = some (.int .i64 x.house)
  c2 : W.cell? ⟨b, o + 2, none⟩ = some (.int .i64 x.tenant)
  c3 : W.cell? ⟨b, o + 3, none⟩ = some (.string x.s)
  c4 : W.cell? ⟨b, o + 4, none⟩ = some (.int .i64 x.t)
  c5 : W.cell? ⟨b, o + 5, none⟩ = some (.int .i64 x.sl)
  c6 : W.cell? ⟨b, o + 6, none⟩ = some (.int .i64 x.c)
  lt : b < W.heap.size
  hr : inR x.house
  hs : x.s.size ≤ 140737488355328

/-- a script in memory -/
def ScrAt (W : World) (a : Option Addr) (len : Nat) (f : Nat → ScrOp) : Prop := ∀ k, k < len → ∃ b o, a = some ⟨b, o, none⟩ ∧ OpAt W b (o + k * 7) (f k)

theorem weightsAll_mem {H : Type} {P : Program} {e : TypeId} {ds : List (DataW H)} {d : DataW H} (h : d ∈ ds) {n : Nat} (hn : n ∈ d.weights P e) : n ∈ DataW.weightsAll P e ds := by
  induction ds with
  | nil => cases h
  | cons x r ih =>
    rw [DataW.weightsAll]
    rcases List.mem_cons.1 h with h | h
    · subst h; exact List.mem_append_left _ hn
    · exact List.mem_append_right _ (ih h)

theorem list7 {α : Type} {l : List α} (h : l.length = 7) : ∃ c0 c1 c2 c3 c4 c5 c6, l = [c0, c1, c2, c3, c4, c5, c6] := by
  match l, h with
  | [c0, c1, c2, c3, c4, c5, c6], _ => exact ⟨c0, c1, c2, c3, c4, c5, c6, rfl⟩

theorem cellsOp : Try.prog.cellsOf 106 = 7 := by kernel_rfl
theorem cellsConf' : Try.prog.cellsOf 32 = 3 := by kernel_rfl
theorem bytesOp : Try.prog.bytesOf 106 = 64 := by kernel_rfl

set_option maxRecDepth 100000 in
set_option maxHeartbeats 1600000 in
theorem open_op {H : Type} {enc : TypeId × Value → H} {w : World} {base : Nat} {spare : Nat → Bool} {held : Bool} {n : Nat} {cs : List Value} {x : DataW H × List MemPlace}
    (hf : DataW.trod enc Try.prog w base spare held n 106 cs = some x) :
    ∃ y : ScrOp, cs = [.int .i64 y.kind, .int .i64 y.house, .int .i64 y.tenant, .string y.s, .int .i64 y.t, .int .i64 y.sl, .int .i64 y.c] ∧ inR y.house ∧ y.s.size ∈ x.1.weights Try.prog 106 := by
  obtain ⟨xs, m, _, hx, hl, hlen, hfs⟩ := DataW.trod_struct Try.underlying106 hf
  obtain ⟨c0, c1, c2, c3, c4, c5, c6, rfl⟩ := list7 (hl.trans cellsOp)
  match xs, hlen with
  | [y0, y1, y2, y3, y4], _ =>
    have g0 := hfs 0 _ rfl
    have g1 := hfs 1 _ rfl
    have g2 := hfs 2 _ rfl
    have g3 := hfs 3 _ rfl
    have g4 := hfs 4 _ rfl
    have k3 : Try.prog.cellsOf 3 = 1 := by kernel_rfl
    have k9 : Try.prog.cellsOf 9 = 1 := by kernel_rfl
    simp [k3, k9, cellsConf'] at g0 g1 g2 g3 g4
    obtain ⟨n0, e0, rfl, _⟩ := DataW.trod_int Try.underlying3 g0
    obtain ⟨n1, e1, rfl, w1⟩ := DataW.trod_int Try.underlying3 g1
    obtain ⟨n2, e2, rfl, _⟩ := DataW.trod_int Try.underlying3 g2
    obtain ⟨s3, e3, rfl, _⟩ := DataW.trod_string Try.underlying9 g3
    obtain ⟨zs, m4, _, hx4, hl4, hlen4, hfs4⟩ := DataW.trod_struct Try.underlying32 g4
    match zs, hlen4 with
    | [z0, z1, z2], _ =>
      have i0 := hfs4 0 _ rfl
      have i1 := hfs4 1 _ rfl
      have i2 := hfs4 2 _ rfl
      simp [k3] at i0 i1 i2
      obtain ⟨n4, e4, rfl, _⟩ := DataW.trod_int Try.underlying3 i0
      obtain ⟨n5, e5, rfl, _⟩ := DataW.trod_int Try.underlying3 i1
      obtain ⟨n6, e6, rfl, _⟩ := DataW.trod_int Try.underlying3 i2
      simp at e0 e1 e2 e3 e4 e5 e6
      subst e0 e1 e2 e3 e4 e5 e6
      refine ⟨⟨n0, n1, n2, s3, n4, n5, n6⟩, rfl, bounds_i64 w1, ?_⟩
      rw [hx]
      simp [DataW.weights, DataW.weightsEach, Try.underlying106]

set_option maxRecDepth 100000 in
theorem open_script {H : Type} {enc : TypeId × Value → H} {w : World} {base : Nat} {spare : Nat → Bool} {held : Bool} {a : Option Addr} {len cap : Nat} {dd : DataW H} {pp : List MemPlace}
    (hh : DataW.Trod enc Try.prog w base spare held 40 (.slice a len cap) dd pp) (hsz : ∀ n ∈ dd.weights Try.prog 40, n ≤ reachBytes) :
    ∃ f, ScrAt w a len f ∧ len ≤ 2199023255552 := by
  obtain ⟨fuel, hf⟩ := hh
  have inh : Inhabited ScrOp := ⟨⟨0, 0, 0, ⟨#[]⟩, 0, 0, 0⟩⟩
  rcases Go.Deep.open_slice Try.underlying40 hf with ⟨hcs, _⟩ | ⟨ad, l, c, m, n, D, Pl, hcs, _, hlc, _, hm, hx, hel⟩
  · simp [Value.cells] at hcs
    obtain ⟨rfl, rfl, rfl⟩ := hcs
    exact ⟨fun _ => inh.default, fun k hk => absurd hk (Nat.not_lt_zero _), by omega⟩
  · simp [Value.cells] at hcs
    obtain ⟨rfl, rfl, rfl⟩ := hcs
    simp only [Prod.mk.injEq] at hx
    obtain ⟨rfl, _⟩ := hx
    have hlm : len ≤ m := by rw [hm]; split <;> omega
    rw [cellsOp] at hel
    have hw : ∀ n ∈ ((List.range len).map D).length * 0 :: DataW.weightsAll Try.prog 106 ((List.range len).map D), n ≤ reachBytes := by
      intro q hq
      rcases List.mem_cons.1 hq with hq | hq
      · simp at hq; omega
      · refine hsz q ?_
        simp only [DataW.weights, Try.underlying40]
        exact List.mem_cons_of_mem _ (List.mem_append_left _ hq)
    have hbig : (((List.range len).map D).length + ((List.range (m - len)).map fun j => D (len + j)).length) * Try.prog.bytesOf 106 ≤ reachBytes := by
      refine hsz _ ?_
      simp only [DataW.weights, Try.underlying40]
      exact List.mem_cons_self
    rw [bytesOp] at hbig
    simp only [List.length_map, List.length_range, reachBytes] at hbig
    have hspot : 0 < len → ad.spot = none := fun h0 => by
      obtain ⟨cs', h1, h2⟩ := hel 0 (by omega)
      obtain ⟨y, rfl, _⟩ := open_op h2
      obtain ⟨_, _, hc⟩ := World.cells?_some h1
      simpa [Addr.add] using World.cell?_spot (hc 0 (by omega))
    have each : ∀ k, k < len → ∃ y : ScrOp, ∃ b o, ad = ⟨b, o, none⟩ ∧ OpAt w b (o + k * 7) y := by
      intro k hk
      obtain ⟨cs', h1, h2⟩ := hel k (by omega)
      obtain ⟨y, rfl, hr, hs⟩ := open_op h2
      obtain ⟨_, _, hc⟩ := World.cells?_some h1
      have hblk := World.cells?_block h1 (by omega)
      have hss : y.s.size ≤ reachBytes := hw _ (List.mem_cons_of_mem _ (weightsAll_mem (List.mem_map.2 ⟨k, List.mem_range.2 hk, rfl⟩) hs))
      obtain ⟨b, o, spot⟩ := ad
      obtain rfl : spot = none := hspot (by omega)
      refine ⟨y, b, o, rfl, ?_⟩
      have at_ : ∀ j (hj : j < 7), w.cell? ⟨b, o + k * 7 + j, none⟩ = [Value.int .i64 y.kind, .int .i64 y.house, .int .i64 y.tenant, .string y.s, .int .i64 y.t, .int .i64 y.sl, .int .i64 y.c][j]? := fun j hj => by
        have := hc j hj
        rw [Go.Deep.add_add, Go.WideShapes.add_plain, ← Nat.add_assoc] at this
        exact this
      have hb2 : b < w.heap.size := by
        have e : ((⟨b, o, none⟩ : Addr).add (k * 7)).block = b := by rw [Go.WideShapes.add_plain]
        rw [e] at hblk
        exact hblk
      refine ⟨at_ 0 (by omega), at_ 1 (by omega), at_ 2 (by omega), at_ 3 (by omega), at_ 4 (by omega), at_ 5 (by omega), at_ 6 (by omega), hb2, hr, ?_⟩
      simp only [reachBytes] at hss
      omega
    obtain ⟨f, hf2⟩ := Go.Deep.choose_lt each
    refine ⟨f, fun k hk => ?_, by omega⟩
    obtain ⟨b, o, e, hO⟩ := hf2 k hk
    exact ⟨b, o, by rw [e], hO⟩

/- LawUpToAll -/

set_option maxRecDepth 100000 in
set_option maxHeartbeats 3200000 in
theorem step_any {B0 : Nat} {w : World} {b : Nat} {n : Nat} {v : Value} {Ps : Nat → HPair} (kind house tenant t sl c : Int) (s : ByteArray) (h : WAt B0 w b 1023 n v Ps) (hn : 1 ≤ n) (hn2 : n ≤ 8796093022208) (hs : s.size ≤ 140737488355328) (hh : inR house) :
    Calls Try.prog 59 #[.pointer (some ⟨b, 0, none⟩), .agg #[.int .i64 kind, .int .i64 house, .int .i64 tenant, .string s, .int .i64 t, .int .i64 sl, .int .i64 c]] w
      fun e w' => e = .returned (.bool true) ∧ ∃ n' v' Ps', WAt B0 w' b 1023 n' v' Ps' ∧ Below B0 w w' ∧ n ≤ n' ∧ n' ≤ n + 1 := by
  have HH : Hid (WAt B0 w b 1023 n v Ps) := h
  obtain ⟨N, hN⟩ : ∃ N, N = Obj.cells #[.int .i64 kind, .int .i64 house, .int .i64 tenant, .string s, .int .i64 t, .int .i64 sl, .int .i64 c] 106 := ⟨_, rfl⟩
  have hWA : Hid (WAt B0 (w.alloc N) b 1023 n v Ps ∧ Below B0 w (w.alloc N)) := ⟨h.below ((Below.refl _ _).alloc (Nat.le_refl _) _), (Below.refl _ _).alloc h.lt _⟩
  have hbl := lt_of_row h.row
  obtain ⟨va, vc, hv, hrow⟩ := owns_form h.own
  have x0 : w.cell? ⟨b, 0, none⟩ = some (.slice va n vc) := by rw [← hv]; exact rowCell h.row 0
  have hpos : (0 : Int) < (n : Int) := by omega
  obtain ⟨p0, p1⟩ := pickV_bd house hpos
  obtain ⟨i, hi⟩ : ∃ i : Nat, pickV house (n : Int) = (i : Int) := ⟨(pickV house (n : Int)).toNat, by omega⟩
  have hin : i < n := by omega
  obtain ⟨ab, rfl, cab⟩ := hrow i hin
  have cab2 : w.cell? ⟨ab, i, none⟩ = some (.pointer (some ⟨(Ps i).pb, 0, none⟩)) := cab.trans (ptrs_at hin)
  have hab : ab < w.heap.size := (owns_lt h.own (k := ab) (by rw [hv]; rfl)).1
  have hin2 : (i : Int) < (n : Int) := by omega
  rw [hi] at p0 p1
  clear h hv hrow cab
  by_cases h1 : kind = 1
  · subst h1
    go_enter Try.func59, Try.ntmps59
    go_wp2_with fail
    rw [← hN]
    refine (opened_any t sl c hWA.out.1 hn2).mono ?_
    rintro e w2 ⟨rfl, n', v', P', g1, g2, g3, g4, _⟩
    have HZ : Hid (∃ n' v' Ps', WAt B0 w2 b 1023 n' v' Ps' ∧ Below B0 w w2 ∧ n ≤ n' ∧ n' ≤ n + 1) := ⟨n', v', P', g1, hWA.out.2.trans g2, g3, g4⟩
    clear g1 g2 g3 g4
    go_wp2
    go_ret
    exact ⟨rfl, HZ.out⟩
  · have h1b : (kind == 1) = false := by simp [h1]
    by_cases h2 : kind = 2
    · subst h2
      go_enter Try.func59, Try.ntmps59
      go_wp2_with fail
      go_quiet (first | (go_at_call 71; exact Calls.quiet_of_same (pick2_any house (n : Int) _ hh hpos (by omega))))
      obtain ⟨V, hVe⟩ : ∃ V, V = (w.alloc N).drewN nq := ⟨_, by rw [hN]⟩
      have hVb : Below (w.alloc N).heap.size (w.alloc N) V := hVe ▸ belowDrewN _ _ _
      rw [← hN, ← hVe]
      rw [hi]
      have hWV := hWA.out.1.below hVb
      have HV : Hid (WAt B0 V b 1023 n v Ps ∧ Below B0 w V) := ⟨hWV, hWA.out.2.trans (hVb.mono hWA.out.1.lt)⟩
      have nr0 : (w.alloc N).heap[w.heap.size]? = some (.cells #[.int .i64 2, .int .i64 house, .int .i64 tenant, .string s, .int .i64 t, .int .i64 sl, .int .i64 c] 106 (0, 0)) := by rw [hN]; exact newRowAt w _
      have nr := keepRow hVb (by rw [sizeAlloc]; omega) nr0
      have y2 := rowCell nr 2
      have y3 := rowCell nr 3
      clear hVb hWV nr nr0 hVe
      go_wp2_with fail
      refine (asked_any i tenant s HV.out.1 hin hs).mono ?_
      rintro e w2 ⟨rfl, P', g1, g2⟩
      have HZ : Hid (∃ n' v' Ps', WAt B0 w2 b 1023 n' v' Ps' ∧ Below B0 w w2 ∧ n ≤ n' ∧ n' ≤ n + 1) := ⟨n, v, P', g1, HV.out.2.trans g2, by omega, by omega⟩
      clear g1 g2
      go_wp2
      go_ret
      exact ⟨rfl, HZ.out⟩
    · have h2b : (kind == 2) = false := by simp [h2]
      by_cases h3 : kind = 3
      · subst h3
        go_enter Try.func59, Try.ntmps59
        go_wp2_with fail
        go_quiet (first | (go_at_call 71; exact Calls.quiet_of_same (pick2_any house (n : Int) _ hh hpos (by omega))))
        obtain ⟨V, hVe⟩ : ∃ V, V = (w.alloc N).drewN nq := ⟨_, by rw [hN]⟩
        have hVb : Below (w.alloc N).heap.size (w.alloc N) V := hVe ▸ belowDrewN _ _ _
        rw [← hN, ← hVe]
        rw [hi]
        have hWV := hWA.out.1.below hVb
        have HV : Hid (WAt B0 V b 1023 n v Ps ∧ Below B0 w V) := ⟨hWV, hWA.out.2.trans (hVb.mono hWA.out.1.lt)⟩
        have nr0 : (w.alloc N).heap[w.heap.size]? = some (.cells #[.int .i64 3, .int .i64 house, .int .i64 tenant, .string s, .int .i64 t, .int .i64 sl, .int .i64 c] 106 (0, 0)) := by rw [hN]; exact newRowAt w _
        have nr := keepRow hVb (by rw [sizeAlloc]; omega) nr0
        have y2 := rowCell nr 2
        clear hVb hWV nr nr0 hVe
        go_wp2_with fail
        refine (looked_any tenant (HV.out.1.pair i hin)).mono ?_
        rintro e w2 ⟨rfl, g1⟩
        have HZ : Hid (∃ n' v' Ps', WAt B0 w2 b 1023 n' v' Ps' ∧ Below B0 w w2 ∧ n ≤ n' ∧ n' ≤ n + 1) := ⟨n, v, Ps, HV.out.1.below g1, HV.out.2.trans (g1.mono HV.out.1.lt), by omega, by omega⟩
        clear g1
        go_wp2
        go_ret
        exact ⟨rfl, HZ.out⟩
      · have h3b : (kind == 3) = false := by simp [h3]
        go_enter Try.func59, Try.ntmps59
        go_wp2
        go_ret
        rw [← hN]
        exact ⟨rfl, n, v, Ps, hWA.out.1, hWA.out.2, by omega, by omega⟩

/-- the bytes of the first request -/
def firstReq : ByteArray := ⟨#[1, 0, 9]⟩

set_option maxRecDepth 100000 in
set_option maxHeartbeats 3200000 in
theorem upto_any (a : Option Addr) (len cap : Nat) (f : Nat → ScrOp) (w : World) (hS : ScrAt w a len f) (hlen : len ≤ 2199023255552) :
    Calls Try.prog 22 #[.slice a len cap, .int .i64 1023] w fun e w' => e = .returned (.int .i64 (-1)) ∧ Below w.heap.size w w' := by
  have HS : Hid (ScrAt w a len f) := hS
  clear hS
  go_enter Try.func22, Try.ntmps22
  go_wp2_with fail
  refine (some_any _).mono ?_
  rintro e w1 ⟨rfl, hb1⟩
  have z1 := hb1.size
  simp only [sizeAlloc] at z1
  have rW := keepRow hb1 (by simp) (newRowAt w (.cells #[.slice none 0 0, .int .i64 1023] 36))
  have B1 : Below w.heap.size w w1 := ((Below.refl w.heap.size w).alloc (Nat.le_refl _) _).trans (hb1.mono (by simp))
  obtain ⟨V, hV⟩ : ∃ V, V = w1.alloc (.cells #[.int .i64 2, .int .i64 3, .int .i64 4] 32) := ⟨_, rfl⟩
  have hVb : Below w1.heap.size w1 V := hV ▸ (Below.refl _ _).alloc (Nat.le_refl _) _
  have rW2 := keepRow hVb (by omega) rW
  have HX : Hid (WAt w.heap.size V w.heap.size 1023 0 (.slice none 0 0) (fun _ => ⟨0, Mach.new 0 0 0, id, 0, RH.new 0 0 0, RL.new, 0⟩) ∧ Below w.heap.size w V ∧ V = w1.alloc (.cells #[.int .i64 2, .int .i64 3, .int .i64 4] 32)) :=
    ⟨world_new rW2 (Nat.le_refl _), B1.trans (hVb.mono B1.size), hV⟩
  clear hb1 rW B1 hVb rW2 hV
  go_wp2_with fail
  rw [← HX.out.2.2]
  refine (opened_any 2 3 4 HX.out.1 (by omega)).mono ?_
  rintro e w2 ⟨rfl, n1, v1, P1, hW1, hB1, hn1, hn2, hn3⟩
  have hn1e : n1 = 1 := hn3 (by decide)
  subst hn1e
  obtain ⟨va, vc, hv, hrow⟩ := owns_form hW1.own
  obtain ⟨ab, rfl, cab⟩ := hrow 0 (by omega)
  have cab2 : w2.cell? ⟨ab, 0, none⟩ = some (.pointer (some ⟨(P1 0).pb, 0, none⟩)) := cab.trans (ptrs_at (by omega))
  have x0 : w2.cell? ⟨w.heap.size, 0, none⟩ = some (.slice (some ⟨ab, 0, none⟩) 1 vc) := by rw [← hv]; exact rowCell hW1.row 0
  have HY : Hid (WAt w.heap.size w2 w.heap.size 1023 1 v1 P1 ∧ Below w.heap.size w w2) := ⟨hW1, HX.out.2.1.trans hB1⟩
  clear hW1 hB1 hn1 hn2 hn3 hv hrow cab
  go_wp2_with fail
  refine (asked_any 0 1 ⟨#[1, 0, 9]⟩ HY.out.1 (by omega) (by decide)).mono ?_
  rintro e w3 ⟨rfl, P2, hW2, hB2⟩
  have HZ : Hid (WAt w.heap.size w3 w.heap.size 1023 1 v1 P2 ∧ Below w.heap.size w w3) := ⟨hW2, HY.out.2.trans hB2⟩
  clear hW2 hB2 x0 cab2
  go_wp2
  go_loopw [8] (fun i W => ∃ (k n : Nat) (v : Value) (Ps : Nat → HPair), k ≤ len ∧ i = .int .i64 (k : Int) ∧ WAt w.heap.size W w.heap.size 1023 n v Ps ∧ Below w.heap.size w W ∧ 1 ≤ n ∧ n ≤ k + 1) (fun i _ => len - (intOf i).toNat)
  case atStart => exact ⟨0, 1, v1, P2, by omega, rfl, HZ.out.1, HZ.out.2, by omega, by omega⟩
  case round =>
    obtain ⟨k, n, v, Ps, hk, rfl, hW, hB, hn1, hn2⟩ := hrel
    have HR : Hid (WAt w.heap.size wr w.heap.size 1023 n v Ps ∧ Below w.heap.size w wr) := ⟨hW, hB⟩
    clear hW hB
    by_cases hlt : k < len
    · have hlt2 : (k : Int) < (len : Int) := by omega
      obtain ⟨sb, so, rfl, op⟩ := HS.out k hlt
      have keep : Hid (∀ o, wr.cell? ⟨sb, o, none⟩ = w.cell? ⟨sb, o, none⟩) := fun o => HR.out.2.cell (p := ⟨sb, o, none⟩) op.lt
      have c0 := (keep.out _).trans op.c0
      have c1 := (keep.out _).trans op.c1
      have c2 := (keep.out _).trans op.c2
      have c3 := (keep.out _).trans op.c3
      have c4 := (keep.out _).trans op.c4
      have c5 := (keep.out _).trans op.c5
      have c6 := (keep.out _).trans op.c6
      have HO : Hid (inR (f k).house ∧ (f k).s.size ≤ 140737488355328) := ⟨op.hr, op.hs⟩
      clear op keep
      go_wp2_with fail
      refine (step_any _ _ _ _ _ _ _ HR.out.1 hn1 (by omega) HO.out.2 HO.out.1).mono ?_
      rintro e w4 ⟨rfl, n', v', P', g1, g2, g3, g4⟩
      have HQ : Hid (WAt w.heap.size w4 w.heap.size 1023 n' v' P' ∧ Below w.heap.size w w4) := ⟨g1, HR.out.2.trans g2⟩
      clear g1 g2 c0 c1 c2 c3 c4 c5 c6
      go_wp2
      go_roundw
      case rel => exact ⟨k + 1, n', v', P', by omega, rfl, HQ.out.1, HQ.out.2, by omega, by omega⟩
      case measure => simp [intOf]; omega
    · obtain rfl : k = len := by omega
      go_wp2_with fail
      refine (all_any HR.out.1 (by omega)).mono ?_
      rintro e w4 ⟨rfl, g1, g2⟩
      have HQ : Hid (Below w.heap.size w w4) := HR.out.2.trans g2
      clear g1 g2
      go_wp2
      go_ret
      exact ⟨rfl, HQ.out⟩

set_option maxHeartbeats 400000 in
theorem law_any (a : Option Addr) (len cap : Nat) (f : Nat → ScrOp) (w : World) (hS : ScrAt w a len f) (hlen : len ≤ 2199023255552) :
    Calls Try.prog 8 #[.slice a len cap] w fun e w' => e = .returned (.bool true) ∧ Below w.heap.size w w' := by
  have HS : Hid (ScrAt w a len f) := hS
  clear hS
  go_enter Try.func8, Try.ntmps8
  go_wp2_with fail
  refine (upto_any a len cap f w HS.out hlen).mono ?_
  rintro e w2 ⟨rfl, hb⟩
  have HZ : Hid (Below w.heap.size w w2) := hb
  clear hb
  go_wp2
  go_ret
  exact ⟨rfl, HZ.out⟩

end Go.Proofs.Ytkjjamigaamllaa
