/-
  What the document's house answers: Grant.
-/
import Derived.Test.YtkjjamigaamllaaRefServedHead
import Derived.Lib.SmallJoins
import Derived.Deep.RegionHeld3
import Derived.Deep.DrawnRows
namespace Go.Proofs.Ytkjjamigaamllaa
open Go.RowKit
set_option linter.unusedSimpArgs false

set_option maxRecDepth 100000 in
set_option maxHeartbeats 6400000 in
theorem served_6 {g : Nat} {R : RH} {L : RL} {w : World} (t n : Nat) (x : Int) (to : Nat) (h : RAt w g R L) (inv : R.Inv) (hn : R.held (t : Int) x = some n) (_hto : to ≤ 255) :
    Calls Try.prog 86 #[.pointer (some ⟨g, 0, none⟩), .int .i64 (t : Int), .agg #[.int .i64 6, .int .i64 x, .int .i64 0, .int .i64 0, .int .i64 0, .int .i64 (to : Int), .string ⟨#[]⟩]] w
      fun e w' => e = .returned (.tuple #[.string (R.grantS n to), .int .i64 (R.grantE n to)]) ∧ ∃ L', RAt w' g (R.grant n to) L' ∧ Frm (RFoot g R L) w w' ∧ (∀ j, RFoot g (R.grant n to) L' j → RFoot g R L j ∨ w.heap.size ≤ j) := by
  obtain ⟨hhd, hlt⟩ := heldN_some hn
  obtain ⟨k, hk, hkl⟩ := inv.obj n hlt
  obtain ⟨p1, p2, p3⟩ := inv.part n hlt
  obtain ⟨m, hm⟩ : ∃ m : Nat, (R.T n).rights = (m : Int) := ⟨(R.T n).rights.toNat, by have := inv.rights n hlt; omega⟩
  obtain ⟨f, hf⟩ : ∃ f : Nat, (R.T n).first = (f : Int) := ⟨(R.T n).first.toNat, by omega⟩
  obtain ⟨z, hz⟩ : ∃ z : Nat, (R.T n).size = (z : Int) := ⟨(R.T n).size.toNat, by omega⟩
  have hm7 : m ≤ 7 := by have := inv.rights n hlt; omega
  have hnT := inv.ok.nT
  have hnO := inv.ok.nO
  have hby := inv.ok.bytes k
  rw [hf, hz, hk] at p3
  have p3 : f + z ≤ (R.O k).bytes.length := by simp at p3; omega
  have hlt2 : (n : Int) < (R.nT : Int) := by omega
  have hkl2 : (k : Int) < (R.nO : Int) := by omega
  have HH : Hid (RAt w g R L ∧ R.Inv ∧ (R.T n).obj = (k : Int) ∧ (R.T n).rights = (m : Int) ∧ (R.T n).first = (f : Int) ∧ (R.T n).size = (z : Int)) := ⟨h, inv, hk, hm, hf, hz⟩
  clear h inv hn p1 p2
  go_enter Try.func86, Try.ntmps86
  go_wp2_with fail
  refine (held_any (t : Int) x (HH.out.1.below ((Below.refl _ _).alloc (Nat.le_refl _) _)) HH.out.2.1.ok).mono ?_
  rintro e W ⟨rfl, hW⟩
  rw [hhd]
  have hWb : Below w.heap.size w W := hW ▸ ((Below.refl _ _).alloc (Nat.le_refl _) _)
  have hWs : w.heap.size < W.heap.size := by rw [hW]; simp
  have hR := HH.out.1.below hWb
  have q0 : W.cell? ⟨w.heap.size, 0, none⟩ = some (.int .i64 6) := hW ▸ rowCell (newRowAt _ _) 0
  have q2 : W.cell? ⟨w.heap.size, 2, none⟩ = some (.int .i64 0) := hW ▸ rowCell (newRowAt _ _) 2
  have q3 : W.cell? ⟨w.heap.size, 3, none⟩ = some (.int .i64 0) := hW ▸ rowCell (newRowAt _ _) 3
  have q4 : W.cell? ⟨w.heap.size, 4, none⟩ = some (.int .i64 0) := hW ▸ rowCell (newRowAt _ _) 4
  have q5 : W.cell? ⟨w.heap.size, 5, none⟩ = some (.int .i64 (to : Int)) := hW ▸ rowCell (newRowAt _ _) 5
  have q6 : W.cell? ⟨w.heap.size, 6, none⟩ = some (.string ⟨#[]⟩) := hW ▸ rowCell (newRowAt _ _) 6
  obtain ⟨ta, tc, htv, hth⟩ := hR.thing
  obtain ⟨tb, rfl, ctb⟩ := hth n hlt
  have c4 : W.cell? ⟨g, 4, none⟩ = some (.slice (some ⟨tb, 0, none⟩) R.nT tc) := by rw [← htv]; exact rowCell hR.row 4
  have c0 : W.cell? ⟨g, 0, none⟩ = some (.int .i64 (R.nt : Int)) := rowCell hR.row 0
  obtain ⟨oa, oc, hov, hoo⟩ := hR.object
  obtain ⟨ob, rfl, cob⟩ := hoo k hkl
  have c3 : W.cell? ⟨g, 3, none⟩ = some (.slice (some ⟨ob, 0, none⟩) R.nO oc) := by rw [← hov]; exact rowCell hR.row 3
  have tr := hR.tAt n hlt
  have t4 : W.cell? ⟨L.th n, 4, none⟩ = some (.int .i64 (k : Int)) := by rw [← hk]; exact rowCell tr 4
  have t5 : W.cell? ⟨L.th n, 5, none⟩ = some (.int .i64 (f : Int)) := by rw [← hf]; exact rowCell tr 5
  have t6 : W.cell? ⟨L.th n, 6, none⟩ = some (.int .i64 (z : Int)) := by rw [← hz]; exact rowCell tr 6
  have t7 : W.cell? ⟨L.th n, 7, none⟩ = some (.int .i64 (m : Int)) := by rw [← hm]; exact rowCell tr 7
  have o1 : W.cell? ⟨L.ob k, 1, none⟩ = some (.slice (some ⟨L.by_ k, 0, none⟩) (R.O k).bytes.length (R.O k).bytes.length) := rowCell (hR.oAt k hkl) 1
  have HX : Hid (RAt W g R L ∧ Below w.heap.size w W) := ⟨hR, hWb⟩
  clear hR hWb hW htv hth hov hoo tr hm hf hz hk hhd
  by_cases h1 : (m : Int) / 4 = 1
  · have h1b : ((m : Int) / 4 == 1) = true := by simp [h1]
    by_cases h2 : (R.nt : Int) ≤ (to : Int)
    · have HE : Hid (R.grantE n to = 3 ∧ R.grantS n to = ⟨#[]⟩ ∧ R.grant n to = R) := by
        refine ⟨?_, ?_, ?_⟩
        · unfold RH.grantE; rw [HH.out.2.2.2.1, if_neg (fun h => h h1), if_pos h2]
        · unfold RH.grantS; rw [HH.out.2.2.2.1, if_neg (fun h => h h1), if_pos h2]
        · unfold RH.grant; rw [HH.out.2.2.2.1, if_neg (fun h => h h1), if_pos h2]
      clear h1
      go_wp2
      go_region
      go_wp2
      go_region
      go_wp2
      go_ret2
      exact ⟨by rw [HE.out.1, HE.out.2.1]; rfl, L, by rw [HE.out.2.2]; exact HX.out.1.below ((Below.refl _ _).drew.drew), Frm.ofBelow HX.out.2.drew.drew, fun j hj => Or.inl (by rw [HE.out.2.2] at hj; exact hj)⟩
    · have HE : Hid (R.grantE n to = R.laidE to ∧ R.grantS n to = R.laidS to ∧ R.grant n to = R.laid (to : Int) (n : Int) (k : Int) (f : Int) (z : Int) (m : Int)) := by
        refine ⟨?_, ?_, ?_⟩
        · unfold RH.grantE; rw [HH.out.2.2.2.1, if_neg (fun h => h h1), if_neg h2]
        · unfold RH.grantS; rw [HH.out.2.2.2.1, if_neg (fun h => h h1), if_neg h2]
        · unfold RH.grant; rw [HH.out.2.2.2.1, if_neg (fun h => h h1), if_neg h2, HH.out.2.2.1, HH.out.2.2.2.2.1, HH.out.2.2.2.2.2]
      have HS : Hid (∀ V, Below W.heap.size W V → V.cell? ⟨L.th n, 4, none⟩ = some (.int .i64 (k : Int)) ∧ V.cell? ⟨L.th n, 5, none⟩ = some (.int .i64 (f : Int)) ∧ V.cell? ⟨L.th n, 6, none⟩ = some (.int .i64 (z : Int)) ∧ V.cell? ⟨L.th n, 7, none⟩ = some (.int .i64 (m : Int)) ∧ V.cell? ⟨w.heap.size, 2, none⟩ = some (.int .i64 0) ∧ V.cell? ⟨w.heap.size, 3, none⟩ = some (.int .i64 0) ∧ V.cell? ⟨w.heap.size, 4, none⟩ = some (.int .i64 0) ∧ V.cell? ⟨w.heap.size, 5, none⟩ = some (.int .i64 (to : Int))) := by
        intro V hb
        have tr := (HX.out.1.below hb).tAt n hlt
        refine ⟨?_, ?_, ?_, ?_, ?_, ?_, ?_, ?_⟩
        · rw [← HH.out.2.2.1]; exact rowCell tr 4
        · rw [← HH.out.2.2.2.2.1]; exact rowCell tr 5
        · rw [← HH.out.2.2.2.2.2]; exact rowCell tr 6
        · rw [← HH.out.2.2.2.1]; exact rowCell tr 7
        · rw [hb.cell (p := ⟨w.heap.size, 2, none⟩) hWs]; exact q2
        · rw [hb.cell (p := ⟨w.heap.size, 3, none⟩) hWs]; exact q3
        · rw [hb.cell (p := ⟨w.heap.size, 4, none⟩) hWs]; exact q4
        · rw [hb.cell (p := ⟨w.heap.size, 5, none⟩) hWs]; exact q5
      have HS2 : Hid (∀ V w2 L2, RAt w2 g (R.laid (to : Int) (n : Int) (k : Int) (f : Int) (z : Int) (m : Int)) L2 → Frm (RFoot g R L) V w2 → (∀ i, i < R.nT → L2.th i = L.th i) → Below W.heap.size W V → w2.cell? ⟨L.th n, 4, none⟩ = some (.int .i64 (k : Int)) ∧ w2.cell? ⟨L.th n, 5, none⟩ = some (.int .i64 (f : Int)) ∧ w2.cell? ⟨L.th n, 6, none⟩ = some (.int .i64 (z : Int)) ∧ w2.cell? ⟨L.th n, 7, none⟩ = some (.int .i64 (m : Int)) ∧ w2.cell? ⟨w.heap.size, 2, none⟩ = some (.int .i64 0) ∧ w2.cell? ⟨w.heap.size, 3, none⟩ = some (.int .i64 0) ∧ w2.cell? ⟨w.heap.size, 4, none⟩ = some (.int .i64 0) ∧ w2.cell? ⟨w.heap.size, 5, none⟩ = some (.int .i64 (to : Int))) := by
        intro V w2 L2 h2 hF hth hb
        have tr := h2.tAt n (laid_lt hlt)
        rw [hth n hlt, laid_old hlt] at tr
        obtain ⟨_, _, _, _, y2, y3, y4, y5⟩ := HS.out V hb
        have hv : w.heap.size < V.heap.size := Nat.lt_of_lt_of_le hWs hb.size
        have hnf : ¬ RFoot g R L w.heap.size := fun hf => by have := HH.out.1.foot_lt hf; omega
        refine ⟨?_, ?_, ?_, ?_, ?_, ?_, ?_, ?_⟩
        · rw [← HH.out.2.2.1]; exact rowCell tr 4
        · rw [← HH.out.2.2.2.2.1]; exact rowCell tr 5
        · rw [← HH.out.2.2.2.2.2]; exact rowCell tr 6
        · rw [← HH.out.2.2.2.1]; exact rowCell tr 7
        · rw [hF.cell (p := ⟨w.heap.size, 2, none⟩) hv hnf]; exact y2
        · rw [hF.cell (p := ⟨w.heap.size, 3, none⟩) hv hnf]; exact y3
        · rw [hF.cell (p := ⟨w.heap.size, 4, none⟩) hv hnf]; exact y4
        · rw [hF.cell (p := ⟨w.heap.size, 5, none⟩) hv hnf]; exact y5
      clear h1
      go_wp2
      go_region
      go_wp2
      go_region
      go_wp2
      have sA := HS.out (W.drew.drew) (Below.refl W.heap.size W).drew.drew
      have sB := HS.out (W.drew.drew.drew) (Below.refl W.heap.size W).drew.drew.drew
      go_region_held3 (fun VV => VV.cell? ⟨L.th n, 4, none⟩ = some (.int .i64 (k : Int)) ∧ VV.cell? ⟨L.th n, 5, none⟩ = some (.int .i64 (f : Int)) ∧ VV.cell? ⟨L.th n, 6, none⟩ = some (.int .i64 (z : Int)) ∧ VV.cell? ⟨L.th n, 7, none⟩ = some (.int .i64 (m : Int)) ∧ VV.cell? ⟨w.heap.size, 2, none⟩ = some (.int .i64 0) ∧ VV.cell? ⟨w.heap.size, 3, none⟩ = some (.int .i64 0) ∧ VV.cell? ⟨w.heap.size, 4, none⟩ = some (.int .i64 0) ∧ VV.cell? ⟨w.heap.size, 5, none⟩ = some (.int .i64 (to : Int)))
          (first | exact sB | exact sA | exact sC)
          (first | (go_at_call 100; refine (laid_any (to : Int) (n : Int) (k : Int) (f : Int) (z : Int) (m : Int) (HX.out.1.below ((Below.refl W.heap.size W).drew.drew.drew)) HH.out.2.1.ok).mono ?_; rintro e w2 ⟨rfl, L2, h2, hF2, hJ2, _, hth2⟩; have sC := HS2.out _ w2 L2 h2 hF2 hth2 ((Below.refl W.heap.size W).drew.drew.drew); have HY : Hid (RAt w2 g (R.laid (to : Int) (n : Int) (k : Int) (f : Int) (z : Int) (m : Int)) L2 ∧ Frm (RFoot g R L) (W.drew.drew.drew) w2 ∧ (∀ j, RFoot g (R.laid (to : Int) (n : Int) (k : Int) (f : Int) (z : Int) (m : Int)) L2 j → RFoot g R L j ∨ (W.drew.drew.drew).heap.size ≤ j)) := ⟨h2, hF2, hJ2⟩; clear h2 hF2 hJ2 hth2))
      all_goals go_wp2_with fail
      all_goals go_ret2
      all_goals refine ⟨by rw [HE.out.1, HE.out.2.1]; rfl, L2, by rw [HE.out.2.2]; exact HY.out.1, (Frm.ofBelow (F := RFoot g R L) HX.out.2.drew.drew.drew).trans HY.out.2.1 (fun _ _ h => h), fun j hj => ?_⟩
      all_goals rw [HE.out.2.2] at hj
      all_goals exact (HY.out.2.2 j hj).imp id (fun h => Nat.le_trans HX.out.2.size h)
  · have h1b : ((m : Int) / 4 == 1) = false := by simp [h1]
    have HE : Hid (R.grantE n to = 5 ∧ R.grantS n to = ⟨#[]⟩ ∧ R.grant n to = R) := by
      refine ⟨?_, ?_, ?_⟩
      · unfold RH.grantE; rw [HH.out.2.2.2.1, if_pos h1]
      · unfold RH.grantS; rw [HH.out.2.2.2.1, if_pos h1]
      · unfold RH.grant; rw [HH.out.2.2.2.1, if_pos h1]
    clear h1
    go_wp2
    go_region
    go_wp2
    go_ret2
    exact ⟨by rw [HE.out.1, HE.out.2.1]; rfl, L, by rw [HE.out.2.2]; exact HX.out.1.below ((Below.refl _ _).drew), Frm.ofBelow HX.out.2.drew, fun j hj => Or.inl (by rw [HE.out.2.2] at hj; exact hj)⟩

end Go.Proofs.Ytkjjamigaamllaa
