/-
  What the document's house answers: Read.
-/
import Derived.Test.YtkjjamigaamllaaRefServedHead
namespace Go.Proofs.Ytkjjamigaamllaa
open Go.RowKit
set_option linter.unusedSimpArgs false

set_option maxRecDepth 100000 in
set_option maxHeartbeats 6400000 in
theorem served_3 {g : Nat} {R : RH} {L : RL} {w : World} (t n : Nat) (x : Int) (o l : Nat) (h : RAt w g R L) (inv : R.Inv) (hn : R.held (t : Int) x = some n) (ho : o ≤ 65535) (hl : l ≤ 65535) :
    Calls Try.prog 86 #[.pointer (some ⟨g, 0, none⟩), .int .i64 (t : Int), .agg #[.int .i64 3, .int .i64 x, .int .i64 (o : Int), .int .i64 (l : Int), .int .i64 0, .int .i64 0, .string ⟨#[]⟩]] w
      fun e w' => e = .returned (.tuple #[.string (R.read n o l).2, .int .i64 (R.read n o l).1]) ∧ Below w.heap.size w w' := by
  obtain ⟨hhd, hlt⟩ := heldN_some hn
  obtain ⟨k, hk, hkl⟩ := inv.obj n hlt
  obtain ⟨p1, p2, p3⟩ := inv.part n hlt
  obtain ⟨m, hm⟩ : ∃ m : Nat, (R.T n).rights = (m : Int) := ⟨(R.T n).rights.toNat, by have := inv.rights n hlt; omega⟩
  obtain ⟨f, hf⟩ : ∃ f : Nat, (R.T n).first = (f : Int) := ⟨(R.T n).first.toNat, by omega⟩
  obtain ⟨z, hz⟩ : ∃ z : Nat, (R.T n).size = (z : Int) := ⟨(R.T n).size.toNat, by omega⟩
  have hm7 : m ≤ 7 := by have := inv.rights n hlt; omega
  have hnT := inv.ok.nT
  have hnO := inv.ok.nO
  have hby := inv.ok.bytes k
  rw [hf, hz, hk] at p3
  have p3 : f + z ≤ (R.O k).bytes.length := by simp at p3; omega
  have hlt2 : (n : Int) < (R.nT : Int) := by omega
  have hkl2 : (k : Int) < (R.nO : Int) := by omega
  have HH : Hid (RAt w g R L ∧ R.Inv ∧ (R.T n).obj = (k : Int) ∧ (R.T n).rights = (m : Int) ∧ (R.T n).first = (f : Int) ∧ (R.T n).size = (z : Int)) := ⟨h, inv, hk, hm, hf, hz⟩
  clear h inv hn p1 p2
  go_enter Try.func86, Try.ntmps86
  go_wp2_with fail
  refine (held_any (t : Int) x (HH.out.1.below ((Below.refl _ _).alloc (Nat.le_refl _) _)) HH.out.2.1.ok).mono ?_
  rintro e W ⟨rfl, hW⟩
  rw [hhd]
  have hWb : Below w.heap.size w W := hW ▸ ((Below.refl _ _).alloc (Nat.le_refl _) _)
  have hWs : w.heap.size < W.heap.size := by rw [hW]; simp
  have hR := HH.out.1.below hWb
  have q0 : W.cell? ⟨w.heap.size, 0, none⟩ = some (.int .i64 3) := hW ▸ rowCell (newRowAt _ _) 0
  have q2 : W.cell? ⟨w.heap.size, 2, none⟩ = some (.int .i64 (o : Int)) := hW ▸ rowCell (newRowAt _ _) 2
  have q3 : W.cell? ⟨w.heap.size, 3, none⟩ = some (.int .i64 (l : Int)) := hW ▸ rowCell (newRowAt _ _) 3
  have q4 : W.cell? ⟨w.heap.size, 4, none⟩ = some (.int .i64 0) := hW ▸ rowCell (newRowAt _ _) 4
  have q5 : W.cell? ⟨w.heap.size, 5, none⟩ = some (.int .i64 0) := hW ▸ rowCell (newRowAt _ _) 5
  have q6 : W.cell? ⟨w.heap.size, 6, none⟩ = some (.string ⟨#[]⟩) := hW ▸ rowCell (newRowAt _ _) 6
  obtain ⟨ta, tc, htv, hth⟩ := hR.thing
  obtain ⟨tb, rfl, ctb⟩ := hth n hlt
  have c4 : W.cell? ⟨g, 4, none⟩ = some (.slice (some ⟨tb, 0, none⟩) R.nT tc) := by rw [← htv]; exact rowCell hR.row 4
  have c0 : W.cell? ⟨g, 0, none⟩ = some (.int .i64 (R.nt : Int)) := rowCell hR.row 0
  obtain ⟨oa, oc, hov, hoo⟩ := hR.object
  obtain ⟨ob, rfl, cob⟩ := hoo k hkl
  have c3 : W.cell? ⟨g, 3, none⟩ = some (.slice (some ⟨ob, 0, none⟩) R.nO oc) := by rw [← hov]; exact rowCell hR.row 3
  have tr := hR.tAt n hlt
  have t4 : W.cell? ⟨L.th n, 4, none⟩ = some (.int .i64 (k : Int)) := by rw [← hk]; exact rowCell tr 4
  have t5 : W.cell? ⟨L.th n, 5, none⟩ = some (.int .i64 (f : Int)) := by rw [← hf]; exact rowCell tr 5
  have t6 : W.cell? ⟨L.th n, 6, none⟩ = some (.int .i64 (z : Int)) := by rw [← hz]; exact rowCell tr 6
  have t7 : W.cell? ⟨L.th n, 7, none⟩ = some (.int .i64 (m : Int)) := by rw [← hm]; exact rowCell tr 7
  have o1 : W.cell? ⟨L.ob k, 1, none⟩ = some (.slice (some ⟨L.by_ k, 0, none⟩) (R.O k).bytes.length (R.O k).bytes.length) := rowCell (hR.oAt k hkl) 1
  have HX : Hid (RAt W g R L ∧ Below w.heap.size w W) := ⟨hR, hWb⟩
  clear hR hWb hW htv hth hov hoo tr hm hf hz hk hhd
  have hw1 : IntKind.i64.wrap ((o : Int) + (l : Int)) = (o : Int) + (l : Int) := Go.IntWalk.i64_in _ (by omega)
  have hw2 : IntKind.i64.wrap ((f : Int) + (o : Int)) = (f : Int) + (o : Int) := Go.IntWalk.i64_in _ (by omega)
  have hw3 : IntKind.i64.wrap ((f : Int) + (o : Int) + (l : Int)) = (f : Int) + (o : Int) + (l : Int) := Go.IntWalk.i64_in _ (by omega)
  have HD : Hid (R.read n o l = readV m z (R.O k).bytes f o l) := by show _ = _; unfold RH.read; rw [HH.out.2.2.1, HH.out.2.2.2.1, HH.out.2.2.2.2.1, HH.out.2.2.2.2.2]; rfl
  have HF : Hid (∀ W1, Below W.heap.size W W1 → W1.cell? ⟨w.heap.size, 0, none⟩ = some (.int .i64 3) ∧ W1.cell? ⟨w.heap.size, 2, none⟩ = some (.int .i64 (o : Int)) ∧ W1.cell? ⟨w.heap.size, 3, none⟩ = some (.int .i64 (l : Int)) ∧ W1.cell? ⟨L.th n, 5, none⟩ = some (.int .i64 (f : Int)) ∧ W1.cell? ⟨L.th n, 6, none⟩ = some (.int .i64 (z : Int)) ∧ W1.cell? ⟨L.ob k, 1, none⟩ = some (.slice (some ⟨L.by_ k, 0, none⟩) (R.O k).bytes.length (R.O k).bytes.length) ∧ W1.heap[L.by_ k]? = some (.cells (byteCells (R.O k).bytes) 5 (0, 0)) ∧ w.heap.size < W1.heap.size ∧ Below w.heap.size w W1) := by
    intro W1 hb
    have hRk := HX.out.1.below hb
    have tr := hRk.tAt n hlt
    refine ⟨?_, ?_, ?_, ?_, ?_, rowCell (hRk.oAt k hkl) 1, hRk.bAt k hkl, Nat.lt_of_lt_of_le hWs hb.size, HX.out.2.trans (hb.mono HX.out.2.size)⟩
    · rw [hb.cell (p := ⟨w.heap.size, 0, none⟩) hWs]; exact q0
    · rw [hb.cell (p := ⟨w.heap.size, 2, none⟩) hWs]; exact q2
    · rw [hb.cell (p := ⟨w.heap.size, 3, none⟩) hWs]; exact q3
    · rw [← HH.out.2.2.2.2.1]; exact rowCell tr 5
    · rw [← HH.out.2.2.2.2.2]; exact rowCell tr 6
  by_cases h1 : (m : Int) % 2 = 0
  · have HE : Hid (R.read n o l = (5, nilS)) := by show _ = _; rw [HD.out]; unfold readV; rw [if_pos h1]
    have h1b : ((m : Int) % 2 == 1) = false := by simp; omega
    clear h1
    go_wp2
    go_region
    obtain ⟨V0, hV0⟩ : ∃ V0, V0 = W.drew := ⟨_, rfl⟩
    have B0 : Below W.heap.size W V0 := hV0 ▸ (Below.refl _ _).drew
    rw [← hV0]
    clear hV0
    obtain ⟨aV0, bbV0, ccV0, ddV0, eeV0, ffV0, ggV0, hhV0, iiV0⟩ := HF.out V0 B0
    go_wp2
    go_ret2
    exact ⟨by rw [HE.out]; rfl, iiV0⟩
  · have h1b : ((m : Int) % 2 == 1) = true := by simp; omega
    by_cases h3 : 64 < l
    · have HE : Hid (R.read n o l = (6, nilS)) := by show _ = _; rw [HD.out]; unfold readV; rw [if_neg h1, if_pos (Or.inl (by omega))]
      have h4 : (64 : Int) < (l : Int) := by omega
      clear h1 h3
      go_wp2
      go_region
      obtain ⟨V0, hV0⟩ : ∃ V0, V0 = W.drew := ⟨_, rfl⟩
      have B0 : Below W.heap.size W V0 := hV0 ▸ (Below.refl _ _).drew
      rw [← hV0]
      clear hV0
      obtain ⟨aV0, bbV0, ccV0, ddV0, eeV0, ffV0, ggV0, hhV0, iiV0⟩ := HF.out V0 B0
      go_wp2
      go_quiet (fail)
      obtain ⟨V1, hV1⟩ : ∃ V1, V1 = V0.drewN nq := ⟨_, rfl⟩
      have B1 : Below W.heap.size W V1 := hV1 ▸ B0.trans ((belowDrewN V0.heap.size _ _).mono B0.size)
      rw [← hV1]
      clear hV1
      obtain ⟨aV1, bbV1, ccV1, ddV1, eeV1, ffV1, ggV1, hhV1, iiV1⟩ := HF.out V1 B1
      go_wp2
      all_goals try (exfalso; omega)
      go_ret2
      exact ⟨by rw [HE.out]; rfl, iiV1⟩
    · have h4 : ¬ (64 : Int) < (l : Int) := by omega
      by_cases h5 : (z : Int) < (o : Int) + (l : Int)
      · have HE : Hid (R.read n o l = (6, nilS)) := by show _ = _; rw [HD.out]; unfold readV; rw [if_neg h1, if_pos (Or.inr h5)]
        clear h1 h3
        go_wp2
        go_region
        obtain ⟨V0, hV0⟩ : ∃ V0, V0 = W.drew := ⟨_, rfl⟩
        have B0 : Below W.heap.size W V0 := hV0 ▸ (Below.refl _ _).drew
        rw [← hV0]
        clear hV0
        obtain ⟨aV0, bbV0, ccV0, ddV0, eeV0, ffV0, ggV0, hhV0, iiV0⟩ := HF.out V0 B0
        go_wp2
        go_quiet (fail)
        obtain ⟨V1, hV1⟩ : ∃ V1, V1 = V0.drewN nq := ⟨_, rfl⟩
        have B1 : Below W.heap.size W V1 := hV1 ▸ B0.trans ((belowDrewN V0.heap.size _ _).mono B0.size)
        rw [← hV1]
        clear hV1
        obtain ⟨aV1, bbV1, ccV1, ddV1, eeV1, ffV1, ggV1, hhV1, iiV1⟩ := HF.out V1 B1
        go_wp2
        all_goals try (exfalso; omega)
        go_ret2
        exact ⟨by rw [HE.out]; rfl, iiV1⟩
      · have HE : Hid (R.read n o l = (0, strOfNums (((R.O k).bytes.drop (f + o)).take l))) := by
          show _ = _
          rw [HD.out]
          unfold readV
          rw [if_neg h1, if_neg (by omega)]
          have q1 : ((f : Int) + (o : Int)).toNat = f + o := by omega
          rw [q1]
          rfl
        have hb : f + o + l ≤ (R.O k).bytes.length := by omega
        have hzz : f + o + l - (f + o) = l := Nat.add_sub_cancel_left _ _
        by_cases hend : (R.O k).bytes.length = f + o
        · obtain rfl : l = 0 := by omega
          have HQ : Hid (strOfNums [] = strOfNums (((R.O k).bytes.drop (f + o)).take 0)) := by show _ = _; simp
          clear h1 h3
          go_wp2
          go_region
          obtain ⟨V0, hV0⟩ : ∃ V0, V0 = W.drew := ⟨_, rfl⟩
          have B0 : Below W.heap.size W V0 := hV0 ▸ (Below.refl _ _).drew
          rw [← hV0]
          clear hV0
          obtain ⟨aV0, bbV0, ccV0, ddV0, eeV0, ffV0, ggV0, hhV0, iiV0⟩ := HF.out V0 B0
          go_wp2
          go_quiet (fail)
          obtain ⟨V1, hV1⟩ : ∃ V1, V1 = V0.drewN nq := ⟨_, rfl⟩
          have B1 : Below W.heap.size W V1 := hV1 ▸ B0.trans ((belowDrewN V0.heap.size _ _).mono B0.size)
          rw [← hV1]
          clear hV1
          obtain ⟨aV1, bbV1, ccV1, ddV1, eeV1, ffV1, ggV1, hhV1, iiV1⟩ := HF.out V1 B1
          go_wp2
          all_goals try (exfalso; omega)
          go_quiet (fail)
          obtain ⟨V2, hV2⟩ : ∃ V2, V2 = V1.drewN nq := ⟨_, rfl⟩
          have B2 : Below W.heap.size W V2 := hV2 ▸ B1.trans ((belowDrewN V1.heap.size _ _).mono B1.size)
          rw [← hV2]
          clear hV2
          obtain ⟨aV2, bbV2, ccV2, ddV2, eeV2, ffV2, ggV2, hhV2, iiV2⟩ := HF.out V2 B2
          have cv : ∀ (j c : Nat), (convert 90 9 (.slice (some ⟨L.by_ k, 0, none⟩) 0 c)).run Try.prog (V2.drewN j) = .ok (.string (strOfNums [])) (V2.drewN j) := fun j c => by
            have := conv_part (w := V2.drewN j) ggV2 0 0 c (by omega)
            simpa using this
          go_wp2
          go_quiet (fail)
          obtain ⟨V3, hV3⟩ : ∃ V3, V3 = V2.drewN nq := ⟨_, rfl⟩
          have B3 : Below W.heap.size W V3 := hV3 ▸ B2.trans ((belowDrewN V2.heap.size _ _).mono B2.size)
          rw [← hV3]
          clear hV3
          obtain ⟨aV3, bbV3, ccV3, ddV3, eeV3, ffV3, ggV3, hhV3, iiV3⟩ := HF.out V3 B3
          go_wp2
          go_ret2
          exact ⟨by rw [HE.out, ← HQ.out]; rfl, iiV3⟩
        · clear h1 h3
          go_wp2
          go_region
          obtain ⟨V0, hV0⟩ : ∃ V0, V0 = W.drew := ⟨_, rfl⟩
          have B0 : Below W.heap.size W V0 := hV0 ▸ (Below.refl _ _).drew
          rw [← hV0]
          clear hV0
          obtain ⟨aV0, bbV0, ccV0, ddV0, eeV0, ffV0, ggV0, hhV0, iiV0⟩ := HF.out V0 B0
          go_wp2
          go_quiet (fail)
          obtain ⟨V1, hV1⟩ : ∃ V1, V1 = V0.drewN nq := ⟨_, rfl⟩
          have B1 : Below W.heap.size W V1 := hV1 ▸ B0.trans ((belowDrewN V0.heap.size _ _).mono B0.size)
          rw [← hV1]
          clear hV1
          obtain ⟨aV1, bbV1, ccV1, ddV1, eeV1, ffV1, ggV1, hhV1, iiV1⟩ := HF.out V1 B1
          go_wp2
          all_goals try (exfalso; omega)
          go_quiet (fail)
          obtain ⟨V2, hV2⟩ : ∃ V2, V2 = V1.drewN nq := ⟨_, rfl⟩
          have B2 : Below W.heap.size W V2 := hV2 ▸ B1.trans ((belowDrewN V1.heap.size _ _).mono B1.size)
          rw [← hV2]
          clear hV2
          obtain ⟨aV2, bbV2, ccV2, ddV2, eeV2, ffV2, ggV2, hhV2, iiV2⟩ := HF.out V2 B2
          have cv : ∀ (j c : Nat), (convert 90 9 (.slice (some ⟨L.by_ k, f + o, none⟩) l c)).run Try.prog (V2.drewN j) = .ok (.string (strOfNums (((R.O k).bytes.drop (f + o)).take l))) (V2.drewN j) := fun j c =>
            conv_part (w := V2.drewN j) ggV2 (f + o) l c hb
          go_wp2
          go_quiet (fail)
          obtain ⟨V3, hV3⟩ : ∃ V3, V3 = V2.drewN nq := ⟨_, rfl⟩
          have B3 : Below W.heap.size W V3 := hV3 ▸ B2.trans ((belowDrewN V2.heap.size _ _).mono B2.size)
          rw [← hV3]
          clear hV3
          obtain ⟨aV3, bbV3, ccV3, ddV3, eeV3, ffV3, ggV3, hhV3, iiV3⟩ := HF.out V3 B3
          go_wp2
          go_ret2
          exact ⟨by rw [HE.out]; rfl, iiV3⟩

end Go.Proofs.Ytkjjamigaamllaa
