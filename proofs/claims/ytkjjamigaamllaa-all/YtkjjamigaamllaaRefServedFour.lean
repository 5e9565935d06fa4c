/-
  What the document's house answers: Write.
-/
import Derived.Test.YtkjjamigaamllaaRefServedHead
namespace Go.Proofs.Ytkjjamigaamllaa
open Go.RowKit
set_option linter.unusedSimpArgs false

set_option maxRecDepth 100000 in
set_option maxHeartbeats 6400000 in
theorem served_4 {g : Nat} {R : RH} {L : RL} {w : World} (t n : Nat) (x : Int) (o : Nat) (d : ByteArray) (h : RAt w g R L) (inv : R.Inv) (hn : R.held (t : Int) x = some n) (ho : o ≤ 65535) (hd : d.size ≤ 64) :
    Calls Try.prog 86 #[.pointer (some ⟨g, 0, none⟩), .int .i64 (t : Int), .agg #[.int .i64 4, .int .i64 x, .int .i64 (o : Int), .int .i64 0, .int .i64 0, .int .i64 0, .string d]] w
      fun e w' => e = .returned (.tuple #[.string ⟨#[]⟩, .int .i64 (R.writeE n o d)]) ∧ RAt w' g (R.write n o d) L ∧ Frm (RFoot g R L) w w' := by
  obtain ⟨hhd, hlt⟩ := heldN_some hn
  obtain ⟨k, hk, hkl⟩ := inv.obj n hlt
  obtain ⟨p1, p2, p3⟩ := inv.part n hlt
  obtain ⟨m, hm⟩ : ∃ m : Nat, (R.T n).rights = (m : Int) := ⟨(R.T n).rights.toNat, by have := inv.rights n hlt; omega⟩
  obtain ⟨f, hf⟩ : ∃ f : Nat, (R.T n).first = (f : Int) := ⟨(R.T n).first.toNat, by omega⟩
  obtain ⟨z, hz⟩ : ∃ z : Nat, (R.T n).size = (z : Int) := ⟨(R.T n).size.toNat, by omega⟩
  have hm7 : m ≤ 7 := by have := inv.rights n hlt; omega
  have hnT := inv.ok.nT
  have hnO := inv.ok.nO
  have hby := inv.ok.bytes k
  rw [hf, hz, hk] at p3
  have p3 : f + z ≤ (R.O k).bytes.length := by simp at p3; omega
  have hlt2 : (n : Int) < (R.nT : Int) := by omega
  have hkl2 : (k : Int) < (R.nO : Int) := by omega
  have HH : Hid (RAt w g R L ∧ R.Inv ∧ (R.T n).obj = (k : Int) ∧ (R.T n).rights = (m : Int) ∧ (R.T n).first = (f : Int) ∧ (R.T n).size = (z : Int)) := ⟨h, inv, hk, hm, hf, hz⟩
  clear h inv hn p1 p2
  go_enter Try.func86, Try.ntmps86
  go_wp2_with fail
  refine (held_any (t : Int) x (HH.out.1.below ((Below.refl _ _).alloc (Nat.le_refl _) _)) HH.out.2.1.ok).mono ?_
  rintro e W ⟨rfl, hW⟩
  rw [hhd]
  have hWb : Below w.heap.size w W := hW ▸ ((Below.refl _ _).alloc (Nat.le_refl _) _)
  have hWs : w.heap.size < W.heap.size := by rw [hW]; simp
  have hR := HH.out.1.below hWb
  have q0 : W.cell? ⟨w.heap.size, 0, none⟩ = some (.int .i64 4) := hW ▸ rowCell (newRowAt _ _) 0
  have q2 : W.cell? ⟨w.heap.size, 2, none⟩ = some (.int .i64 (o : Int)) := hW ▸ rowCell (newRowAt _ _) 2
  have q3 : W.cell? ⟨w.heap.size, 3, none⟩ = some (.int .i64 0) := hW ▸ rowCell (newRowAt _ _) 3
  have q4 : W.cell? ⟨w.heap.size, 4, none⟩ = some (.int .i64 0) := hW ▸ rowCell (newRowAt _ _) 4
  have q5 : W.cell? ⟨w.heap.size, 5, none⟩ = some (.int .i64 0) := hW ▸ rowCell (newRowAt _ _) 5
  have q6 : W.cell? ⟨w.heap.size, 6, none⟩ = some (.string d) := hW ▸ rowCell (newRowAt _ _) 6
  obtain ⟨ta, tc, htv, hth⟩ := hR.thing
  obtain ⟨tb, rfl, ctb⟩ := hth n hlt
  have c4 : W.cell? ⟨g, 4, none⟩ = some (.slice (some ⟨tb, 0, none⟩) R.nT tc) := by rw [← htv]; exact rowCell hR.row 4
  have c0 : W.cell? ⟨g, 0, none⟩ = some (.int .i64 (R.nt : Int)) := rowCell hR.row 0
  obtain ⟨oa, oc, hov, hoo⟩ := hR.object
  obtain ⟨ob, rfl, cob⟩ := hoo k hkl
  have c3 : W.cell? ⟨g, 3, none⟩ = some (.slice (some ⟨ob, 0, none⟩) R.nO oc) := by rw [← hov]; exact rowCell hR.row 3
  have tr := hR.tAt n hlt
  have t4 : W.cell? ⟨L.th n, 4, none⟩ = some (.int .i64 (k : Int)) := by rw [← hk]; exact rowCell tr 4
  have t5 : W.cell? ⟨L.th n, 5, none⟩ = some (.int .i64 (f : Int)) := by rw [← hf]; exact rowCell tr 5
  have t6 : W.cell? ⟨L.th n, 6, none⟩ = some (.int .i64 (z : Int)) := by rw [← hz]; exact rowCell tr 6
  have t7 : W.cell? ⟨L.th n, 7, none⟩ = some (.int .i64 (m : Int)) := by rw [← hm]; exact rowCell tr 7
  have o1 : W.cell? ⟨L.ob k, 1, none⟩ = some (.slice (some ⟨L.by_ k, 0, none⟩) (R.O k).bytes.length (R.O k).bytes.length) := rowCell (hR.oAt k hkl) 1
  have HX : Hid (RAt W g R L ∧ Below w.heap.size w W) := ⟨hR, hWb⟩
  clear hR hWb hW htv hth hov hoo tr hm hf hz hk hhd
  have HD : Hid (R.writeE n o d = writeE m z o d.size) := by show _ = _; unfold RH.writeE; rw [HH.out.2.2.2.1, HH.out.2.2.2.2.2]
  by_cases h1 : (m : Int) / 2 % 2 = 0
  · have HE : Hid (R.writeE n o d = 5 ∧ R.write n o d = R) := by
      have q : R.writeE n o d = 5 := by rw [HD.out]; unfold writeE; rw [if_pos h1]
      refine ⟨q, ?_⟩
      unfold RH.write
      rw [q]
      rfl
    have h1b : ((m : Int) / 2 % 2 == 1) = false := by simp; omega
    clear h1
    go_wp2
    go_region
    all_goals go_wp2
    all_goals go_ret2
    all_goals exact ⟨by rw [HE.out.1]; rfl, by rw [HE.out.2]; exact HX.out.1.below ((Below.refl _ _).drew), Frm.ofBelow HX.out.2.drew⟩
  · have h1b : ((m : Int) / 2 % 2 == 1) = true := by simp; omega
    by_cases h5 : (z : Int) < (o : Int) + (d.size : Int)
    · have HE : Hid (R.writeE n o d = 6 ∧ R.write n o d = R) := by
        have q : R.writeE n o d = 6 := by rw [HD.out]; unfold writeE; rw [if_neg h1, if_pos h5]
        refine ⟨q, ?_⟩
        unfold RH.write
        rw [q]
        rfl
      clear h1
      go_wp2
      go_region
      all_goals go_wp2
      all_goals go_region
      all_goals go_wp2
      all_goals go_ret2
      all_goals exact ⟨by rw [HE.out.1]; rfl, by rw [HE.out.2]; exact HX.out.1.below ((Below.refl _ _).drew.drew), Frm.ofBelow HX.out.2.drew.drew⟩
    · have HE : Hid (R.writeE n o d = 0 ∧ R.write n o d = R.turn k (spl (R.O k).bytes (f + o) d d.size)) := by
        have q : R.writeE n o d = 0 := by rw [HD.out]; unfold writeE; rw [if_neg h1, if_neg h5]
        refine ⟨q, ?_⟩
        unfold RH.write
        rw [if_pos q, HH.out.2.2.1, HH.out.2.2.2.2.1]
        have q1 : ((f : Int) + (o : Int)).toNat = f + o := by omega
        rw [q1]
        rfl
      have hb : f + o + d.size ≤ (R.O k).bytes.length := by omega
      have hbl : L.by_ k < w.heap.size := lt_of_row (HH.out.1.bAt k hkl)
      clear h1
      go_wp2
      go_region
      go_wp2
      go_region
      go_wp2
      go_loopw [15] (fun i V => ∃ j : Nat, j ≤ d.size ∧ i = .int .i64 (j : Int) ∧ Frm (· = L.by_ k) W V ∧ V.heap[L.by_ k]? = some (.cells (byteCells (spl (R.O k).bytes (f + o) d j)) 5 (0, 0))) (fun i _ => d.size - (intOf i).toNat)
      case atStart => exact ⟨0, by omega, rfl, Frm.ofBelow ((Below.refl _ _).drew.drew), HX.out.1.bAt k hkl⟩
      case round =>
        obtain ⟨j, hj, rfl, hF, hB⟩ := hrel
        have keep : Hid (∀ (b : Nat) (cs : Array Value) (ty : TypeId), W.heap[b]? = some (.cells cs ty (0, 0)) → ty ≠ 5 → wr.heap[b]? = some (.cells cs ty (0, 0))) := fun b cs ty hbb hne =>
          (hF.block b (lt_of_row hbb) (fun e => ne_of_type hbb (HX.out.1.bAt k hkl) hne e)).trans hbb
        have v2 : wr.cell? ⟨w.heap.size, 2, none⟩ = some (.int .i64 (o : Int)) := by rw [hF.cell (p := ⟨w.heap.size, 2, none⟩) hWs (by show ¬ w.heap.size = L.by_ k; omega)]; exact q2
        have v6 : wr.cell? ⟨w.heap.size, 6, none⟩ = some (.string d) := by rw [hF.cell (p := ⟨w.heap.size, 6, none⟩) hWs (by show ¬ w.heap.size = L.by_ k; omega)]; exact q6
        have HW : Hid (Frm (· = L.by_ k) W wr ∧ wr.heap[L.by_ k]? = some (.cells (byteCells (spl (R.O k).bytes (f + o) d j)) 5 (0, 0))) := ⟨hF, hB⟩
        by_cases hlt3 : j < d.size
        · have hlt4 : (j : Int) < (d.size : Int) := by omega
          have v5 : wr.cell? ⟨L.th n, 5, none⟩ = some (.int .i64 (f : Int)) := by rw [← HH.out.2.2.2.2.1]; exact rowCell (keep.out _ _ _ (HX.out.1.tAt n hlt) (by decide)) 5
          have u1 : wr.cell? ⟨L.ob k, 1, none⟩ = some (.slice (some ⟨L.by_ k, 0, none⟩) (R.O k).bytes.length (R.O k).bytes.length) := rowCell (keep.out _ _ _ (HX.out.1.oAt k hkl) (by decide)) 1
          have hl : (spl (R.O k).bytes (f + o) d j).length = (R.O k).bytes.length := spl_len _ _ _ _
          have k3 : wr.cell? ⟨L.by_ k, f + o + j, none⟩ = some (.int .u8 ((spl (R.O k).bytes (f + o) d j).getD (f + o + j) 0)) := by
            rw [rowCell hB, byteCells_get _ _ (by omega)]
          have k4 := rowFree hB (f + o + j)
          clear hF hB hl c0 c3 c4 t4 t5 t6 t7 o1 q0 q2 q3 q4 q5 q6 ctb cob
          go_wp2
          go_region
          all_goals go_wp2
          all_goals go_roundw
          case rel =>
            refine ⟨j + 1, by omega, rfl, ?_, ?_⟩
            · exact (HW.out.1.trans (Frm.setCell (· = L.by_ k) _ ⟨L.by_ k, f + o + j, none⟩ _ rfl) (fun _ _ h => h)).trans (Frm.drew (fun _ => False) _) (fun _ _ h => h.elim)
            · show ((wr.setCell ⟨L.by_ k, f + o + j, none⟩ _).heap[L.by_ k]?) = _
              have := Go.Joins.block_setCell (i := f + o + j) HW.out.2 (.int .u8 (byt d j))
              rw [byteCells_set] at this
              rw [byt_in hlt3]
              exact this
          case measure => simp [intOf]; omega
        · obtain rfl : j = d.size := by omega
          clear hF hB
          go_wp2
          go_ret2
          have F2 : Frm (RFoot g R L) w wr := (Frm.ofBelow (F := RFoot g R L) HX.out.2).trans HW.out.1 (fun i _ hi => Or.inr (Or.inr (Or.inr (Or.inl ⟨k, hkl, Or.inr hi⟩))))
          exact ⟨by rw [HE.out.1]; rfl, by rw [HE.out.2]; exact HX.out.1.turned _ hkl (spl_len _ _ _ _) HW.out.1 HW.out.2, F2⟩

end Go.Proofs.Ytkjjamigaamllaa
