/-
  What the document's house answers: Info.
-/
import Derived.Test.YtkjjamigaamllaaRefServedHead
namespace Go.Proofs.Ytkjjamigaamllaa
open Go.RowKit
set_option linter.unusedSimpArgs false

set_option maxRecDepth 100000 in
set_option maxHeartbeats 6400000 in
theorem served_9 {g : Nat} {R : RH} {L : RL} {w : World} (t n : Nat) (x : Int) (h : RAt w g R L) (inv : R.Inv) (hn : R.held (t : Int) x = some n) :
    Calls Try.prog 86 #[.pointer (some ⟨g, 0, none⟩), .int .i64 (t : Int), .agg #[.int .i64 9, .int .i64 x, .int .i64 0, .int .i64 0, .int .i64 0, .int .i64 0, .string ⟨#[]⟩]] w
      fun e w' => e = .returned (.tuple #[.string (R.info n), .int .i64 0]) ∧ Below w.heap.size w w' := by
  obtain ⟨hhd, hlt⟩ := heldN_some hn
  obtain ⟨k, hk, hkl⟩ := inv.obj n hlt
  obtain ⟨p1, p2, p3⟩ := inv.part n hlt
  obtain ⟨m, hm⟩ : ∃ m : Nat, (R.T n).rights = (m : Int) := ⟨(R.T n).rights.toNat, by have := inv.rights n hlt; omega⟩
  obtain ⟨f, hf⟩ : ∃ f : Nat, (R.T n).first = (f : Int) := ⟨(R.T n).first.toNat, by omega⟩
  obtain ⟨z, hz⟩ : ∃ z : Nat, (R.T n).size = (z : Int) := ⟨(R.T n).size.toNat, by omega⟩
  have hm7 : m ≤ 7 := by have := inv.rights n hlt; omega
  have hnT := inv.ok.nT
  have hnO := inv.ok.nO
  have hby := inv.ok.bytes k
  rw [hf, hz, hk] at p3
  have p3 : f + z ≤ (R.O k).bytes.length := by simp at p3; omega
  have hlt2 : (n : Int) < (R.nT : Int) := by omega
  have hkl2 : (k : Int) < (R.nO : Int) := by omega
  have HH : Hid (RAt w g R L ∧ R.Inv ∧ (R.T n).obj = (k : Int) ∧ (R.T n).rights = (m : Int) ∧ (R.T n).first = (f : Int) ∧ (R.T n).size = (z : Int)) := ⟨h, inv, hk, hm, hf, hz⟩
  clear h inv hn p1 p2
  go_enter Try.func86, Try.ntmps86
  go_wp2_with fail
  refine (held_any (t : Int) x (HH.out.1.below ((Below.refl _ _).alloc (Nat.le_refl _) _)) HH.out.2.1.ok).mono ?_
  rintro e W ⟨rfl, hW⟩
  rw [hhd]
  have hWb : Below w.heap.size w W := hW ▸ ((Below.refl _ _).alloc (Nat.le_refl _) _)
  have hWs : w.heap.size < W.heap.size := by rw [hW]; simp
  have hR := HH.out.1.below hWb
  have q0 : W.cell? ⟨w.heap.size, 0, none⟩ = some (.int .i64 9) := hW ▸ rowCell (newRowAt _ _) 0
  have q2 : W.cell? ⟨w.heap.size, 2, none⟩ = some (.int .i64 0) := hW ▸ rowCell (newRowAt _ _) 2
  have q3 : W.cell? ⟨w.heap.size, 3, none⟩ = some (.int .i64 0) := hW ▸ rowCell (newRowAt _ _) 3
  have q4 : W.cell? ⟨w.heap.size, 4, none⟩ = some (.int .i64 0) := hW ▸ rowCell (newRowAt _ _) 4
  have q5 : W.cell? ⟨w.heap.size, 5, none⟩ = some (.int .i64 0) := hW ▸ rowCell (newRowAt _ _) 5
  have q6 : W.cell? ⟨w.heap.size, 6, none⟩ = some (.string ⟨#[]⟩) := hW ▸ rowCell (newRowAt _ _) 6
  obtain ⟨ta, tc, htv, hth⟩ := hR.thing
  obtain ⟨tb, rfl, ctb⟩ := hth n hlt
  have c4 : W.cell? ⟨g, 4, none⟩ = some (.slice (some ⟨tb, 0, none⟩) R.nT tc) := by rw [← htv]; exact rowCell hR.row 4
  have c0 : W.cell? ⟨g, 0, none⟩ = some (.int .i64 (R.nt : Int)) := rowCell hR.row 0
  obtain ⟨oa, oc, hov, hoo⟩ := hR.object
  obtain ⟨ob, rfl, cob⟩ := hoo k hkl
  have c3 : W.cell? ⟨g, 3, none⟩ = some (.slice (some ⟨ob, 0, none⟩) R.nO oc) := by rw [← hov]; exact rowCell hR.row 3
  have tr := hR.tAt n hlt
  have t4 : W.cell? ⟨L.th n, 4, none⟩ = some (.int .i64 (k : Int)) := by rw [← hk]; exact rowCell tr 4
  have t5 : W.cell? ⟨L.th n, 5, none⟩ = some (.int .i64 (f : Int)) := by rw [← hf]; exact rowCell tr 5
  have t6 : W.cell? ⟨L.th n, 6, none⟩ = some (.int .i64 (z : Int)) := by rw [← hz]; exact rowCell tr 6
  have t7 : W.cell? ⟨L.th n, 7, none⟩ = some (.int .i64 (m : Int)) := by rw [← hm]; exact rowCell tr 7
  have o1 : W.cell? ⟨L.ob k, 1, none⟩ = some (.slice (some ⟨L.by_ k, 0, none⟩) (R.O k).bytes.length (R.O k).bytes.length) := rowCell (hR.oAt k hkl) 1
  have HX : Hid (RAt W g R L ∧ Below w.heap.size w W) := ⟨hR, hWb⟩
  clear hR hWb hW htv hth hov hoo tr hm hf hz hk hhd
  have HD : Hid (R.info n = twoW z ++ oneS m) := by show _ = _; unfold RH.info; rw [HH.out.2.2.2.1, HH.out.2.2.2.2.2]; unfold oneC oneS; rw [show (m : Int) % 256 = (m : Int) by omega]
  have s1 := twoW_size
  have s0 : ∀ n, (oneC n).size = 1 := fun n => strOfNums_size _
  have hmod : ((m : Int) % 256) = (m : Int) := by omega
  have hwr : IntKind.u8.wrap (m : Int) = (m : Int) := by
    have : m = 0 ∨ m = 1 ∨ m = 2 ∨ m = 3 ∨ m = 4 ∨ m = 5 ∨ m = 6 ∨ m = 7 := by omega
    rcases this with rfl | rfl | rfl | rfl | rfl | rfl | rfl | rfl <;> decide
  have c1 := fun (V : World) => conv1 V (m : Int) V.heap.size rfl
  have HT : Hid (∀ V V', Below W.heap.size W V → Below V.heap.size V V' → (V'.cell? ⟨L.th n, 7, none⟩ = some (.int .i64 (m : Int)) ∧ V'.cell? ⟨L.th n, 6, none⟩ = some (.int .i64 (z : Int)) ∧ Below w.heap.size w V')) := by
    intro V V' hV hb
    have hb3 := hV.trans (hb.mono hV.size)
    have hRk := HX.out.1.below hb3
    refine ⟨?_, ?_, HX.out.2.trans (hb3.mono HX.out.2.size)⟩
    · rw [← HH.out.2.2.2.1]; exact rowCell (hRk.tAt n hlt) 7
    · rw [← HH.out.2.2.2.2.2]; exact rowCell (hRk.tAt n hlt) 6
  have HC : Hid (∀ V', V'.heap[W.heap.size]? = some (.cells #[.int .u8 (m : Int)] 5 (0, 0)) → (convert 90 9 (.slice (some ⟨W.heap.size, 0, none⟩) 1 1)).run Try.prog V' = .ok (.string (oneS m)) V') := by
    intro V' hrow
    exact run_convert_bytes_arg (P := Try.prog) V' 90 5 Try.underlying90 Try.underlying5 W.heap.size 0 1 1 [(m : Int)] rfl
      (fun i hi => by obtain rfl : i = 0 := by omega
                      exact rowCell hrow 0) 9 Try.underlying9
  have tlt : L.th n < W.heap.size := lt_of_row (HX.out.1.tAt n hlt)
  have cvd := HC.out (W.alloc (.cells #[.int .u8 (m : Int)] 5)).drew.drew (newRowAt W _)
  go_wp2
  go_region
  go_wp2
  go_region_with (first
    | (go_at_call 52
       refine (two_any _ _).mono ?_
       rintro e w2 ⟨rfl, hb2⟩
       obtain ⟨y7, y6, y0⟩ := HT.out _ w2 (by first | exact (Below.refl _ _).drew.drew | exact ((Below.refl _ _).alloc (Nat.le_refl _) _).drew.drew) hb2
       have HB : Hid (Below w.heap.size w w2) := y0
       clear y0
       try (have cv2 := HC.out w2 ((hb2.block W.heap.size (by show W.heap.size < (W.alloc _).heap.size; simp)).trans (newRowAt W _)))
       have HS : Hid (w.heap.size ≤ w2.heap.size) := HB.out.size
       clear hb2))
  all_goals go_wp2
  all_goals go_ret2
  all_goals refine ⟨by rw [HD.out]; rfl, ?_⟩
  all_goals first | exact HB.out | exact HB.out.alloc HS.out _ | exact (HB.out.alloc HS.out _).drew

end Go.Proofs.Ytkjjamigaamllaa
