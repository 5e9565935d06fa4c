/-
  What the document's house answers: Derive without the right.
-/
import Derived.Test.YtkjjamigaamllaaRefServedHead
import Derived.Lib.SmallJoins
import Derived.Deep.RegionHeld3
import Derived.Deep.DrawnRows
namespace Go.Proofs.Ytkjjamigaamllaa
open Go.RowKit
set_option linter.unusedSimpArgs false

set_option maxRecDepth 100000 in
set_option maxHeartbeats 6400000 in
theorem served_5no {g : Nat} {R : RH} {L : RL} {w : World} (t n : Nat) (x : Int) (o l r : Nat) (h : RAt w g R L) (inv : R.Inv) (hn : R.held (t : Int) x = some n) (_ho : o ≤ 65535) (_hl : l ≤ 65535) (hr : r ≤ 255) (hsh : R.shareE n r = false) :
    Calls Try.prog 86 #[.pointer (some ⟨g, 0, none⟩), .int .i64 (t : Int), .agg #[.int .i64 5, .int .i64 x, .int .i64 (o : Int), .int .i64 (l : Int), .int .i64 (r : Int), .int .i64 0, .string ⟨#[]⟩]] w
      fun e w' => e = .returned (.tuple #[.string (R.deriveS t n o l r), .int .i64 (R.deriveE t n o l r)]) ∧ ∃ L', RAt w' g (R.derive t n o l r) L' ∧ Frm (RFoot g R L) w w' ∧ (∀ j, RFoot g (R.derive t n o l r) L' j → RFoot g R L j ∨ w.heap.size ≤ j) := by
  obtain ⟨hhd, hlt⟩ := heldN_some hn
  obtain ⟨k, hk, hkl⟩ := inv.obj n hlt
  obtain ⟨p1, p2, p3⟩ := inv.part n hlt
  obtain ⟨m, hm⟩ : ∃ m : Nat, (R.T n).rights = (m : Int) := ⟨(R.T n).rights.toNat, by have := inv.rights n hlt; omega⟩
  obtain ⟨f, hf⟩ : ∃ f : Nat, (R.T n).first = (f : Int) := ⟨(R.T n).first.toNat, by omega⟩
  obtain ⟨z, hz⟩ : ∃ z : Nat, (R.T n).size = (z : Int) := ⟨(R.T n).size.toNat, by omega⟩
  have hm7 : m ≤ 7 := by have := inv.rights n hlt; omega
  have hnT := inv.ok.nT
  have hnO := inv.ok.nO
  have hby := inv.ok.bytes k
  rw [hf, hz, hk] at p3
  have p3 : f + z ≤ (R.O k).bytes.length := by simp at p3; omega
  have hlt2 : (n : Int) < (R.nT : Int) := by omega
  have hkl2 : (k : Int) < (R.nO : Int) := by omega
  have HH : Hid (RAt w g R L ∧ R.Inv ∧ (R.T n).obj = (k : Int) ∧ (R.T n).rights = (m : Int) ∧ (R.T n).first = (f : Int) ∧ (R.T n).size = (z : Int)) := ⟨h, inv, hk, hm, hf, hz⟩
  clear h inv hn p1 p2
  go_enter Try.func86, Try.ntmps86
  go_wp2_with fail
  refine (held_any (t : Int) x (HH.out.1.below ((Below.refl _ _).alloc (Nat.le_refl _) _)) HH.out.2.1.ok).mono ?_
  rintro e W ⟨rfl, hW⟩
  rw [hhd]
  have hWb : Below w.heap.size w W := hW ▸ ((Below.refl _ _).alloc (Nat.le_refl _) _)
  have hWs : w.heap.size < W.heap.size := by rw [hW]; simp
  have hR := HH.out.1.below hWb
  have q0 : W.cell? ⟨w.heap.size, 0, none⟩ = some (.int .i64 5) := hW ▸ rowCell (newRowAt _ _) 0
  have q2 : W.cell? ⟨w.heap.size, 2, none⟩ = some (.int .i64 (o : Int)) := hW ▸ rowCell (newRowAt _ _) 2
  have q3 : W.cell? ⟨w.heap.size, 3, none⟩ = some (.int .i64 (l : Int)) := hW ▸ rowCell (newRowAt _ _) 3
  have q4 : W.cell? ⟨w.heap.size, 4, none⟩ = some (.int .i64 (r : Int)) := hW ▸ rowCell (newRowAt _ _) 4
  have q5 : W.cell? ⟨w.heap.size, 5, none⟩ = some (.int .i64 0) := hW ▸ rowCell (newRowAt _ _) 5
  have q6 : W.cell? ⟨w.heap.size, 6, none⟩ = some (.string ⟨#[]⟩) := hW ▸ rowCell (newRowAt _ _) 6
  obtain ⟨ta, tc, htv, hth⟩ := hR.thing
  obtain ⟨tb, rfl, ctb⟩ := hth n hlt
  have c4 : W.cell? ⟨g, 4, none⟩ = some (.slice (some ⟨tb, 0, none⟩) R.nT tc) := by rw [← htv]; exact rowCell hR.row 4
  have c0 : W.cell? ⟨g, 0, none⟩ = some (.int .i64 (R.nt : Int)) := rowCell hR.row 0
  obtain ⟨oa, oc, hov, hoo⟩ := hR.object
  obtain ⟨ob, rfl, cob⟩ := hoo k hkl
  have c3 : W.cell? ⟨g, 3, none⟩ = some (.slice (some ⟨ob, 0, none⟩) R.nO oc) := by rw [← hov]; exact rowCell hR.row 3
  have tr := hR.tAt n hlt
  have t4 : W.cell? ⟨L.th n, 4, none⟩ = some (.int .i64 (k : Int)) := by rw [← hk]; exact rowCell tr 4
  have t5 : W.cell? ⟨L.th n, 5, none⟩ = some (.int .i64 (f : Int)) := by rw [← hf]; exact rowCell tr 5
  have t6 : W.cell? ⟨L.th n, 6, none⟩ = some (.int .i64 (z : Int)) := by rw [← hz]; exact rowCell tr 6
  have t7 : W.cell? ⟨L.th n, 7, none⟩ = some (.int .i64 (m : Int)) := by rw [← hm]; exact rowCell tr 7
  have o1 : W.cell? ⟨L.ob k, 1, none⟩ = some (.slice (some ⟨L.by_ k, 0, none⟩) (R.O k).bytes.length (R.O k).bytes.length) := rowCell (hR.oAt k hkl) 1
  have HX : Hid (RAt W g R L ∧ Below w.heap.size w W) := ⟨hR, hWb⟩
  clear hR hWb hW htv hth hov hoo tr hm hf hz hk hhd
  have h1 : shareB m r = false := by have := hsh; unfold RH.shareE at this; rw [HH.out.2.2.2.1] at this; exact this
  have HE : Hid (R.deriveE t n o l r = 5 ∧ R.deriveS t n o l r = ⟨#[]⟩ ∧ R.derive t n o l r = R) := by
    have hs : R.shareE n r = false := hsh
    refine ⟨?_, ?_, ?_⟩
    · unfold RH.deriveE; rw [hs, if_pos (by simp)]
    · unfold RH.deriveS; rw [hs, if_pos (by simp)]
    · unfold RH.derive; rw [hs, if_pos (by simp)]
  have cs : (((m : Int) / 4 == 1) = false ∧ (7 : Int) < (r : Int)) ∨ (((m : Int) / 4 == 1) = false ∧ ¬ (7 : Int) < (r : Int)) ∨ (((m : Int) / 4 == 1) = true ∧ (7 : Int) < (r : Int)) ∨ (((m : Int) / 4 == 1) = true ∧ ¬ (7 : Int) < (r : Int) ∧ ((r : Int) % 2 == 1) = true ∧ ((m : Int) % 2 == 1) = false) ∨ (((m : Int) / 4 == 1) = true ∧ ¬ (7 : Int) < (r : Int) ∧ ((r : Int) / 2 % 2 == 1) = true ∧ ((m : Int) / 2 % 2 == 1) = false) := by
    unfold shareB at h1
    simp at h1 ⊢
    omega
  clear h1
  rcases cs with ⟨g1, g2⟩ | ⟨g1, g2⟩ | ⟨g1, g2⟩ | ⟨g1, g2, g3, g4⟩ | ⟨g1, g2, g3, g4⟩ <;>
  · go_wp2
    go_region
    go_wp2
    all_goals go_ret2
    all_goals exact ⟨by rw [HE.out.1, HE.out.2.1]; rfl, L, by rw [HE.out.2.2]; exact HX.out.1.below ((Below.refl _ _).drew), Frm.ofBelow HX.out.2.drew, fun j hj => Or.inl (by rw [HE.out.2.2] at hj; exact hj)⟩

end Go.Proofs.Ytkjjamigaamllaa
