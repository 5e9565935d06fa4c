/-
  A house and the document's beside it, as the laws keep them; Look of both.
-/
import Derived.Test.YtkjjamigaamllaaRefLook
import Derived.Test.YtkjjamigaamllaaSimGone
namespace Go.Proofs.Ytkjjamigaamllaa
open Go.RowKit
set_option linter.unusedSimpArgs false

structure HPair where
  gx : Nat
  M : Mach
  bl : Nat → Nat
  gy : Nat
  R : RH
  L : RL
  pb : Nat

structure PairAt (w : World) (P : HPair) : Prop where
  row : w.heap[P.pb]? = some (.cells #[.pointer (some ⟨P.gx, 0, none⟩), .pointer (some ⟨P.gy, 0, none⟩)] 98 (0, 0))
  x : HAt w P.gx P.M P.bl
  y : RAt w P.gy P.R P.L
  sim : Sim P.R P.M
  dis : ∀ k, HFoot P.gx P.M P.bl k → ¬ RFoot P.gy P.R P.L k
  ph : ¬ HFoot P.gx P.M P.bl P.pb
  pr : ¬ RFoot P.gy P.R P.L P.pb

/-- the blocks of a pair -/
def PFoot (P : HPair) (k : Nat) : Prop := k = P.pb ∨ HFoot P.gx P.M P.bl k ∨ RFoot P.gy P.R P.L k

theorem HAt.foot_lt {w : World} {g : Nat} {M : Mach} {bl : Nat → Nat} (h : HAt w g M bl) {k : Nat} (hk : HFoot g M bl k) : k < w.heap.size := by
  rcases hk with rfl | ⟨p, hp, hb, rfl⟩
  · exact h.lt
  · exact (h.row p hp hb).1
theorem PairAt.foot_lt {w : World} {P : HPair} (h : PairAt w P) {k : Nat} (hk : PFoot P k) : k < w.heap.size := by
  rcases hk with rfl | hk | hk
  · exact lt_of_row h.row
  · exact h.x.foot_lt hk
  · exact h.y.foot_lt hk
theorem PairAt.frame {F : Nat → Prop} {w w' : World} {P : HPair} (h : PairAt w P) (hf : Frm F w w') (hn : ∀ k, PFoot P k → ¬ F k) : PairAt w' P :=
  ⟨(hf.block _ (lt_of_row h.row) (hn _ (Or.inl rfl))).trans h.row, h.x.frame hf (fun k hk => hn k (Or.inr (Or.inl hk))), h.y.frame hf (fun k hk => hn k (Or.inr (Or.inr hk))), h.sim, h.dis, h.ph, h.pr⟩
theorem PairAt.below {w w' : World} {P : HPair} (h : PairAt w P) (hf : Below w.heap.size w w') : PairAt w' P :=
  h.frame (Frm.ofBelow (F := fun _ => False) hf) (fun _ _ h => h)

theorem look_same {R : RH} {M : Mach} (S : Sim R M) (t : Int) : rlookV R t = lookV M t := by
  unfold rlookV lookV
  rw [S.nt]
  cases hb : hasB M.nt t with
  | false => rfl
  | true =>
    obtain ⟨n, rfl⟩ : ∃ n : Nat, t = (n : Int) := ⟨t.toNat, by simp [hasB] at hb; omega⟩
    have hn : n < M.nt := by simp [hasB] at hb; omega
    rw [if_pos rfl, if_pos rfl, S.live hn, ← S.chunks n hn]
    rfl
theorem look_form (M : Mach) (t : Int) : ∃ a c e : Int, lookV M t = .tuple #[.agg #[.int .i64 a, .int .i64 c], .int .i64 e] := by
  unfold lookV
  split
  · exact ⟨_, _, _, rfl⟩
  · exact ⟨_, _, _, rfl⟩

set_option maxHeartbeats 1600000 in
set_option maxRecDepth 100000 in
theorem looked_any {w : World} {P : HPair} (t : Int) (h : PairAt w P) :
    Calls Try.prog 57 #[.pointer (some ⟨P.pb, 0, none⟩), .int .i64 t] w fun e w' => e = .returned (.bool true) ∧ Below w.heap.size w w' := by
  obtain ⟨a, c, e, hV⟩ := look_form P.M t
  have hR := (look_same h.sim t).trans hV
  have r0 : w.cell? ⟨P.pb, 0, none⟩ = some (.pointer (some ⟨P.gx, 0, none⟩)) := rowCell h.row 0
  have HH : Hid (PairAt w P) := h
  clear h
  go_enter Try.func57, Try.ntmps57
  go_wp2_with fail
  refine (look_any t HH.out.x HH.out.sim.inv.ok).mono ?_
  rintro e1 w1 ⟨rfl, hb1⟩
  rw [hV]
  obtain ⟨W, hW⟩ : ∃ W, W = w1.alloc (.cells #[.int .i64 a, .int .i64 c] 76) := ⟨_, rfl⟩
  have hWb : Below w.heap.size w W := hW ▸ hb1.alloc hb1.size _
  have hP := HH.out.below hWb
  have r1 : W.cell? ⟨P.pb, 1, none⟩ = some (.pointer (some ⟨P.gy, 0, none⟩)) := rowCell hP.row 1
  have v0 : W.heap[w1.heap.size]? = some (.cells #[.int .i64 a, .int .i64 c] 76 (0, 0)) := hW ▸ newRowAt _ _
  have HX : Hid (PairAt W P ∧ Below w.heap.size w W ∧ W = w1.alloc (.cells #[.int .i64 a, .int .i64 c] 76) ∧ W.heap[w1.heap.size]? = some (.cells #[.int .i64 a, .int .i64 c] 76 (0, 0))) := ⟨hP, hWb, hW, v0⟩
  have hpw : P.pb < w1.heap.size := Nat.lt_of_lt_of_le (lt_of_row HH.out.row) hb1.size
  have r1' : w1.cell? ⟨P.pb, 1, none⟩ = some (.pointer (some ⟨P.gy, 0, none⟩)) := by rw [hb1.cell (p := ⟨P.pb, 1, none⟩) (lt_of_row HH.out.row)]; exact rowCell HH.out.row 1
  clear hWb hP hb1 hW v0 hV
  go_wp2_with fail
  rw [← HX.out.2.2.1]
  refine (rlook_any t HX.out.1.y HX.out.1.sim.rinv.ok).mono ?_
  rintro e1 w2 ⟨rfl, hb2⟩
  rw [hR]
  have k0 := keepRow hb2 (lt_of_row HX.out.2.2.2) HX.out.2.2.2
  have v0 := rowCell k0 0
  have v1 := rowCell k0 1
  have hz : w1.heap.size < w2.heap.size := Nat.lt_of_lt_of_le (lt_of_row HX.out.2.2.2) hb2.size
  have HB : Hid (Below w.heap.size w w2) := HX.out.2.1.trans (hb2.mono HX.out.2.1.size)
  clear hb2 k0 r1 r1' r0 hR
  go_wp2
  go_ret
  exact ⟨rfl, HB.out.alloc HB.out.size _⟩

end Go.Proofs.Ytkjjamigaamllaa
