/-
  The handle and the bytes that a step of a script speaks of; what is left to a tenant.
-/
import Derived.Test.YtkjjamigaamllaaKeepSmall
import Derived.Test.YtkjjamigaamllaaKeepGood
import Derived.Test.YtkjjamigaamllaaKeepLeaves
import Derived.Deep.QuietTactic
namespace Go.Proofs.Ytkjjamigaamllaa
open Go.RowKit
set_option linter.unusedSimpArgs false

theorem owns_slice {w : World} {ty : TypeId} {v : Value} {n : Nat} {xs : List Value} (h : w.ownsRow 0 ty 1 v n xs) : ∃ a cap, v = .slice a n cap := by
  rcases h.2 with ⟨e1, e2⟩ | ⟨g, cap, cur, e1, _⟩
  · exact ⟨none, 0, by rw [e1, e2]⟩
  · exact ⟨_, _, e1⟩
theorem owns_cell {w : World} {ty : TypeId} {v : Value} {n : Nat} {xs : List Value} (h : w.ownsRow 0 ty 1 v n xs) (hn : 0 < n) : ∃ g cap, v = .slice (some ⟨g, 0, none⟩) n cap ∧ ∀ j y, xs[j]? = some y → w.cell? ⟨g, j, none⟩ = some y := by
  rcases h.2 with ⟨_, e2⟩ | ⟨g, cap, cur, e1, _, hg, _, _, _, ht⟩
  · omega
  · refine ⟨g, cap, e1, fun j y hj => ?_⟩
    have hl := h.1
    have hjl : j < n := by
      rcases Nat.lt_or_ge j xs.length with h2 | h2
      · omega
      · rw [List.getElem?_eq_none h2] at hj; cases hj
    rw [rowCell hg, ← hj, ← ht, List.getElem?_take_of_lt (by omega)]
    simp

/-- the handle that a step names -/
def namedV (l : List Int) (which : Int) : Int := if which < 0 ∨ l = [] then pickK which 65536 else l.getD (which % (l.length : Int)).toNat 0
theorem namedV_wd {l : List Int} (h : ∀ x ∈ l, wd x = true) (which : Int) : wd (namedV l which) = true := by
  unfold namedV
  split
  · have := pickK_bd which (m := 65536) (by decide)
    exact wd_iff.2 (by omega)
  · rename_i hn
    have hl : l ≠ [] := fun e => hn (Or.inr e)
    have h0 : 0 < l.length := List.length_pos_iff.2 hl
    have h1 : 0 ≤ which % (l.length : Int) := Int.emod_nonneg _ (by omega)
    have h2 : which % (l.length : Int) < (l.length : Int) := Int.emod_lt_of_pos _ (by omega)
    have h3 : (which % (l.length : Int)).toNat < l.length := by omega
    rw [List.getD_eq_getElem?_getD, List.getElem?_eq_getElem h3]
    exact h _ (List.getElem_mem h3)

set_option maxHeartbeats 1600000 in
theorem knamed_any {B0 : Nat} {w : World} {rb : Nat} {K : KRun} (t : Nat) (which : Int) (h : KAt B0 w rb K) (hg : KGood K.M K.gl) (ht : t < K.M.nt) (hw : inR which) :
    Calls Try.prog 28 #[.pointer (some ⟨rb, 0, none⟩), .int .i64 (t : Int), .int .i64 which] w fun e w' => e = .returned (.int .i64 (namedV (K.gl t) which)) ∧ w' = w := by
  have c4 : w.cell? ⟨rb, 4, none⟩ = some (.slice (some ⟨K.gb, 0, none⟩) K.M.nt K.M.nt) := rowCell h.row 4
  have ht2 : (t : Int) < (K.M.nt : Int) := by omega
  have hlen := hg.small h.inv.ok ht
  have own := h.gown t ht
  have cg0 : w.cell? ⟨K.gb, t, none⟩ = some (K.gv t) := by
    rw [rowCell h.garr]
    simp [KRun.gcells, ht]
  have HW : Hid (inR which) := hw
  obtain ⟨hw1, hw2⟩ := hw
  clear h hg
  by_cases h1 : which < 0
  · obtain ⟨va, vc, hv⟩ := owns_slice own
    rw [hv] at cg0
    have E : Hid (pickK which 65536 = namedV (K.gl t) which) := by show _ = _; unfold namedV; rw [if_pos (Or.inl h1)]
    clear own hv
    go_enter Try.func28, Try.ntmps28
    go_wp2_with fail
    refine (kpick_any which 65536 w HW.out (by decide) (by decide)).mono ?_
    rintro e w1 ⟨rfl, rfl⟩
    go_wp2
    go_ret
    exact ⟨ret_int E.out, rfl⟩
  · by_cases h2 : K.gl t = []
    · obtain ⟨va, vc, hv⟩ := owns_slice own
      rw [h2] at hv
      rw [hv] at cg0
      have E : Hid (pickK which 65536 = namedV (K.gl t) which) := by show _ = _; unfold namedV; rw [if_pos (Or.inr h2)]
      clear own hv h2
      go_enter Try.func28, Try.ntmps28
      go_wp2_with fail
      refine (kpick_any which 65536 w HW.out (by decide) (by decide)).mono ?_
      rintro e w1 ⟨rfl, rfl⟩
      go_wp2
      go_ret
      exact ⟨ret_int E.out, rfl⟩
    · have h0 : 0 < (K.gl t).length := List.length_pos_iff.2 h2
      obtain ⟨g, cap, hv, hc⟩ := owns_cell own h0
      rw [hv] at cg0
      have e1 : which.tmod ((K.gl t).length : Int) = which % ((K.gl t).length : Int) := Int.tmod_eq_emod_of_nonneg (by omega)
      have q1 : 0 ≤ which % ((K.gl t).length : Int) := Int.emod_nonneg _ (by omega)
      have q2 : which % ((K.gl t).length : Int) < ((K.gl t).length : Int) := Int.emod_lt_of_pos _ (by omega)
      obtain ⟨j, hj⟩ : ∃ j : Nat, which % ((K.gl t).length : Int) = (j : Int) := ⟨(which % ((K.gl t).length : Int)).toNat, by omega⟩
      have hjl : j < (K.gl t).length := by omega
      have cj : w.cell? ⟨g, j, none⟩ = some (.int .i64 ((K.gl t).getD j 0)) := hc j _ (by
        rw [List.getElem?_map, List.getElem?_eq_getElem hjl, List.getD_eq_getElem?_getD, List.getElem?_eq_getElem hjl]; rfl)
      obtain ⟨y, hy⟩ : ∃ y, y = (K.gl t).getD j 0 := ⟨_, rfl⟩
      rw [← hy] at cj
      have E : Hid (y = namedV (K.gl t) which) := by
        show _ = _
        unfold namedV
        rw [if_neg (by rintro (h | h); exact h1 h; exact h2 h), hj, hy]
        rfl
      rw [hj] at e1
      have hz : (((K.gl t).length : Int) == 0) = false := by simp; omega
      clear own hc hv h2 hj q1 q2 hy
      go_enter Try.func28, Try.ntmps28
      go_wp2
      go_ret
      exact ⟨ret_int E.out, rfl⟩

set_option maxHeartbeats 1600000 in
/-- what is left to a tenant -/
theorem kleft_any {B0 : Nat} {w : World} {rb : Nat} {K : KRun} (t : Nat) (h : KAt B0 w rb K) (ht : t < K.M.nt) (hu : K.M.used t ≤ K.M.ns) (hc : K.M.taken t ≤ K.M.nc) :
    Calls Try.prog 46 #[.pointer (some ⟨rb, 0, none⟩), .int .i64 (t : Int)] w fun e w' => e = .returned (.tuple #[.int .i64 ((K.M.ns : Int) - (K.M.used t : Int)), .int .i64 ((K.M.nc : Int) - (K.M.taken t : Int)), .bool true]) ∧ Below w.heap.size w w' := by
  have c0 : w.cell? ⟨rb, 0, none⟩ = some (.pointer (some ⟨K.gx, 0, none⟩)) := rowCell h.row 0
  have hns := h.inv.ok.ns
  have hnc := h.inv.ok.nc
  have hr := lt_of_row h.row
  have HH : Hid (KAt B0 w rb K) := h
  have hL : lookV K.M (t : Int) = .tuple #[.agg #[.int .i64 (K.M.used t : Int), .int .i64 (K.M.taken t : Int)], .int .i64 0] := by
    unfold lookV
    rw [if_pos (by simp [hasB]; omega)]
    rfl
  have hu2 : (K.M.used t : Int) ≤ (K.M.ns : Int) := by omega
  have hc2 : (K.M.taken t : Int) ≤ (K.M.nc : Int) := by omega
  clear h
  go_enter Try.func46, Try.ntmps46
  go_wp2_with fail
  refine (look_any (t : Int) HH.out.x HH.out.inv.ok).mono ?_
  rintro e w1 ⟨rfl, hb⟩
  rw [hL]
  have k1 := HH.out.below hb
  have hr1 := lt_of_row k1.row
  obtain ⟨W, hW⟩ : ∃ W, W = w1.alloc (.cells #[.int .i64 (K.M.used t : Int), .int .i64 (K.M.taken t : Int)] 76) := ⟨_, rfl⟩
  have hb2 : Below w.heap.size w W := hW ▸ hb.alloc hb.size _
  have k2 := HH.out.below hb2
  have d2 : W.cell? ⟨rb, 2, none⟩ = some (.int .i64 (K.M.ns : Int)) := rowCell k2.row 2
  have d3 : W.cell? ⟨rb, 3, none⟩ = some (.int .i64 (K.M.nc : Int)) := rowCell k2.row 3
  have n0 : W.cell? ⟨w1.heap.size, 0, none⟩ = some (.int .i64 (K.M.used t : Int)) := hW ▸ rowCell (newRowAt _ _) 0
  have n1 : W.cell? ⟨w1.heap.size, 1, none⟩ = some (.int .i64 (K.M.taken t : Int)) := hW ▸ rowCell (newRowAt _ _) 1
  have HB : Hid (Below w.heap.size w W ∧ W = w1.alloc (.cells #[.int .i64 (K.M.used t : Int), .int .i64 (K.M.taken t : Int)] 76)) := ⟨hb2, hW⟩
  have e1 : IntKind.i64.wrap ((K.M.ns : Int) - (K.M.used t : Int)) = (K.M.ns : Int) - (K.M.used t : Int) := Go.IntWalk.i64_in _ (by omega)
  have e2 : IntKind.i64.wrap ((K.M.nc : Int) - (K.M.taken t : Int)) = (K.M.nc : Int) - (K.M.taken t : Int) := Go.IntWalk.i64_in _ (by omega)
  clear hb k1 hL hW hb2 k2
  go_wp2_with fail
  rw [← HB.out.2]
  go_quiet (fail)
  go_wp2
  go_ret3
  exact ⟨rfl, HB.out.1.trans ((belowDrewN _ _ _).mono HB.out.1.size)⟩

end Go.Proofs.Ytkjjamigaamllaa
