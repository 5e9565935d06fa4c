/-
  The law Opens, walked.
-/
import Derived.Test.YtkjjamigaamllaaLawOpened
namespace Go.Proofs.Ytkjjamigaamllaa
open Go.RowKit
set_option linter.unusedSimpArgs false

set_option maxHeartbeats 400000 in
theorem some_any (w : World) : Calls Try.prog 19 #[] w fun e w' => e = .returned (.agg #[.int .i64 2, .int .i64 3, .int .i64 4]) ∧ Below w.heap.size w w' := by
  go_enter Try.func19, Try.ntmps19
  go_wp2
  exact bodyPost_ret (v := .agg #[.int .i64 2, .int .i64 3, .int .i64 4]) (by simp [results, Try.results19, go_sem]) rfl ⟨rfl, (Below.refl _ _).alloc (Nat.le_refl _) _⟩

theorem opened_any {B0 : Nat} {w : World} {b : Nat} {ops : Int} {n : Nat} {v : Value} {Ps : Nat → HPair} (t s c : Int) (h : WAt B0 w b ops n v Ps) (hn : n ≤ 8796093022208) :
    Calls Try.prog 20 #[.pointer (some ⟨b, 0, none⟩), .agg #[.int .i64 t, .int .i64 s, .int .i64 c]] w
      fun e w' => e = .returned (.bool true) ∧ ∃ n' v' Ps', WAt B0 w' b ops n' v' Ps' ∧ Below B0 w w' ∧ n ≤ n' ∧ n' ≤ n + 1 ∧ (confB t s c = true → n' = n + 1) := by
  cases hc : confB t s c with
  | false =>
    refine (opened_bad t s c h hc).mono ?_
    rintro e w' ⟨rfl, h1, h2⟩
    exact ⟨rfl, n, v, Ps, h1, h2, Nat.le_refl _, by omega, fun h => (by cases h)⟩
  | true =>
    obtain ⟨t', rfl⟩ : ∃ t' : Nat, t = (t' : Int) := ⟨t.toNat, by simp [confB] at hc; omega⟩
    obtain ⟨s', rfl⟩ : ∃ s' : Nat, s = (s' : Int) := ⟨s.toNat, by simp [confB] at hc; omega⟩
    obtain ⟨c', rfl⟩ : ∃ c' : Nat, c = (c' : Int) := ⟨c.toNat, by simp [confB] at hc; omega⟩
    refine (opened_good t' s' c' h hc hn).mono ?_
    rintro e w' ⟨rfl, v', Ps', h1, h2⟩
    exact ⟨rfl, n + 1, v', Ps', h1, h2, by omega, by omega, fun _ => rfl⟩

/-- a world without a house yet -/
theorem world_new {w : World} {b : Nat} {ops : Int} {B0 : Nat} (h : w.heap[b]? = some (.cells #[.slice none 0 0, .int .i64 ops] 36 (0, 0))) (hb : B0 ≤ b) : WAt B0 w b ops 0 (.slice none 0 0) (fun _ => ⟨0, Mach.new 0 0 0, id, 0, RH.new 0 0 0, RL.new, 0⟩) :=
  ⟨h, ⟨rfl, Or.inl ⟨rfl, rfl⟩⟩, fun i hi => absurd hi (Nat.not_lt_zero _), fun i j hi => absurd hi (Nat.not_lt_zero _), fun i hi => absurd hi (Nat.not_lt_zero _), fun i hi => absurd hi (Nat.not_lt_zero _), hb, fun k hk => (by cases hk), fun i hi => absurd hi (Nat.not_lt_zero _)⟩

set_option maxHeartbeats 1600000 in
set_option maxRecDepth 100000 in
theorem opens_any (t s c : Int) (w : World) :
    Calls Try.prog 5 #[.agg #[.int .i64 t, .int .i64 s, .int .i64 c]] w fun e w' => e = .returned (.bool true) ∧ Below w.heap.size w w' := by
  go_enter Try.func5, Try.ntmps5
  go_wp2_with fail
  refine (some_any _).mono ?_
  rintro e w1 ⟨rfl, hb1⟩
  have z1 := hb1.size
  simp only [sizeAlloc] at z1
  have rC := keepRow hb1 (by simp; omega) ((Below.heap_alloc _ _ _ (by simp)).trans (newRowAt w (.cells #[.int .i64 t, .int .i64 s, .int .i64 c] 32)))
  have rW0 := newRowAt (w.alloc (.cells #[.int .i64 t, .int .i64 s, .int .i64 c] 32)) (.cells #[.slice none 0 0, .int .i64 0] 36)
  rw [sizeAlloc] at rW0
  have rW := keepRow hb1 (by simp) rW0
  have B1 : Below w.heap.size w w1 := (((Below.refl w.heap.size w).alloc (Nat.le_refl _) _).alloc (by simp) _).trans (hb1.mono (by simp; omega))
  obtain ⟨V, hV⟩ : ∃ V, V = w1.alloc (.cells #[.int .i64 2, .int .i64 3, .int .i64 4] 32) := ⟨_, rfl⟩
  have hVb : Below w1.heap.size w1 V := hV ▸ (Below.refl _ _).alloc (Nat.le_refl _) _
  have rC2 := keepRow hVb (by omega) rC
  have rW2 := keepRow hVb (by omega) rW
  have q0 := rowCell rC2 0
  have q1 := rowCell rC2 1
  have q2 := rowCell rC2 2
  have HX : Hid (WAt (w.heap.size + 1) V (w.heap.size + 1) 0 0 (.slice none 0 0) (fun _ => ⟨0, Mach.new 0 0 0, id, 0, RH.new 0 0 0, RL.new, 0⟩) ∧ Below w.heap.size w V ∧ V = w1.alloc (.cells #[.int .i64 2, .int .i64 3, .int .i64 4] 32) ∧ V.heap[w.heap.size]? = some (.cells #[.int .i64 t, .int .i64 s, .int .i64 c] 32 (0, 0))) :=
    ⟨world_new rW2 (Nat.le_refl _), B1.trans (hVb.mono B1.size), hV, rC2⟩
  clear hb1 rC rW0 rW B1 hVb rC2 rW2 hV
  go_wp2_with fail
  rw [← HX.out.2.2.1]
  refine (opened_any 2 3 4 HX.out.1 (by omega)).mono ?_
  rintro e w2 ⟨rfl, n1, v1, P1, hW1, hB1, hn1, hn2, hn3⟩
  have hn1e : n1 = 1 := hn3 (by decide)
  subst hn1e
  have z2 := hB1.size
  have rC3 := keepRow hB1 (by omega) HX.out.2.2.2
  have u0 := rowCell rC3 0
  have u1 := rowCell rC3 1
  have u2 := rowCell rC3 2
  have HY : Hid (WAt (w.heap.size + 1) w2 (w.heap.size + 1) 0 1 v1 P1 ∧ Below w.heap.size w w2) := ⟨hW1, HX.out.2.1.trans (hB1.mono (by omega))⟩
  clear hW1 hB1 rC3 hn1 hn2 hn3 q0 q1 q2
  go_wp2_with fail
  refine (opened_any t s c HY.out.1 (by omega)).mono ?_
  rintro e w3 ⟨rfl, n2, v2, P2, hW2, hB2, hn1, hn2, hn3⟩
  have HZ : Hid (WAt (w.heap.size + 1) w3 (w.heap.size + 1) 0 n2 v2 P2 ∧ Below w.heap.size w w3) := ⟨hW2, HY.out.2.trans (hB2.mono (by omega))⟩
  clear hW2 hB2 hn3 u0 u1 u2
  go_wp2_with fail
  refine (all_any HZ.out.1 (by omega)).mono ?_
  rintro e w4 ⟨rfl, hW3, hB3⟩
  obtain ⟨va, vc, hv, _⟩ := owns_form hW3.own
  have x0 : w4.cell? ⟨w.heap.size + 1, 0, none⟩ = some (.slice va n2 vc) := by rw [← hv]; exact rowCell hW3.row 0
  have HB : Hid (Below w.heap.size w w4) := HZ.out.2.trans (hB3.mono (by omega))
  have hpos : (0 : Int) < (n2 : Int) := by omega
  clear hW3 hB3 hv
  go_wp2
  go_ret
  exact ⟨ret_bool (by simp; omega), HB.out⟩

end Go.Proofs.Ytkjjamigaamllaa
