/-
  Look and New, by the document's house.
-/
import Derived.Test.YtkjjamigaamllaaRefRead
import Derived.Test.YtkjjamigaamllaaHouseNew
namespace Go.Proofs.Ytkjjamigaamllaa
open Go.RowKit
set_option linter.unusedSimpArgs false

def rlookV (R : RH) (t : Int) : Value :=
  if hasB R.nt t = true then .tuple #[.agg #[.int .i64 (R.live t : Int), .int .i64 (R.chunks t : Int)], .int .i64 0] else .tuple #[.agg #[.int .i64 0, .int .i64 0], .int .i64 3]

theorem live_bd {R : RH} (t : Int) (k : Nat) : sumN (fun i => if (R.T i).tenant == t && !(R.T i).dead then 1 else 0) k ≤ k := by
  have h1 := sumN_le (f := fun i => if (R.T i).tenant == t && !(R.T i).dead then 1 else 0) (c := 1) k (fun n _ => by show (if (R.T n).tenant == t && !(R.T n).dead then 1 else 0) ≤ 1; split <;> omega)
  omega

set_option maxHeartbeats 1600000 in
theorem rlook_any {g : Nat} {R : RH} {L : RL} {w : World} (t : Int) (h : RAt w g R L) (ok : R.Ok) :
    Calls Try.prog 69 #[.pointer (some ⟨g, 0, none⟩), .int .i64 t] w fun e w' => e = .returned (rlookV R t) ∧ Below w.heap.size w w' := by
  have hnt := ok.nt
  have hnT := ok.nT
  have hg := lt_of_row h.row
  have hb0 : Below w.heap.size w (w.alloc (.cells #[.int .i64 0, .int .i64 0] 76)) := (Below.refl _ _).alloc (Nat.le_refl _) _
  have h1 := h.below hb0
  obtain ⟨W, hW⟩ : ∃ W, W = w.alloc (.cells #[.int .i64 0, .int .i64 0] 76) := ⟨_, rfl⟩
  have c0 : w.cell? ⟨g, 0, none⟩ = some (.int .i64 (R.nt : Int)) := rowCell h.row 0
  by_cases hneg : t < 0
  · have hL : Hid (rlookV R t = .tuple #[.agg #[.int .i64 0, .int .i64 0], .int .i64 3]) := by show _ = _; unfold rlookV; rw [if_neg (by simp [hasB]; omega)]
    clear h h1 hW W hb0
    go_enter Try.func69, Try.ntmps69
    go_wp2
    exact bodyPost_ret (v := .tuple #[.agg #[.int .i64 0, .int .i64 0], .int .i64 3]) (by simp [results, Try.results69, go_sem]) rfl ⟨by rw [hL.out], (Below.refl _ _).alloc (Nat.le_refl _) _⟩
  · by_cases hge : (R.nt : Int) ≤ t
    · have hL : Hid (rlookV R t = .tuple #[.agg #[.int .i64 0, .int .i64 0], .int .i64 3]) := by show _ = _; unfold rlookV; rw [if_neg (by simp [hasB]; omega)]
      clear h h1 hW W hb0
      go_enter Try.func69, Try.ntmps69
      go_wp2
      exact bodyPost_ret (v := .tuple #[.agg #[.int .i64 0, .int .i64 0], .int .i64 3]) (by simp [results, Try.results69, go_sem]) rfl ⟨by rw [hL.out], (Below.refl _ _).alloc (Nat.le_refl _) _⟩
    · have hL : Hid (rlookV R t = .tuple #[.agg #[.int .i64 (R.live t : Int), .int .i64 (R.chunks t : Int)], .int .i64 0]) := by show _ = _; unfold rlookV; rw [if_pos (by simp [hasB]; omega)]
      obtain ⟨a, cap, hv, hob⟩ := h1.thing
      have c4 : w.cell? ⟨g, 4, none⟩ = some (.slice a R.nT cap) := by rw [← hv]; exact rowCell h.row 4
      have hcb := chunks_bd ok t R.nO (Nat.le_refl _)
      have HC : Hid (R.chunks t ≤ 8388608) := hcb
      rw [← hW] at h1 hob
      have HH : Hid (RAt W g R L ∧ R.Ok ∧ (∀ i, i < R.nT → ∃ b, a = some ⟨b, 0, none⟩ ∧ W.cell? ⟨b, i, none⟩ = some (.pointer (some ⟨L.th i, 0, none⟩))) ∧ W = w.alloc (.cells #[.int .i64 0, .int .i64 0] 76)) := ⟨h1, ok, hob, hW⟩
      clear h h1 hob hv ok hb0 hW hcb
      go_enter Try.func69, Try.ntmps69
      go_wp2
      rw [← HH.out.2.2.2]
      have d4 : W.cell? ⟨g, 4, none⟩ = some (.slice a R.nT cap) := by
        rw [HH.out.2.2.2, ((Below.refl w.heap.size w).alloc (Nat.le_refl _) _).cell (p := ⟨g, 4, none⟩) hg]
        exact c4
      have v0 : W.cell? ⟨w.heap.size, 0, none⟩ = some (.int .i64 0) := by rw [HH.out.2.2.2]; exact rowCell (newRowAt _ _) 0
      have v1 : W.cell? ⟨w.heap.size, 1, none⟩ = some (.int .i64 0) := by rw [HH.out.2.2.2]; exact rowCell (newRowAt _ _) 1
      have u0 : W.frozen? ⟨w.heap.size, 0, none⟩ = false := by rw [HH.out.2.2.2]; exact rowFree (newRowAt _ _) 0
      have u1 : W.frozen? ⟨w.heap.size, 1, none⟩ = false := by rw [HH.out.2.2.2]; exact rowFree (newRowAt _ _) 1
      clear c4
      go_loop [6, 7] (fun n i => ∃ k c : Nat, k ≤ R.nT ∧ i = .int .i64 (k : Int) ∧ n = .int .i64 (c : Int) ∧ c = sumN (fun i => if (R.T i).tenant == t && !(R.T i).dead then 1 else 0) k) (fun _ i => R.nT - (intOf i).toNat)
      case atStart => exact ⟨0, 0, by omega, rfl, rfl, rfl⟩
      case round =>
        obtain ⟨k, c, hk, rfl, rfl, hc⟩ := hrel
        have HN : Hid (c = sumN (fun i => if (R.T i).tenant == t && !(R.T i).dead then 1 else 0) k) := hc
        have hc2 : c ≤ 262144 := by rw [hc]; have := live_bd (R := R) t k; omega
        clear hc
        by_cases hlt : k < R.nT
        · have hlt2 : (k : Int) < (R.nT : Int) := by omega
          obtain ⟨ab, rfl, cb⟩ := HH.out.2.2.1 k hlt
          have o0 : W.cell? ⟨L.th k, 0, none⟩ = some (.int .i64 (R.T k).tenant) := rowCell (HH.out.1.tAt k hlt) 0
          have o8 : W.cell? ⟨L.th k, 8, none⟩ = some (.bool (R.T k).dead) := rowCell (HH.out.1.tAt k hlt) 8
          by_cases ht : (R.T k).tenant = t
          · have ht2 : ((R.T k).tenant == t) = true := by simp [ht]
            cases hd : (R.T k).dead with
            | true =>
              rw [hd] at o8
              go_wp2
              go_round
              case rel => exact ⟨k + 1, c, by omega, rfl, rfl, by simp only [sumN, hd]; rw [HN.out]; simp⟩
              case measure => simp [intOf]; omega
            | false =>
              rw [hd] at o8
              go_wp2
              go_round
              case rel => exact ⟨k + 1, c + 1, by omega, rfl, rfl, by simp only [sumN, hd, ht2]; rw [HN.out]; simp⟩
              case measure => simp [intOf]; omega
          · have ht2 : ((R.T k).tenant == t) = false := by simp [ht]
            go_wp2
            go_round
            case rel => exact ⟨k + 1, c, by omega, rfl, rfl, by simp only [sumN, ht2]; rw [HN.out]; simp⟩
            case measure => simp [intOf]; omega
        · obtain rfl : k = R.nT := by omega
          have HN2 : Hid (R.live t = c) := HN.out.symm
          go_wp2_with fail
          refine (chunks_any t HH.out.1 HH.out.2.1).mono ?_
          rintro e w1 ⟨rfl, rfl⟩
          go_wp2
          refine bodyPost_ret (v := .tuple #[.agg #[.int .i64 (c : Int), .int .i64 (R.chunks t : Int)], .int .i64 0]) (by simp [results, Try.results69, go_sem, *]) rfl ⟨by rw [hL.out, HN2.out], ?_⟩
          have hb1 : Below w.heap.size w w1 := by rw [HH.out.2.2.2]; exact (Below.refl _ _).alloc (Nat.le_refl _) _
          exact (hb1.setCell (p := ⟨w.heap.size, 0, none⟩) (Nat.le_refl _) _).setCell (p := ⟨w.heap.size, 1, none⟩) (Nat.le_refl _) _

/-- a new house of the document -/
def RH.new (t s c : Nat) : RH := ⟨t, s, c, 0, fun _ => ⟨0, [], true⟩, 0, fun _ => ⟨0, 0, 0, 0, 0, 0, 0, 0, true⟩⟩
def RL.new : RL := ⟨.slice none 0 0, .slice none 0 0, id, id, id⟩

set_option maxHeartbeats 1600000 in
set_option maxRecDepth 100000 in
theorem rnew_good (t s c : Nat) (w : World) (h : confB t s c = true) :
    Calls Try.prog 56 #[.agg #[.int .i64 (t : Int), .int .i64 (s : Int), .int .i64 (c : Int)]] w fun e w' => e = .returned (.tuple #[.pointer (some ⟨w.heap.size + 1, 0, none⟩), .int .i64 0]) ∧ RAt w' (w.heap.size + 1) (RH.new t s c) RL.new ∧ Below w.heap.size w w' := by
  have hh : 1 ≤ (t : Int) ∧ (t : Int) ≤ 4 ∧ 1 ≤ (s : Int) ∧ (s : Int) ≤ 16 ∧ 1 ≤ (c : Int) ∧ (c : Int) ≤ 32 := by simp [confB] at h; omega
  obtain ⟨h1, h2, h3, h4, h5, h6⟩ := hh
  clear h
  go_enter Try.func56, Try.ntmps56
  go_wp2
  go_ret2
  refine ⟨rfl, ⟨?_, ⟨rfl, Or.inl ⟨rfl, rfl⟩⟩, ⟨rfl, Or.inl ⟨rfl, rfl⟩⟩, fun i hi => absurd hi (Nat.not_lt_zero _), fun i hi => absurd hi (Nat.not_lt_zero _), fun i hi => absurd hi (Nat.not_lt_zero _), fun i j hi => absurd hi (Nat.not_lt_zero _), fun i j hi => absurd hi (Nat.not_lt_zero _), fun i j hi => absurd hi (Nat.not_lt_zero _)⟩, ((Below.refl _ _).alloc (Nat.le_refl _) _).alloc (by simp) _⟩
  have := newRowAt (w.alloc (Obj.cells #[.int .i64 (t : Int), .int .i64 (s : Int), .int .i64 (c : Int)] 32)) (Obj.cells #[.int .i64 (t : Int), .int .i64 (s : Int), .int .i64 (c : Int), .slice none 0 0, .slice none 0 0] 102)
  rw [sizeAlloc] at this
  exact this

set_option maxHeartbeats 1600000 in
set_option maxRecDepth 100000 in
theorem rnew_bad (t s c : Int) (w : World) (h : confB t s c = false) :
    Calls Try.prog 56 #[.agg #[.int .i64 t, .int .i64 s, .int .i64 c]] w fun e w' => e = .returned (.tuple #[.pointer none, .int .i64 2]) ∧ Below w.heap.size w w' := by
  have hh : t < 1 ∨ (1 ≤ t ∧ 4 < t) ∨ (1 ≤ t ∧ t ≤ 4 ∧ s < 1) ∨ (1 ≤ t ∧ t ≤ 4 ∧ 1 ≤ s ∧ 16 < s) ∨ (1 ≤ t ∧ t ≤ 4 ∧ 1 ≤ s ∧ s ≤ 16 ∧ c < 1) ∨ (1 ≤ t ∧ t ≤ 4 ∧ 1 ≤ s ∧ s ≤ 16 ∧ 1 ≤ c ∧ 32 < c) := by simp [confB] at h; omega
  clear h
  rcases hh with h1 | ⟨h1, h2⟩ | ⟨h1, h2, h3⟩ | ⟨h1, h2, h3, h4⟩ | ⟨h1, h2, h3, h4, h5⟩ | ⟨h1, h2, h3, h4, h5, h6⟩ <;>
  · go_enter Try.func56, Try.ntmps56
    go_wp2
    go_ret2
    exact ⟨rfl, (Below.refl _ _).alloc (Nat.le_refl _) _⟩
end Go.Proofs.Ytkjjamigaamllaa
