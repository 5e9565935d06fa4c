/-
  Look and New, by the landed house.
-/
import Derived.Test.YtkjjamigaamllaaHousePut
namespace Go.Proofs.Ytkjjamigaamllaa
open Go.RowKit
set_option linter.unusedSimpArgs false

/-- what Look answers -/
def lookV (M : Mach) (t : Int) : Value :=
  if hasB M.nt t = true then .tuple #[.agg #[.int .i64 (M.used t.toNat : Int), .int .i64 (M.taken t.toNat : Int)], .int .i64 0] else .tuple #[.agg #[.int .i64 0, .int .i64 0], .int .i64 3]

theorem used_bd {M : Mach} (ok : M.Ok) (t k : Nat) (hk : k ≤ M.ns) : sumN (fun n => if (M.s (16 * t + n)).full then 1 else 0) k ≤ 16 := by
  have h1 := sumN_le (f := fun n => if (M.s (16 * t + n)).full then 1 else 0) (c := 1) k (fun n _ => by show (if (M.s (16 * t + n)).full then 1 else 0) ≤ 1; split <;> omega)
  have := ok.ns
  omega

set_option maxHeartbeats 1600000 in
theorem look_any {g : Nat} {M : Mach} {bl : Nat → Nat} {w : World} (t : Int) (h : HAt w g M bl) (ok : M.Ok) :
    Calls Try.prog 45 #[.pointer (some ⟨g, 0, none⟩), .int .i64 t] w fun e w' => e = .returned (lookV M t) ∧ Below w.heap.size w w' := by
  have hnt := ok.nt
  have hns := ok.ns
  have hg := h.lt
  have HH : Hid (HAt w g M bl ∧ M.Ok) := ⟨h, ok⟩
  have hV0 : Hid (∀ N, HAt (w.alloc N) g M bl) := fun N => h.below ((Below.refl _ _).alloc (Nat.le_refl _) _)
  clear h ok
  cases hb : hasB M.nt t with
  | false =>
    have hL : Hid (lookV M t = .tuple #[.agg #[.int .i64 0, .int .i64 0], .int .i64 3]) := by show _ = _; unfold lookV; rw [hb]; rfl
    go_enter Try.func45, Try.ntmps45
    go_wp2_with fail
    refine (has_any t (hV0.out _)).mono ?_
    rintro e w1 ⟨rfl, rfl⟩
    rw [hb]
    go_wp2
    exact bodyPost_ret (v := .tuple #[.agg #[.int .i64 0, .int .i64 0], .int .i64 3]) (by simp [results, Try.results45, go_sem]) rfl ⟨by rw [hL.out], (Below.refl _ _).alloc (Nat.le_refl _) _⟩
  | true =>
    obtain ⟨n, rfl⟩ : ∃ n : Nat, t = (n : Int) := ⟨t.toNat, by simp [hasB] at hb; omega⟩
    have hn : n < 4 := by simp [hasB] at hb; omega
    have hL : Hid (lookV M (n : Int) = .tuple #[.agg #[.int .i64 (M.used n : Int), .int .i64 (M.taken n : Int)], .int .i64 0]) := by show _ = _; unfold lookV; rw [hb]; rfl
    have htk : M.taken n ≤ 512 := taken_bd HH.out.2 n M.ns (Nat.le_refl _)
    go_enter Try.func45, Try.ntmps45
    go_wp2_with fail
    refine (has_any (n : Int) (hV0.out _)).mono ?_
    rintro e w1 ⟨rfl, rfl⟩
    rw [hb]
    go_wp2_with fail
    refine (chunksTaken_any n (hV0.out _) HH.out.2 hn).mono ?_
    rintro e w1 ⟨rfl, rfl⟩
    go_wp2
    go_loopw [7] (fun i W => ∃ k c : Nat, k ≤ M.ns ∧ i = .int .i64 (k : Int) ∧ c = sumN (fun j => if (M.s (16 * n + j)).full then 1 else 0) k ∧ W = (w.alloc (.cells #[.int .i64 0, .int .i64 0] 76)).alloc (.cells #[.int .i64 (c : Int), .int .i64 (M.taken n : Int)] 76)) (fun i _ => M.ns - (intOf i).toNat)
    case atStart => exact ⟨0, 0, by omega, rfl, rfl, rfl⟩
    case round =>
      obtain ⟨k, c, hk, rfl, hc, rfl⟩ := hrel
      have hX : Hid (∀ N N', HAt ((w.alloc N).alloc N') g M bl) := fun N N' => HH.out.1.below (((Below.refl _ _).alloc (Nat.le_refl _) _).alloc (by simp) _)
      have HC : Hid (c = sumN (fun j => if (M.s (16 * n + j)).full then 1 else 0) k) := hc
      have hc16 : c ≤ 16 := by rw [hc]; exact used_bd HH.out.2 n k hk
      clear hc
      have c1 := HH.out.1.c1
      by_cases hlt : k < M.ns
      · have hlt2 : (k : Int) < (M.ns : Int) := by omega
        have cf := HH.out.1.full (16 * n + k) (by omega)
        cases hf : (M.s (16 * n + k)).full with
        | false =>
          rw [hf] at cf
          go_wp2_with fail
          refine (placeOf_any n k _ hn (by omega)).mono ?_
          rintro e w1 ⟨rfl, rfl⟩
          go_wp2
          go_roundw
          case rel => exact ⟨k + 1, c, by omega, rfl, by simp only [sumN, hf]; rw [HC.out]; rfl, rfl⟩
          case measure => simp [intOf]; omega
        | true =>
          rw [hf] at cf
          go_wp2_with fail
          refine (placeOf_any n k _ hn (by omega)).mono ?_
          rintro e w1 ⟨rfl, rfl⟩
          go_wp2
          go_roundw
          case rel => exact ⟨k + 1, c + 1, by omega, rfl, by simp only [sumN, hf]; rw [HC.out]; rfl, rfl⟩
          case measure => simp [intOf]; omega
      · obtain rfl : k = M.ns := by omega
        go_wp2
        exact bodyPost_ret (v := .tuple #[.agg #[.int .i64 (c : Int), .int .i64 (M.taken n : Int)], .int .i64 0]) (by simp [results, Try.results45, go_sem]) rfl ⟨by rw [hL.out, HC.out]; rfl, ((Below.refl _ _).alloc (Nat.le_refl _) _).alloc (by simp) _⟩

end Go.Proofs.Ytkjjamigaamllaa
