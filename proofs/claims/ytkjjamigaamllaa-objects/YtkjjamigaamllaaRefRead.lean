/-
  The functions of the document's house that only read: needs, chunks, slot, held, Look.
-/
import Derived.Test.YtkjjamigaamllaaRefBase
import Derived.Test.YtkjjamigaamllaaHouseLook
namespace Go.Proofs.Ytkjjamigaamllaa
open Go.RowKit
set_option linter.unusedSimpArgs false

set_option maxHeartbeats 400000 in
theorem needs_any (n : Nat) (w : World) (hn : n ≤ 65535) :
    Calls Try.prog 96 #[.int .i64 (n : Int)] w fun e w' => e = .returned (.int .i64 ((chunksN n : Nat) : Int)) ∧ w' = w := by
  go_enter Try.func96, Try.ntmps96
  go_wp2
  go_loop [3] (fun i => ∃ k : Nat, k ≤ chunksN n ∧ i = .int .i64 (k : Int)) (fun i => chunksN n - (intOf i).toNat)
  case atStart => exact ⟨0, by omega, rfl⟩
  case round =>
    obtain ⟨k, hk, rfl⟩ := hrel
    have HK : Hid (k ≤ chunksN n) := hk
    have hk2 : k ≤ 8192 := by unfold chunksN at hk; omega
    clear hk
    by_cases hlt : 8 * (k : Int) < (n : Int)
    · go_wp2
      go_round
      case rel => exact ⟨k + 1, by unfold chunksN; omega, rfl⟩
      case measure => have : k < chunksN n := by (unfold chunksN; omega)
                      simp [intOf]; omega
    · have : Hid (k = chunksN n) := by have := HK.out; show k = chunksN n; unfold chunksN at this ⊢; omega
      go_wp2
      go_ret
      exact ⟨ret_int (by rw [← this.out]), rfl⟩

theorem chunks_bd {R : RH} (ok : R.Ok) (t : Int) (k : Nat) (hk : k ≤ R.nO) : sumN (fun i => if (R.O i).owner == t && !(R.O i).gone then chunksN (R.O i).bytes.length else 0) k ≤ 8388608 := by
  have h1 := sumN_le (f := fun i => if (R.O i).owner == t && !(R.O i).gone then chunksN (R.O i).bytes.length else 0) (c := 32) k (fun n _ => by
    have := ok.bytes n
    show (if (R.O n).owner == t && !(R.O n).gone then chunksN (R.O n).bytes.length else 0) ≤ 32
    split
    · unfold chunksN; omega
    · omega)
  have := ok.nO
  omega

set_option maxHeartbeats 1600000 in
theorem chunks_any {g : Nat} {R : RH} {L : RL} {w : World} (t : Int) (h : RAt w g R L) (ok : R.Ok) :
    Calls Try.prog 85 #[.pointer (some ⟨g, 0, none⟩), .int .i64 t] w fun e w' => e = .returned (.int .i64 (R.chunks t : Int)) ∧ w' = w := by
  obtain ⟨a, cap, hv, hob⟩ := h.object
  have c3 : w.cell? ⟨g, 3, none⟩ = some (.slice a R.nO cap) := by rw [← hv]; exact rowCell h.row 3
  have hnO := ok.nO
  have HH : Hid (RAt w g R L ∧ R.Ok ∧ ∀ i, i < R.nO → ∃ b, a = some ⟨b, 0, none⟩ ∧ w.cell? ⟨b, i, none⟩ = some (.pointer (some ⟨L.ob i, 0, none⟩))) := ⟨h, ok, hob⟩
  clear h ok hob hv
  go_enter Try.func85, Try.ntmps85
  go_wp2
  go_loop [5, 6] (fun n i => ∃ k c : Nat, k ≤ R.nO ∧ i = .int .i64 (k : Int) ∧ n = .int .i64 (c : Int) ∧ c = sumN (fun i => if (R.O i).owner == t && !(R.O i).gone then chunksN (R.O i).bytes.length else 0) k) (fun _ i => R.nO - (intOf i).toNat)
  case atStart => exact ⟨0, 0, by omega, rfl, rfl, rfl⟩
  case round =>
    obtain ⟨k, c, hk, rfl, rfl, hc⟩ := hrel
    have HN : Hid (c = sumN (fun i => if (R.O i).owner == t && !(R.O i).gone then chunksN (R.O i).bytes.length else 0) k) := hc
    have hc2 : c ≤ 8388608 := by rw [hc]; exact chunks_bd HH.out.2.1 t k hk
    clear hc
    by_cases hlt : k < R.nO
    · have hlt2 : (k : Int) < (R.nO : Int) := by omega
      obtain ⟨b, rfl, cb⟩ := HH.out.2.2 k hlt
      have o0 : w.cell? ⟨L.ob k, 0, none⟩ = some (.int .i64 (R.O k).owner) := rowCell (HH.out.1.oAt k hlt) 0
      have o1 : w.cell? ⟨L.ob k, 1, none⟩ = some (.slice (some ⟨L.by_ k, 0, none⟩) (R.O k).bytes.length (R.O k).bytes.length) := rowCell (HH.out.1.oAt k hlt) 1
      have o2 : w.cell? ⟨L.ob k, 2, none⟩ = some (.bool (R.O k).gone) := rowCell (HH.out.1.oAt k hlt) 2
      have hb := HH.out.2.1.bytes k
      by_cases ht : (R.O k).owner = t
      · cases hg : (R.O k).gone with
        | true =>
          rw [hg] at o2
          have ht2 : ((R.O k).owner == t) = true := by simp [ht]
          go_wp2
          go_round
          case rel => exact ⟨k + 1, c, by omega, rfl, rfl, by simp only [sumN, hg]; rw [HN.out]; simp⟩
          case measure => simp [intOf]; omega
        | false =>
          rw [hg] at o2
          have ht2 : ((R.O k).owner == t) = true := by simp [ht]
          have hz : chunksN (R.O k).bytes.length ≤ 32 := by unfold chunksN; omega
          go_wp2_with fail
          refine (needs_any (R.O k).bytes.length _ (by omega)).mono ?_
          rintro e w1 ⟨rfl, rfl⟩
          go_wp2
          go_round
          case rel => exact ⟨k + 1, c + chunksN (R.O k).bytes.length, by omega, rfl, rfl, by simp only [sumN, hg, ht2]; rw [HN.out]; simp⟩
          case measure => simp [intOf]; omega
      · have ht2 : ((R.O k).owner == t) = false := by simp [ht]
        go_wp2
        go_round
        case rel => exact ⟨k + 1, c, by omega, rfl, rfl, by simp only [sumN, ht2]; rw [HN.out]; simp⟩
        case measure => simp [intOf]; omega
    · obtain rfl : k = R.nO := by omega
      go_wp2
      go_ret
      exact ⟨ret_int (by rw [HN.out]; rfl), rfl⟩

theorem count_bd {R : RH} (t s : Int) (k : Nat) : sumN (fun i => if (R.T i).here t s then 1 else 0) k ≤ k := by
  have h1 := sumN_le (f := fun i => if (R.T i).here t s then 1 else 0) (c := 1) k (fun n _ => by show (if (R.T n).here t s then 1 else 0) ≤ 1; split <;> omega)
  omega

set_option maxHeartbeats 1600000 in
theorem slot_any {g : Nat} {R : RH} {L : RL} {w : World} (t s : Int) (h : RAt w g R L) (ok : R.Ok) :
    Calls Try.prog 102 #[.pointer (some ⟨g, 0, none⟩), .int .i64 t, .int .i64 s] w fun e w' => e = .returned (.tuple #[.bool (R.holds t s), .int .i64 (R.count t s : Int)]) ∧ w' = w := by
  obtain ⟨a, cap, hv, hob⟩ := h.thing
  have c4 : w.cell? ⟨g, 4, none⟩ = some (.slice a R.nT cap) := by rw [← hv]; exact rowCell h.row 4
  have hnT := ok.nT
  have HH : Hid (RAt w g R L ∧ R.Ok ∧ ∀ i, i < R.nT → ∃ b, a = some ⟨b, 0, none⟩ ∧ w.cell? ⟨b, i, none⟩ = some (.pointer (some ⟨L.th i, 0, none⟩))) := ⟨h, ok, hob⟩
  clear h ok hob hv
  go_enter Try.func102, Try.ntmps102
  go_wp2
  go_loop [8, 9, 10] (fun x n i => ∃ (k c : Nat) (b : Bool), k ≤ R.nT ∧ i = .int .i64 (k : Int) ∧ n = .int .i64 (c : Int) ∧ x = .bool b ∧ c = sumN (fun i => if (R.T i).here t s then 1 else 0) k ∧ b = anyN (fun i => (R.T i).here t s && !(R.T i).dead) k) (fun _ _ i => R.nT - (intOf i).toNat)
  case atStart => exact ⟨0, 0, false, by omega, rfl, rfl, rfl, rfl, rfl⟩
  case round =>
    obtain ⟨k, c, b, hk, rfl, rfl, rfl, hc, hb⟩ := hrel
    have HN : Hid (c = sumN (fun i => if (R.T i).here t s then 1 else 0) k ∧ b = anyN (fun i => (R.T i).here t s && !(R.T i).dead) k) := ⟨hc, hb⟩
    have hc2 : c ≤ 262144 := by rw [hc]; have := count_bd (R := R) t s k; omega
    clear hc hb
    by_cases hlt : k < R.nT
    · have hlt2 : (k : Int) < (R.nT : Int) := by omega
      obtain ⟨ab, rfl, cb⟩ := HH.out.2.2 k hlt
      have o0 : w.cell? ⟨L.th k, 0, none⟩ = some (.int .i64 (R.T k).tenant) := rowCell (HH.out.1.tAt k hlt) 0
      have o1 : w.cell? ⟨L.th k, 1, none⟩ = some (.int .i64 (R.T k).slot) := rowCell (HH.out.1.tAt k hlt) 1
      have o8 : w.cell? ⟨L.th k, 8, none⟩ = some (.bool (R.T k).dead) := rowCell (HH.out.1.tAt k hlt) 8
      by_cases ht : (R.T k).tenant = t
      · have ht2 : ((R.T k).tenant == t) = true := by simp [ht]
        by_cases hs : (R.T k).slot = s
        · have hs2 : ((R.T k).slot == s) = true := by simp [hs]
          have hh : Hid ((R.T k).here t s = true) := by show _ = _; unfold RThing.here; rw [ht2, hs2]; rfl
          cases b <;>
          · go_wp2
            go_round
            case rel => exact ⟨k + 1, c + 1, _, by omega, rfl, rfl, rfl, by simp only [sumN, hh.out]; rw [HN.out.1]; simp, by simp only [anyN, hh.out]; rw [← HN.out.2]; simp⟩
            case measure => simp [intOf]; omega
        · have hs2 : ((R.T k).slot == s) = false := by simp [hs]
          have hh : Hid ((R.T k).here t s = false) := by show _ = _; unfold RThing.here; rw [ht2, hs2]; rfl
          go_wp2
          go_round
          case rel => exact ⟨k + 1, c, b, by omega, rfl, rfl, rfl, by simp only [sumN, hh.out]; rw [HN.out.1]; simp, by simp only [anyN, hh.out]; rw [← HN.out.2]; simp⟩
          case measure => simp [intOf]; omega
      · have ht2 : ((R.T k).tenant == t) = false := by simp [ht]
        have hh : Hid ((R.T k).here t s = false) := by show _ = _; unfold RThing.here; rw [ht2]; rfl
        go_wp2
        go_round
        case rel => exact ⟨k + 1, c, b, by omega, rfl, rfl, rfl, by simp only [sumN, hh.out]; rw [HN.out.1]; simp, by simp only [anyN, hh.out]; rw [← HN.out.2]; simp⟩
        case measure => simp [intOf]; omega
    · obtain rfl : k = R.nT := by omega
      go_wp2
      go_ret2
      exact ⟨by rw [show R.holds t s = b from HN.out.2.symm, show R.count t s = c from HN.out.1.symm]; rfl, rfl⟩

/-- what held answers -/
def heldN (R : RH) (t h : Int) : Int := match R.held t h with
  | some i => (i : Int)
  | none => -1

set_option maxHeartbeats 1600000 in
theorem held_any {g : Nat} {R : RH} {L : RL} {w : World} (t x : Int) (h : RAt w g R L) (ok : R.Ok) :
    Calls Try.prog 98 #[.pointer (some ⟨g, 0, none⟩), .int .i64 t, .int .i64 x] w fun e w' => e = .returned (.int .i64 (heldN R t x)) ∧ w' = w := by
  obtain ⟨a, cap, hv, hob⟩ := h.thing
  have c4 : w.cell? ⟨g, 4, none⟩ = some (.slice a R.nT cap) := by rw [← hv]; exact rowCell h.row 4
  have hnT := ok.nT
  have HH : Hid (RAt w g R L ∧ R.Ok ∧ ∀ i, i < R.nT → ∃ b, a = some ⟨b, 0, none⟩ ∧ w.cell? ⟨b, i, none⟩ = some (.pointer (some ⟨L.th i, 0, none⟩))) := ⟨h, ok, hob⟩
  clear h ok hob hv
  go_enter Try.func98, Try.ntmps98
  go_wp2
  go_loop [7] (fun i => ∃ k : Nat, k ≤ R.nT ∧ i = .int .i64 (k : Int) ∧ ∀ j, j < k → ((R.T j).tenant == t && (R.T j).handle == x && !(R.T j).dead) = false) (fun i => R.nT - (intOf i).toNat)
  case atStart => exact ⟨0, by omega, rfl, fun j hj => by omega⟩
  case round =>
    obtain ⟨k, hk, rfl, hno⟩ := hrel
    have HN : Hid (∀ j, j < k → ((R.T j).tenant == t && (R.T j).handle == x && !(R.T j).dead) = false) := hno
    clear hno
    have next : Hid (((R.T k).tenant == t && (R.T k).handle == x && !(R.T k).dead) = false → ∀ j, j < k + 1 → ((R.T j).tenant == t && (R.T j).handle == x && !(R.T j).dead) = false) := by
      intro hf j hj
      by_cases hj2 : j < k
      · exact HN.out j hj2
      · obtain rfl : j = k := by omega
        exact hf
    by_cases hlt : k < R.nT
    · have hlt2 : (k : Int) < (R.nT : Int) := by omega
      obtain ⟨ab, rfl, cb⟩ := HH.out.2.2 k hlt
      have o0 : w.cell? ⟨L.th k, 0, none⟩ = some (.int .i64 (R.T k).tenant) := rowCell (HH.out.1.tAt k hlt) 0
      have o2 : w.cell? ⟨L.th k, 2, none⟩ = some (.int .i64 (R.T k).handle) := rowCell (HH.out.1.tAt k hlt) 2
      have o8 : w.cell? ⟨L.th k, 8, none⟩ = some (.bool (R.T k).dead) := rowCell (HH.out.1.tAt k hlt) 8
      by_cases ht : (R.T k).tenant = t
      · have ht2 : ((R.T k).tenant == t) = true := by simp [ht]
        by_cases hs : (R.T k).handle = x
        · have hs2 : ((R.T k).handle == x) = true := by simp [hs]
          cases hd : (R.T k).dead with
          | true =>
            rw [hd] at o8
            have hN := next.out (by simp [hd])
            have HQ : Hid (∀ j, j < k + 1 → ((R.T j).tenant == t && (R.T j).handle == x && !(R.T j).dead) = false) := hN
            clear hN
            go_wp2
            go_round
            case rel => exact ⟨k + 1, by omega, rfl, HQ.out⟩
            case measure => simp [intOf]; omega
          | false =>
            rw [hd] at o8
            have HQ : Hid (heldN R t x = (k : Int)) := by
              show _ = _
              have : R.held t x = some k := firstN_some hlt (by simp [ht, hs, hd]) HN.out
              unfold heldN
              rw [this]
            go_wp2
            go_ret
            exact ⟨ret_int HQ.out.symm, rfl⟩
        · have hs2 : ((R.T k).handle == x) = false := by simp [hs]
          have HQ : Hid (∀ j, j < k + 1 → ((R.T j).tenant == t && (R.T j).handle == x && !(R.T j).dead) = false) := next.out (by simp [hs])
          go_wp2
          go_round
          case rel => exact ⟨k + 1, by omega, rfl, HQ.out⟩
          case measure => simp [intOf]; omega
      · have ht2 : ((R.T k).tenant == t) = false := by simp [ht]
        have HQ : Hid (∀ j, j < k + 1 → ((R.T j).tenant == t && (R.T j).handle == x && !(R.T j).dead) = false) := next.out (by simp [ht])
        go_wp2
        go_round
        case rel => exact ⟨k + 1, by omega, rfl, HQ.out⟩
        case measure => simp [intOf]; omega
    · obtain rfl : k = R.nT := by omega
      have HQ : Hid (heldN R t x = -1) := by
        show _ = _
        have : R.held t x = none := firstN_none HN.out
        unfold heldN
        rw [this]
      go_wp2
      go_ret
      exact ⟨ret_int HQ.out.symm, rfl⟩

end Go.Proofs.Ytkjjamigaamllaa
