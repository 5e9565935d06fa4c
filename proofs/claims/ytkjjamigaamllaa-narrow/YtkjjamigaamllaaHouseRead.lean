/-
  The functions of the landed house that only read: has, placeOf, chunksFor, handleAt, find, next, chunksTaken.
-/
import Derived.Test.YtkjjamigaamllaaHouseBase
namespace Go.Proofs.Ytkjjamigaamllaa
open Go.RowKit
set_option linter.unusedSimpArgs false

theorem ret_int {k : IntKind} {a b : Int} (h : a = b) : Ending.returned (.int k a) = .returned (.int k b) := by rw [h]
theorem Try.cSlot : Try.prog.cellsOf 112 = 8 := by kernel_rfl

/-- is it a tenant's number? -/
def hasB (n : Nat) (t : Int) : Bool := decide (0 ≤ t) && decide (t < (n : Int))

set_option maxHeartbeats 400000 in
theorem has_any {g : Nat} {M : Mach} {bl : Nat → Nat} {w : World} (t : Int) (h : HAt w g M bl) :
    Calls Try.prog 63 #[.pointer (some ⟨g, 0, none⟩), .int .i64 t] w fun e w' => e = .returned (.bool (hasB M.nt t)) ∧ w' = w := by
  have c0 := h.c0
  by_cases h1 : 0 ≤ t
  · go_enter Try.func63, Try.ntmps63
    go_wp2
    go_ret
    exact ⟨ret_bool (by simp [hasB, h1]), rfl⟩
  · go_enter Try.func63, Try.ntmps63
    go_wp2
    go_ret
    exact ⟨ret_bool (by simp [hasB]; intro h2; omega), rfl⟩

set_option maxHeartbeats 400000 in
theorem placeOf_any (t n : Nat) (w : World) (ht : t < 4) (hn : n < 16) :
    Calls Try.prog 67 #[.int .i64 (t : Int), .int .i64 (n : Int)] w fun e w' => e = .returned (.int .i64 ((16 * t + n : Nat) : Int)) ∧ w' = w := by
  go_enter Try.func67, Try.ntmps67
  go_wp2
  go_ret
  exact ⟨by simp, rfl⟩

theorem chunks_int (n : Nat) : ((n : Int) + 8 - 1).tdiv 8 = ((chunksN n : Nat) : Int) := by
  rw [Int.tdiv_eq_ediv_of_nonneg (by omega)]
  unfold chunksN
  omega

set_option maxHeartbeats 400000 in
theorem chunksFor_any (n : Nat) (w : World) (hn : n ≤ 65535) :
    Calls Try.prog 84 #[.int .i64 (n : Int)] w fun e w' => e = .returned (.int .i64 ((chunksN n : Nat) : Int)) ∧ w' = w := by
  go_enter Try.func84, Try.ntmps84
  go_wp2
  go_ret
  exact ⟨by simp [chunksN]; omega, rfl⟩

set_option maxHeartbeats 400000 in
theorem handleAt_any {g : Nat} {M : Mach} {bl : Nat → Nat} {w : World} (p : Nat) (h : HAt w g M bl) (ok : M.Ok) (hp : p < 64) :
    Calls Try.prog 93 #[.pointer (some ⟨g, 0, none⟩), .int .i64 (p : Int)] w fun e w' => e = .returned (.int .i64 (M.handle p)) ∧ w' = w := by
  have cu := h.uses p hp
  have hu := ok.uses p
  go_enter Try.func93, Try.ntmps93
  go_wp2
  go_ret
  exact ⟨rfl, rfl⟩

theorem handle_bd {M : Mach} (ok : M.Ok) (p : Nat) : -16 ≤ M.handle p ∧ M.handle p ≤ 65535 := by
  have := ok.uses p
  unfold Mach.handle
  omega

/-- what find answers -/
def findV (M : Mach) (t : Nat) (h : Int) : Value := match M.find t h with
  | some n => .tuple #[.int .i64 ((16 * t + n : Nat) : Int), .bool true]
  | none => .tuple #[.int .i64 0, .bool false]
def nextV (M : Mach) (t : Nat) : Value := match M.next t with
  | some n => .tuple #[.int .i64 ((16 * t + n : Nat) : Int), .bool true]
  | none => .tuple #[.int .i64 0, .bool false]

set_option maxHeartbeats 800000 in
theorem find_any {g : Nat} {M : Mach} {bl : Nat → Nat} {w : World} (t : Nat) (x : Int) (h : HAt w g M bl) (ok : M.Ok) (ht : t < 4) :
    Calls Try.prog 75 #[.pointer (some ⟨g, 0, none⟩), .int .i64 (t : Int), .int .i64 x] w fun e w' => e = .returned (findV M t x) ∧ w' = w := by
  have c1 := h.c1
  have HH : Hid (HAt w g M bl ∧ M.Ok) := ⟨h, ok⟩
  have hns := ok.ns
  clear h ok
  go_enter Try.func75, Try.ntmps75
  go_wp2
  go_loop [8] (fun i => ∃ k : Nat, k ≤ M.ns ∧ i = .int .i64 (k : Int) ∧ ∀ j, j < k → ((M.s (16 * t + j)).full && M.handle (16 * t + j) == x) = false) (fun i => M.ns - (intOf i).toNat)
  case atStart => exact ⟨0, by omega, rfl, fun j hj => by omega⟩
  case round =>
    obtain ⟨k, hk, rfl, hno⟩ := hrel
    have HN : Hid (∀ j, j < k → ((M.s (16 * t + j)).full && M.handle (16 * t + j) == x) = false) := hno
    clear hno
    by_cases hlt : k < M.ns
    · have hlt2 : (k : Int) < (M.ns : Int) := by omega
      have cf := HH.out.1.full (16 * t + k) (by omega)
      cases hf : (M.s (16 * t + k)).full with
      | false =>
        rw [hf] at cf
        go_wp2_with fail
        refine (placeOf_any t k _ ht (by omega)).mono ?_
        rintro e w1 ⟨rfl, rfl⟩
        go_wp2
        go_round
        case rel =>
          refine ⟨k + 1, by omega, rfl, fun j hj => ?_⟩
          by_cases hj2 : j < k
          · exact HN.out j hj2
          · obtain rfl : j = k := by omega
            simp [hf]
        case measure => simp [intOf]; omega
      | true =>
        rw [hf] at cf
        go_wp2_with fail
        refine (placeOf_any t k _ ht (by omega)).mono ?_
        rintro e w1 ⟨rfl, rfl⟩
        go_wp2_with fail
        refine (handleAt_any (16 * t + k) HH.out.1 HH.out.2 (by omega)).mono ?_
        rintro e w1 ⟨rfl, rfl⟩
        by_cases he : M.handle (16 * t + k) = x
        · have he2 : (M.handle (16 * t + k) == x) = true := by simp [he]
          go_wp2
          go_ret2
          refine ⟨?_, rfl⟩
          have : M.find t x = some k := firstN_some hlt (by simp [hf, he]) HN.out
          simp [findV, this]
        · have he2 : (M.handle (16 * t + k) == x) = false := by simp [he]
          go_wp2
          go_round
          case rel =>
            refine ⟨k + 1, by omega, rfl, fun j hj => ?_⟩
            by_cases hj2 : j < k
            · exact HN.out j hj2
            · obtain rfl : j = k := by omega
              simp [he2]
          case measure => simp [intOf]; omega
    · obtain rfl : k = M.ns := by omega
      go_wp2
      go_ret2
      refine ⟨?_, rfl⟩
      have : M.find t x = none := firstN_none HN.out
      simp [findV, this]

set_option maxHeartbeats 800000 in
theorem next_any {g : Nat} {M : Mach} {bl : Nat → Nat} {w : World} (t : Nat) (h : HAt w g M bl) (ok : M.Ok) (ht : t < 4) :
    Calls Try.prog 90 #[.pointer (some ⟨g, 0, none⟩), .int .i64 (t : Int)] w fun e w' => e = .returned (nextV M t) ∧ w' = w := by
  have c1 := h.c1
  have HH : Hid (HAt w g M bl ∧ M.Ok) := ⟨h, ok⟩
  have hns := ok.ns
  clear h ok
  go_enter Try.func90, Try.ntmps90
  go_wp2
  go_loop [6] (fun i => ∃ k : Nat, k ≤ M.ns ∧ i = .int .i64 (k : Int) ∧ ∀ j, j < k → (!(M.s (16 * t + j)).full && decide ((M.s (16 * t + j)).uses ≤ 4095)) = false) (fun i => M.ns - (intOf i).toNat)
  case atStart => exact ⟨0, by omega, rfl, fun j hj => by omega⟩
  case round =>
    obtain ⟨k, hk, rfl, hno⟩ := hrel
    have HN : Hid (∀ j, j < k → (!(M.s (16 * t + j)).full && decide ((M.s (16 * t + j)).uses ≤ 4095)) = false) := hno
    clear hno
    by_cases hlt : k < M.ns
    · have hlt2 : (k : Int) < (M.ns : Int) := by omega
      have cf := HH.out.1.full (16 * t + k) (by omega)
      have cu := HH.out.1.uses (16 * t + k) (by omega)
      have hu := HH.out.2.uses (16 * t + k)
      cases hf : (M.s (16 * t + k)).full with
      | true =>
        rw [hf] at cf
        go_wp2_with fail
        refine (placeOf_any t k _ ht (by omega)).mono ?_
        rintro e w1 ⟨rfl, rfl⟩
        go_wp2
        go_round
        case rel =>
          refine ⟨k + 1, by omega, rfl, fun j hj => ?_⟩
          by_cases hj2 : j < k
          · exact HN.out j hj2
          · obtain rfl : j = k := by omega
            simp [hf]
        case measure => simp [intOf]; omega
      | false =>
        rw [hf] at cf
        go_wp2_with fail
        refine (placeOf_any t k _ ht (by omega)).mono ?_
        rintro e w1 ⟨rfl, rfl⟩
        by_cases he : (M.s (16 * t + k)).uses ≤ 4095
        · have he2 : ((M.s (16 * t + k)).uses : Int) ≤ 4095 := by omega
          go_wp2
          go_ret2
          refine ⟨?_, rfl⟩
          have : M.next t = some k := firstN_some hlt (by simp [hf, he]) HN.out
          simp [nextV, this]
        · have he2 : ¬ ((M.s (16 * t + k)).uses : Int) ≤ 4095 := by omega
          go_wp2
          go_round
          case rel =>
            refine ⟨k + 1, by omega, rfl, fun j hj => ?_⟩
            by_cases hj2 : j < k
            · exact HN.out j hj2
            · obtain rfl : j = k := by omega
              simp [he]
          case measure => simp [intOf]; omega
    · obtain rfl : k = M.ns := by omega
      go_wp2
      go_ret2
      refine ⟨?_, rfl⟩
      have : M.next t = none := firstN_none HN.out
      simp [nextV, this]

theorem taken_bd {M : Mach} (ok : M.Ok) (t k : Nat) (hk : k ≤ M.ns) : sumN (fun n => chunksN (M.s (16 * t + n)).bytes.length) k ≤ 512 := by
  have h1 := sumN_le (f := fun n => chunksN (M.s (16 * t + n)).bytes.length) (c := 32) k (fun n _ => by have := ok.bytes (16 * t + n); simp only [chunksN]; omega)
  have := ok.ns
  omega

theorem bytesV_slice (l : List Int) (b : Nat) : ∃ a, bytesV l b = .slice a l.length l.length := by
  unfold bytesV
  split
  · rename_i h; subst h; exact ⟨_, rfl⟩
  · exact ⟨_, rfl⟩

set_option maxHeartbeats 800000 in
theorem chunksTaken_any {g : Nat} {M : Mach} {bl : Nat → Nat} {w : World} (t : Nat) (h : HAt w g M bl) (ok : M.Ok) (ht : t < 4) :
    Calls Try.prog 66 #[.pointer (some ⟨g, 0, none⟩), .int .i64 (t : Int)] w fun e w' => e = .returned (.int .i64 (M.taken t : Int)) ∧ w' = w := by
  have c1 := h.c1
  have HH : Hid (HAt w g M bl ∧ M.Ok) := ⟨h, ok⟩
  have hns := ok.ns
  clear h ok
  go_enter Try.func66, Try.ntmps66
  go_wp2
  go_loop [5, 6] (fun n i => ∃ k c : Nat, k ≤ M.ns ∧ i = .int .i64 (k : Int) ∧ n = .int .i64 (c : Int) ∧ c = sumN (fun n => chunksN (M.s (16 * t + n)).bytes.length) k) (fun _ i => M.ns - (intOf i).toNat)
  case atStart => exact ⟨0, 0, by omega, rfl, rfl, rfl⟩
  case round =>
    obtain ⟨k, c, hk, rfl, rfl, hc⟩ := hrel
    have HN : Hid (c = sumN (fun n => chunksN (M.s (16 * t + n)).bytes.length) k) := hc
    have hc2 : c ≤ 512 := by rw [hc]; exact taken_bd HH.out.2 t k hk
    clear hc
    by_cases hlt : k < M.ns
    · have hlt2 : (k : Int) < (M.ns : Int) := by omega
      have cb := HH.out.1.bytes (16 * t + k) (by omega)
      have hb := HH.out.2.bytes (16 * t + k)
      obtain ⟨a, ha⟩ := bytesV_slice (M.s (16 * t + k)).bytes (bl (16 * t + k))
      rw [ha] at cb
      go_wp2_with fail
      refine (placeOf_any t k _ ht (by omega)).mono ?_
      rintro e w1 ⟨rfl, rfl⟩
      go_wp2_with fail
      refine (chunksFor_any (M.s (16 * t + k)).bytes.length _ (by omega)).mono ?_
      rintro e w1 ⟨rfl, rfl⟩
      have hz : chunksN (M.s (16 * t + k)).bytes.length ≤ 32 := by unfold chunksN; omega
      go_wp2
      go_round
      case rel => exact ⟨k + 1, c + chunksN (M.s (16 * t + k)).bytes.length, by omega, rfl, rfl, by simp only [sumN]; rw [HN.out]⟩
      case measure => simp [intOf]; omega
    · obtain rfl : k = M.ns := by omega
      go_wp2
      go_ret
      exact ⟨ret_int (by rw [HN.out]; rfl), rfl⟩

end Go.Proofs.Ytkjjamigaamllaa
