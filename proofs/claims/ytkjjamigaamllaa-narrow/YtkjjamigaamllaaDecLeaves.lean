/-
  What the small functions that read bytes return.
-/
import Derived.Test.YtkjjamigaamllaaJoinWire
import Derived.RegionTactic
import Derived.ChangeAlike
import Derived.Deep.QuietTactic
import Derived.BigQuiet
namespace Go.Proofs.Ytkjjamigaamllaa
open Go.RowKit

/-- the byte at a place, 0 where there is none -/
def byt (s : ByteArray) (i : Nat) : Int := if h : i < s.size then (s[i].toNat : Int) else 0
/-- the number of so many bytes from a place on -/
def num (s : ByteArray) (a : Nat) : Nat → Int
  | 0 => 0
  | k + 1 => num s a k * 256 + byt s (a + k)

theorem byt_in {s : ByteArray} {i : Nat} (h : i < s.size) : (s[i].toNat : Int) = byt s i := by unfold byt; rw [dif_pos h]
theorem byt_bd (s : ByteArray) (i : Nat) : 0 ≤ byt s i ∧ byt s i ≤ 255 := by
  unfold byt
  split
  · rename_i h; have := s[i].toNat_lt; omega
  · omega
theorem ret_int {k : IntKind} {a b : Int} (h : a = b) : Ending.returned (.int k a) = .returned (.int k b) := by rw [h]

/-- the number in two bytes from a place on, 0 where there are none -/
def atN (s : ByteArray) (i : Nat) : Int := if i + 1 < s.size then num s i 2 else 0
theorem atN_yes {s : ByteArray} {i : Nat} (h : i + 1 < s.size) : 256 * (s[i].toNat : Int) + (s[i + 1].toNat : Int) = atN s i := by
  unfold atN
  rw [if_pos h, byt_in (show i < s.size by omega), byt_in h]
  simp [num]
  omega
theorem atN_no {s : ByteArray} {i : Nat} (h : ¬ i + 1 < s.size) : 0 = atN s i := by unfold atN; rw [if_neg h]
theorem byt_no {s : ByteArray} {i : Nat} (h : ¬ i < s.size) : 0 = byt s i := by unfold byt; rw [dif_neg h]
theorem wrap_byte (b : UInt8) : wrap64 (b.toNat : Int) = (b.toNat : Int) := by have := b.toNat_lt; unfold wrap64; omega
theorem i64_byte (b : UInt8) : IntKind.i64.wrap (b.toNat : Int) = (b.toNat : Int) := by
  have := b.toNat_lt
  exact Go.IntWalk.i64_in _ (by omega)
theorem wrap_two (a b : UInt8) : wrap64 (wrap64 (256 * (a.toNat : Int)) + (b.toNat : Int)) = 256 * (a.toNat : Int) + (b.toNat : Int) := by
  have := a.toNat_lt
  have := b.toNat_lt
  unfold wrap64
  omega
theorem num_bd (s : ByteArray) (a k : Nat) (hk : k ≤ 1) : 0 ≤ num s a k ∧ num s a k ≤ 255 := by
  match k, hk with
  | 0, _ => simp [num]
  | 1, _ => have := byt_bd s a; simp [num]; omega
theorem num_bd2 (s : ByteArray) (a k : Nat) (hk : k ≤ 2) : 0 ≤ num s a k ∧ num s a k ≤ 65535 := by
  match k, hk with
  | 0, _ => simp [num]
  | 1, _ => have := byt_bd s a; simp [num]; omega
  | 2, _ => have := byt_bd s a; have := byt_bd s (a + 1); simp [num]; omega

set_option maxHeartbeats 1000000 in
theorem numberAt_nat (s : ByteArray) (a m : Nat) (w : World) (_hs : s.size ≤ 140737488355328) (hm : m ≤ 2) (hf : a + m ≤ s.size) :
    Calls Try.prog 53 #[.string s, .int .i64 (a : Int), .int .i64 (m : Int)] w fun e w' => e = .returned (.int .i64 (num s a m)) ∧ w' = w := by
  go_enter Try.func53, Try.ntmps53
  go_wp2
  go_loop [7, 8] (fun n i => ∃ j : Nat, a ≤ j ∧ j ≤ a + m ∧ i = .int .i64 (j : Int) ∧ n = .int .i64 (num s a (j - a))) (fun _ i => a + m - (intOf i).toNat)
  case atStart => exact ⟨a, Nat.le_refl _, by omega, rfl, by simp [num]⟩
  case round =>
    obtain ⟨j, hj1, hj2, rfl, rfl⟩ := hrel
    by_cases hlt : j < a + m
    · have hb := num_bd s a (j - a) (by omega)
      obtain ⟨hb0, hb1⟩ := hb
      have hin : j < s.size := by omega
      have hsn : num s a (j + 1 - a) = num s a (j - a) * 256 + (s[j].toNat : Int) := by
        have e : j + 1 - a = (j - a) + 1 := by omega
        rw [e, byt_in hin]
        simp only [num]
        have e2 : a + (j - a) = j := by omega
        rw [e2]
      have HS : Hid (num s a (j + 1 - a) = num s a (j - a) * 256 + (s[j].toNat : Int)) := hsn
      clear hsn
      have hu := s[j].toNat_lt
      go_wp2
      go_round
      case rel => exact ⟨j + 1, by omega, by omega, by go_num, by rw [HS.out]⟩
      case measure => simp [intOf]; omega
    · have e : j = a + m := by omega
      subst e
      go_wp2
      go_ret
      exact ⟨rfl, rfl⟩

theorem numberAt_any (s : ByteArray) (a m : Int) (w : World) (hs : s.size ≤ 140737488355328) (ha : 0 ≤ a) (hm0 : 0 ≤ m) (hm : m ≤ 2) (hf : a + m ≤ (s.size : Int)) :
    Calls Try.prog 53 #[.string s, .int .i64 a, .int .i64 m] w fun e w' => e = .returned (.int .i64 (num s a.toNat m.toNat)) ∧ w' = w := by
  obtain ⟨x, rfl⟩ := Int.eq_ofNat_of_zero_le ha
  obtain ⟨y, rfl⟩ := Int.eq_ofNat_of_zero_le hm0
  rw [Int.toNat_natCast, Int.toNat_natCast]
  exact numberAt_nat s x y w hs (by omega) (by omega)

end Go.Proofs.Ytkjjamigaamllaa
