/-
  New of both houses, and Look of all tenants of all houses.
-/
import Derived.Test.YtkjjamigaamllaaLawWorld
import Derived.Test.YtkjjamigaamllaaRefLaid
namespace Go.Proofs.Ytkjjamigaamllaa
open Go.RowKit
set_option linter.unusedSimpArgs false

set_option maxHeartbeats 3200000 in
set_option maxRecDepth 100000 in
theorem opened_good {B0 : Nat} {w : World} {b : Nat} {ops : Int} {n : Nat} {v : Value} {Ps : Nat → HPair} (t s c : Nat) (h : WAt B0 w b ops n v Ps) (hc : confB t s c = true) (hn : n ≤ 8796093022208) :
    Calls Try.prog 20 #[.pointer (some ⟨b, 0, none⟩), .agg #[.int .i64 (t : Int), .int .i64 (s : Int), .int .i64 (c : Int)]] w
      fun e w' => e = .returned (.bool true) ∧ ∃ v' Ps', WAt B0 w' b ops (n + 1) v' Ps' ∧ Below B0 w w' := by
  obtain ⟨va, vc, hv, _⟩ := owns_form h.own
  have HH : Hid (WAt B0 w b ops n v Ps ∧ v = .slice va n vc) := ⟨h, hv⟩
  clear h hv
  go_enter Try.func20, Try.ntmps20
  go_wp2_with fail
  refine (new_good t s c _ hc).mono ?_
  rintro e w1 ⟨rfl, hx, hb1⟩
  rw [sizeAlloc] at hx
  simp only [sizeAlloc] at hb1 ⊢
  obtain ⟨bx0, hbx0⟩ : ∃ bx0, bx0 = w.heap.size := ⟨_, rfl⟩
  have k1 := keepRow hb1 (by omega) (newRowAt w (.cells #[.int .i64 (t : Int), .int .i64 (s : Int), .int .i64 (c : Int)] 32))
  have z1 : w.heap.size + 1 ≤ w1.heap.size := hb1.size |> fun h => by rw [sizeAlloc] at h; exact h
  have B1 : Below w.heap.size w w1 := ((Below.refl w.heap.size w).alloc (Nat.le_refl _) _).trans (hb1.mono (by omega))
  have q0 := rowCell k1 0
  have q1 := rowCell k1 1
  have q2 := rowCell k1 2
  have HX : Hid (HAt w1 (w.heap.size + 1 + 1) (Mach.new t s c) id ∧ Below w.heap.size w w1 ∧ w.heap.size + 1 ≤ w1.heap.size) := ⟨hx, B1, z1⟩
  clear hb1 k1 B1 hx
  go_wp2_with fail
  refine (rnew_good t s c w1 hc).mono ?_
  rintro e w2 ⟨rfl, hy, hb2⟩
  have z2 := hb2.size
  have hx2 := HX.out.1.below hb2
  have B2 : Below w.heap.size w w2 := HX.out.2.1.trans (hb2.mono HX.out.2.1.size)
  have hW := HH.out.1.below B2
  have hbl : b < w2.heap.size := lt_of_row hW.row
  have d0 : w2.cell? ⟨b, 0, none⟩ = some (.slice va n vc) := by rw [← HH.out.2]; exact rowCell hW.row 0
  have HY : Hid (HAt w2 (w.heap.size + 1 + 1) (Mach.new t s c) id ∧ RAt w2 (w1.heap.size + 1) (RH.new t s c) RL.new ∧ Below w.heap.size w w2 ∧ WAt B0 w2 b ops n v Ps) := ⟨hx2, hy, B2, hW⟩
  clear hb2 hx2 B2 hW hy q0 q1 q2
  go_wp2_with (first
    | (at_builtin
       refine wpList_append_mine _ rfl _ _ 34 rfl 96 Try.t96 (.pointer none) 8 Try.underlying34 (by kernel_rfl) (by kernel_rfl) (by kernel_rfl) (by kernel_rfl) rfl (.slice va n vc) n (ptrs (fun i => (Ps i).pb) n) rfl ?c1 ⟨w2.heap.size + 1, 0, none⟩ (.pointer (some ⟨w2.heap.size, 0, none⟩)) rfl ?c2 rfl ?c3 ?c4 ?_
       rotate_left 4
       intro kk cap w3 hown hgr hkk
       have HP : Hid _ := HH.out.1.pushed HY.out.2.2.1 hc HY.out.1 HY.out.2.1 (by omega) (by have := HX.out.2.2; omega) (by have := HX.out.1.lt; omega) hown (by rw [HH.out.2]; exact hgr) (by rw [HH.out.2]; simpa using hkk)
       have r1 : w3.heap[b]? = some (.cells #[v, .int .i64 ops] 36 (0, 0)) := by
         have hne : some b ≠ v.ownBlock := fun e => by
           obtain ⟨_, cur, hcc⟩ := owns_lt HY.out.2.2.2.own e
           exact ne_of_type HY.out.2.2.2.row hcc (by decide) rfl
         rw [hgr.block b (by simp; omega) (by rw [← HH.out.2]; exact hne), Below.heap_alloc _ _ _ (by simp; omega), Below.heap_alloc _ _ _ hbl]
         exact HY.out.2.2.2.row
       have d0 := rowCell r1 0
       have e0 := rowFree r1 0
       clear hown hgr hkk r1))
  case c1 => exact owns_frame (HH.out.2 ▸ HY.out.2.2.2.own) (fun j hj => by
    have hj2 := (owns_lt HY.out.2.2.2.own (by rw [HH.out.2]; exact hj)).1
    rw [Below.heap_alloc _ _ _ (by simp; omega), Below.heap_alloc _ _ _ hj2])
  case c2 => exact newCell2 _ _ _ _ 0
  case c3 => unfold maxLen; omega
  case c4 => omega
  go_ret
  exact ⟨rfl, _, _, HP.out.1, HP.out.2⟩

set_option maxHeartbeats 3200000 in
set_option maxRecDepth 100000 in
theorem opened_bad {B0 : Nat} {w : World} {b : Nat} {ops : Int} {n : Nat} {v : Value} {Ps : Nat → HPair} (t s c : Int) (h : WAt B0 w b ops n v Ps) (hc : confB t s c = false) :
    Calls Try.prog 20 #[.pointer (some ⟨b, 0, none⟩), .agg #[.int .i64 t, .int .i64 s, .int .i64 c]] w
      fun e w' => e = .returned (.bool true) ∧ WAt B0 w' b ops n v Ps ∧ Below B0 w w' := by
  have HH : Hid (WAt B0 w b ops n v Ps) := h
  clear h
  go_enter Try.func20, Try.ntmps20
  go_wp2_with fail
  refine (new_bad t s c _ hc).mono ?_
  rintro e w1 ⟨rfl, hb1⟩
  simp only [sizeAlloc] at hb1
  have k1 := keepRow hb1 (by omega) (newRowAt w (.cells #[.int .i64 t, .int .i64 s, .int .i64 c] 32))
  have z1 : w.heap.size + 1 ≤ w1.heap.size := hb1.size |> fun h => by rw [sizeAlloc] at h; exact h
  have B1 : Below w.heap.size w w1 := ((Below.refl w.heap.size w).alloc (Nat.le_refl _) _).trans (hb1.mono (by omega))
  have q0 := rowCell k1 0
  have q1 := rowCell k1 1
  have q2 := rowCell k1 2
  have HX : Hid (Below w.heap.size w w1) := B1
  clear hb1 k1 B1
  go_wp2_with fail
  refine (rnew_bad t s c w1 hc).mono ?_
  rintro e w2 ⟨rfl, hb2⟩
  have HY : Hid (Below w.heap.size w w2) := HX.out.trans (hb2.mono HX.out.size)
  clear hb2 q0 q1 q2
  go_wp2
  go_ret
  exact ⟨rfl, HH.out.below HY.out, HY.out.mono HH.out.lt⟩

set_option maxHeartbeats 3200000 in
set_option maxRecDepth 100000 in
theorem all_any {B0 : Nat} {w : World} {b : Nat} {ops : Int} {n : Nat} {v : Value} {Ps : Nat → HPair} (h : WAt B0 w b ops n v Ps) (hn : n ≤ 8796093022209) :
    Calls Try.prog 21 #[.pointer (some ⟨b, 0, none⟩)] w fun e w' => e = .returned (.bool true) ∧ WAt B0 w' b ops n v Ps ∧ Below B0 w w' := by
  obtain ⟨va, vc, hv, _⟩ := owns_form h.own
  have HH : Hid (WAt B0 w b ops n v Ps ∧ v = .slice va n vc) := ⟨h, hv⟩
  have fin : Hid (∀ W, Below w.heap.size w W → WAt B0 W b ops n v Ps ∧ Below B0 w W) := fun W hW => ⟨h.below hW, hW.mono h.lt⟩
  have facts : Hid (∀ W, Below w.heap.size w W → W.cell? ⟨b, 0, none⟩ = some (.slice va n vc) ∧ ∀ i, i < n → ∃ ab, va = some ⟨ab, 0, none⟩ ∧ W.cell? ⟨ab, i, none⟩ = some (.pointer (some ⟨(Ps i).pb, 0, none⟩)) ∧ PairAt W (Ps i)) := by
    intro W hW
    have hh := h.below hW
    refine ⟨by rw [← hv]; exact rowCell hh.row 0, fun i hi => ?_⟩
    obtain ⟨a2, c2, e1, e2⟩ := owns_form hh.own
    rw [hv] at e1
    injection e1 with e3 e4 e5
    obtain ⟨ab, e6, e7⟩ := e2 i hi
    exact ⟨ab, e3.trans e6, e7.trans (ptrs_at hi), hh.pair i hi⟩
  clear h hv
  go_enter Try.func21, Try.ntmps21
  go_wp2
  go_loopw [3] (fun i W => ∃ k : Nat, k ≤ n ∧ i = .int .i64 (k : Int) ∧ Below w.heap.size w W) (fun i _ => n - (intOf i).toNat)
  case atStart => exact ⟨0, by omega, rfl, Below.refl _ _⟩
  case round =>
    obtain ⟨k, hk, rfl, hb⟩ := hrel
    obtain ⟨d0, dp⟩ := facts.out wr hb
    have HB : Hid (Below w.heap.size w wr) := hb
    clear hb
    by_cases hlt : k < n
    · have hlt2 : (k : Int) < (n : Int) := by omega
      obtain ⟨ab, rfl, cb, hP⟩ := dp k hlt
      have hP' : Hid (PairAt wr (Ps k)) := hP
      have r1 : wr.cell? ⟨(Ps k).pb, 1, none⟩ = some (.pointer (some ⟨(Ps k).gy, 0, none⟩)) := rowCell hP.row 1
      have y0 : wr.cell? ⟨(Ps k).gy, 0, none⟩ = some (.int .i64 ((Ps k).R.nt : Int)) := rowCell hP.y.row 0
      have hnt : (Ps k).R.nt ≤ 4 := hP.sim.rinv.ok.nt
      clear hP dp
      go_wp2
      obtain ⟨V, hVe⟩ : ∃ V, V = wr := ⟨_, rfl⟩
      subst hVe
      have keep : Hid (∀ W, Below V.heap.size V W → PairAt W (Ps k) ∧ Below w.heap.size w W) := fun W hW => ⟨hP'.out.below hW, HB.out.trans (hW.mono HB.out.size)⟩
      go_loopw [5] (fun i W => ∃ j : Nat, j ≤ (Ps k).R.nt + 2 ∧ i = .int .i64 ((j : Int) - 1) ∧ Below V.heap.size V W) (fun i _ => (Ps k).R.nt + 2 - (intOf i + 1).toNat)
      case atStart => exact ⟨0, by omega, rfl, Below.refl _ _⟩
      case round =>
        obtain ⟨j, hj, rfl, hb2⟩ := hrel
        obtain ⟨kp, kb⟩ := keep.out wr hb2
        have u1 : wr.cell? ⟨(Ps k).pb, 1, none⟩ = some (.pointer (some ⟨(Ps k).gy, 0, none⟩)) := rowCell kp.row 1
        have u0 : wr.cell? ⟨(Ps k).gy, 0, none⟩ = some (.int .i64 ((Ps k).R.nt : Int)) := rowCell kp.y.row 0
        have HK : Hid (PairAt wr (Ps k) ∧ Below w.heap.size w wr ∧ Below V.heap.size V wr) := ⟨kp, kb, hb2⟩
        clear kp kb hb2 d0 cb r1 y0
        by_cases hle : (j : Int) - 1 ≤ ((Ps k).R.nt : Int)
        · go_wp2_with fail
          refine (looked_any ((j : Int) - 1) HK.out.1).mono ?_
          rintro e w3 ⟨rfl, hb3⟩
          have HL : Hid (Below V.heap.size V w3) := HK.out.2.2.trans (hb3.mono HK.out.2.2.size)
          clear hb3 u1 u0
          go_wp2
          go_roundw
          case rel => exact ⟨j + 1, by omega, by simp, HL.out⟩
          case measure => simp [intOf]; omega
        · go_wp2
          go_roundw
          case rel => exact ⟨k + 1, by omega, rfl, HK.out.2.1⟩
          case measure => simp [intOf]; omega
    · obtain rfl : k = n := by omega
      go_wp2
      go_ret
      exact ⟨rfl, (fin.out _ HB.out).1, (fin.out _ HB.out).2⟩

end Go.Proofs.Ytkjjamigaamllaa
