/-
  What tenurekeep.request returns, a short string.
-/
import Derived.Test.YtkjjamigaamllaaBackReqEnds
import Derived.OpenShut
namespace Go.Proofs.Ytkjjamigaamllaa
open Go.RowKit
set_option linter.unusedSimpArgs false

set_option maxRecDepth 100000 in
set_option maxHeartbeats 4000000 in
theorem request_short (c : Int) (a : Option Addr) (len cap : Nat) (zs : List Int) (s : ByteArray) (w : World) (hc : inR c) (hrow : IsRow .i64 w a len cap zs) (hs : s.size ≤ 140737488355328) (hlen : len ≤ 140737488355328) (h64 : ¬ 64 < s.size) :
    Calls Try.prog 25 #[.int .i64 c, .slice a len cap, .string s] w
      fun e w' => ∃ (op h o l r t : Int) (d : ByteArray), e = .returned (.tuple #[.agg #[.int .i64 op, .int .i64 h, .int .i64 o, .int .i64 l, .int .i64 r, .int .i64 t, .string d], .int .i64 ((bodyS op h o l r t d).size : Int)]) ∧ okB op h o l r t d.size = true ∧ Below w.heap.size w w' := by
  have hmk : ∀ w, (Instr.makeSlice 44 (.int .i64 4) (.int .i64 4)).run Try.prog w = .ok (.slice (some ⟨w.heap.size, 0, none⟩) 4 4) (w.alloc (.cells #[.int .i64 0, .int .i64 0, .int .i64 0, .int .i64 0] 3)) := fun _ => by kernel_rfl
  -- the elements, read in every later world
  have hel : ∀ k : Nat, k < len → ∃ (b off : Nat) (z : Int), a = some ⟨b, off, none⟩ ∧ inR z ∧ ∀ W, Below w.heap.size w W → W.cell? ⟨b, off + k, none⟩ = some (.int .i64 z) := by
    intro k hk
    rcases hrow with ⟨_, h0, _, _⟩ | ⟨x, rfl, hl, _, hzl, hcell, hwf⟩
    · omega
    · obtain ⟨b, off, rfl, hce⟩ := ints_at hcell (by omega)
      refine ⟨b, off, zs.getD k 0, rfl, ?_, fun W hb => cell_later hb (hce k (by omega))⟩
      have hk2 : k < zs.length := by omega
      have hmem : zs.getD k 0 ∈ zs := by simp [List.getD_eq_getElem?_getD, List.getElem?_eq_getElem hk2]
      exact bounds_i64 (hwf _ hmem)
  have HE : Hid (∀ k : Nat, k < len → ∃ (b off : Nat) (z : Int), a = some ⟨b, off, none⟩ ∧ inR z ∧ ∀ W, Below w.heap.size w W → W.cell? ⟨b, off + k, none⟩ = some (.int .i64 z)) := hel
  clear hel hrow
  go_enter Try.func25, Try.ntmps25
  go_wp2
  go_loopw [9] (fun i W => ∃ (k : Nat) (z0 z1 z2 z3 : Int), k ≤ 4 ∧ i = .int .i64 (k : Int) ∧ inR z0 ∧ inR z1 ∧ inR z2 ∧ inR z3 ∧ W = (w.alloc (.cells #[.int .i64 0, .int .i64 0, .int .i64 0, .int .i64 0, .int .i64 0, .int .i64 0, .string ⟨#[]⟩] 23)).alloc (.cells #[.int .i64 z0, .int .i64 z1, .int .i64 z2, .int .i64 z3] 3)) (fun i _ => 4 - (intOf i).toNat)
  case atStart => exact ⟨0, 0, 0, 0, 0, by omega, rfl, ⟨by omega, by omega⟩, ⟨by omega, by omega⟩, ⟨by omega, by omega⟩, ⟨by omega, by omega⟩, rfl⟩
  case round =>
    obtain ⟨k, z0, z1, z2, z3, hk, rfl, r0, r1, r2, r3, rfl⟩ := hrel
    by_cases hlt : k < 4 ∧ k < len
    · obtain ⟨b, off, z, rfl, hz, hcell⟩ := HE.out k hlt.2
      have hc2 := fun N : Obj => hcell ((w.alloc (.cells #[.int .i64 0, .int .i64 0, .int .i64 0, .int .i64 0, .int .i64 0, .int .i64 0, .string ⟨#[]⟩] 23)).alloc N) (((Below.refl w.heap.size w).alloc (Nat.le_refl _) _).alloc (by simp) _)
      obtain ⟨hk4, hkl⟩ := hlt
      have hkl2 : (k : Int) < (len : Int) := by omega
      have h4 : k = 0 ∨ k = 1 ∨ k = 2 ∨ k = 3 := by omega
      clear hcell HE hk4 hk
      rcases h4 with rfl | rfl | rfl | rfl
      case' inl => simp only [Nat.add_zero] at hc2
      all_goals go_wp2
      · exact ⟨⟨1, z, z1, z2, z3, by omega, rfl, hz, r1, r2, r3, rfl⟩, by simp [intOf]⟩
      · exact ⟨⟨2, z0, z, z2, z3, by omega, rfl, r0, hz, r2, r3, rfl⟩, by simp [intOf]⟩
      · exact ⟨⟨3, z0, z1, z, z3, by omega, rfl, r0, r1, hz, r3, rfl⟩, by simp [intOf]⟩
      · exact ⟨⟨4, z0, z1, z2, z, by omega, rfl, r0, r1, r2, hz, rfl⟩, by simp [intOf]⟩
    · clear HE
      have hex : (k < 4 → len ≤ k) := by intro h; omega
      by_cases hk4 : k < 4
      case' pos => have hk5 : ¬ ((k : Int) < (len : Int)) := by have := hex hk4; omega
      case' neg => obtain rfl : k = 4 := by omega
      all_goals clear hex hlt
      all_goals
        go_wp2_with fail
        refine (pick_any _ _ _ hc (by omega) (by omega)).mono ?_
        rintro e w' ⟨v, rfl, v0, v1, rfl⟩
        have hv : v = 0 ∨ v = 1 ∨ v = 2 ∨ v = 3 ∨ v = 4 ∨ v = 5 ∨ v = 6 ∨ v = 7 ∨ v = 8 := by omega
        clear v0 v1
        rcases hv with rfl | rfl | rfl | rfl | rfl | rfl | rfl | rfl | rfl
        · go_wp2_with fail
          refine (pick_any _ _ _ r0 (by omega) (by omega)).mono ?_
          rintro e w' ⟨vl, rfl, vl0, vl1, rfl⟩
          go_wp2_with fail
          exact bodyPost_ret (v := .tuple #[.agg #[.int .i64 1, .int .i64 0, .int .i64 0, .int .i64 vl, .int .i64 0, .int .i64 0, .string ⟨#[]⟩], .int .i64 3]) (by simp [results, Try.results25, go_sem]) rfl ⟨1, 0, 0, vl, 0, 0, ⟨#[]⟩, req_end (bs_1 vl), ok_1 (wd_of vl0 vl1), ((((Below.refl w.heap.size w).alloc (Nat.le_refl _) _).alloc (by simp) _).alloc (by simp; omega) _)⟩
        · go_wp2_with fail
          refine (pick_any _ _ _ r0 (by omega) (by omega)).mono ?_
          rintro e w' ⟨vh, rfl, vh0, vh1, rfl⟩
          go_wp2_with fail
          exact bodyPost_ret (v := .tuple #[.agg #[.int .i64 2, .int .i64 vh, .int .i64 0, .int .i64 0, .int .i64 0, .int .i64 0, .string ⟨#[]⟩], .int .i64 3]) (by simp [results, Try.results25, go_sem]) rfl ⟨2, vh, 0, 0, 0, 0, ⟨#[]⟩, req_end (bs_2 vh), ok_2 (wd_of vh0 vh1), ((((Below.refl w.heap.size w).alloc (Nat.le_refl _) _).alloc (by simp) _).alloc (by simp; omega) _)⟩
        · go_wp2_with fail
          refine (pick_any _ _ _ r0 (by omega) (by omega)).mono ?_
          rintro e w' ⟨vh, rfl, vh0, vh1, rfl⟩
          go_wp2_with fail
          refine (pick_any _ _ _ r1 (by omega) (by omega)).mono ?_
          rintro e w' ⟨vo, rfl, vo0, vo1, rfl⟩
          go_wp2_with fail
          refine (pick_any _ _ _ r2 (by omega) (by omega)).mono ?_
          rintro e w' ⟨vl, rfl, vl0, vl1, rfl⟩
          go_wp2_with fail
          exact bodyPost_ret (v := .tuple #[.agg #[.int .i64 3, .int .i64 vh, .int .i64 vo, .int .i64 vl, .int .i64 0, .int .i64 0, .string ⟨#[]⟩], .int .i64 7]) (by simp [results, Try.results25, go_sem]) rfl ⟨3, vh, vo, vl, 0, 0, ⟨#[]⟩, req_end (bs_3 vh vo vl), ok_3 (wd_of vh0 vh1) (wd_of vo0 vo1) (wd_of vl0 vl1), ((((Below.refl w.heap.size w).alloc (Nat.le_refl _) _).alloc (by simp) _).alloc (by simp; omega) _)⟩
        · go_wp2_with fail
          refine (pick_any _ _ _ r0 (by omega) (by omega)).mono ?_
          rintro e w' ⟨vh, rfl, vh0, vh1, rfl⟩
          go_wp2_with fail
          refine (pick_any _ _ _ r1 (by omega) (by omega)).mono ?_
          rintro e w' ⟨vo, rfl, vo0, vo1, rfl⟩
          go_wp2_with fail
          exact bodyPost_ret (v := .tuple #[.agg #[.int .i64 4, .int .i64 vh, .int .i64 vo, .int .i64 0, .int .i64 0, .int .i64 0, .string s], .int .i64 (5 + (s.size : Int))]) (by simp [results, Try.results25, go_sem]) rfl ⟨4, vh, vo, 0, 0, 0, s, req_end (bs_4 vh vo s), ok_4 (wd_of vh0 vh1) (wd_of vo0 vo1) (by omega), ((((Below.refl w.heap.size w).alloc (Nat.le_refl _) _).alloc (by simp) _).alloc (by simp; omega) _)⟩
        · go_wp2_with fail
          refine (pick_any _ _ _ r0 (by omega) (by omega)).mono ?_
          rintro e w' ⟨vh, rfl, vh0, vh1, rfl⟩
          go_wp2_with fail
          refine (pick_any _ _ _ r1 (by omega) (by omega)).mono ?_
          rintro e w' ⟨vo, rfl, vo0, vo1, rfl⟩
          go_wp2_with fail
          refine (pick_any _ _ _ r2 (by omega) (by omega)).mono ?_
          rintro e w' ⟨vl, rfl, vl0, vl1, rfl⟩
          go_wp2_with fail
          refine (pick_any _ _ _ r3 (by omega) (by omega)).mono ?_
          rintro e w' ⟨vr, rfl, vr0, vr1, rfl⟩
          go_wp2_with fail
          exact bodyPost_ret (v := .tuple #[.agg #[.int .i64 5, .int .i64 vh, .int .i64 vo, .int .i64 vl, .int .i64 vr, .int .i64 0, .string ⟨#[]⟩], .int .i64 8]) (by simp [results, Try.results25, go_sem]) rfl ⟨5, vh, vo, vl, vr, 0, ⟨#[]⟩, req_end (bs_5 vh vo vl vr), ok_5 (wd_of vh0 vh1) (wd_of vo0 vo1) (wd_of vl0 vl1) (bt_of vr0 vr1), ((((Below.refl w.heap.size w).alloc (Nat.le_refl _) _).alloc (by simp) _).alloc (by simp; omega) _)⟩
        · go_wp2_with fail
          refine (pick_any _ _ _ r0 (by omega) (by omega)).mono ?_
          rintro e w' ⟨vh, rfl, vh0, vh1, rfl⟩
          go_wp2_with fail
          refine (pick_any _ _ _ r1 (by omega) (by omega)).mono ?_
          rintro e w' ⟨vt, rfl, vt0, vt1, rfl⟩
          go_wp2_with fail
          exact bodyPost_ret (v := .tuple #[.agg #[.int .i64 6, .int .i64 vh, .int .i64 0, .int .i64 0, .int .i64 0, .int .i64 vt, .string ⟨#[]⟩], .int .i64 4]) (by simp [results, Try.results25, go_sem]) rfl ⟨6, vh, 0, 0, 0, vt, ⟨#[]⟩, req_end (bs_6 vh vt), ok_6 (wd_of vh0 vh1) (bt_of vt0 vt1), ((((Below.refl w.heap.size w).alloc (Nat.le_refl _) _).alloc (by simp) _).alloc (by simp; omega) _)⟩
        · go_wp2_with fail
          refine (pick_any _ _ _ r0 (by omega) (by omega)).mono ?_
          rintro e w' ⟨vh, rfl, vh0, vh1, rfl⟩
          go_wp2_with fail
          exact bodyPost_ret (v := .tuple #[.agg #[.int .i64 7, .int .i64 vh, .int .i64 0, .int .i64 0, .int .i64 0, .int .i64 0, .string ⟨#[]⟩], .int .i64 3]) (by simp [results, Try.results25, go_sem]) rfl ⟨7, vh, 0, 0, 0, 0, ⟨#[]⟩, req_end (bs_7 vh), ok_7 (wd_of vh0 vh1), ((((Below.refl w.heap.size w).alloc (Nat.le_refl _) _).alloc (by simp) _).alloc (by simp; omega) _)⟩
        · go_wp2_with fail
          refine (pick_any _ _ _ r0 (by omega) (by omega)).mono ?_
          rintro e w' ⟨vh, rfl, vh0, vh1, rfl⟩
          go_wp2_with fail
          exact bodyPost_ret (v := .tuple #[.agg #[.int .i64 8, .int .i64 vh, .int .i64 0, .int .i64 0, .int .i64 0, .int .i64 0, .string ⟨#[]⟩], .int .i64 3]) (by simp [results, Try.results25, go_sem]) rfl ⟨8, vh, 0, 0, 0, 0, ⟨#[]⟩, req_end (bs_8 vh), ok_8 (wd_of vh0 vh1), ((((Below.refl w.heap.size w).alloc (Nat.le_refl _) _).alloc (by simp) _).alloc (by simp; omega) _)⟩
        · go_wp2_with fail
          refine (pick_any _ _ _ r0 (by omega) (by omega)).mono ?_
          rintro e w' ⟨vh, rfl, vh0, vh1, rfl⟩
          go_wp2_with fail
          exact bodyPost_ret (v := .tuple #[.agg #[.int .i64 9, .int .i64 vh, .int .i64 0, .int .i64 0, .int .i64 0, .int .i64 0, .string ⟨#[]⟩], .int .i64 3]) (by simp [results, Try.results25, go_sem]) rfl ⟨9, vh, 0, 0, 0, 0, ⟨#[]⟩, req_end (bs_9 vh), ok_9 (wd_of vh0 vh1), ((((Below.refl w.heap.size w).alloc (Nat.le_refl _) _).alloc (by simp) _).alloc (by simp; omega) _)⟩

end Go.Proofs.Ytkjjamigaamllaa
