/-
  The law Narrow: what was derived reaches no further than it was given, and gives no right more.
-/
import Derived.Test.YtkjjamigaamllaaKeepFamRow
import Derived.Test.YtkjjamigaamllaaKeepNarrowPure
import Derived.Test.YtkjjamigaamllaaBackReqEnds
import Derived.OpenShut
import Derived.Deep.DeepCutAuto
import Derived.Deep.RegionHeld3
namespace Go.Proofs.Ytkjjamigaamllaa
open Go.RowKit
set_option linter.unusedSimpArgs false

theorem KBeg.live {w0 w1 w : World} {rb gx nt ns nc : Nat} {K : KRun} (hB : KBeg gx (bM3 nt ns nc) K) (hk : KAt w1.heap.size w rb K) (hg : KGood K.M K.gl) (hb : Below w1.heap.size w1 w) (h1 : Below w0.heap.size w0 w1) : KLive w0 w rb K :=
  ⟨hk.mono h1.size, hg, by rw [hB.M]; exact bM3_fits _ _ _, hB.ok, h1.trans (hb.mono h1.size)⟩
theorem kone_l {w0 W : World} {rb : Nat} {K : KRun} (n : Int) (h : KLive w0 W rb K) : Calls Try.prog 35 #[.int .i64 n] W fun e w' => e = .returned (.string (oneC n)) ∧ KLive w0 w' rb K :=
  (kone_any n W).mono fun _ _ ⟨he, hb⟩ => ⟨he, h.below hb⟩
theorem ktwo_l {w0 W : World} {rb : Nat} {K : KRun} (n : Int) (h : KLive w0 W rb K) : Calls Try.prog 41 #[.int .i64 n] W fun e w' => e = .returned (.string (twoW n)) ∧ KLive w0 w' rb K :=
  (ktwo_any n W).mono fun _ _ ⟨he, hb⟩ => ⟨he, h.below hb⟩
theorem info_whole2 {M : Mach} {p : Nat} {l r : Int} (h1 : (M.s p).len = l) (h2 : (M.s p).rights = r) : oneC 0 ++ M.info p = (⟨#[0]⟩ : ByteArray) ++ twoW l ++ oneC r := by
  unfold Mach.info
  rw [h1, h2, ByteArray.append_assoc, show oneC 0 = (⟨#[0]⟩ : ByteArray) from by decide]
theorem reply_first (e : Int) (m : ByteArray) : (oneC e ++ m).extract 0 1 = oneC e :=
  ByteArray.extract_append_eq_left (oneC_sz e).symm
theorem one_nil (e : Int) : oneC e ++ nilS = oneC e := ByteArray.append_empty

set_option maxRecDepth 100000 in
set_option maxHeartbeats 12800000 in
theorem knarrow_any (t s c sz : Int) (a : Option Addr) (len cap : Nat) (zs : List Int) (sx : ByteArray) (w : World) (ht : inR t) (hs : inR s) (hc : inR c) (h1 : inR sz) (hsx : sx.size ≤ 140737488355328) (hrow : IsRow .i64 w a len cap zs) (hlen : len ≤ 140737488355328) :
    Calls Try.prog 11 #[.agg #[.int .i64 t, .int .i64 s, .int .i64 c], .int .i64 sz, .slice a len cap, .string sx] w fun e w' => e = .returned (.bool true) ∧ Below w.heap.size w w' := by
  have hmk : ∀ w, (Instr.makeSlice 44 (.int .i64 7) (.int .i64 7)).run Try.prog w = .ok (.slice (some ⟨w.heap.size, 0, none⟩) 7 7) (w.alloc (.cells #[.int .i64 0, .int .i64 0, .int .i64 0, .int .i64 0, .int .i64 0, .int .i64 0, .int .i64 0] 3)) := fun _ => by kernel_rfl
  have hel : ∀ k : Nat, k < len → ∃ (b off : Nat) (z : Int), a = some ⟨b, off, none⟩ ∧ inR z ∧ ∀ W, Below w.heap.size w W → W.cell? ⟨b, off + k, none⟩ = some (.int .i64 z) := by
    intro k hk
    rcases hrow with ⟨_, h0, _, _⟩ | ⟨x, rfl, hl, _, hzl, hcell, hwf⟩
    · omega
    · obtain ⟨b, off, rfl, hce⟩ := ints_at hcell (by omega)
      refine ⟨b, off, zs.getD k 0, rfl, ?_, fun W hb => cell_later hb (hce k (by omega))⟩
      have hk2 : k < zs.length := by omega
      have hmem : zs.getD k 0 ∈ zs := by simp [List.getD_eq_getElem?_getD, List.getElem?_eq_getElem hk2]
      exact bounds_i64 (hwf _ hmem)
  have HE : Hid (∀ k : Nat, k < len → ∃ (b off : Nat) (z : Int), a = some ⟨b, off, none⟩ ∧ inR z ∧ ∀ W, Below w.heap.size w W → W.cell? ⟨b, off + k, none⟩ = some (.int .i64 z)) := hel
  have HI : Hid (inR t ∧ inR s ∧ inR c ∧ inR sz) := ⟨ht, hs, hc, h1⟩
  clear ht hs hc h1 hel hrow
  go_enter Try.func11, Try.ntmps11
  go_wp2_with fail
  refine (kbegin_any t s c _ HI.out.1 HI.out.2.1 HI.out.2.2.1).mono ?_
  rintro e w1 ⟨rb, gx, nt, ns, nc, K, rfl, hnt, hns, hnc, hk, hg, hB, hb⟩
  have b1 := pickK_bd t (m := 4) (by decide)
  have b2 := pickK_bd s (m := 16) (by decide)
  have b3 := pickK_bd c (m := 32) (by decide)
  have hns1 : 1 ≤ ns := by omega
  have hns2 : ns ≤ 16 := by omega
  have hnc1 : 1 ≤ nc := by omega
  have hnc2 : nc ≤ 32 := by omega
  have hnt1 : 1 ≤ nt := by omega
  have HK : Hid (KLive w w1 rb K ∧ K.M = bM3 nt ns nc) := ⟨hB.live hk hg hb ((Below.refl _ _).alloc (Nat.le_refl _) _), hB.M⟩
  have hrb := lt_of_row hk.row
  clear hnt hns hnc hk hg hB hb b1 b2 b3
  go_wp2_with fail
  go_loopw [11] (fun i W => ∃ (k : Nat) (z0 z1 z2 z3 z4 z5 z6 : Int), k ≤ 7 ∧ i = .int .i64 (k : Int) ∧ inR z0 ∧ inR z1 ∧ inR z2 ∧ inR z3 ∧ inR z4 ∧ inR z5 ∧ inR z6 ∧ W = w1.alloc (.cells #[.int .i64 z0, .int .i64 z1, .int .i64 z2, .int .i64 z3, .int .i64 z4, .int .i64 z5, .int .i64 z6] 3)) (fun i _ => 7 - (intOf i).toNat)
  case atStart => exact ⟨0, 0, 0, 0, 0, 0, 0, 0, by omega, rfl, ⟨by omega, by omega⟩, ⟨by omega, by omega⟩, ⟨by omega, by omega⟩, ⟨by omega, by omega⟩, ⟨by omega, by omega⟩, ⟨by omega, by omega⟩, ⟨by omega, by omega⟩, rfl⟩
  case round =>
    obtain ⟨k, z0, z1, z2, z3, z4, z5, z6, hk, rfl, r0, r1, r2, r3, r4, r5, r6, rfl⟩ := hrel
    by_cases hlt : k < 7 ∧ k < len
    · obtain ⟨b, off, z, rfl, hz, hcell⟩ := HE.out k hlt.2
      have hc2 := fun N : Obj => hcell (w1.alloc N) (HK.out.1.b.alloc HK.out.1.b.size _)
      obtain ⟨hk4, hkl⟩ := hlt
      have hkl2 : (k : Int) < (len : Int) := by omega
      have h4 : k = 0 ∨ k = 1 ∨ k = 2 ∨ k = 3 ∨ k = 4 ∨ k = 5 ∨ k = 6 := by omega
      clear hcell HE hk4 hk
      rcases h4 with rfl | rfl | rfl | rfl | rfl | rfl | rfl
      case' inl => simp only [Nat.add_zero] at hc2
      all_goals go_wp2
      · exact ⟨⟨1, z, z1, z2, z3, z4, z5, z6, by omega, rfl, hz, r1, r2, r3, r4, r5, r6, rfl⟩, by simp [intOf]⟩
      · exact ⟨⟨2, z0, z, z2, z3, z4, z5, z6, by omega, rfl, r0, hz, r2, r3, r4, r5, r6, rfl⟩, by simp [intOf]⟩
      · exact ⟨⟨3, z0, z1, z, z3, z4, z5, z6, by omega, rfl, r0, r1, hz, r3, r4, r5, r6, rfl⟩, by simp [intOf]⟩
      · exact ⟨⟨4, z0, z1, z2, z, z4, z5, z6, by omega, rfl, r0, r1, r2, hz, r4, r5, r6, rfl⟩, by simp [intOf]⟩
      · exact ⟨⟨5, z0, z1, z2, z3, z, z5, z6, by omega, rfl, r0, r1, r2, r3, hz, r5, r6, rfl⟩, by simp [intOf]⟩
      · exact ⟨⟨6, z0, z1, z2, z3, z4, z, z6, by omega, rfl, r0, r1, r2, r3, r4, hz, r6, rfl⟩, by simp [intOf]⟩
      · exact ⟨⟨7, z0, z1, z2, z3, z4, z5, z, by omega, rfl, r0, r1, r2, r3, r4, r5, hz, rfl⟩, by simp [intOf]⟩
    · clear HE
      have hex : (k < 7 → len ≤ k) := by intro h; omega
      have hrow : KRow w1.heap.size (.cells #[.int .i64 z0, .int .i64 z1, .int .i64 z2, .int .i64 z3, .int .i64 z4, .int .i64 z5, .int .i64 z6] 3 (0, 0)) (w1.alloc (.cells #[.int .i64 z0, .int .i64 z1, .int .i64 z2, .int .i64 z3, .int .i64 z4, .int .i64 z5, .int .i64 z6] 3)) rb K := ⟨newRowAt _ _, fun hh => by have := HK.out.1.run.own_lt hh; omega⟩
      obtain ⟨W, hW⟩ : ∃ W, W = w1.alloc (.cells #[.int .i64 z0, .int .i64 z1, .int .i64 z2, .int .i64 z3, .int .i64 z4, .int .i64 z5, .int .i64 z6] 3) := ⟨_, rfl⟩
      rw [← hW] at hrow ⊢
      have hLW : KLive w W rb K := by rw [hW]; exact HK.out.1.below ((Below.refl _ _).alloc (Nat.le_refl _) _)
      generalize hXE : Obj.cells #[.int .i64 z0, .int .i64 z1, .int .i64 z2, .int .i64 z3, .int .i64 z4, .int .i64 z5, .int .i64 z6] 3 (0, 0) = X at hrow
      have HR : Hid (∀ W' K', KRow w1.heap.size X W' rb K' → W'.cell? ⟨w1.heap.size, 0, none⟩ = some (.int .i64 z0) ∧ W'.cell? ⟨w1.heap.size, 1, none⟩ = some (.int .i64 z1) ∧ W'.cell? ⟨w1.heap.size, 2, none⟩ = some (.int .i64 z2) ∧ W'.cell? ⟨w1.heap.size, 3, none⟩ = some (.int .i64 z3) ∧ W'.cell? ⟨w1.heap.size, 4, none⟩ = some (.int .i64 z4) ∧ W'.cell? ⟨w1.heap.size, 5, none⟩ = some (.int .i64 z5)) := fun W' K' h => by
        have h1 := h.1
        rw [← hXE] at h1
        exact ⟨rowCell h1 0, rowCell h1 1, rowCell h1 2, rowCell h1 3, rowCell h1 4, rowCell h1 5⟩
      have HLW : Hid (KLive w W rb K ∧ KRow w1.heap.size X W rb K ∧ W = w1.alloc (.cells #[.int .i64 z0, .int .i64 z1, .int .i64 z2, .int .i64 z3, .int .i64 z4, .int .i64 z5, .int .i64 z6] 3)) := ⟨hLW, hrow, hW⟩
      obtain ⟨q0, q1, q2, q3, q4, q5⟩ := HR.out _ _ hrow
      have c2 : W.cell? ⟨rb, 2, none⟩ = some (.int .i64 (ns : Int)) := by
        have := rowCell hLW.run.row 2
        rw [this]
        show some (Value.int .i64 (K.M.ns : Int)) = _
        rw [HK.out.2]
        rfl
      have c3 : W.cell? ⟨rb, 3, none⟩ = some (.int .i64 (nc : Int)) := by
        have := rowCell hLW.run.row 3
        rw [this]
        show some (Value.int .i64 (K.M.nc : Int)) = _
        rw [HK.out.2]
        rfl
      clear hLW hrow hXE hW
      by_cases hk4 : k < 7
      case' pos => have hk5 : ¬ ((k : Int) < (len : Int)) := by have := hex hk4; omega
      case' neg => obtain rfl : k = 7 := by omega
      all_goals clear hex hlt
      all_goals
        obtain ⟨f0, hf0⟩ : ∃ f0 : Nat, pickK sz (8 * (nc : Int)) = (f0 : Int) := ⟨(pickK sz (8 * (nc : Int))).toNat, by have := pickK_bd sz (m := 8 * (nc : Int)) (by omega); omega⟩
        have hf1 : f0 < 8 * nc := by have := pickK_bd sz (m := 8 * (nc : Int)) (by omega); omega
        obtain ⟨F, hF⟩ : ∃ F : Nat, 1 + (f0 : Int) = (F : Int) := ⟨1 + f0, by omega⟩
        have hF1 : 1 ≤ F := by omega
        have hF2 : F ≤ 8 * nc := by omega
        have hF3 : F ≤ 256 := by omega
        have HF : Hid (pickK sz (8 * (nc : Int)) = (f0 : Int) ∧ 1 + (f0 : Int) = (F : Int)) := ⟨hf0, hF⟩
        clear hf0 hF
        go_wp2_with fail
        refine (kpick_any sz (8 * (nc : Int)) W HI.out.2.2.2 (by omega) (by omega)).mono ?_
        rintro e v1 ⟨rfl, rfl⟩
        rw [HF.out.1]
        go_wp2_with fail
        rw [HF.out.2]
        refine (kalloc_any (F : Int) v1 (wd_iff.2 (by omega))).mono ?_
        rintro e v2 ⟨rfl, hb⟩
        have HLv2 : Hid (KLive w v2 rb K ∧ KRow w1.heap.size X v2 rb K) := ⟨HLW.out.1.below hb, HLW.out.2.1.below hb⟩
        clear hb q0 q1 q2 q3 q4 q5 c2 c3
        go_wp2_with fail
        refine (klive_ask2 0 (okb_1 (wd_iff.2 (by omega))) HLv2.out.1 (by rw [HK.out.2]; exact hnt1) w1.heap.size X HLv2.out.2).mono ?_
        rintro e v3 ⟨er, m, K1, rfl, st, hL, hR⟩
        obtain ⟨rfl, rfl, hM⟩ := st.det (M2 := (bM3 nt ns nc).set 0 (HSlot.new 1 0 (F : Int))) (by rw [HK.out.2]; exact nar_alloc hns1 hF1 hF2 hnc2)
        have HLv3 : Hid (KLive w v3 rb K1 ∧ KRow w1.heap.size X v3 rb K1) := ⟨hL, hR⟩
        have HN1 : Hid (K1.M.nt = nt ∧ K1.M.ns = ns ∧ K1.M = (bM3 nt ns nc).set 0 (HSlot.new 1 0 (F : Int))) := ⟨by rw [hM]; rfl, by rw [hM]; rfl, hM⟩
        have ok1 : Hid (((bM3 nt ns nc).set 0 (HSlot.new 1 0 (F : Int))).Ok) := by show Mach.Ok _; rw [← hM]; exact hL.run.inv.ok
        clear hM
        rw [show oneC 0 ++ twoW 16 = (⟨#[0, 0, 16]⟩ : ByteArray) from by kernel_rfl]
        obtain ⟨q0, q1, q2, q3, q4, q5⟩ := HR.out _ _ hR
        clear st hL hR
        go_wp2_with fail
        refine (kpick_any sz (8 * (nc : Int)) v3 HI.out.2.2.2 (by omega) (by omega)).mono ?_
        rintro e v4 ⟨rfl, rfl⟩
        rw [HF.out.1]
        obtain ⟨off, hoff⟩ : ∃ off : Nat, pickK z0 ((F : Int) + 1) = (off : Int) := ⟨(pickK z0 ((F : Int) + 1)).toNat, by have := pickK_bd z0 (m := (F : Int) + 1) (by omega); omega⟩
        have hoff1 : off ≤ F := by have := pickK_bd z0 (m := (F : Int) + 1) (by omega); omega
        obtain ⟨long, hlong⟩ : ∃ long : Nat, pickK z1 ((F : Int) - (off : Int) + 1) = (long : Int) := ⟨(pickK z1 ((F : Int) - (off : Int) + 1)).toNat, by have := pickK_bd z1 (m := (F : Int) - (off : Int) + 1) (by omega); omega⟩
        have hlong1 : off + long ≤ F := by have := pickK_bd z1 (m := (F : Int) - (off : Int) + 1) (by omega); omega
        obtain ⟨may, hmay⟩ : ∃ may : Nat, pickK z2 8 = (may : Int) := ⟨(pickK z2 8).toNat, by have := pickK_bd z2 (m := 8) (by omega); omega⟩
        have hmay1 : may ≤ 7 := by have := pickK_bd z2 (m := 8) (by omega); omega
        obtain ⟨at', hat⟩ : ∃ at' : Nat, pickK z3 ((F : Int) + 2) = (at' : Int) := ⟨(pickK z3 ((F : Int) + 2)).toNat, by have := pickK_bd z3 (m := (F : Int) + 2) (by omega); omega⟩
        have hat1 : at' ≤ F + 1 := by have := pickK_bd z3 (m := (F : Int) + 2) (by omega); omega
        obtain ⟨kk, hkk⟩ : ∃ kk : Nat, pickK z4 70 = (kk : Int) := ⟨(pickK z4 70).toNat, by have := pickK_bd z4 (m := 70) (by omega); omega⟩
        have hkk1 : kk ≤ 69 := by have := pickK_bd z4 (m := 70) (by omega); omega
        obtain ⟨more, hmore⟩ : ∃ more : Nat, pickK z5 8 = (more : Int) := ⟨(pickK z5 8).toNat, by have := pickK_bd z5 (m := 8) (by omega); omega⟩
        have hmore1 : more ≤ 7 := by have := pickK_bd z5 (m := 8) (by omega); omega
        have HP : Hid (pickK z0 ((F : Int) + 1) = (off : Int) ∧ pickK z1 ((F : Int) - (off : Int) + 1) = (long : Int) ∧ pickK z2 8 = (may : Int) ∧ pickK z3 ((F : Int) + 2) = (at' : Int) ∧ pickK z4 70 = (kk : Int) ∧ pickK z5 8 = (more : Int)) := ⟨hoff, hlong, hmay, hat, hkk, hmore⟩
        clear hoff hlong hmay hat hkk hmore
        have wo : wd (off : Int) = true := wd_iff.2 (by omega)
        have wl : wd (long : Int) = true := wd_iff.2 (by omega)
        have bm : bt (may : Int) = true := bt_iff.2 (by omega)
        have wa : wd (at' : Int) = true := wd_iff.2 (by omega)
        have wk : wd (kk : Int) = true := wd_iff.2 (by omega)
        have bo : bt (more : Int) = true := bt_iff.2 (by omega)
        have woa : wd ((off : Int) + (at' : Int)) = true := wd_iff.2 (by omega)
        go_wp2_with fail
        rw [HF.out.2]
        refine (kpick_any z0 ((F : Int) + 1) v4 r0 (by omega) (by omega)).mono ?_
        rintro e v5 ⟨rfl, rfl⟩
        rw [HP.out.1]
        go_wp2_with fail
        refine (kpick_any z1 ((F : Int) - (off : Int) + 1) v5 r1 (by omega) (by omega)).mono ?_
        rintro e v6 ⟨rfl, rfl⟩
        rw [HP.out.2.1]
        go_wp2_with fail
        refine (kpick_any z2 8 v6 r2 (by omega) (by omega)).mono ?_
        rintro e v7 ⟨rfl, rfl⟩
        rw [HP.out.2.2.1]
        clear q0 q1 q2 q3 q4 q5
        go_wp2_with fail
        refine (khandle_any (⟨#[0, 0, 16]⟩ : ByteArray) v7 (by decide)).mono ?_
        rintro e v8 ⟨rfl, hb⟩
        rw [show 256 * byt (⟨#[0, 0, 16]⟩ : ByteArray) 1 + byt (⟨#[0, 0, 16]⟩ : ByteArray) 2 = (16 : Int) from by decide]
        have HLv8 : Hid (KLive w v8 rb K1 ∧ KRow w1.heap.size X v8 rb K1) := ⟨HLv3.out.1.below hb, HLv3.out.2.below hb⟩
        clear hb
        go_wp2_with fail
        refine (kderive_any 16 (off : Int) (long : Int) (may : Int) v8 (by decide) wo wl bm).mono ?_
        rintro e v9 ⟨rfl, hb⟩
        have HLv9 : Hid (KLive w v9 rb K1 ∧ KRow w1.heap.size X v9 rb K1) := ⟨HLv8.out.1.below hb, HLv8.out.2.below hb⟩
        clear hb
        go_wp2_with fail
        refine (klive_ask2 0 (okb_5 (by decide) wo wl bm) HLv9.out.1 (by rw [HN1.out.1]; exact hnt1) w1.heap.size X HLv9.out.2).mono ?_
        rintro e v10 ⟨er, m, K2, rfl, st, hL, hR⟩
        rcases nar_derive ok1.out hns1 hlong1 hmay1 with ⟨hone, q⟩ | ⟨hns3, M2, q, N2⟩
        · obtain ⟨rfl, rfl, hM⟩ := st.det (by rw [HN1.out.2.2]; exact q)
          rw [show oneC 8 ++ nilS = (⟨#[8]⟩ : ByteArray) from by decide]
          have c2 : v10.cell? ⟨rb, 2, none⟩ = some (.int .i64 1) := by rw [rowCell hL.run.row 2]; show some (Value.int .i64 (K2.M.ns : Int)) = _; rw [st.ns, HN1.out.2.1, hone]; rfl
          have c5 := hL.c5
          have HLx : Hid (KLive w v10 rb K2) := hL
          clear st hL hR hM q
          go_wp2_with fail
          refine (kgood_any (⟨#[0, 0, 16]⟩ : ByteArray) 0 v10 (by decide) (by decide)).mono ?_
          rintro e x1 ⟨rfl, rfl⟩
          rw [show ((0 : Int) == 0) = true from by decide]
          go_wp2_with fail
          refine (kone_any 8 _).mono ?_
          rintro e x2 ⟨rfl, hb⟩
          rw [show oneC 8 = (⟨#[8]⟩ : ByteArray) from by decide]
          have HLy : Hid (Below w.heap.size w x2) := (HLx.out.below hb).b
          clear hb c2 c5
          go_wp2_with fail
          go_ret
          exact ⟨rfl, HLy.out⟩
        · obtain ⟨rfl, rfl, hM⟩ := st.det (by rw [HN1.out.2.2]; exact q)
          rw [show oneC 0 ++ twoW 1 = (⟨#[0, 0, 1]⟩ : ByteArray) from by kernel_rfl]
          have c2 : v10.cell? ⟨rb, 2, none⟩ = some (.int .i64 (ns : Int)) := by rw [rowCell hL.run.row 2]; show some (Value.int .i64 (K2.M.ns : Int)) = _; rw [st.ns, HN1.out.2.1]
          have hs1 : ((ns : Int) == 1) = false := by simp; omega
          rw [← hM] at N2
          have HN2 : Hid (K2.M.nt = nt ∧ K2.M.ns = ns ∧ Nar K2.M F off long may (List.replicate F 0)) := ⟨st.nt.trans HN1.out.1, st.ns.trans HN1.out.2.1, N2⟩
          have HLv10 : Hid (KLive w v10 rb K2 ∧ KRow w1.heap.size X v10 rb K2) := ⟨hL, hR⟩
          clear st hL hR hM q N2
          go_wp2_with fail
          refine (kgood_any (⟨#[0, 0, 16]⟩ : ByteArray) 0 v10 (by decide) (by decide)).mono ?_
          rintro e v11 ⟨rfl, rfl⟩
          rw [show ((0 : Int) == 0) = true from by decide]
          clear c2
          go_wp2_with fail
          refine (kgood_any (⟨#[0, 0, 1]⟩ : ByteArray) 0 v11 (by decide) (by decide)).mono ?_
          rintro e v12 ⟨rfl, rfl⟩
          rw [show ((0 : Int) == 0) = true from by decide]
          go_wp2_with fail
          refine (khandle_any (⟨#[0, 0, 1]⟩ : ByteArray) v12 (by decide)).mono ?_
          rintro e v13 ⟨rfl, hb⟩
          rw [show 256 * byt (⟨#[0, 0, 1]⟩ : ByteArray) 1 + byt (⟨#[0, 0, 1]⟩ : ByteArray) 2 = (1 : Int) from by decide]
          have HLv13 : Hid (KLive w v13 rb K2 ∧ KRow w1.heap.size X v13 rb K2) := ⟨HLv10.out.1.below hb, HLv10.out.2.below hb⟩
          clear hb
          obtain ⟨q0, q1, q2, q3, q4, q5⟩ := HR.out _ _ HLv13.out.2
          go_upto_if 127 with fail
          go_cut [3] from 125 to 129 (fun s3 wx => (∃ d : ByteArray, d.size ≤ 64 ∧ s3 = .string d) ∧ v13 = wx)
          case first =>
            by_cases hcut : 64 < sx.size
            · have hcut2 : (64 : Int) < (sx.size : Int) := by omega
              go_wp2_with fail
              go_meet
              exact ⟨⟨_, by rw [ByteArray.size_extract]; omega, rfl⟩, rfl⟩
            · have hcut2 : ¬ (64 : Int) < (sx.size : Int) := by omega
              go_wp2_with fail
              go_meet
              exact ⟨⟨_, by omega, rfl⟩, rfl⟩
          case rest =>
          obtain ⟨⟨d, hd64, rfl⟩, rfl⟩ := hcut
          clear hsx
          go_wp2_with fail
          refine (kpick_any z3 ((F : Int) + 2) v13 r3 (by omega) (by omega)).mono ?_
          rintro e v14 ⟨rfl, rfl⟩
          rw [HP.out.2.2.2.1]
          clear q0 q1 q2 q3 q4 q5
          go_wp2_with fail
          refine (kwrite_any 1 (at' : Int) d v14 (by decide) wa hd64).mono ?_
          rintro e v15 ⟨rfl, hb⟩
          have HLv15 : Hid (KLive w v15 rb K2 ∧ KRow w1.heap.size X v15 rb K2) := ⟨HLv13.out.1.below hb, HLv13.out.2.below hb⟩
          clear hb
          go_wp2_with fail
          refine (klive_ask2 0 (okb_4 (by decide) wa hd64) HLv15.out.1 (by rw [HN2.out.1]; exact hnt1) w1.heap.size X HLv15.out.2).mono ?_
          rintro e v16 ⟨er, m, K3, rfl, st, hL, hR⟩
          obtain ⟨g1, rfl, g3⟩ := st.det (q_write (HN2.out.2.2.find HLv15.out.1.run.inv.ok (by rw [HN2.out.2.1]; exact hns3)).1)
          obtain ⟨w1e, bs2, N3⟩ := HN2.out.2.2.write at' d
          have e1 : er = K2.M.writeE 1 (at' : Int) d := g1
          have e3 : K3.M = K2.M.write 1 (at' : Int) d := g3
          clear g1 g3
          rw [w1e] at e1
          rw [← e3] at N3
          rw [one_nil]
          have HN3 : Hid (K3.M.nt = nt ∧ K3.M.ns = ns ∧ Nar K3.M F off long may bs2) := ⟨st.nt.trans HN2.out.1, st.ns.trans HN2.out.2.1, N3⟩
          have HLv16 : Hid (KLive w v16 rb K3 ∧ KRow w1.heap.size X v16 rb K3) := ⟨hL, hR⟩
          obtain ⟨q0, q1, q2, q3, q4, q5⟩ := HR.out _ _ hR
          clear st hL hR e3 w1e N3
          have HE1 : Hid (er = (if (may : Int) / 2 % 2 = 0 then 5 else if (long : Int) < (at' : Int) + (d.size : Int) then 6 else 0)) := e1
          clear e1
          go_upto_if 145 with fail
          go_cut [22] from 142 to 151 (fun s22 wx => s22 = .int .i64 er ∧ v16 = wx)
          case first =>
            rcases (show ((may : Int) / 2 % 2 = 0 ∧ Hid (er = 5)) ∨ (¬ (may : Int) / 2 % 2 = 0 ∧ (long : Int) < (at' : Int) + (d.size : Int) ∧ Hid (er = 6)) ∨ (¬ (may : Int) / 2 % 2 = 0 ∧ ¬ (long : Int) < (at' : Int) + (d.size : Int) ∧ Hid (er = 0)) by
              have e1 := HE1.out
              by_cases x1 : (may : Int) / 2 % 2 = 0
              · rw [if_pos x1] at e1; exact Or.inl ⟨x1, e1⟩
              · rw [if_neg x1] at e1
                by_cases x2 : (long : Int) < (at' : Int) + (d.size : Int)
                · rw [if_pos x2] at e1; exact Or.inr (Or.inl ⟨x1, x2, e1⟩)
                · rw [if_neg x2] at e1; exact Or.inr (Or.inr ⟨x1, x2, e1⟩)) with ⟨x1, y1⟩ | ⟨x1, x2, y1⟩ | ⟨x1, x2, y1⟩
            all_goals go_wp2_with fail
            all_goals go_meet
            all_goals exact ⟨by rw [y1.out], rfl⟩
          case rest =>
          obtain ⟨rfl, rfl⟩ := hcut
          go_wp2_with fail
          refine (kpick_any z4 70 v16 r4 (by omega) (by omega)).mono ?_
          rintro e v17 ⟨rfl, rfl⟩
          rw [HP.out.2.2.2.2.1]
          clear q0 q1 q2 q3 q4 q5
          go_wp2_with fail
          refine (kread_any 1 (at' : Int) (kk : Int) v17 (by decide) wa wk).mono ?_
          rintro e v18 ⟨rfl, hb⟩
          have HLv18 : Hid (KLive w v18 rb K3 ∧ KRow w1.heap.size X v18 rb K3) := ⟨HLv16.out.1.below hb, HLv16.out.2.below hb⟩
          clear hb
          go_wp2_with fail
          refine (klive_ask2 0 (okb_3 (by decide) wa wk) HLv18.out.1 (by rw [HN3.out.1]; exact hnt1) w1.heap.size X HLv18.out.2).mono ?_
          rintro e v19 ⟨er4, m4, K4, rfl, st, hL, hR⟩
          have fd := HN3.out.2.2.find HLv18.out.1.run.inv.ok (by rw [HN3.out.2.1]; exact hns3)
          obtain ⟨g1, g2, g3⟩ := st.det (q_read fd.1)
          have HG4 : Hid (er4 = (K3.M.read 1 (at' : Int) (kk : Int)).1 ∧ m4 = (K3.M.read 1 (at' : Int) (kk : Int)).2) := ⟨g1, g2⟩
          have HN4 : Hid (K4.M.nt = nt ∧ K4.M.ns = ns ∧ K4.M = K3.M ∧ K3.M.find 0 16 = some 0) := ⟨st.nt.trans HN3.out.1, st.ns.trans HN3.out.2.1, g3, fd.2⟩
          have HLv19 : Hid (KLive w v19 rb K4 ∧ KRow w1.heap.size X v19 rb K4) := ⟨hL, hR⟩
          clear st hL hR g1 g2 g3 fd
          obtain ⟨xr, hxr⟩ : ∃ xr, oneC er4 ++ m4 = xr := ⟨_, rfl⟩
          rw [hxr]
          go_wp2_with fail
          refine (khandle_any (⟨#[0, 0, 16]⟩ : ByteArray) v19 (by decide)).mono ?_
          rintro e v20 ⟨rfl, hb⟩
          rw [show 256 * byt (⟨#[0, 0, 16]⟩ : ByteArray) 1 + byt (⟨#[0, 0, 16]⟩ : ByteArray) 2 = (16 : Int) from by decide]
          have HLv20 : Hid (KLive w v20 rb K4 ∧ KRow w1.heap.size X v20 rb K4) := ⟨HLv19.out.1.below hb, HLv19.out.2.below hb⟩
          clear hb
          go_wp2_with fail
          refine (kread_any 16 ((off : Int) + (at' : Int)) (kk : Int) v20 (by decide) woa wk).mono ?_
          rintro e v21 ⟨rfl, hb⟩
          have HLv21 : Hid (KLive w v21 rb K4 ∧ KRow w1.heap.size X v21 rb K4) := ⟨HLv20.out.1.below hb, HLv20.out.2.below hb⟩
          clear hb
          go_wp2_with fail
          refine (klive_ask2 0 (okb_3 (by decide) woa wk) HLv21.out.1 (by rw [HN4.out.1]; exact hnt1) w1.heap.size X HLv21.out.2).mono ?_
          rintro e v22 ⟨er5, m5, K5, rfl, st, hL, hR⟩
          obtain ⟨g1, g2, g3⟩ := st.det (by rw [HN4.out.2.2.1]; exact q_read HN4.out.2.2.2)
          have HG5 : Hid (er5 = (K3.M.read 0 ((off : Int) + (at' : Int)) (kk : Int)).1 ∧ m5 = (K3.M.read 0 ((off : Int) + (at' : Int)) (kk : Int)).2) := ⟨g1, g2⟩
          have HN5 : Hid (K5.M.nt = nt ∧ K5.M.ns = ns ∧ K5.M = K3.M) := ⟨st.nt.trans HN4.out.1, st.ns.trans HN4.out.2.1, g3⟩
          have HLv22 : Hid (KLive w v22 rb K5 ∧ KRow w1.heap.size X v22 rb K5) := ⟨hL, hR⟩
          obtain ⟨q0, q1, q2, q3, q4, q5⟩ := HR.out _ _ hR
          clear st hL hR g1 g2 g3
          obtain ⟨yr, hyr⟩ : ∃ yr, oneC er5 ++ m5 = yr := ⟨_, rfl⟩
          rw [hyr]
          have hxs : 1 ≤ xr.size := by rw [← hxr, reply_size]; omega
          have hx1 : xr.extract 0 1 = oneC er4 := by rw [← hxr]; exact reply_first _ _
          obtain ⟨n1, n2, n3⟩ := HN3.out.2.2.read hlong1 at' kk
          have HX : Hid (xr.extract 0 1 = oneC er4) := hx1
          have HXY : Hid (er4 = 0 → xr = yr) := fun h0 => by
            by_cases x1 : (may : Int) % 2 = 0
            · rw [HG4.out.1, n1 x1] at h0; exact absurd h0 (by decide)
            · by_cases x2 : 64 < kk ∨ long < at' + kk
              · rw [HG4.out.1, n2 x1 x2] at h0; exact absurd h0 (by decide)
              · obtain ⟨mm, _, a1, a2⟩ := n3 x1 x2
                rw [← hxr, ← hyr, HG4.out.1, HG4.out.2, HG5.out.1, HG5.out.2, a1, a2]
          go_upto_if 173 with fail
          go_cut [26] from 171 to 182 (fun s26 wx => s26 = .int .i64 er4 ∧ v22 = wx)
          case first =>
            rcases (show ((may : Int) % 2 = 0 ∧ Hid (er4 = 5)) ∨ (¬ (may : Int) % 2 = 0 ∧ (64 : Int) < (kk : Int) ∧ Hid (er4 = 6)) ∨ (¬ (may : Int) % 2 = 0 ∧ ¬ (64 : Int) < (kk : Int) ∧ (long : Int) < (at' : Int) + (kk : Int) ∧ Hid (er4 = 6)) ∨ (¬ (may : Int) % 2 = 0 ∧ ¬ (64 : Int) < (kk : Int) ∧ ¬ (long : Int) < (at' : Int) + (kk : Int) ∧ Hid (er4 = 0)) by
              by_cases x1 : (may : Int) % 2 = 0
              · exact Or.inl ⟨x1, (by show er4 = _; rw [HG4.out.1, n1 x1])⟩
              · by_cases x2 : 64 < kk
                · exact Or.inr (Or.inl ⟨x1, by omega, (by show er4 = _; rw [HG4.out.1, n2 x1 (Or.inl x2)])⟩)
                · by_cases x3 : long < at' + kk
                  · exact Or.inr (Or.inr (Or.inl ⟨x1, by omega, by omega, (by show er4 = _; rw [HG4.out.1, n2 x1 (Or.inr x3)])⟩))
                  · obtain ⟨mm, _, a1, a2⟩ := n3 x1 (by omega)
                    exact Or.inr (Or.inr (Or.inr ⟨x1, by omega, by omega, (by show er4 = _; rw [HG4.out.1, a1])⟩))) with ⟨x1, y1⟩ | ⟨x1, x2, y1⟩ | ⟨x1, x2, x3, y1⟩ | ⟨x1, x2, x3, y1⟩
            all_goals clear hx1 n1 n2 n3
            all_goals go_wp2_with fail
            all_goals go_meet
            all_goals exact ⟨by rw [y1.out], rfl⟩
          case rest =>
          obtain ⟨rfl, rfl⟩ := hcut
          clear n1 n2 n3 hxr hyr
          go_wp2_with fail
          refine (kpick_any z5 8 v22 r5 (by omega) (by omega)).mono ?_
          rintro e v23 ⟨rfl, rfl⟩
          rw [HP.out.2.2.2.2.2]
          clear q0 q1 q2 q3 q4 q5
          go_wp2_with fail
          refine (kderive_any 1 (at' : Int) (kk : Int) (more : Int) v23 (by decide) wa wk bo).mono ?_
          rintro e v24 ⟨rfl, hb⟩
          have HLv24 : Hid (KLive w v24 rb K5 ∧ KRow w1.heap.size X v24 rb K5) := ⟨HLv22.out.1.below hb, HLv22.out.2.below hb⟩
          clear hb
          go_wp2_with fail
          refine (klive_ask2 0 (okb_5 (by decide) wa wk bo) HLv24.out.1 (by rw [HN5.out.1]; exact hnt1) w1.heap.size X HLv24.out.2).mono ?_
          rintro e v25 ⟨er6, m6, K6, rfl, st, hL, hR⟩
          have N5 : Nar K5.M F off long may bs2 := by rw [HN5.out.2.2]; exact HN3.out.2.2
          obtain ⟨d1, d2, d3, d4⟩ := N5.derive HLv24.out.1.run.inv.ok (by rw [HN5.out.2.1]; exact hns3) at' kk more hmay1 hmore1
          have f5 := (N5.find HLv24.out.1.run.inv.ok (by rw [HN5.out.2.1]; exact hns3)).1
          have HN6 : Hid (K6.M.nt = nt ∧ K6.M.ns = ns) := ⟨st.nt.trans HN5.out.1, st.ns.trans HN5.out.2.1⟩
          have HLv25 : Hid (KLive w v25 rb K6 ∧ KRow w1.heap.size X v25 rb K6) := ⟨hL, hR⟩
          have c2 : v25.cell? ⟨rb, 2, none⟩ = some (.int .i64 (ns : Int)) := by rw [rowCell hL.run.row 2]; show some (Value.int .i64 (K6.M.ns : Int)) = _; rw [HN6.out.2]
          obtain ⟨zr, hzr⟩ : ∃ zr, oneC er6 ++ m6 = zr := ⟨_, rfl⟩
          rw [hzr]
          have hzs : 1 ≤ zr.size := by rw [← hzr, reply_size]; omega
          have hz1 : zr.extract 0 1 = oneC er6 := by rw [← hzr]; exact reply_first _ _
          clear hzr
          obtain ⟨Bs, hBs⟩ : ∃ Bs : Bool, Bs = (((may : Int) / 4 == 0) || (bits BinOp.and IntKind.i64 (more : Int) (may : Int) != (more : Int))) := ⟨_, rfl⟩
          have HBs : Hid (Bs = (((may : Int) / 4 == 0) || (bits BinOp.and IntKind.i64 (more : Int) (may : Int) != (more : Int)))) := hBs
          clear hBs
          go_upto_region 41 with fail
          go_cut [203] from 194 to 202 (fun s203 wx => s203 = .bool Bs ∧ v25 = wx)
          case first =>
            cases ha : ((may : Int) / 4 == 0) with
            | true =>
              have HB2 : Hid (Bs = true) := by show _ = _; rw [HBs.out, ha]; rfl
              go_wp2_with fail
              go_meet
              exact ⟨by rw [HB2.out], rfl⟩
            | false =>
              cases hb2 : (bits BinOp.and IntKind.i64 (more : Int) (may : Int) != (more : Int)) with
              | true =>
                have HB2 : Hid (Bs = true) := by show _ = _; rw [HBs.out, ha, hb2]; rfl
                go_wp2_with fail
                go_meet
                exact ⟨by rw [HB2.out], rfl⟩
              | false =>
                have HB2 : Hid (Bs = false) := by show _ = _; rw [HBs.out, ha, hb2]; rfl
                go_wp2_with fail
                go_meet
                exact ⟨by rw [HB2.out], rfl⟩
          case rest =>
          obtain ⟨rfl, rfl⟩ := hcut
          go_upto_if 203 with fail
          go_cut [29] from 203 to 214 (fun s29 wx => (s29 = .int .i64 er6 ∧ K6.M.s 1 = K5.M.s 1 ∧ K6.M.find 0 1 = some 1) ∧ v25 = wx)
          case first =>
            rcases (show (Bs = true ∧ Hid (er6 = 5) ∧ K6.M.s 1 = K5.M.s 1 ∧ K6.M.find 0 1 = some 1) ∨ (Bs = false ∧ (long : Int) < (at' : Int) + (kk : Int) ∧ Hid (er6 = 6) ∧ K6.M.s 1 = K5.M.s 1 ∧ K6.M.find 0 1 = some 1) ∨ (Bs = false ∧ ¬ (long : Int) < (at' : Int) + (kk : Int) ∧ ((ns : Int) == 2) = true ∧ Hid (er6 = 8) ∧ K6.M.s 1 = K5.M.s 1 ∧ K6.M.find 0 1 = some 1) ∨ (Bs = false ∧ ¬ (long : Int) < (at' : Int) + (kk : Int) ∧ ((ns : Int) == 2) = false ∧ Hid (er6 = 0) ∧ K6.M.s 1 = K5.M.s 1 ∧ K6.M.find 0 1 = some 1) by
              by_cases hsh : shareB (may : Int) (more : Int) = true
              · obtain ⟨a1, a2⟩ := share_yes (by omega) hmay1 hsh
                have a3 : ¬ (may : Int) / 4 = 0 := fun h => by have := four_no hmay1 (by omega); rw [a2] at this; exact absurd this (by decide)
                have hB : Bs = false := by rw [HBs.out, a1, beq_eq_false_iff_ne.2 a3]; simp
                by_cases x4 : (long : Int) < (at' : Int) + (kk : Int)
                · obtain ⟨g1, _, g3⟩ := st.det (d2 hsh (by omega))
                  exact Or.inr (Or.inl ⟨hB, x4, g1, by rw [g3], by rw [g3]; exact f5⟩)
                · by_cases x5 : ns = 2
                  · obtain ⟨g1, _, g3⟩ := st.det (d3 hsh (by omega) (by rw [HN5.out.2.1]; exact x5))
                    exact Or.inr (Or.inr (Or.inl ⟨hB, x4, by simp; omega, g1, by rw [g3], by rw [g3]; exact f5⟩))
                  · obtain ⟨M', g0, g4, g5⟩ := d4 hsh (by omega) (by rw [HN5.out.2.1]; exact x5)
                    obtain ⟨g1, _, g3⟩ := st.det g0
                    exact Or.inr (Or.inr (Or.inr ⟨hB, x4, by simp; omega, g1, by rw [g3]; exact g4, by rw [g3]; exact g5⟩))
              · rcases share_no (by omega) hmay1 hsh with a1 | ⟨a1, a2⟩
                · have a3 : (may : Int) / 4 = 0 := by
                    by_cases h : (may : Int) / 4 = 1
                    · have := four_yes hmay1 h; rw [a1] at this; exact absurd this (by decide)
                    · omega
                  obtain ⟨g1, _, g3⟩ := st.det (d1 (Or.inl a3))
                  exact Or.inl ⟨by rw [HBs.out, a3]; rfl, g1, by rw [g3], by rw [g3]; exact f5⟩
                · have a3 : (may : Int) / 4 = 1 := by
                    by_cases h : (may : Int) / 4 = 1
                    · exact h
                    · have := four_no hmay1 h; rw [a1] at this; exact absurd this (by decide)
                  obtain ⟨g1, _, g3⟩ := st.det (d1 (Or.inr ⟨a3, a2⟩))
                  exact Or.inl ⟨by rw [HBs.out, bne, a2]; simp, g1, by rw [g3], by rw [g3]; exact f5⟩) with ⟨t1, y2, y3, y4⟩ | ⟨t1, t3, y2, y3, y4⟩ | ⟨t1, t3, t4, y2, y3, y4⟩ | ⟨t1, t3, t4, y2, y3, y4⟩
            all_goals clear st hL hR d1 d2 d3 d4 f5 N5 hx1 hz1
            all_goals subst t1
            all_goals go_wp2_with fail
            all_goals go_meet
            all_goals exact ⟨⟨by rw [y2.out], y3, y4⟩, rfl⟩
          case rest =>
          obtain ⟨⟨rfl, y3, y4⟩, rfl⟩ := hcut
          have s1 : K6.M.s 1 = ⟨1, true, 0, 0, (off : Int), (long : Int), (may : Int), []⟩ := y3.trans N5.s1
          have HS6 : Hid (K6.M.s 1 = ⟨1, true, 0, 0, (off : Int), (long : Int), (may : Int), []⟩ ∧ K6.M.find 0 1 = some 1) := ⟨s1, y4⟩
          clear st hL hR d1 d2 d3 d4 f5 N5 y3 y4 s1
          go_wp2_with fail
          refine (kinfo_any 1 v25 (by decide)).mono ?_
          rintro e v26 ⟨rfl, hb⟩
          have HLv26 : Hid (KLive w v26 rb K6 ∧ KRow w1.heap.size X v26 rb K6) := ⟨HLv25.out.1.below hb, HLv25.out.2.below hb⟩
          clear hb
          clear c2
          go_wp2_with fail
          refine (klive_ask2 0 (okb_9 (by decide)) HLv26.out.1 (by rw [HN6.out.1]; exact hnt1) w1.heap.size X HLv26.out.2).mono ?_
          rintro e v27 ⟨er7, m7, K7, rfl, st, hL, hR⟩
          obtain ⟨rfl, rfl, _⟩ := st.det (q_info HS6.out.2)
          have hin := info_whole2 (M := K6.M) (p := 16 * 0 + 1) (l := (long : Int)) (r := (may : Int)) (by show (K6.M.s 1).len = _; rw [HS6.out.1]) (by show (K6.M.s 1).rights = _; rw [HS6.out.1])
          obtain ⟨wh, hwh⟩ : ∃ wh, (⟨#[0]⟩ : ByteArray) ++ twoW (long : Int) ++ oneC (may : Int) = wh := ⟨_, rfl⟩
          rw [hwh] at hin
          rw [hin]
          have HLx : Hid (KLive w v27 rb K7) := hL
          have HWH : Hid ((⟨#[0]⟩ : ByteArray) ++ twoW (long : Int) ++ oneC (may : Int) = wh) := hwh
          clear st hL hR hin hwh
          have zz1 := twoW_size
          have zz0 := oneC_sz
          have hxi : (1 : Int) ≤ (xr.size : Int) := by omega
          have hzi : (1 : Int) ≤ (zr.size : Int) := by omega
          have hxn : ¬ (xr.size : Int) < 1 := by omega
          have hzn : ¬ (zr.size : Int) < 1 := by omega
          go_upto_region 48 with fail
          have HLd : Hid (KLive w v27.drew rb K7) := HLx.out.below ((Below.refl _ _).drew)
          have hwh := HWH.out
          go_cut [246] from 219 to 245 (fun s246 wx => s246 = .bool false ∧ KLive w wx rb K7)
          case first =>
            have hst := HLd.out
            have hst0 := HLx.out
            go_region_held3 (fun w' => KLive w w' rb K7)
                (first | exact hst | exact hst0)
                (first | (go_at_call 35; refine (kone_l _ hst).mono ?_; rintro e w2 ⟨rfl, hst⟩) | (go_at_call 41; refine (ktwo_l _ hst).mono ?_; rintro e w2 ⟨rfl, hst⟩))
            all_goals (go_wp2_with fail; go_meet; exact ⟨rfl, hst⟩)
          case rest =>
          obtain ⟨rfl, hLe⟩ := hcut
          have c5 := hLe.c5
          have HLe : Hid (KLive w wc rb K7) := hLe
          clear hLe hwh hx1 hz1
          by_cases h40 : er4 = 0
          · have hxy := HXY.out h40
            subst hxy h40
            go_wp2_with fail
            go_ret
            exact ⟨rfl, HLe.out.b⟩
          · have h40b : (er4 == 0) = false := by simp [h40]
            go_wp2_with fail
            go_ret
            exact ⟨rfl, HLe.out.b⟩

end Go.Proofs.Ytkjjamigaamllaa
