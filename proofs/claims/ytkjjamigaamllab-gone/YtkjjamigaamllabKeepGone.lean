/-
  The law Gone: what is freed is gone for all.
-/
import Derived.Test.YtkjjamigaamllabJoinFam
namespace Go.Proofs.Ytkjjamigaamllab
open Go.RowKit
set_option linter.unusedSimpArgs false

set_option maxRecDepth 100000 in
set_option maxHeartbeats 3200000 in
theorem kgone_any (t s c : Int) (a : Option Addr) (len cap : Nat) (f : Nat → KOp) (tn to sz : Int) (w : World) (ht : inR t) (hs : inR s) (hc : inR c) (h1 : inR tn) (h2 : inR to) (h3 : inR sz) (hS : ∀ w', Below w.heap.size w w' → KScrAt w' a len f) (hlen : len ≤ 2199023255552) :
    Calls Try.prog 4 #[.agg #[.int .i64 t, .int .i64 s, .int .i64 c], .slice a len cap, .int .i64 tn, .int .i64 to, .int .i64 sz] w fun e w' => e = .returned (.bool true) ∧ Below w.heap.size w w' := by
  have HI : Hid (inR t ∧ inR s ∧ inR c ∧ inR tn ∧ inR to ∧ inR sz ∧ ∀ w', Below w.heap.size w w' → KScrAt w' a len f) := ⟨ht, hs, hc, h1, h2, h3, hS⟩
  clear ht hs hc h1 h2 h3 hS
  go_enter Try.func4, Try.ntmps4
  go_wp2_with fail
  refine (kplayed_any t s c a len cap f true true _ HI.out.1 HI.out.2.1 HI.out.2.2.1 (fun w' h => HI.out.2.2.2.2.2.2 w' (((Below.refl _ _).alloc (Nat.le_refl _) _).trans (h.mono (by simp)))) hlen).mono ?_
  rintro e w1 ⟨rb, nt, ns, nc, K, rfl, hnt, hns, hnc, hD, hk, hg, hb⟩
  have b1 := pickK_bd t (m := 4) (by decide)
  have b2 := pickK_bd s (m := 16) (by decide)
  have b3 := pickK_bd c (m := 32) (by decide)
  have hL : KLive w w1 rb K := hD.live hk hg hb ((Below.refl _ _).alloc (Nat.le_refl _) _) (by omega) (by omega) (by omega)
  clear hnt hns hnc hD hk hg hb b1 b2 b3
  have hnt1 := hL.run.inv.nt1
  have hnt4 := hL.run.inv.ok.nt
  have hns16 := hL.run.inv.ok.ns
  have hnc32 := hL.run.inv.ok.nc
  have c1 : w1.cell? ⟨rb, 1, none⟩ = some (.int .i64 (K.M.nt : Int)) := rowCell hL.run.row 1
  obtain ⟨u, hT⟩ : ∃ u : Nat, pickK tn (K.M.nt : Int) = (u : Int) := ⟨(pickK tn (K.M.nt : Int)).toNat, by have := pickK_bd tn (m := (K.M.nt : Int)) (by omega); omega⟩
  have hu : u < K.M.nt := by have := pickK_bd tn (m := (K.M.nt : Int)) (by omega); omega
  obtain ⟨v, hV⟩ : ∃ v : Nat, pickK to (K.M.nt : Int) = (v : Int) := ⟨(pickK to (K.M.nt : Int)).toNat, by have := pickK_bd to (m := (K.M.nt : Int)) (by omega); omega⟩
  have hv : v < K.M.nt := by have := pickK_bd to (m := (K.M.nt : Int)) (by omega); omega
  obtain ⟨z, hZ⟩ : ∃ z : Nat, pickK sz 256 = (z : Int) := ⟨(pickK sz 256).toNat, by have := pickK_bd sz (m := 256) (by decide); omega⟩
  have hz : z ≤ 255 := by have := pickK_bd sz (m := 256) (by decide); omega
  obtain ⟨y, hY⟩ : ∃ y : Nat, 1 + (z : Int) = (y : Int) := ⟨1 + z, by omega⟩
  have hy1 : 1 ≤ y := by omega
  have hy2 : y ≤ 256 := by omega
  have HK : Hid (KLive w w1 rb K ∧ pickK tn (K.M.nt : Int) = (u : Int) ∧ pickK to (K.M.nt : Int) = (v : Int) ∧ pickK sz 256 = (z : Int)) := ⟨hL, hT, hV, hZ⟩
  have HY : Hid (1 + (z : Int) = (y : Int)) := hY
  clear hL hT hV hZ hY
  go_wp2_with fail
  refine (kpick_any tn (K.M.nt : Int) w1 HI.out.2.2.2.1 (by omega) (by omega)).mono ?_
  rintro e w2 ⟨rfl, rfl⟩
  rw [HK.out.2.1]
  go_wp2_with fail
  refine (kpick_any to (K.M.nt : Int) w2 HI.out.2.2.2.2.1 (by omega) (by omega)).mono ?_
  rintro e w3 ⟨rfl, rfl⟩
  rw [HK.out.2.2.1]
  go_wp2_with fail
  refine (klive_left u HK.out.1 hu).mono ?_
  rintro e w5 ⟨rfl, hL⟩
  have HL5 : Hid (KLive w w5 rb K) := hL
  clear hL
  go_wp2_with fail
  refine (klive_left v HL5.out hv).mono ?_
  rintro e w6 ⟨rfl, hL⟩
  have HL6 : Hid (KLive w w6 rb K) := hL
  clear hL
  go_wp2_with fail
  refine (kpick_any sz 256 w6 HI.out.2.2.2.2.2.1 (by omega) (by omega)).mono ?_
  rintro e w7 ⟨rfl, rfl⟩
  rw [HK.out.2.2.2]
  go_wp2_with fail
  rw [HY.out]
  clear hz
  refine (kfamily_any u v y HL6.out hu hv hy1 hy2).mono ?_
  rintro e w8 ⟨K1, hL, n1t, rfl | ⟨lb, i0, i1, i2, i3, u0, u1, u2, u3, rfl, hR, F⟩⟩
  · have c5 := hL.c5
    have HL8 : Hid (KLive w w8 rb K1) := hL
    clear hL
    go_wp2_with fail
    go_ret
    exact ⟨rfl, HL8.out.b⟩
  · have fd := F.find hL.run.inv.ok
    have hne : ((16 * u + i0 : Nat) : Int) ≠ -1 := by omega
    obtain ⟨M5, G⟩ := Gone.ex (fun q => q = 16 * u + i0 ∨ Under K1.M (16 * u + i0) q) K1.M
    have lbl := lt_of_row hR.1
    have l0 := rowCell hR.1 0
    have l1 := rowCell hR.1 1
    have bu := F.u
    have bi := F.i
    have wx0 : wd (16 * (u0 : Int) + (i0 : Int)) = true := wd_iff.2 (by omega)
    have wx1 : wd (16 * (u1 : Int) + (i1 : Int)) = true := wd_iff.2 (by omega)
    have wx2 : wd (16 * (u2 : Int) + (i2 : Int)) = true := wd_iff.2 (by omega)
    have wx3 : wd (16 * (u3 : Int) + (i3 : Int)) = true := wd_iff.2 (by omega)
    have HL8 : Hid (KLive w w8 rb K1 ∧ KRow lb (.cells #[.int .i64 (16 * (u0 : Int) + (i0 : Int)), .int .i64 (16 * (u1 : Int) + (i1 : Int)), .int .i64 (16 * (u2 : Int) + (i2 : Int)), .int .i64 (16 * (u3 : Int) + (i3 : Int))] 3 (0, 0)) w8 rb K1) := ⟨hL, hR⟩
    have HF : Hid (Fam K.M K1.M u v y i0 i1 i2 i3 u0 u1 u2 u3 ∧ Gone (fun q => q = 16 * u + i0 ∨ Under K1.M (16 * u + i0) q) K1.M M5 ∧ K1.M.find u (16 * (u0 : Int) + (i0 : Int)) = some i0 ∧ K1.M.find u (16 * (u1 : Int) + (i1 : Int)) = some i1) := ⟨F, G, fd.1, fd.2.1⟩
    clear hL hR F G fd bu bi
    generalize hXE : Obj.cells #[.int .i64 (16 * (u0 : Int) + (i0 : Int)), .int .i64 (16 * (u1 : Int) + (i1 : Int)), .int .i64 (16 * (u2 : Int) + (i2 : Int)), .int .i64 (16 * (u3 : Int) + (i3 : Int))] 3 (0, 0) = X at HL8
    have HR : Hid (∀ W K', KRow lb X W rb K' → W.cell? ⟨lb, 0, none⟩ = some (.int .i64 (16 * (u0 : Int) + (i0 : Int))) ∧ W.cell? ⟨lb, 1, none⟩ = some (.int .i64 (16 * (u1 : Int) + (i1 : Int))) ∧ W.cell? ⟨lb, 2, none⟩ = some (.int .i64 (16 * (u2 : Int) + (i2 : Int))) ∧ W.cell? ⟨lb, 3, none⟩ = some (.int .i64 (16 * (u3 : Int) + (i3 : Int)))) := fun W K' h => by
      have h1 := h.1
      rw [← hXE] at h1
      exact ⟨rowCell h1 0, rowCell h1 1, rowCell h1 2, rowCell h1 3⟩
    clear hXE
    go_wp2_with fail
    refine (kfree_any (16 * (u1 : Int) + (i1 : Int)) w8 wx1).mono ?_
    rintro e w9 ⟨rfl, hb⟩
    have HL9 : Hid (KLive w w9 rb K1 ∧ KRow lb X w9 rb K1) := ⟨HL8.out.1.below hb, HL8.out.2.below hb⟩
    clear hb
    go_wp2_with fail
    refine (klive_ask2 u (okb_2 wx1) HL9.out.1 (by rw [n1t]; exact hu) lb X HL9.out.2).mono ?_
    rintro e w10 ⟨er, m, K2, rfl, st, hL, hR⟩
    obtain ⟨rfl, rfl, hM⟩ := st.det (q_freeNo HF.out.2.2.2 (by rw [HF.out.1.s1]; exact hne))
    rw [show oneC 9 ++ nilS = (⟨#[9]⟩ : ByteArray) from by decide]
    have HL10 : Hid (KLive w w10 rb K2 ∧ KRow lb X w10 rb K2 ∧ K2.M = K1.M) := ⟨hL, hR, hM⟩
    obtain ⟨l0, l1, _, _⟩ := HR.out _ _ hR
    have lbl : lb < w10.heap.size := lt_of_row hR.1
    clear st hL hR hM
    go_wp2_with fail
    refine (kfree_any (16 * (u0 : Int) + (i0 : Int)) w10 wx0).mono ?_
    rintro e w11 ⟨rfl, hb⟩
    have HL11 : Hid (KLive w w11 rb K2 ∧ KRow lb X w11 rb K2) := ⟨HL10.out.1.below hb, HL10.out.2.1.below hb⟩
    clear hb l0 l1 lbl
    go_wp2_with fail
    refine (klive_ask2 u (okb_2 wx0) HL11.out.1 (by rw [HL10.out.2.2, n1t]; exact hu) lb X HL11.out.2).mono ?_
    rintro e w12 ⟨er, m, K3, rfl, st, hL, hR⟩
    obtain ⟨rfl, rfl, hM⟩ := st.det (M2 := M5) (by rw [HL10.out.2.2]; exact q_free HF.out.2.2.1 (by rw [HF.out.1.s0]; rfl) HF.out.2.1)
    rw [show oneC 0 ++ nilS = (⟨#[0]⟩ : ByteArray) from by decide]
    have n3t : K3.M.nt = K.M.nt := by rw [st.nt, HL10.out.2.2]; exact n1t
    have n3s : K3.M.ns = K.M.ns := by rw [st.ns, HL10.out.2.2]; exact HF.out.1.ns
    have n3c : K3.M.nc = K.M.nc := by rw [st.nc, HL10.out.2.2]; exact HF.out.1.nc
    obtain ⟨fu, z0, z1, z2, z3⟩ := HF.out.1.freed HK.out.1.run.inv hu hv HF.out.2.1 (by rw [← hM]; exact hL.run.inv.ok)
    rw [← hM] at fu z0 z1 z2 z3
    have HL12 : Hid (KLive w w12 rb K3 ∧ KRow lb X w12 rb K3 ∧ (∀ q, K3.M.used q = K.M.used q ∧ K3.M.taken q = K.M.taken q) ∧ K3.M.find u (16 * (u0 : Int) + (i0 : Int)) = none ∧ K3.M.find u (16 * (u1 : Int) + (i1 : Int)) = none ∧ K3.M.find u (16 * (u2 : Int) + (i2 : Int)) = none ∧ K3.M.find v (16 * (u3 : Int) + (i3 : Int)) = none) := ⟨hL, hR, fu, z0, z1, z2, z3⟩
    have HN : Hid (K3.M.nt = K.M.nt ∧ K3.M.ns = K.M.ns ∧ K3.M.nc = K.M.nc) := ⟨n3t, n3s, n3c⟩
    clear st hL hR hM fu z0 z1 z2 z3 n3t n3s n3c
    go_wp2_with fail
    refine (klive_left2 u HL12.out.1 (by rw [HN.out.1]; exact hu) lb X HL12.out.2.1).mono ?_
    rintro e w13 ⟨rfl, hL, hR⟩
    rw [HN.out.2.1, HN.out.2.2, (HL12.out.2.2.1 u).1, (HL12.out.2.2.1 u).2]
    have HL13 : Hid (KLive w w13 rb K3 ∧ KRow lb X w13 rb K3) := ⟨hL, hR⟩
    clear hL hR
    go_wp2_with fail
    refine (klive_left2 v HL13.out.1 (by rw [HN.out.1]; exact hv) lb X HL13.out.2).mono ?_
    rintro e w14 ⟨rfl, hL, hR⟩
    rw [HN.out.2.1, HN.out.2.2, (HL12.out.2.2.1 v).1, (HL12.out.2.2.1 v).2]
    have HL14 : Hid (KLive w w14 rb K3 ∧ KRow lb X w14 rb K3) := ⟨hL, hR⟩
    clear hL hR
    have hul := used_le K.M u
    have hul2 := used_le K.M v
    have htl := HK.out.1.fits u
    have htl2 := HK.out.1.fits v
    go_wp2_with fail
    go_loopw [30] (fun i W => ∃ (k : Nat) (K4 : KRun), k ≤ 3 ∧ i = .int .i64 (k : Int) ∧ KSame K3 K4 ∧ KLive w W rb K4 ∧ KRow lb X W rb K4) (fun i _ => 3 - (intOf i).toNat)
    case atStart => exact ⟨0, K3, by omega, rfl, KSame.refl _, HL14.out⟩
    case round =>
      obtain ⟨k, K4, hk, rfl, hS, hL, hR⟩ := hrel
      obtain ⟨l0, l1, l2, l3⟩ := HR.out _ _ hR
      have lbl : lb < wr.heap.size := lt_of_row hR.1
      by_cases hlt : k < 3
      · have hlt2 : (k : Int) < 3 := by omega
        obtain ⟨x, hx, hxw, hxf⟩ : ∃ x : Int, wr.cell? ⟨lb, k, none⟩ = some (.int .i64 x) ∧ wd x = true ∧ K3.M.find u x = none := by
          obtain rfl | rfl | rfl : k = 0 ∨ k = 1 ∨ k = 2 := by omega
          · exact ⟨_, l0, wx0, HL12.out.2.2.2.1⟩
          · exact ⟨_, l1, wx1, HL12.out.2.2.2.2.1⟩
          · exact ⟨_, l2, wx2, HL12.out.2.2.2.2.2.1⟩
        have HG : Hid (KSame K3 K4 ∧ KLive w wr rb K4 ∧ KRow lb X wr rb K4) := ⟨hS, hL, hR⟩
        clear hS hL hR l0 l1 l2 l3
        go_wp2_with fail
        refine (kstale_any u x HG.out.2.1 (by rw [HG.out.1.M, HN.out.1]; exact hu) hxw (by rw [HG.out.1.M]; exact hxf) lb X HG.out.2.2).mono ?_
        rintro e w15 ⟨rfl, K5, hS, hL, hR⟩
        have HG2 : Hid (KSame K3 K5 ∧ KLive w w15 rb K5 ∧ KRow lb X w15 rb K5) := ⟨HG.out.1.trans hS, hL, hR⟩
        clear hS hL hR
        go_wp2_with fail
        go_roundw
        case rel => exact ⟨k + 1, K5, by omega, rfl, HG2.out⟩
        case measure => simp [intOf]; omega
      · obtain rfl : k = 3 := by omega
        have HG : Hid (KSame K3 K4 ∧ KLive w wr rb K4 ∧ KRow lb X wr rb K4) := ⟨hS, hL, hR⟩
        clear hS hL hR l0 l1 l2
        go_wp2_with fail
        refine (kstale_any v (16 * (u3 : Int) + (i3 : Int)) HG.out.2.1 (by rw [HG.out.1.M, HN.out.1]; exact hv) wx3 (by rw [HG.out.1.M]; exact HL12.out.2.2.2.2.2.2) lb X HG.out.2.2).mono ?_
        rintro e w15 ⟨rfl, K5, hS, hL, hR⟩
        have c5 := hL.c5
        have HG2 : Hid (KLive w w15 rb K5) := hL
        clear hS hL hR
        go_wp2_with fail
        refine (kone_any 9 _).mono ?_
        rintro e w16 ⟨rfl, hb⟩
        rw [show oneC 9 = (⟨#[9]⟩ : ByteArray) from by decide]
        have HB16 : Hid (Below w.heap.size w w16) := (HG2.out.below hb).b
        clear hb c5
        go_wp2_with fail
        go_ret
        exact ⟨rfl, HB16.out⟩

end Go.Proofs.Ytkjjamigaamllab
