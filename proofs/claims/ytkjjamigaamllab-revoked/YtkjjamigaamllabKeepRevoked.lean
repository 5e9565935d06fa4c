/-
  The law Revoked: what is revoked is gone for all.
-/
import Derived.Test.YtkjjamigaamllabJoinFam
namespace Go.Proofs.Ytkjjamigaamllab
open Go.RowKit
set_option linter.unusedSimpArgs false

/-- Info of what is held -/
theorem kinfo_ask {w0 w : World} {rb : Nat} {K : KRun} (t : Nat) (x : Int) (n : Nat) (h : KLive w0 w rb K) (ht : t < K.M.nt) (hx : wd x = true) (hf : K.M.find t x = some n) (lb : Nat) (X : Obj) (hr : KRow lb X w rb K) :
    Calls Try.prog 9 #[.pointer (some ⟨rb, 0, none⟩), .int .i64 (t : Int), .string (bodyS 9 x 0 0 0 0 ⟨#[]⟩)] w fun e w' => e = .returned (.string (oneC 0 ++ K.M.info (16 * t + n))) ∧ ∃ K', KSame K K' ∧ KLive w0 w' rb K' ∧ KRow lb X w' rb K' := by
  refine (klive_ask2 t (okb_9 hx) h ht lb X hr).mono ?_
  rintro e w' ⟨er, m, K', rfl, st, hL, hR⟩
  obtain ⟨rfl, rfl, hM⟩ := st.det (q_info hf)
  exact ⟨rfl, K', st.plain (by decide) (by decide) (by decide) hM, hL, hR⟩
theorem info_whole {M : Mach} {p : Nat} {l r : Int} (h1 : (M.s p).len = l) (h2 : (M.s p).rights = r) : oneC 0 ++ M.info p = (⟨#[0]⟩ : ByteArray) ++ twoW l ++ oneC r := by
  unfold Mach.info
  rw [h1, h2, ByteArray.append_assoc, show oneC 0 = (⟨#[0]⟩ : ByteArray) from by decide]

set_option maxRecDepth 100000 in
set_option maxHeartbeats 3200000 in
theorem krevoked_any (t s c : Int) (a : Option Addr) (len cap : Nat) (f : Nat → KOp) (tn to sz : Int) (w : World) (ht : inR t) (hs : inR s) (hc : inR c) (h1 : inR tn) (h2 : inR to) (h3 : inR sz) (hS : ∀ w', Below w.heap.size w w' → KScrAt w' a len f) (hlen : len ≤ 2199023255552) :
    Calls Try.prog 3 #[.agg #[.int .i64 t, .int .i64 s, .int .i64 c], .slice a len cap, .int .i64 tn, .int .i64 to, .int .i64 sz] w fun e w' => e = .returned (.bool true) ∧ Below w.heap.size w w' := by
  have HI : Hid (inR t ∧ inR s ∧ inR c ∧ inR tn ∧ inR to ∧ inR sz ∧ ∀ w', Below w.heap.size w w' → KScrAt w' a len f) := ⟨ht, hs, hc, h1, h2, h3, hS⟩
  clear ht hs hc h1 h2 h3 hS
  go_enter Try.func3, Try.ntmps3
  go_wp2_with fail
  refine (kplayed_any t s c a len cap f true true _ HI.out.1 HI.out.2.1 HI.out.2.2.1 (fun w' h => HI.out.2.2.2.2.2.2 w' (((Below.refl _ _).alloc (Nat.le_refl _) _).trans (h.mono (by simp)))) hlen).mono ?_
  rintro e w1 ⟨rb, nt, ns, nc, K, rfl, hnt, hns, hnc, hD, hk, hg, hb⟩
  have b1 := pickK_bd t (m := 4) (by decide)
  have b2 := pickK_bd s (m := 16) (by decide)
  have b3 := pickK_bd c (m := 32) (by decide)
  have hL : KLive w w1 rb K := hD.live hk hg hb ((Below.refl _ _).alloc (Nat.le_refl _) _) (by omega) (by omega) (by omega)
  clear hnt hns hnc hD hk hg hb b1 b2 b3
  have hnt1 := hL.run.inv.nt1
  have hnt4 := hL.run.inv.ok.nt
  have hns16 := hL.run.inv.ok.ns
  have hnc32 := hL.run.inv.ok.nc
  have c1 : w1.cell? ⟨rb, 1, none⟩ = some (.int .i64 (K.M.nt : Int)) := rowCell hL.run.row 1
  obtain ⟨u, hT⟩ : ∃ u : Nat, pickK tn (K.M.nt : Int) = (u : Int) := ⟨(pickK tn (K.M.nt : Int)).toNat, by have := pickK_bd tn (m := (K.M.nt : Int)) (by omega); omega⟩
  have hu : u < K.M.nt := by have := pickK_bd tn (m := (K.M.nt : Int)) (by omega); omega
  obtain ⟨v, hV⟩ : ∃ v : Nat, pickK to (K.M.nt : Int) = (v : Int) := ⟨(pickK to (K.M.nt : Int)).toNat, by have := pickK_bd to (m := (K.M.nt : Int)) (by omega); omega⟩
  have hv : v < K.M.nt := by have := pickK_bd to (m := (K.M.nt : Int)) (by omega); omega
  obtain ⟨z, hZ⟩ : ∃ z : Nat, pickK sz 256 = (z : Int) := ⟨(pickK sz 256).toNat, by have := pickK_bd sz (m := 256) (by decide); omega⟩
  have hz : z ≤ 255 := by have := pickK_bd sz (m := 256) (by decide); omega
  obtain ⟨y, hY⟩ : ∃ y : Nat, 1 + (z : Int) = (y : Int) := ⟨1 + z, by omega⟩
  have hy1 : 1 ≤ y := by omega
  have hy2 : y ≤ 256 := by omega
  have HK : Hid (KLive w w1 rb K ∧ pickK tn (K.M.nt : Int) = (u : Int) ∧ pickK to (K.M.nt : Int) = (v : Int) ∧ pickK sz 256 = (z : Int)) := ⟨hL, hT, hV, hZ⟩
  have HY : Hid (1 + (z : Int) = (y : Int)) := hY
  clear hL hT hV hZ hY
  go_wp2_with fail
  refine (kpick_any tn (K.M.nt : Int) w1 HI.out.2.2.2.1 (by omega) (by omega)).mono ?_
  rintro e w2 ⟨rfl, rfl⟩
  rw [HK.out.2.1]
  go_wp2_with fail
  refine (kpick_any to (K.M.nt : Int) w2 HI.out.2.2.2.2.1 (by omega) (by omega)).mono ?_
  rintro e w3 ⟨rfl, rfl⟩
  rw [HK.out.2.2.1]
  go_wp2_with fail
  refine (kpick_any sz 256 w3 HI.out.2.2.2.2.2.1 (by omega) (by omega)).mono ?_
  rintro e w7 ⟨rfl, rfl⟩
  rw [HK.out.2.2.2]
  go_wp2_with fail
  rw [HY.out]
  clear hz
  refine (kfamily_any u v y HK.out.1 hu hv hy1 hy2).mono ?_
  rintro e w8 ⟨K1, hL, n1t, rfl | ⟨lb, i0, i1, i2, i3, u0, u1, u2, u3, rfl, hR, F⟩⟩
  · have c5 := hL.c5
    have HL8 : Hid (KLive w w8 rb K1) := hL
    clear hL
    go_wp2_with fail
    go_ret
    exact ⟨rfl, HL8.out.b⟩
  · have fd := F.find hL.run.inv.ok
    obtain ⟨M5, G⟩ := Gone.ex (Under K1.M (16 * u + i1)) K1.M
    have bu := F.u
    have bi := F.i
    have wx0 : wd (16 * (u0 : Int) + (i0 : Int)) = true := wd_iff.2 (by omega)
    have wx1 : wd (16 * (u1 : Int) + (i1 : Int)) = true := wd_iff.2 (by omega)
    have wx2 : wd (16 * (u2 : Int) + (i2 : Int)) = true := wd_iff.2 (by omega)
    have wx3 : wd (16 * (u3 : Int) + (i3 : Int)) = true := wd_iff.2 (by omega)
    have hne : ((16 * u + i0 : Nat) : Int) ≠ -1 := by omega
    have inf0 := info_whole (M := K1.M) (p := 16 * u + i0) (l := (y : Int)) (r := 7) (by rw [F.s0]; rfl) (by rw [F.s0]; rfl)
    have inf1 := info_whole (M := K1.M) (p := 16 * u + i1) (l := (y : Int)) (r := 7) (by rw [F.s1]) (by rw [F.s1])
    have inf2 := info_whole (M := K1.M) (p := 16 * u + i2) (l := 1) (r := 5) (by rw [F.s2]) (by rw [F.s2])
    have inf3 := info_whole (M := K1.M) (p := 16 * v + i3) (l := 1) (r := 5) (by rw [F.s3]) (by rw [F.s3])
    obtain ⟨wh, hwh⟩ : ∃ wh, (⟨#[0]⟩ : ByteArray) ++ twoW (y : Int) ++ oneC 7 = wh := ⟨_, rfl⟩
    obtain ⟨pt, hpt⟩ : ∃ pt, (⟨#[0]⟩ : ByteArray) ++ twoW 1 ++ oneC 5 = pt := ⟨_, rfl⟩
    rw [hwh] at inf0 inf1
    rw [hpt] at inf2 inf3
    generalize hXE : Obj.cells #[.int .i64 (16 * (u0 : Int) + (i0 : Int)), .int .i64 (16 * (u1 : Int) + (i1 : Int)), .int .i64 (16 * (u2 : Int) + (i2 : Int)), .int .i64 (16 * (u3 : Int) + (i3 : Int))] 3 (0, 0) = X at hR
    have HR : Hid (∀ W K', KRow lb X W rb K' → W.cell? ⟨lb, 0, none⟩ = some (.int .i64 (16 * (u0 : Int) + (i0 : Int))) ∧ W.cell? ⟨lb, 1, none⟩ = some (.int .i64 (16 * (u1 : Int) + (i1 : Int))) ∧ W.cell? ⟨lb, 2, none⟩ = some (.int .i64 (16 * (u2 : Int) + (i2 : Int))) ∧ W.cell? ⟨lb, 3, none⟩ = some (.int .i64 (16 * (u3 : Int) + (i3 : Int)))) := fun W K' h => by
      have h1 := h.1
      rw [← hXE] at h1
      exact ⟨rowCell h1 0, rowCell h1 1, rowCell h1 2, rowCell h1 3⟩
    have HLw8 : Hid (KLive w w8 rb K1 ∧ KRow lb X w8 rb K1) := ⟨hL, hR⟩
    have HF : Hid (Fam K.M K1.M u v y i0 i1 i2 i3 u0 u1 u2 u3 ∧ Gone (Under K1.M (16 * u + i1)) K1.M M5) := ⟨F, G⟩
    obtain ⟨v0, v1, v2, v3, v4, v5, v6⟩ := F.revoked HK.out.1.run.inv hu hv G (inv_below hL.run.inv G).ok
    have HV : Hid (M5.s (16 * u + i0) = K1.M.s (16 * u + i0) ∧ M5.s (16 * u + i1) = K1.M.s (16 * u + i1) ∧ M5.find u (16 * (u0 : Int) + (i0 : Int)) = some i0 ∧ M5.find u (16 * (u1 : Int) + (i1 : Int)) = some i1 ∧ M5.find u (16 * (u2 : Int) + (i2 : Int)) = none ∧ M5.find v (16 * (u3 : Int) + (i3 : Int)) = none ∧ K1.M.used u = M5.used u + (if u = v then 2 else 1)) := ⟨v0, v1, v2, v3, v4, v5, v6⟩
    have inf4 := info_whole (M := M5) (p := 16 * u + i0) (l := (y : Int)) (r := 7) (by rw [v0, F.s0]; rfl) (by rw [v0, F.s0]; rfl)
    have inf5 := info_whole (M := M5) (p := 16 * u + i1) (l := (y : Int)) (r := 7) (by rw [v1, F.s1]) (by rw [v1, F.s1])
    rw [hwh] at inf4 inf5
    have hul := used_le K1.M u
    have htl := hL.fits u
    have hns1 : K1.M.ns ≤ 16 := hL.run.inv.ok.ns
    have hnc1 : K1.M.nc ≤ 32 := hL.run.inv.ok.nc
    have HD : Hid (K1.M.find u (16 * (u0 : Int) + (i0 : Int)) = some i0 ∧ K1.M.find u (16 * (u1 : Int) + (i1 : Int)) = some i1 ∧ K1.M.find u (16 * (u2 : Int) + (i2 : Int)) = some i2 ∧ K1.M.find v (16 * (u3 : Int) + (i3 : Int)) = some i3) := fd
    have HIN : Hid (oneC 0 ++ K1.M.info (16 * u + i0) = wh ∧ oneC 0 ++ K1.M.info (16 * u + i1) = wh ∧ oneC 0 ++ K1.M.info (16 * u + i2) = pt ∧ oneC 0 ++ K1.M.info (16 * v + i3) = pt ∧ oneC 0 ++ M5.info (16 * u + i0) = wh ∧ oneC 0 ++ M5.info (16 * u + i1) = wh) := ⟨inf0, inf1, inf2, inf3, inf4, inf5⟩
    have HWH : Hid ((⟨#[0]⟩ : ByteArray) ++ twoW (y : Int) ++ oneC 7 = wh ∧ (⟨#[0]⟩ : ByteArray) ++ twoW 1 ++ oneC 5 = pt) := ⟨hwh, hpt⟩
    have hu1 : u < K1.M.nt := by rw [n1t]; exact hu
    have hv1 : v < K1.M.nt := by rw [n1t]; exact hv
    obtain ⟨l0, l1, l2, l3⟩ := HR.out _ _ hR
    have lbl : lb < w8.heap.size := lt_of_row hR.1
    clear hL hR F G fd bu bi inf0 inf1 inf2 inf3 inf4 inf5 hwh hpt hXE v0 v1 v2 v3 v4 v5 v6
    go_wp2_with fail
    refine (kinfo_any (16 * (u0 : Int) + (i0 : Int)) w8 wx0).mono ?_
    rintro e w9 ⟨rfl, hb⟩
    have HLw9 : Hid (KLive w w9 rb K1 ∧ KRow lb X w9 rb K1) := ⟨HLw8.out.1.below hb, HLw8.out.2.below hb⟩
    clear hb l0 l1 l2 l3 lbl
    go_wp2_with fail
    refine (kinfo_ask u (16 * (u0 : Int) + (i0 : Int)) i0 HLw9.out.1 (hu1) wx0 (HD.out.1) lb X HLw9.out.2).mono ?_
    rintro e w10 ⟨rfl, K2, hS, hL, hR⟩
    have HLw10 : Hid (KLive w w10 rb K2 ∧ KRow lb X w10 rb K2) := ⟨hL, hR⟩
    have HSK2 : Hid (K2.M = K1.M) := hS.M
    rw [HIN.out.1]
    obtain ⟨l0, l1, l2, l3⟩ := HR.out _ _ hR
    have lbl : lb < w10.heap.size := lt_of_row hR.1
    clear hS hL hR
    go_wp2_with fail
    refine (kinfo_any (16 * (u1 : Int) + (i1 : Int)) w10 wx1).mono ?_
    rintro e w11 ⟨rfl, hb⟩
    have HLw11 : Hid (KLive w w11 rb K2 ∧ KRow lb X w11 rb K2) := ⟨HLw10.out.1.below hb, HLw10.out.2.below hb⟩
    clear hb l0 l1 l2 l3 lbl
    go_wp2_with fail
    refine (kinfo_ask u (16 * (u1 : Int) + (i1 : Int)) i1 HLw11.out.1 (by rw [HSK2.out]; exact hu1) wx1 (by rw [HSK2.out]; exact HD.out.2.1) lb X HLw11.out.2).mono ?_
    rintro e w12 ⟨rfl, K3, hS, hL, hR⟩
    have HLw12 : Hid (KLive w w12 rb K3 ∧ KRow lb X w12 rb K3) := ⟨hL, hR⟩
    have HSK3 : Hid (K3.M = K1.M) := hS.M.trans HSK2.out
    rw [HSK2.out, HIN.out.2.1]
    obtain ⟨l0, l1, l2, l3⟩ := HR.out _ _ hR
    have lbl : lb < w12.heap.size := lt_of_row hR.1
    clear hS hL hR
    go_wp2_with fail
    refine (kinfo_any (16 * (u2 : Int) + (i2 : Int)) w12 wx2).mono ?_
    rintro e w13 ⟨rfl, hb⟩
    have HLw13 : Hid (KLive w w13 rb K3 ∧ KRow lb X w13 rb K3) := ⟨HLw12.out.1.below hb, HLw12.out.2.below hb⟩
    clear hb l0 l1 l2 l3 lbl
    go_wp2_with fail
    refine (kinfo_ask u (16 * (u2 : Int) + (i2 : Int)) i2 HLw13.out.1 (by rw [HSK3.out]; exact hu1) wx2 (by rw [HSK3.out]; exact HD.out.2.2.1) lb X HLw13.out.2).mono ?_
    rintro e w14 ⟨rfl, K4, hS, hL, hR⟩
    have HLw14 : Hid (KLive w w14 rb K4 ∧ KRow lb X w14 rb K4) := ⟨hL, hR⟩
    have HSK4 : Hid (K4.M = K1.M) := hS.M.trans HSK3.out
    rw [HSK3.out, HIN.out.2.2.1]
    obtain ⟨l0, l1, l2, l3⟩ := HR.out _ _ hR
    have lbl : lb < w14.heap.size := lt_of_row hR.1
    clear hS hL hR
    go_wp2_with fail
    refine (kinfo_any (16 * (u3 : Int) + (i3 : Int)) w14 wx3).mono ?_
    rintro e w15 ⟨rfl, hb⟩
    have HLw15 : Hid (KLive w w15 rb K4 ∧ KRow lb X w15 rb K4) := ⟨HLw14.out.1.below hb, HLw14.out.2.below hb⟩
    clear hb l0 l1 l2 l3 lbl
    go_wp2_with fail
    refine (kinfo_ask v (16 * (u3 : Int) + (i3 : Int)) i3 HLw15.out.1 (by rw [HSK4.out]; exact hv1) wx3 (by rw [HSK4.out]; exact HD.out.2.2.2) lb X HLw15.out.2).mono ?_
    rintro e w16 ⟨rfl, K5, hS, hL, hR⟩
    have HLw16 : Hid (KLive w w16 rb K5 ∧ KRow lb X w16 rb K5) := ⟨hL, hR⟩
    have HSK5 : Hid (K5.M = K1.M) := hS.M.trans HSK4.out
    rw [HSK4.out, HIN.out.2.2.2.1]
    obtain ⟨l0, l1, l2, l3⟩ := HR.out _ _ hR
    have lbl : lb < w16.heap.size := lt_of_row hR.1
    clear hS hL hR
    clear l0 l1 l2 l3 lbl
    have z1 := twoW_size
    have z0 := oneC_sz
    go_wp2_with fail
    refine (ktwo_any (y : Int) w16).mono ?_
    rintro e w17 ⟨rfl, hb⟩
    have HLw17 : Hid (KLive w w17 rb K5 ∧ KRow lb X w17 rb K5) := ⟨HLw16.out.1.below hb, HLw16.out.2.below hb⟩
    clear hb
    go_wp2_with fail
    refine (kone_any 7 w17).mono ?_
    rintro e w18 ⟨rfl, hb⟩
    have HLw18 : Hid (KLive w w18 rb K5 ∧ KRow lb X w18 rb K5) := ⟨HLw17.out.1.below hb, HLw17.out.2.below hb⟩
    clear hb
    go_wp2_with fail
    refine (ktwo_any 1 w18).mono ?_
    rintro e w19 ⟨rfl, hb⟩
    have HLw19 : Hid (KLive w w19 rb K5 ∧ KRow lb X w19 rb K5) := ⟨HLw18.out.1.below hb, HLw18.out.2.below hb⟩
    clear hb
    go_wp2_with fail
    refine (kone_any 5 w19).mono ?_
    rintro e w20 ⟨rfl, hb⟩
    have HLw20 : Hid (KLive w w20 rb K5 ∧ KRow lb X w20 rb K5) := ⟨HLw19.out.1.below hb, HLw19.out.2.below hb⟩
    clear hb
    have hwh := HWH.out.1
    have hpt := HWH.out.2
    go_wp2_with fail
    refine (klive_left2 u HLw20.out.1 (by rw [HSK5.out]; exact hu1) lb X HLw20.out.2).mono ?_
    rintro e w21 ⟨rfl, hL, hR⟩
    rw [HSK5.out]
    have HLw21 : Hid (KLive w w21 rb K5 ∧ KRow lb X w21 rb K5) := ⟨hL, hR⟩
    obtain ⟨l0, l1, l2, l3⟩ := HR.out _ _ hR
    have lbl : lb < w21.heap.size := lt_of_row hR.1
    clear hL hR hwh hpt
    go_wp2_with fail
    refine (krevoke_any (16 * (u1 : Int) + (i1 : Int)) w21 wx1).mono ?_
    rintro e w22 ⟨rfl, hb⟩
    have HLw22 : Hid (KLive w w22 rb K5 ∧ KRow lb X w22 rb K5) := ⟨HLw21.out.1.below hb, HLw21.out.2.below hb⟩
    clear hb l0 l1 l2 l3 lbl
    go_wp2_with fail
    refine (klive_ask2 u (okb_7 wx1) HLw22.out.1 (by rw [HSK5.out]; exact hu1) lb X HLw22.out.2).mono ?_
    rintro e w23 ⟨er, m, K6, rfl, st, hL, hR⟩
    obtain ⟨rfl, rfl, hM⟩ := st.det (M2 := M5) (by rw [HSK5.out]; exact q_revoke HD.out.2.1 HF.out.2)
    rw [show oneC 0 ++ nilS = (⟨#[0]⟩ : ByteArray) from by decide]
    have HLw23 : Hid (KLive w w23 rb K6 ∧ KRow lb X w23 rb K6) := ⟨hL, hR⟩
    have HSK6 : Hid (K6.M = M5 ∧ K6.M.nt = K1.M.nt ∧ K6.M.ns = K1.M.ns ∧ K6.M.nc = K1.M.nc) := ⟨hM, by rw [st.nt, HSK5.out], by rw [st.ns, HSK5.out], by rw [st.nc, HSK5.out]⟩
    obtain ⟨l0, l1, l2, l3⟩ := HR.out _ _ hR
    have lbl : lb < w23.heap.size := lt_of_row hR.1
    clear st hL hR hM
    go_wp2_with fail
    refine (klive_left2 u HLw23.out.1 (by rw [HSK6.out.2.1]; exact hu1) lb X HLw23.out.2).mono ?_
    rintro e w24 ⟨rfl, hL, hR⟩
    rw [HSK6.out.2.2.1, HSK6.out.2.2.2, HSK6.out.1]
    have HLw24 : Hid (KLive w w24 rb K6 ∧ KRow lb X w24 rb K6) := ⟨hL, hR⟩
    clear l0 l1 l2 l3 lbl
    obtain ⟨l0, l1, l2, l3⟩ := HR.out _ _ hR
    have lbl : lb < w24.heap.size := lt_of_row hR.1
    clear hL hR
    obtain ⟨M6, G6⟩ := Gone.ex (fun q => q = 16 * u + i1 ∨ Under M5 (16 * u + i1) q) M5
    have HG6 : Hid (Gone (fun q => q = 16 * u + i1 ∨ Under M5 (16 * u + i1) q) M5 M6) := G6
    clear G6
    obtain ⟨us, hus⟩ : ∃ us, M5.used u = us := ⟨_, rfl⟩
    have hgg := HV.out.2.2.2.2.2.2
    rw [hus] at hgg ⊢
    by_cases huv : u = v
    · rw [if_pos huv] at hgg
      rw [hgg] at hul ⊢
      have tu : ((u : Int) == (v : Int)) = true := by simp; omega
      have ee : ((K1.M.ns : Int) - (us : Int) == (K1.M.ns : Int) - ((us : Int) + 2) + 2) = true := by simp; omega
      clear huv hgg hus
      go_wp2_with fail
      refine (kinfo_any (16 * (u0 : Int) + (i0 : Int)) w24 wx0).mono ?_
      rintro e w25 ⟨rfl, hb⟩
      have HLw25 : Hid (KLive w w25 rb K6 ∧ KRow lb X w25 rb K6) := ⟨HLw24.out.1.below hb, HLw24.out.2.below hb⟩
      clear hb l0 l1 l2 l3 lbl
      go_wp2_with fail
      refine (kinfo_ask u (16 * (u0 : Int) + (i0 : Int)) i0 HLw25.out.1 (by rw [HSK6.out.2.1]; exact hu1) wx0 (by rw [HSK6.out.1]; exact HV.out.2.2.1) lb X HLw25.out.2).mono ?_
      rintro e w26 ⟨rfl, K7, hS, hL, hR⟩
      rw [HSK6.out.1, HIN.out.2.2.2.2.1]
      have HLw26 : Hid (KLive w w26 rb K7 ∧ KRow lb X w26 rb K7) := ⟨hL, hR⟩
      have HSK7 : Hid (K7.M = M5 ∧ K7.M.nt = K1.M.nt ∧ K7.M.ns = K1.M.ns ∧ K7.M.nc = K1.M.nc) := ⟨hS.M.trans HSK6.out.1, by rw [hS.M]; exact HSK6.out.2.1, by rw [hS.M]; exact HSK6.out.2.2.1, by rw [hS.M]; exact HSK6.out.2.2.2⟩
      obtain ⟨l0, l1, l2, l3⟩ := HR.out _ _ hR
      have lbl : lb < w26.heap.size := lt_of_row hR.1
      clear hS hL hR
      go_wp2_with fail
      refine (kinfo_any (16 * (u1 : Int) + (i1 : Int)) w26 wx1).mono ?_
      rintro e w27 ⟨rfl, hb⟩
      have HLw27 : Hid (KLive w w27 rb K7 ∧ KRow lb X w27 rb K7) := ⟨HLw26.out.1.below hb, HLw26.out.2.below hb⟩
      clear hb l0 l1 l2 l3 lbl
      go_wp2_with fail
      refine (kinfo_ask u (16 * (u1 : Int) + (i1 : Int)) i1 HLw27.out.1 (by rw [HSK7.out.2.1]; exact hu1) wx1 (by rw [HSK7.out.1]; exact HV.out.2.2.2.1) lb X HLw27.out.2).mono ?_
      rintro e w28 ⟨rfl, K8, hS, hL, hR⟩
      rw [HSK7.out.1, HIN.out.2.2.2.2.2]
      have HLw28 : Hid (KLive w w28 rb K8 ∧ KRow lb X w28 rb K8) := ⟨hL, hR⟩
      have HSK8 : Hid (K8.M = M5 ∧ K8.M.nt = K1.M.nt ∧ K8.M.ns = K1.M.ns ∧ K8.M.nc = K1.M.nc) := ⟨hS.M.trans HSK7.out.1, by rw [hS.M]; exact HSK7.out.2.1, by rw [hS.M]; exact HSK7.out.2.2.1, by rw [hS.M]; exact HSK7.out.2.2.2⟩
      obtain ⟨l0, l1, l2, l3⟩ := HR.out _ _ hR
      have lbl : lb < w28.heap.size := lt_of_row hR.1
      clear hS hL hR
      go_wp2_with fail
      refine (kstale_any u (16 * (u2 : Int) + (i2 : Int)) HLw28.out.1 (by rw [HSK8.out.2.1]; exact hu1) wx2 (by rw [HSK8.out.1]; exact HV.out.2.2.2.2.1) lb X HLw28.out.2).mono ?_
      rintro e w29 ⟨rfl, K9, hS, hL, hR⟩
      have HLw29 : Hid (KLive w w29 rb K9 ∧ KRow lb X w29 rb K9) := ⟨hL, hR⟩
      have HSK9 : Hid (K9.M = M5 ∧ K9.M.nt = K1.M.nt ∧ K9.M.ns = K1.M.ns ∧ K9.M.nc = K1.M.nc) := ⟨hS.M.trans HSK8.out.1, by rw [hS.M]; exact HSK8.out.2.1, by rw [hS.M]; exact HSK8.out.2.2.1, by rw [hS.M]; exact HSK8.out.2.2.2⟩
      clear l0 l1 l2 l3 lbl
      obtain ⟨l0, l1, l2, l3⟩ := HR.out _ _ hR
      have lbl : lb < w29.heap.size := lt_of_row hR.1
      clear hS hL hR
      go_wp2_with fail
      refine (kstale_any v (16 * (u3 : Int) + (i3 : Int)) HLw29.out.1 (by rw [HSK9.out.2.1]; exact hv1) wx3 (by rw [HSK9.out.1]; exact HV.out.2.2.2.2.2.1) lb X HLw29.out.2).mono ?_
      rintro e w30 ⟨rfl, K10, hS, hL, hR⟩
      have HLw30 : Hid (KLive w w30 rb K10 ∧ KRow lb X w30 rb K10) := ⟨hL, hR⟩
      have HSK10 : Hid (K10.M = M5 ∧ K10.M.nt = K1.M.nt ∧ K10.M.ns = K1.M.ns ∧ K10.M.nc = K1.M.nc) := ⟨hS.M.trans HSK9.out.1, by rw [hS.M]; exact HSK9.out.2.1, by rw [hS.M]; exact HSK9.out.2.2.1, by rw [hS.M]; exact HSK9.out.2.2.2⟩
      clear l0 l1 l2 l3 lbl
      obtain ⟨l0, l1, l2, l3⟩ := HR.out _ _ hR
      have lbl : lb < w30.heap.size := lt_of_row hR.1
      clear hS hL hR
      go_wp2_with fail
      refine (kdrop_any (16 * (u0 : Int) + (i0 : Int)) w30 wx0).mono ?_
      rintro e w31 ⟨rfl, hb⟩
      have HLw31 : Hid (KLive w w31 rb K10 ∧ KRow lb X w31 rb K10) := ⟨HLw30.out.1.below hb, HLw30.out.2.below hb⟩
      clear hb l0 l1 l2 l3 lbl
      go_wp2_with fail
      refine (klive_ask2 u (okb_8 wx0) HLw31.out.1 (by rw [HSK10.out.2.1]; exact hu1) lb X HLw31.out.2).mono ?_
      rintro e w32 ⟨er, m, K11, rfl, st, hL, hR⟩
      obtain ⟨rfl, rfl, hM⟩ := st.det (M2 := M5) (by rw [HSK10.out.1]; exact q_dropNo HV.out.2.2.1 (by rw [HV.out.1, HF.out.1.s0]; rfl))
      rw [show oneC 9 ++ nilS = (⟨#[9]⟩ : ByteArray) from by decide]
      have HLw32 : Hid (KLive w w32 rb K11 ∧ KRow lb X w32 rb K11) := ⟨hL, hR⟩
      have HSK11 : Hid (K11.M = M5 ∧ K11.M.nt = K1.M.nt ∧ K11.M.ns = K1.M.ns ∧ K11.M.nc = K1.M.nc) := ⟨hM, by rw [st.nt, HSK10.out.2.1], by rw [st.ns, HSK10.out.2.2.1], by rw [st.nc, HSK10.out.2.2.2]⟩
      obtain ⟨l0, l1, l2, l3⟩ := HR.out _ _ hR
      have lbl : lb < w32.heap.size := lt_of_row hR.1
      clear st hL hR hM
      go_wp2_with fail
      refine (kdrop_any (16 * (u1 : Int) + (i1 : Int)) w32 wx1).mono ?_
      rintro e w33 ⟨rfl, hb⟩
      have HLw33 : Hid (KLive w w33 rb K11 ∧ KRow lb X w33 rb K11) := ⟨HLw32.out.1.below hb, HLw32.out.2.below hb⟩
      clear hb l0 l1 l2 l3 lbl
      go_wp2_with fail
      refine (klive_ask2 u (okb_8 wx1) HLw33.out.1 (by rw [HSK11.out.2.1]; exact hu1) lb X HLw33.out.2).mono ?_
      rintro e w34 ⟨er, m, K12, rfl, st, hL, hR⟩
      obtain ⟨rfl, rfl, hM⟩ := st.det (M2 := M6) (by rw [HSK11.out.1]; exact q_drop HV.out.2.2.2.1 (by rw [HV.out.2.1, HF.out.1.s1]; exact hne) HG6.out)
      rw [show oneC 0 ++ nilS = (⟨#[0]⟩ : ByteArray) from by decide]
      have HLw34 : Hid (KLive w w34 rb K12 ∧ KRow lb X w34 rb K12) := ⟨hL, hR⟩
      have HSK12 : Hid (K12.M = M6 ∧ K12.M.nt = K1.M.nt ∧ K12.M.ns = K1.M.ns ∧ K12.M.nc = K1.M.nc) := ⟨hM, by rw [st.nt, HSK11.out.2.1], by rw [st.ns, HSK11.out.2.2.1], by rw [st.nc, HSK11.out.2.2.2]⟩
      obtain ⟨l0, l1, l2, l3⟩ := HR.out _ _ hR
      have lbl : lb < w34.heap.size := lt_of_row hR.1
      clear st hL hR hM
      go_wp2_with fail
      refine (kstale_any u (16 * (u1 : Int) + (i1 : Int)) HLw34.out.1 (by rw [HSK12.out.2.1]; exact hu1) wx1 (by rw [HSK12.out.1]; exact find_empty (by rw [← HSK12.out.1]; exact HLw34.out.1.run.inv.ok) (by rw [← HSK12.out.1, HSK12.out.2.2.1, HF.out.1.ns]; exact HF.out.1.i.2.1) (by rw [HG6.out.out _ (Or.inl rfl)]; rfl) _) lb X HLw34.out.2).mono ?_
      rintro e w35 ⟨rfl, K13, hS, hL, hR⟩
      have HLw35 : Hid (KLive w w35 rb K13 ∧ KRow lb X w35 rb K13) := ⟨hL, hR⟩
      clear l0 l1 l2 l3 lbl
      obtain ⟨l0, l1, l2, l3⟩ := HR.out _ _ hR
      have lbl : lb < w35.heap.size := lt_of_row hR.1
      clear hS hL hR
      have c5 := HLw35.out.1.c5
      clear l0 l1 l2 l3 lbl
      go_wp2_with fail
      refine (kone_any 9 _).mono ?_
      rintro e w36 ⟨rfl, hb⟩
      rw [show oneC 9 = (⟨#[9]⟩ : ByteArray) from by decide]
      have HB36 : Hid (Below w.heap.size w w36) := (HLw35.out.1.below hb).b
      clear hb c5
      go_wp2_with fail
      go_ret
      exact ⟨rfl, HB36.out⟩
    · rw [if_neg huv] at hgg
      rw [hgg] at hul ⊢
      have tu : ((u : Int) == (v : Int)) = false := by simp; omega
      have ee : ((K1.M.ns : Int) - (us : Int) == (K1.M.ns : Int) - ((us : Int) + 1) + 1) = true := by simp; omega
      clear huv hgg hus
      go_wp2_with fail
      refine (kinfo_any (16 * (u0 : Int) + (i0 : Int)) w24 wx0).mono ?_
      rintro e w25 ⟨rfl, hb⟩
      have HLw25 : Hid (KLive w w25 rb K6 ∧ KRow lb X w25 rb K6) := ⟨HLw24.out.1.below hb, HLw24.out.2.below hb⟩
      clear hb l0 l1 l2 l3 lbl
      go_wp2_with fail
      refine (kinfo_ask u (16 * (u0 : Int) + (i0 : Int)) i0 HLw25.out.1 (by rw [HSK6.out.2.1]; exact hu1) wx0 (by rw [HSK6.out.1]; exact HV.out.2.2.1) lb X HLw25.out.2).mono ?_
      rintro e w26 ⟨rfl, K7, hS, hL, hR⟩
      rw [HSK6.out.1, HIN.out.2.2.2.2.1]
      have HLw26 : Hid (KLive w w26 rb K7 ∧ KRow lb X w26 rb K7) := ⟨hL, hR⟩
      have HSK7 : Hid (K7.M = M5 ∧ K7.M.nt = K1.M.nt ∧ K7.M.ns = K1.M.ns ∧ K7.M.nc = K1.M.nc) := ⟨hS.M.trans HSK6.out.1, by rw [hS.M]; exact HSK6.out.2.1, by rw [hS.M]; exact HSK6.out.2.2.1, by rw [hS.M]; exact HSK6.out.2.2.2⟩
      obtain ⟨l0, l1, l2, l3⟩ := HR.out _ _ hR
      have lbl : lb < w26.heap.size := lt_of_row hR.1
      clear hS hL hR
      go_wp2_with fail
      refine (kinfo_any (16 * (u1 : Int) + (i1 : Int)) w26 wx1).mono ?_
      rintro e w27 ⟨rfl, hb⟩
      have HLw27 : Hid (KLive w w27 rb K7 ∧ KRow lb X w27 rb K7) := ⟨HLw26.out.1.below hb, HLw26.out.2.below hb⟩
      clear hb l0 l1 l2 l3 lbl
      go_wp2_with fail
      refine (kinfo_ask u (16 * (u1 : Int) + (i1 : Int)) i1 HLw27.out.1 (by rw [HSK7.out.2.1]; exact hu1) wx1 (by rw [HSK7.out.1]; exact HV.out.2.2.2.1) lb X HLw27.out.2).mono ?_
      rintro e w28 ⟨rfl, K8, hS, hL, hR⟩
      rw [HSK7.out.1, HIN.out.2.2.2.2.2]
      have HLw28 : Hid (KLive w w28 rb K8 ∧ KRow lb X w28 rb K8) := ⟨hL, hR⟩
      have HSK8 : Hid (K8.M = M5 ∧ K8.M.nt = K1.M.nt ∧ K8.M.ns = K1.M.ns ∧ K8.M.nc = K1.M.nc) := ⟨hS.M.trans HSK7.out.1, by rw [hS.M]; exact HSK7.out.2.1, by rw [hS.M]; exact HSK7.out.2.2.1, by rw [hS.M]; exact HSK7.out.2.2.2⟩
      obtain ⟨l0, l1, l2, l3⟩ := HR.out _ _ hR
      have lbl : lb < w28.heap.size := lt_of_row hR.1
      clear hS hL hR
      go_wp2_with fail
      refine (kstale_any u (16 * (u2 : Int) + (i2 : Int)) HLw28.out.1 (by rw [HSK8.out.2.1]; exact hu1) wx2 (by rw [HSK8.out.1]; exact HV.out.2.2.2.2.1) lb X HLw28.out.2).mono ?_
      rintro e w29 ⟨rfl, K9, hS, hL, hR⟩
      have HLw29 : Hid (KLive w w29 rb K9 ∧ KRow lb X w29 rb K9) := ⟨hL, hR⟩
      have HSK9 : Hid (K9.M = M5 ∧ K9.M.nt = K1.M.nt ∧ K9.M.ns = K1.M.ns ∧ K9.M.nc = K1.M.nc) := ⟨hS.M.trans HSK8.out.1, by rw [hS.M]; exact HSK8.out.2.1, by rw [hS.M]; exact HSK8.out.2.2.1, by rw [hS.M]; exact HSK8.out.2.2.2⟩
      clear l0 l1 l2 l3 lbl
      obtain ⟨l0, l1, l2, l3⟩ := HR.out _ _ hR
      have lbl : lb < w29.heap.size := lt_of_row hR.1
      clear hS hL hR
      go_wp2_with fail
      refine (kstale_any v (16 * (u3 : Int) + (i3 : Int)) HLw29.out.1 (by rw [HSK9.out.2.1]; exact hv1) wx3 (by rw [HSK9.out.1]; exact HV.out.2.2.2.2.2.1) lb X HLw29.out.2).mono ?_
      rintro e w30 ⟨rfl, K10, hS, hL, hR⟩
      have HLw30 : Hid (KLive w w30 rb K10 ∧ KRow lb X w30 rb K10) := ⟨hL, hR⟩
      have HSK10 : Hid (K10.M = M5 ∧ K10.M.nt = K1.M.nt ∧ K10.M.ns = K1.M.ns ∧ K10.M.nc = K1.M.nc) := ⟨hS.M.trans HSK9.out.1, by rw [hS.M]; exact HSK9.out.2.1, by rw [hS.M]; exact HSK9.out.2.2.1, by rw [hS.M]; exact HSK9.out.2.2.2⟩
      clear l0 l1 l2 l3 lbl
      obtain ⟨l0, l1, l2, l3⟩ := HR.out _ _ hR
      have lbl : lb < w30.heap.size := lt_of_row hR.1
      clear hS hL hR
      go_wp2_with fail
      refine (kdrop_any (16 * (u0 : Int) + (i0 : Int)) w30 wx0).mono ?_
      rintro e w31 ⟨rfl, hb⟩
      have HLw31 : Hid (KLive w w31 rb K10 ∧ KRow lb X w31 rb K10) := ⟨HLw30.out.1.below hb, HLw30.out.2.below hb⟩
      clear hb l0 l1 l2 l3 lbl
      go_wp2_with fail
      refine (klive_ask2 u (okb_8 wx0) HLw31.out.1 (by rw [HSK10.out.2.1]; exact hu1) lb X HLw31.out.2).mono ?_
      rintro e w32 ⟨er, m, K11, rfl, st, hL, hR⟩
      obtain ⟨rfl, rfl, hM⟩ := st.det (M2 := M5) (by rw [HSK10.out.1]; exact q_dropNo HV.out.2.2.1 (by rw [HV.out.1, HF.out.1.s0]; rfl))
      rw [show oneC 9 ++ nilS = (⟨#[9]⟩ : ByteArray) from by decide]
      have HLw32 : Hid (KLive w w32 rb K11 ∧ KRow lb X w32 rb K11) := ⟨hL, hR⟩
      have HSK11 : Hid (K11.M = M5 ∧ K11.M.nt = K1.M.nt ∧ K11.M.ns = K1.M.ns ∧ K11.M.nc = K1.M.nc) := ⟨hM, by rw [st.nt, HSK10.out.2.1], by rw [st.ns, HSK10.out.2.2.1], by rw [st.nc, HSK10.out.2.2.2]⟩
      obtain ⟨l0, l1, l2, l3⟩ := HR.out _ _ hR
      have lbl : lb < w32.heap.size := lt_of_row hR.1
      clear st hL hR hM
      go_wp2_with fail
      refine (kdrop_any (16 * (u1 : Int) + (i1 : Int)) w32 wx1).mono ?_
      rintro e w33 ⟨rfl, hb⟩
      have HLw33 : Hid (KLive w w33 rb K11 ∧ KRow lb X w33 rb K11) := ⟨HLw32.out.1.below hb, HLw32.out.2.below hb⟩
      clear hb l0 l1 l2 l3 lbl
      go_wp2_with fail
      refine (klive_ask2 u (okb_8 wx1) HLw33.out.1 (by rw [HSK11.out.2.1]; exact hu1) lb X HLw33.out.2).mono ?_
      rintro e w34 ⟨er, m, K12, rfl, st, hL, hR⟩
      obtain ⟨rfl, rfl, hM⟩ := st.det (M2 := M6) (by rw [HSK11.out.1]; exact q_drop HV.out.2.2.2.1 (by rw [HV.out.2.1, HF.out.1.s1]; exact hne) HG6.out)
      rw [show oneC 0 ++ nilS = (⟨#[0]⟩ : ByteArray) from by decide]
      have HLw34 : Hid (KLive w w34 rb K12 ∧ KRow lb X w34 rb K12) := ⟨hL, hR⟩
      have HSK12 : Hid (K12.M = M6 ∧ K12.M.nt = K1.M.nt ∧ K12.M.ns = K1.M.ns ∧ K12.M.nc = K1.M.nc) := ⟨hM, by rw [st.nt, HSK11.out.2.1], by rw [st.ns, HSK11.out.2.2.1], by rw [st.nc, HSK11.out.2.2.2]⟩
      obtain ⟨l0, l1, l2, l3⟩ := HR.out _ _ hR
      have lbl : lb < w34.heap.size := lt_of_row hR.1
      clear st hL hR hM
      go_wp2_with fail
      refine (kstale_any u (16 * (u1 : Int) + (i1 : Int)) HLw34.out.1 (by rw [HSK12.out.2.1]; exact hu1) wx1 (by rw [HSK12.out.1]; exact find_empty (by rw [← HSK12.out.1]; exact HLw34.out.1.run.inv.ok) (by rw [← HSK12.out.1, HSK12.out.2.2.1, HF.out.1.ns]; exact HF.out.1.i.2.1) (by rw [HG6.out.out _ (Or.inl rfl)]; rfl) _) lb X HLw34.out.2).mono ?_
      rintro e w35 ⟨rfl, K13, hS, hL, hR⟩
      have HLw35 : Hid (KLive w w35 rb K13 ∧ KRow lb X w35 rb K13) := ⟨hL, hR⟩
      clear l0 l1 l2 l3 lbl
      obtain ⟨l0, l1, l2, l3⟩ := HR.out _ _ hR
      have lbl : lb < w35.heap.size := lt_of_row hR.1
      clear hS hL hR
      have c5 := HLw35.out.1.c5
      clear l0 l1 l2 l3 lbl
      go_wp2_with fail
      refine (kone_any 9 _).mono ?_
      rintro e w36 ⟨rfl, hb⟩
      rw [show oneC 9 = (⟨#[9]⟩ : ByteArray) from by decide]
      have HB36 : Hid (Below w.heap.size w w36) := (HLw35.out.1.below hb).b
      clear hb c5
      go_wp2_with fail
      go_ret
      exact ⟨rfl, HB36.out⟩

end Go.Proofs.Ytkjjamigaamllab
