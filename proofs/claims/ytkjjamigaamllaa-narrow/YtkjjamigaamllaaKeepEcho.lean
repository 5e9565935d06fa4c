/-
  The law Echo: what is written is read, and nothing else is changed.
-/
import Derived.Test.YtkjjamigaamllaaJoinLive
import Derived.Test.YtkjjamigaamllaaKeepEchoPure
namespace Go.Proofs.Ytkjjamigaamllaa
open Go.RowKit
set_option linter.unusedSimpArgs false

theorem KStep.err {K K' : KRun} {t : Nat} {op x o l r to : Int} {d : ByteArray} {er : Int} {m : ByteArray} (hok : okB op x o l r to d.size = true) (st : KStep K t op x o l r to d er m K') : 0 ≤ er ∧ er ≤ 9 := by
  obtain ⟨h1, h2, _⟩ := ((stepS_body hok).2 st.q).err
  exact ⟨h1, h2⟩
/-- a reply that gives a handle -/
theorem reply_two {x : Int} (h : wd x = true) : ∃ rp, oneC 0 ++ twoW x = rp ∧ rp.size = 3 ∧ byt rp 0 = 0 ∧ 256 * byt rp 1 + byt rp 2 = x :=
  ⟨_, rfl, by rw [reply_size, twoW_size], byt_one _ _ ⟨by decide, by decide⟩, by rw [hOf_reply (twoW_size _), hOf_two h]⟩
theorem KLive.c5 {w0 w : World} {rb : Nat} {K : KRun} (h : KLive w0 w rb K) : w.cell? ⟨rb, 5, none⟩ = some (.bool true) := by
  rw [← h.ok]; exact rowCell h.run.row 5

theorem zeros_size (n : Nat) : (zerosS n).size = n := by unfold zerosS; rw [strOfNums_size]; simp
theorem part_new2 {M : Mach} {p u y : Nat} (h : M.s p = HSlot.new u p (y : Int)) : strOfNums (M.part p 0 (y : Int)) = zerosS y := by
  unfold Mach.part zerosS
  have e1 : (M.s p).root.toNat = p := by rw [h]; rfl
  rw [e1, h]
  have e2 : (y : Int).toNat = y := rfl
  simp only [HSlot.new, e2]
  simp
theorem part_written {M : Mach} {p u y a : Nat} {d : ByteArray} (h : M.s p = (HSlot.new u p (y : Int)).withBytes (spl (List.replicate y 0) a d d.size)) (ha : a + d.size ≤ y) : strOfNums (M.part p 0 (y : Int)) = zerosS a ++ d ++ zerosS (y - a - d.size) := by
  unfold Mach.part zerosS
  have e1 : (M.s p).root.toNat = p := by rw [h]; rfl
  rw [e1, h, ← written y a d ha]
  have e2 : (y : Int).toNat = y := rfl
  have e3 : (spl (List.replicate y 0) a d d.size).length = y := by rw [spl_len]; simp
  simp only [HSlot.new, HSlot.withBytes, e2]
  rw [show ((0 : Int) + 0).toNat = 0 from rfl, List.drop_zero, List.take_of_length_le (by omega)]

set_option maxRecDepth 100000 in
set_option maxHeartbeats 3200000 in
theorem kecho_any (t s c : Int) (a : Option Addr) (len cap : Nat) (f : Nat → KOp) (tn sz of : Int) (sx : ByteArray) (ot : Int) (w : World) (ht : inR t) (hs : inR s) (hc : inR c) (h1 : inR tn) (h2 : inR sz) (h3 : inR of) (hsx : sx.size ≤ 140737488355328) (h4 : inR ot) (hS : ∀ w', Below w.heap.size w w' → KScrAt w' a len f) (hlen : len ≤ 2199023255552) :
    Calls Try.prog 10 #[.agg #[.int .i64 t, .int .i64 s, .int .i64 c], .slice a len cap, .int .i64 tn, .int .i64 sz, .int .i64 of, .string sx, .int .i64 ot] w fun e w' => e = .returned (.bool true) ∧ Below w.heap.size w w' := by
  have HI : Hid (inR t ∧ inR s ∧ inR c ∧ inR tn ∧ inR sz ∧ inR of ∧ inR ot ∧ ∀ w', Below w.heap.size w w' → KScrAt w' a len f) := ⟨ht, hs, hc, h1, h2, h3, h4, hS⟩
  clear ht hs hc h1 h2 h3 h4 hS
  go_enter Try.func10, Try.ntmps10
  go_wp2_with fail
  refine (kplayed_any t s c a len cap f false false _ HI.out.1 HI.out.2.1 HI.out.2.2.1 (fun w' h => HI.out.2.2.2.2.2.2.2 w' (((Below.refl _ _).alloc (Nat.le_refl _) _).trans (h.mono (by simp)))) hlen).mono ?_
  rintro e w1 ⟨rb, nt, ns, nc, K, rfl, hnt, hns, hnc, hD, hk, hg, hb⟩
  have b1 := pickK_bd t (m := 4) (by decide)
  have b2 := pickK_bd s (m := 16) (by decide)
  have b3 := pickK_bd c (m := 32) (by decide)
  have hL : KLive w w1 rb K := hD.live hk hg hb ((Below.refl _ _).alloc (Nat.le_refl _) _) (by omega) (by omega) (by omega)
  clear hnt hns hnc hD hk hg hb b1 b2 b3
  have hnt1 := hL.run.inv.nt1
  have hnt4 := hL.run.inv.ok.nt
  have hns16 := hL.run.inv.ok.ns
  have hnc32 := hL.run.inv.ok.nc
  have c1 : w1.cell? ⟨rb, 1, none⟩ = some (.int .i64 (K.M.nt : Int)) := rowCell hL.run.row 1
  obtain ⟨u, hT⟩ : ∃ u : Nat, pickK tn (K.M.nt : Int) = (u : Int) := ⟨(pickK tn (K.M.nt : Int)).toNat, by have := pickK_bd tn (m := (K.M.nt : Int)) (by omega); omega⟩
  have hu : u < K.M.nt := by have := pickK_bd tn (m := (K.M.nt : Int)) (by omega); omega
  obtain ⟨z, hZ⟩ : ∃ z : Nat, pickK sz 256 = (z : Int) := ⟨(pickK sz 256).toNat, by have := pickK_bd sz (m := 256) (by decide); omega⟩
  have hz : z ≤ 255 := by have := pickK_bd sz (m := 256) (by decide); omega
  obtain ⟨y, hY⟩ : ∃ y : Nat, 1 + (z : Int) = (y : Int) := ⟨1 + z, by omega⟩
  have hy1 : 1 ≤ y := by omega
  have hy2 : y ≤ 256 := by omega
  have HK : Hid (KLive w w1 rb K ∧ pickK tn (K.M.nt : Int) = (u : Int) ∧ pickK sz 256 = (z : Int)) := ⟨hL, hT, hZ⟩
  have HY : Hid (1 + (z : Int) = (y : Int)) := hY
  obtain ⟨x0, hx0⟩ : ∃ x0, namedV (K.gl u) ot = x0 := ⟨_, rfl⟩
  have hw0 : wd x0 = true := by rw [← hx0]; exact namedV_wd (hL.good.num u) ot
  have HX : Hid (namedV (K.gl u) ot = x0) := hx0
  clear hL hT hZ hY hx0
  go_wp2_with fail
  refine (kpick_any tn (K.M.nt : Int) w1 HI.out.2.2.2.1 (by omega) (by omega)).mono ?_
  rintro e w2 ⟨rfl, rfl⟩
  rw [HK.out.2.1]
  go_wp2_with fail
  refine (kpick_any sz 256 w2 HI.out.2.2.2.2.1 (by omega) (by omega)).mono ?_
  rintro e w3 ⟨rfl, rfl⟩
  rw [HK.out.2.2]
  go_wp2_with fail
  refine (klive_named u ot HK.out.1 hu HI.out.2.2.2.2.2.2.1).mono ?_
  rintro e w4 ⟨rfl, rfl⟩
  rw [HX.out, HY.out]
  clear hz
  go_wp2_with fail
  refine (kread_any x0 0 1 w4 hw0 (by decide) (by decide)).mono ?_
  rintro e w5 ⟨rfl, hb⟩
  have HL5 : Hid (KLive w w5 rb K) := HK.out.1.below hb
  clear hb
  go_wp2_with fail
  refine (klive_ask u (okb_3 hw0 (by decide) (by decide)) HL5.out hu).mono ?_
  rintro e w6 ⟨er, m, K1, rfl, st, hL⟩
  obtain ⟨rfl, rfl, hM⟩ := st.det (q_readR K.M u x0 0 1)
  obtain ⟨bf, hbf⟩ : ∃ bf, oneC (readR K.M u x0 0 1).1 ++ (readR K.M u x0 0 1).2 = bf := ⟨_, rfl⟩
  rw [hbf]
  have hu1 : u < K1.M.nt := by rw [hM]; exact hu
  have HL6 : Hid (KLive w w6 rb K1 ∧ K1.M = K.M ∧ oneC (readR K.M u x0 0 1).1 ++ (readR K.M u x0 0 1).2 = bf) := ⟨hL, hM, hbf⟩
  clear st hL hM hbf
  go_wp2_with fail
  refine (kalloc_any (y : Int) w6 (wd_iff.2 (by omega))).mono ?_
  rintro e w7 ⟨rfl, hb⟩
  have HL7 : Hid (KLive w w7 rb K1) := HL6.out.1.below hb
  clear hb
  go_wp2_with fail
  refine (klive_ask u (okb_1 (wd_iff.2 (by omega))) HL7.out hu1).mono ?_
  rintro e w8 ⟨er2, m2, K2, rfl, st2, hL⟩
  have hu2 : u < K2.M.nt := by rw [st2.nt]; exact hu1
  obtain ⟨e20, e21⟩ := st2.err (okb_1 (wd_iff.2 (by omega)))
  have HL8 : Hid (KLive w w8 rb K2 ∧ KStep K1 u 1 0 0 (y : Int) 0 0 ⟨#[]⟩ er2 m2 K2) := ⟨hL, st2⟩
  clear hL st2
  go_wp2_with fail
  refine (kalloc_any (y : Int) w8 (wd_iff.2 (by omega))).mono ?_
  rintro e w9 ⟨rfl, hb⟩
  have HL9 : Hid (KLive w w9 rb K2) := HL8.out.1.below hb
  clear hb
  go_wp2_with fail
  refine (klive_ask u (okb_1 (wd_iff.2 (by omega))) HL9.out hu2).mono ?_
  rintro e w10 ⟨er3, m3, K3, rfl, st3, hL⟩
  have hu3 : u < K3.M.nt := by rw [st3.nt]; exact hu2
  obtain ⟨e30, e31⟩ := st3.err (okb_1 (wd_iff.2 (by omega)))
  have HL10 : Hid (KLive w w10 rb K3 ∧ KStep K2 u 1 0 0 (y : Int) 0 0 ⟨#[]⟩ er3 m3 K3) := ⟨hL, st3⟩
  have c5 := hL.c5
  clear hL st3
  go_wp2_with fail
  refine (kgood_any (oneC er2 ++ m2) er2 w10 (by rw [reply_size]; omega) (byt_one _ _ ⟨e20, by omega⟩)).mono ?_
  rintro e w11 ⟨rfl, rfl⟩
  by_cases he2 : er2 = 0
  · rw [show (er2 == 0) = true from by simp [he2]]
    go_wp2_with fail
    refine (kgood_any (oneC er3 ++ m3) er3 w11 (by rw [reply_size]; omega) (byt_one _ _ ⟨e30, by omega⟩)).mono ?_
    rintro e w12 ⟨rfl, rfl⟩
    by_cases he3 : er3 = 0
    · rw [show (er3 == 0) = true from by simp [he3]]
      subst he2 he3
      obtain ⟨i1, n1, g1, M1e⟩ := alloc_ok (by omega) HL8.out.2.q rfl
      obtain ⟨i2, n2, g2, M2e⟩ := alloc_ok (by omega) HL10.out.2.q rfl
      rw [HL6.out.2.1] at n1 g1 M1e
      obtain ⟨u1, eu1⟩ : ∃ u1, u1 = (K.M.s (16 * u + i1)).uses := ⟨_, rfl⟩
      obtain ⟨u2, eu2⟩ : ∃ u2, u2 = (K2.M.s (16 * u + i2)).uses := ⟨_, rfl⟩
      rw [← eu1] at g1 M1e
      rw [← eu2] at g2 M2e
      obtain ⟨b1, b2, b3, b4, b5, f1, f2, s1, s2, hw⟩ := echo_facts HK.out.1.run.inv hu hy1 hy2 eu1 eu2 n1 M1e n2 M2e
      subst g1 g2
      obtain ⟨xa, hxa⟩ : ∃ xa, 16 * (u1 : Int) + (i1 : Int) = xa := ⟨_, rfl⟩
      obtain ⟨xb, hxb⟩ : ∃ xb, 16 * (u2 : Int) + (i2 : Int) = xb := ⟨_, rfl⟩
      have wxa : wd xa = true := wd_iff.2 (by omega)
      have wxb : wd xb = true := wd_iff.2 (by omega)
      rw [hxa] at f1 hw ⊢
      rw [hxb] at f2 hw ⊢
      obtain ⟨ra, hra, ra3, ra0, rah⟩ := reply_two wxa
      obtain ⟨rb2, hrb, rb3, rb0, rbh⟩ := reply_two wxb
      rw [hra, hrb]
      have HF : Hid (K3.M.find u xa = some i1 ∧ K3.M.find u xb = some i2 ∧ K3.M.s (16 * u + i1) = HSlot.new u1 (16 * u + i1) (y : Int) ∧ K3.M.s (16 * u + i2) = HSlot.new u2 (16 * u + i2) (y : Int) ∧ i1 ≠ i2) := ⟨f1, f2, s1, s2, b5⟩
      have HW : Hid (∀ bs : List Int, bs.length = y → (K3.M.set (16 * u + i1) ((HSlot.new u1 (16 * u + i1) (y : Int)).withBytes bs)).find u xa = some i1 ∧ (K3.M.set (16 * u + i1) ((HSlot.new u1 (16 * u + i1) (y : Int)).withBytes bs)).find u xb = some i2 ∧ ∀ x, x ≠ xa → x ≠ xb → readR (K3.M.set (16 * u + i1) ((HSlot.new u1 (16 * u + i1) (y : Int)).withBytes bs)) u x 0 1 = readR K.M u x 0 1) := hw
      have HL12 : Hid (KLive w w12 rb K3) := HL10.out.1
      clear HL8 HL10 n1 n2 M1e M2e eu1 eu2 f1 f2 s1 s2 hw hxa hxb hra hrb b1 b2 b3 b4 b5 e20 e21 e30 e31 c5
      obtain ⟨at', hat⟩ : ∃ at' : Nat, pickK of ((y : Int) + 1) = (at' : Int) := ⟨(pickK of ((y : Int) + 1)).toNat, by have := pickK_bd of (m := (y : Int) + 1) (by omega); omega⟩
      have haty : at' ≤ y := by have := pickK_bd of (m := (y : Int) + 1) (by omega); omega
      have wat : wd (at' : Int) = true := wd_iff.2 (by omega)
      have HA : Hid (pickK of ((y : Int) + 1) = (at' : Int)) := hat
      clear hat
      by_cases hcut : 64 < sx.size
      · have hcut2 : (64 : Int) < (sx.size : Int) := by omega
        go_wp2_with fail
        obtain ⟨d, hd⟩ : ∃ d, sx.extract 0 64 = d := ⟨_, rfl⟩
        have hd64 : d.size ≤ 64 := by rw [← hd, ByteArray.size_extract]; omega
        rw [hd]
        clear hd hcut hcut2
        refine (kpick_any of ((y : Int) + 1) w12 HI.out.2.2.2.2.2.1 (by omega) (by omega)).mono ?_
        rintro e w13 ⟨rfl, rfl⟩
        rw [HA.out]
        go_wp2_with fail
        refine (khandle_any ra w13 ra3).mono ?_
        rintro e w14 ⟨rfl, hb⟩
        rw [rah]
        have HL14 : Hid (KLive w w14 rb K3) := HL12.out.below hb
        clear hb
        go_wp2_with fail
        refine (kwrite_any xa (at' : Int) d w14 wxa wat hd64).mono ?_
        rintro e w15 ⟨rfl, hb⟩
        have HL15 : Hid (KLive w w15 rb K3) := HL14.out.below hb
        clear hb
        go_wp2_with fail
        refine (klive_ask u (okb_4 wxa wat hd64) HL15.out hu3).mono ?_
        rintro e w16 ⟨er4, m4, K4, rfl, st, hL⟩
        obtain ⟨q1, q2, q3⟩ := st.det (q_write HF.out.1)
        obtain ⟨v1, v2⟩ := write_own (a := at') (d := d) HF.out.2.2.1
        by_cases hfar : y < at' + d.size
        · rw [v1, if_pos hfar] at q1
          subst q1 q2
          rw [show oneC 6 ++ nilS = (⟨#[6]⟩ : ByteArray) from by decide]
          have hf2 : (y : Int) < (at' : Int) + (d.size : Int) := by omega
          have c5 := hL.c5
          have HL16 : Hid (KLive w w16 rb K4) := hL
          clear hL st q3 v1 v2 hfar
          go_wp2_with fail
          refine (kone_any 6 _).mono ?_
          rintro e w17 ⟨rfl, hb⟩
          rw [show oneC 6 = (⟨#[6]⟩ : ByteArray) from by decide]
          have HB17 : Hid (Below w.heap.size w w17) := (HL16.out.below hb).b
          clear hb
          go_wp2_with fail
          go_ret
          exact ⟨rfl, HB17.out⟩
        · rw [v1, if_neg hfar] at q1
          rw [v2 hfar] at q3
          subst q1 q2
          rw [show oneC 0 ++ nilS = (⟨#[0]⟩ : ByteArray) from by decide]
          have hf2 : ¬ (y : Int) < (at' : Int) + (d.size : Int) := by omega
          have hlb : (spl (List.replicate y 0) at' d d.size).length = y := by rw [spl_len]; simp
          obtain ⟨p1, p2, p3⟩ := HW.out _ hlb
          rw [← q3] at p1 p2 p3
          have t1 : K4.M.s (16 * u + i1) = (HSlot.new u1 (16 * u + i1) (y : Int)).withBytes (spl (List.replicate y 0) at' d d.size) := by rw [q3]; exact Mach.set_same _ _ _
          have t2 : K4.M.s (16 * u + i2) = HSlot.new u2 (16 * u + i2) (y : Int) := by
            rw [q3, Mach.set_other _ _ (by have := HF.out.2.2.2.2; omega)]
            exact HF.out.2.2.2.1
          obtain ⟨want, hwant⟩ : ∃ want, zerosS at' ++ d ++ zerosS (y - at' - d.size) = want := ⟨_, rfl⟩
          have hpa : strOfNums (K4.M.part (16 * u + i1) 0 (y : Int)) = want := by rw [← hwant]; exact part_written t1 (by omega)
          have hpb : strOfNums (K4.M.part (16 * u + i2) 0 (y : Int)) = zerosS y := part_new2 t2
          have HL16 : Hid (KLive w w16 rb K4 ∧ K4.M.find u xa = some i1 ∧ K4.M.find u xb = some i2 ∧ (∀ x, x ≠ xa → x ≠ xb → readR K4.M u x 0 1 = readR K.M u x 0 1) ∧ K4.M.s (16 * u + i1) = (HSlot.new u1 (16 * u + i1) (y : Int)).withBytes (spl (List.replicate y 0) at' d d.size) ∧ K4.M.s (16 * u + i2) = HSlot.new u2 (16 * u + i2) (y : Int) ∧ strOfNums (K4.M.part (16 * u + i1) 0 (y : Int)) = want ∧ strOfNums (K4.M.part (16 * u + i2) 0 (y : Int)) = zerosS y ∧ zerosS at' ++ d ++ zerosS (y - at' - d.size) = want) := ⟨hL, p1, p2, p3, t1, t2, hpa, hpb, hwant⟩
          have hu4 : u < K4.M.nt := by rw [st.nt]; exact hu3
          clear hL st q3 v1 v2 hlb p1 p2 p3 t1 t2 hpa hpb hwant
          go_wp2_with fail
          refine (khandle_any ra w16 ra3).mono ?_
          rintro e w17 ⟨rfl, hb⟩
          rw [rah]
          have HL17 : Hid (KLive w w17 rb K4) := HL16.out.1.below hb
          clear hb
          go_wp2_with fail
          refine (klive_all u i1 y xa HL17.out hu4 wxa HL16.out.2.1 (by rw [HL16.out.2.2.2.2.1]; rfl) (by rw [HL16.out.2.2.2.2.1]; rfl) hy2).mono ?_
          rintro e w18 ⟨rfl, K5, hS5, hL⟩
          rw [HL16.out.2.2.2.2.2.2.1]
          have HL18 : Hid (KLive w w18 rb K5 ∧ K5.M = K4.M) := ⟨hL, hS5.M⟩
          have hu5 : u < K5.M.nt := by rw [hS5.M]; exact hu4
          clear hL hS5
          go_wp2_with fail
          refine (khandle_any rb2 w18 rb3).mono ?_
          rintro e w19 ⟨rfl, hb⟩
          rw [rbh]
          have HL19 : Hid (KLive w w19 rb K5) := HL18.out.1.below hb
          clear hb
          go_wp2_with fail
          refine (klive_all u i2 y xb HL19.out hu5 wxb (by rw [HL18.out.2]; exact HL16.out.2.2.1) (by rw [HL18.out.2, HL16.out.2.2.2.2.2.1]; rfl) (by rw [HL18.out.2, HL16.out.2.2.2.2.2.1]; rfl) hy2).mono ?_
          rintro e w20 ⟨rfl, K6, hS6, hL⟩
          rw [HL18.out.2, HL16.out.2.2.2.2.2.2.2.1]
          have HL20 : Hid (KLive w w20 rb K6 ∧ K6.M = K4.M) := ⟨hL, hS6.M.trans HL18.out.2⟩
          have hu6 : u < K6.M.nt := by rw [hS6.M]; exact hu5
          clear hL hS6
          have zsz : ∀ n, (zerosS n).size = n := zeros_size
          go_wp2_with fail
          refine (kzeros_any at' w20 (by omega)).mono ?_
          rintro e w21 ⟨rfl, hb⟩
          have HL21 : Hid (KLive w w21 rb K6) := HL20.out.1.below hb
          have zs1 := zeros_size at'
          clear hb
          go_wp2_with fail
          rw [show (y : Int) - (at' : Int) - (d.size : Int) = ((y - at' - d.size : Nat) : Int) from by omega]
          refine (kzeros_any (y - at' - d.size) w21 (by omega)).mono ?_
          rintro e w22 ⟨rfl, hb⟩
          have HL22 : Hid (KLive w w22 rb K6) := HL21.out.below hb
          have zs2 := zeros_size (y - at' - d.size)
          clear hb
          go_wp2_with fail
          rw [HL16.out.2.2.2.2.2.2.2.2]
          refine (kread_any x0 0 1 w22 hw0 (by decide) (by decide)).mono ?_
          rintro e w23 ⟨rfl, hb⟩
          have HL23 : Hid (KLive w w23 rb K6) := HL22.out.below hb
          clear hb
          go_wp2_with fail
          refine (klive_ask u (okb_3 hw0 (by decide) (by decide)) HL23.out hu6).mono ?_
          rintro e w24 ⟨er7, m7, K7, rfl, st, hL⟩
          obtain ⟨rfl, rfl, _⟩ := st.det (q_readR K6.M u x0 0 1)
          obtain ⟨af, haf⟩ : ∃ af, oneC (readR K6.M u x0 0 1).1 ++ (readR K6.M u x0 0 1).2 = af := ⟨_, rfl⟩
          rw [haf]
          have HL24 : Hid (KLive w w24 rb K7 ∧ (x0 ≠ xa → x0 ≠ xb → af = bf)) := ⟨hL, fun n1 n2 => by rw [← haf, HL20.out.2, HL16.out.2.2.2.1 x0 n1 n2]; exact HL6.out.2.2⟩
          clear st hL haf
          go_wp2_with fail
          refine (khandle_any ra w24 ra3).mono ?_
          rintro e w25 ⟨rfl, hb⟩
          rw [rah]
          have HL25 : Hid (KLive w w25 rb K7) := HL24.out.1.below hb
          clear hb
          by_cases ca : x0 = xa
          · have cab : (x0 == xa) = true := by simp [ca]
            have c5 := HL25.out.c5
            clear ca
            go_wp2_with fail
            refine (kzeros_any y w25 hy2).mono ?_
            rintro e w27 ⟨rfl, hb⟩
            have HL27 : Hid (KLive w w27 rb K7) := HL25.out.below hb
            clear hb c5
            go_wp2_with fail
            go_ret
            exact ⟨rfl, HL27.out.b⟩
          · have cab : (x0 == xa) = false := by simp [ca]
            go_wp2_with fail
            refine (khandle_any rb2 w25 rb3).mono ?_
            rintro e w26 ⟨rfl, hb⟩
            rw [rbh]
            have HL26 : Hid (KLive w w26 rb K7) := HL25.out.below hb
            clear hb
            have c5 := HL26.out.c5
            by_cases cb : x0 = xb
            · have cbb : (x0 == xb) = true := by simp [cb]
              clear ca cb
              go_wp2_with fail
              refine (kzeros_any y w26 hy2).mono ?_
              rintro e w27 ⟨rfl, hb⟩
              have HL27 : Hid (KLive w w27 rb K7) := HL26.out.below hb
              clear hb c5
              go_wp2_with fail
              go_ret
              exact ⟨rfl, HL27.out.b⟩
            · have cbb : (x0 == xb) = false := by simp [cb]
              have haf := HL24.out.2 ca cb
              subst haf
              clear ca cb
              go_wp2_with fail
              refine (kzeros_any y w26 hy2).mono ?_
              rintro e w27 ⟨rfl, hb⟩
              have HL27 : Hid (KLive w w27 rb K7) := HL26.out.below hb
              clear hb c5
              go_wp2_with fail
              go_ret
              exact ⟨rfl, HL27.out.b⟩
      · have hcut2 : ¬ (64 : Int) < (sx.size : Int) := by omega
        have hd64 : sx.size ≤ 64 := by omega
        clear hcut hsx
        go_wp2_with fail
        generalize sx = d at *
        refine (kpick_any of ((y : Int) + 1) w12 HI.out.2.2.2.2.2.1 (by omega) (by omega)).mono ?_
        rintro e w13 ⟨rfl, rfl⟩
        rw [HA.out]
        go_wp2_with fail
        refine (khandle_any ra w13 ra3).mono ?_
        rintro e w14 ⟨rfl, hb⟩
        rw [rah]
        have HL14 : Hid (KLive w w14 rb K3) := HL12.out.below hb
        clear hb
        go_wp2_with fail
        refine (kwrite_any xa (at' : Int) d w14 wxa wat hd64).mono ?_
        rintro e w15 ⟨rfl, hb⟩
        have HL15 : Hid (KLive w w15 rb K3) := HL14.out.below hb
        clear hb
        go_wp2_with fail
        refine (klive_ask u (okb_4 wxa wat hd64) HL15.out hu3).mono ?_
        rintro e w16 ⟨er4, m4, K4, rfl, st, hL⟩
        obtain ⟨q1, q2, q3⟩ := st.det (q_write HF.out.1)
        obtain ⟨v1, v2⟩ := write_own (a := at') (d := d) HF.out.2.2.1
        by_cases hfar : y < at' + d.size
        · rw [v1, if_pos hfar] at q1
          subst q1 q2
          rw [show oneC 6 ++ nilS = (⟨#[6]⟩ : ByteArray) from by decide]
          have hf2 : (y : Int) < (at' : Int) + (d.size : Int) := by omega
          have c5 := hL.c5
          have HL16 : Hid (KLive w w16 rb K4) := hL
          clear hL st q3 v1 v2 hfar
          go_wp2_with fail
          refine (kone_any 6 _).mono ?_
          rintro e w17 ⟨rfl, hb⟩
          rw [show oneC 6 = (⟨#[6]⟩ : ByteArray) from by decide]
          have HB17 : Hid (Below w.heap.size w w17) := (HL16.out.below hb).b
          clear hb
          go_wp2_with fail
          go_ret
          exact ⟨rfl, HB17.out⟩
        · rw [v1, if_neg hfar] at q1
          rw [v2 hfar] at q3
          subst q1 q2
          rw [show oneC 0 ++ nilS = (⟨#[0]⟩ : ByteArray) from by decide]
          have hf2 : ¬ (y : Int) < (at' : Int) + (d.size : Int) := by omega
          have hlb : (spl (List.replicate y 0) at' d d.size).length = y := by rw [spl_len]; simp
          obtain ⟨p1, p2, p3⟩ := HW.out _ hlb
          rw [← q3] at p1 p2 p3
          have t1 : K4.M.s (16 * u + i1) = (HSlot.new u1 (16 * u + i1) (y : Int)).withBytes (spl (List.replicate y 0) at' d d.size) := by rw [q3]; exact Mach.set_same _ _ _
          have t2 : K4.M.s (16 * u + i2) = HSlot.new u2 (16 * u + i2) (y : Int) := by
            rw [q3, Mach.set_other _ _ (by have := HF.out.2.2.2.2; omega)]
            exact HF.out.2.2.2.1
          obtain ⟨want, hwant⟩ : ∃ want, zerosS at' ++ d ++ zerosS (y - at' - d.size) = want := ⟨_, rfl⟩
          have hpa : strOfNums (K4.M.part (16 * u + i1) 0 (y : Int)) = want := by rw [← hwant]; exact part_written t1 (by omega)
          have hpb : strOfNums (K4.M.part (16 * u + i2) 0 (y : Int)) = zerosS y := part_new2 t2
          have HL16 : Hid (KLive w w16 rb K4 ∧ K4.M.find u xa = some i1 ∧ K4.M.find u xb = some i2 ∧ (∀ x, x ≠ xa → x ≠ xb → readR K4.M u x 0 1 = readR K.M u x 0 1) ∧ K4.M.s (16 * u + i1) = (HSlot.new u1 (16 * u + i1) (y : Int)).withBytes (spl (List.replicate y 0) at' d d.size) ∧ K4.M.s (16 * u + i2) = HSlot.new u2 (16 * u + i2) (y : Int) ∧ strOfNums (K4.M.part (16 * u + i1) 0 (y : Int)) = want ∧ strOfNums (K4.M.part (16 * u + i2) 0 (y : Int)) = zerosS y ∧ zerosS at' ++ d ++ zerosS (y - at' - d.size) = want) := ⟨hL, p1, p2, p3, t1, t2, hpa, hpb, hwant⟩
          have hu4 : u < K4.M.nt := by rw [st.nt]; exact hu3
          clear hL st q3 v1 v2 hlb p1 p2 p3 t1 t2 hpa hpb hwant
          go_wp2_with fail
          refine (khandle_any ra w16 ra3).mono ?_
          rintro e w17 ⟨rfl, hb⟩
          rw [rah]
          have HL17 : Hid (KLive w w17 rb K4) := HL16.out.1.below hb
          clear hb
          go_wp2_with fail
          refine (klive_all u i1 y xa HL17.out hu4 wxa HL16.out.2.1 (by rw [HL16.out.2.2.2.2.1]; rfl) (by rw [HL16.out.2.2.2.2.1]; rfl) hy2).mono ?_
          rintro e w18 ⟨rfl, K5, hS5, hL⟩
          rw [HL16.out.2.2.2.2.2.2.1]
          have HL18 : Hid (KLive w w18 rb K5 ∧ K5.M = K4.M) := ⟨hL, hS5.M⟩
          have hu5 : u < K5.M.nt := by rw [hS5.M]; exact hu4
          clear hL hS5
          go_wp2_with fail
          refine (khandle_any rb2 w18 rb3).mono ?_
          rintro e w19 ⟨rfl, hb⟩
          rw [rbh]
          have HL19 : Hid (KLive w w19 rb K5) := HL18.out.1.below hb
          clear hb
          go_wp2_with fail
          refine (klive_all u i2 y xb HL19.out hu5 wxb (by rw [HL18.out.2]; exact HL16.out.2.2.1) (by rw [HL18.out.2, HL16.out.2.2.2.2.2.1]; rfl) (by rw [HL18.out.2, HL16.out.2.2.2.2.2.1]; rfl) hy2).mono ?_
          rintro e w20 ⟨rfl, K6, hS6, hL⟩
          rw [HL18.out.2, HL16.out.2.2.2.2.2.2.2.1]
          have HL20 : Hid (KLive w w20 rb K6 ∧ K6.M = K4.M) := ⟨hL, hS6.M.trans HL18.out.2⟩
          have hu6 : u < K6.M.nt := by rw [hS6.M]; exact hu5
          clear hL hS6
          have zsz : ∀ n, (zerosS n).size = n := zeros_size
          go_wp2_with fail
          refine (kzeros_any at' w20 (by omega)).mono ?_
          rintro e w21 ⟨rfl, hb⟩
          have HL21 : Hid (KLive w w21 rb K6) := HL20.out.1.below hb
          have zs1 := zeros_size at'
          clear hb
          go_wp2_with fail
          rw [show (y : Int) - (at' : Int) - (d.size : Int) = ((y - at' - d.size : Nat) : Int) from by omega]
          refine (kzeros_any (y - at' - d.size) w21 (by omega)).mono ?_
          rintro e w22 ⟨rfl, hb⟩
          have HL22 : Hid (KLive w w22 rb K6) := HL21.out.below hb
          have zs2 := zeros_size (y - at' - d.size)
          clear hb
          go_wp2_with fail
          rw [HL16.out.2.2.2.2.2.2.2.2]
          refine (kread_any x0 0 1 w22 hw0 (by decide) (by decide)).mono ?_
          rintro e w23 ⟨rfl, hb⟩
          have HL23 : Hid (KLive w w23 rb K6) := HL22.out.below hb
          clear hb
          go_wp2_with fail
          refine (klive_ask u (okb_3 hw0 (by decide) (by decide)) HL23.out hu6).mono ?_
          rintro e w24 ⟨er7, m7, K7, rfl, st, hL⟩
          obtain ⟨rfl, rfl, _⟩ := st.det (q_readR K6.M u x0 0 1)
          obtain ⟨af, haf⟩ : ∃ af, oneC (readR K6.M u x0 0 1).1 ++ (readR K6.M u x0 0 1).2 = af := ⟨_, rfl⟩
          rw [haf]
          have HL24 : Hid (KLive w w24 rb K7 ∧ (x0 ≠ xa → x0 ≠ xb → af = bf)) := ⟨hL, fun n1 n2 => by rw [← haf, HL20.out.2, HL16.out.2.2.2.1 x0 n1 n2]; exact HL6.out.2.2⟩
          clear st hL haf
          go_wp2_with fail
          refine (khandle_any ra w24 ra3).mono ?_
          rintro e w25 ⟨rfl, hb⟩
          rw [rah]
          have HL25 : Hid (KLive w w25 rb K7) := HL24.out.1.below hb
          clear hb
          by_cases ca : x0 = xa
          · have cab : (x0 == xa) = true := by simp [ca]
            have c5 := HL25.out.c5
            clear ca
            go_wp2_with fail
            refine (kzeros_any y w25 hy2).mono ?_
            rintro e w27 ⟨rfl, hb⟩
            have HL27 : Hid (KLive w w27 rb K7) := HL25.out.below hb
            clear hb c5
            go_wp2_with fail
            go_ret
            exact ⟨rfl, HL27.out.b⟩
          · have cab : (x0 == xa) = false := by simp [ca]
            go_wp2_with fail
            refine (khandle_any rb2 w25 rb3).mono ?_
            rintro e w26 ⟨rfl, hb⟩
            rw [rbh]
            have HL26 : Hid (KLive w w26 rb K7) := HL25.out.below hb
            clear hb
            have c5 := HL26.out.c5
            by_cases cb : x0 = xb
            · have cbb : (x0 == xb) = true := by simp [cb]
              clear ca cb
              go_wp2_with fail
              refine (kzeros_any y w26 hy2).mono ?_
              rintro e w27 ⟨rfl, hb⟩
              have HL27 : Hid (KLive w w27 rb K7) := HL26.out.below hb
              clear hb c5
              go_wp2_with fail
              go_ret
              exact ⟨rfl, HL27.out.b⟩
            · have cbb : (x0 == xb) = false := by simp [cb]
              have haf := HL24.out.2 ca cb
              subst haf
              clear ca cb
              go_wp2_with fail
              refine (kzeros_any y w26 hy2).mono ?_
              rintro e w27 ⟨rfl, hb⟩
              have HL27 : Hid (KLive w w27 rb K7) := HL26.out.below hb
              clear hb c5
              go_wp2_with fail
              go_ret
              exact ⟨rfl, HL27.out.b⟩
    · rw [show (er3 == 0) = false from by simp [he3]]
      go_wp2_with fail
      go_ret
      exact ⟨rfl, HL10.out.1.b⟩
  · rw [show (er2 == 0) = false from by simp [he2]]
    go_wp2_with fail
    go_ret
    exact ⟨rfl, HL10.out.1.b⟩

end Go.Proofs.Ytkjjamigaamllaa
