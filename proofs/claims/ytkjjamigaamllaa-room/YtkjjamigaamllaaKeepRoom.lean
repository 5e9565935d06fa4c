/-
  The law Room: a tenant has room for an object just if it has the chunks and a slot.
-/
import Derived.Test.YtkjjamigaamllaaJoinLive
import Derived.Test.YtkjjamigaamllaaJoinFacts
namespace Go.Proofs.Ytkjjamigaamllaa
open Go.RowKit
set_option linter.unusedSimpArgs false

/-- where no slot is used up, a tenant with no next slot uses all -/
theorem room_used {M : Mach} {gl : Nat → List Int} (g : KGood M gl) {u : Nat} (hu : u < M.nt) (hn : M.next u = none) (hl : ((gl u).length : Int) < 4095) : M.used u = M.ns := by
  have all : ∀ k, k < M.ns → (M.s (16 * u + k)).full = true := fun k hk => by
    rcases firstN_spec (fun n => !(M.s (16 * u + n)).full && decide ((M.s (16 * u + n)).uses ≤ 4095)) M.ns with ⟨_, h2⟩ | ⟨i, h1, _⟩
    · have h3 := h2 k hk
      have h4 := g.uses hu hk
      simp only [Bool.and_eq_false_iff, Bool.not_eq_false', decide_eq_false_iff_not] at h3
      rcases h3 with h3 | h3
      · exact h3
      · omega
    · rw [show M.next u = some i from h1] at hn; cases hn
  unfold Mach.used
  have : ∀ n, n ≤ M.ns → sumN (fun n => if (M.s (16 * u + n)).full then 1 else 0) n = n := fun n => by
    induction n with
    | zero => intro _; rfl
    | succ n ih =>
      intro h
      simp only [sumN]
      rw [ih (by omega), all n (by omega)]
      rfl
  exact this _ (Nat.le_refl _)
theorem part_new {M : Mach} {p u y : Nat} (h : M.s p = HSlot.new u p (y : Int)) : strOfNums (M.part p 0 (y : Int)) = zerosS y := by
  unfold Mach.part zerosS
  have e1 : (M.s p).root.toNat = p := by rw [h]; rfl
  rw [e1, h]
  have e2 : (y : Int).toNat = y := rfl
  simp only [HSlot.new, e2]
  simp

set_option maxRecDepth 100000 in
set_option maxHeartbeats 1600000 in
theorem kroom_any (t s c : Int) (a : Option Addr) (len cap : Nat) (f : Nat → KOp) (tn sz ot : Int) (w : World) (ht : inR t) (hs : inR s) (hc : inR c) (h1 : inR tn) (h2 : inR sz) (h3 : inR ot) (hS : ∀ w', Below w.heap.size w w' → KScrAt w' a len f) (hlen : len ≤ 2199023255552) :
    Calls Try.prog 13 #[.agg #[.int .i64 t, .int .i64 s, .int .i64 c], .slice a len cap, .int .i64 tn, .int .i64 sz, .int .i64 ot] w fun e w' => e = .returned (.bool true) ∧ Below w.heap.size w w' := by
  have HI : Hid (inR t ∧ inR s ∧ inR c ∧ inR tn ∧ inR sz ∧ inR ot ∧ ∀ w', Below w.heap.size w w' → KScrAt w' a len f) := ⟨ht, hs, hc, h1, h2, h3, hS⟩
  clear ht hs hc h1 h2 h3 hS
  go_enter Try.func13, Try.ntmps13
  go_wp2_with fail
  refine (kplayed_any t s c a len cap f true true _ HI.out.1 HI.out.2.1 HI.out.2.2.1 (fun w' h => HI.out.2.2.2.2.2.2 w' (((Below.refl _ _).alloc (Nat.le_refl _) _).trans (h.mono (by simp)))) hlen).mono ?_
  rintro e w1 ⟨rb, nt, ns, nc, K, rfl, hnt, hns, hnc, hD, hk, hg, hb⟩
  have b1 := pickK_bd t (m := 4) (by decide)
  have b2 := pickK_bd s (m := 16) (by decide)
  have b3 := pickK_bd c (m := 32) (by decide)
  have hL : KLive w w1 rb K := hD.live hk hg hb ((Below.refl _ _).alloc (Nat.le_refl _) _) (by omega) (by omega) (by omega)
  clear hnt hns hnc hD hk hg hb b1 b2 b3
  have hnt1 := hL.run.inv.nt1
  have hnt4 := hL.run.inv.ok.nt
  have hns16 := hL.run.inv.ok.ns
  have hnc32 := hL.run.inv.ok.nc
  have c1 : w1.cell? ⟨rb, 1, none⟩ = some (.int .i64 (K.M.nt : Int)) := rowCell hL.run.row 1
  obtain ⟨u, hT⟩ : ∃ u : Nat, pickK tn (K.M.nt : Int) = (u : Int) := ⟨(pickK tn (K.M.nt : Int)).toNat, by have := pickK_bd tn (m := (K.M.nt : Int)) (by omega); omega⟩
  have hu : u < K.M.nt := by have := pickK_bd tn (m := (K.M.nt : Int)) (by omega); omega
  obtain ⟨v, hV⟩ : ∃ v : Nat, pickK ot (K.M.nt : Int) = (v : Int) := ⟨(pickK ot (K.M.nt : Int)).toNat, by have := pickK_bd ot (m := (K.M.nt : Int)) (by omega); omega⟩
  have hv : v < K.M.nt := by have := pickK_bd ot (m := (K.M.nt : Int)) (by omega); omega
  obtain ⟨z, hZ⟩ : ∃ z : Nat, pickK sz 256 = (z : Int) := ⟨(pickK sz 256).toNat, by have := pickK_bd sz (m := 256) (by decide); omega⟩
  have hz : z ≤ 255 := by have := pickK_bd sz (m := 256) (by decide); omega
  obtain ⟨y, hY⟩ : ∃ y : Nat, 1 + (z : Int) = (y : Int) := ⟨1 + z, by omega⟩
  have hy1 : 1 ≤ y := by omega
  have hy2 : y ≤ 256 := by omega
  have HK : Hid (KLive w w1 rb K ∧ pickK tn (K.M.nt : Int) = (u : Int) ∧ pickK ot (K.M.nt : Int) = (v : Int) ∧ pickK sz 256 = (z : Int)) := ⟨hL, hT, hV, hZ⟩
  have HY : Hid (1 + (z : Int) = (y : Int)) := hY
  clear hL hT hV hZ hY
  go_wp2_with fail
  refine (kpick_any tn (K.M.nt : Int) w1 HI.out.2.2.2.1 (by omega) (by omega)).mono ?_
  rintro e w2 ⟨rfl, rfl⟩
  rw [HK.out.2.1]
  go_wp2_with fail
  refine (kpick_any sz 256 w2 HI.out.2.2.2.2.1 (by omega) (by omega)).mono ?_
  rintro e w3 ⟨rfl, rfl⟩
  rw [HK.out.2.2.2]
  go_wp2_with fail
  refine (kpick_any ot (K.M.nt : Int) w3 HI.out.2.2.2.2.2.1 (by omega) (by omega)).mono ?_
  rintro e w4 ⟨rfl, rfl⟩
  rw [HK.out.2.2.1, HY.out]
  clear hz
  go_wp2_with fail
  refine (klive_left u HK.out.1 hu).mono ?_
  rintro e w5 ⟨rfl, hL⟩
  have HL5 : Hid (KLive w w5 rb K) := hL
  clear hL
  go_wp2_with fail
  refine (klive_left v HL5.out hv).mono ?_
  rintro e w6 ⟨rfl, hL⟩
  have HL6 : Hid (KLive w w6 rb K) := hL
  clear hL
  go_wp2_with fail
  refine (kalloc_any (y : Int) w6 (wd_iff.2 (by omega))).mono ?_
  rintro e w7 ⟨rfl, hb⟩
  have HL7 : Hid (KLive w w7 rb K) := HL6.out.below hb
  clear hb
  go_wp2_with fail
  refine (klive_ask u (okb_1 (wd_iff.2 (by omega))) HL7.out hu).mono ?_
  rintro e w8 ⟨er, m, K1, rfl, st, hL⟩
  have hu1 : u < K1.M.nt := by rw [st.nt]; exact hu
  have hv1 : v < K1.M.nt := by rw [st.nt]; exact hv
  have hl : 1 ≤ (y : Int) ∧ (y : Int) ≤ 256 := by omega
  have hch : chunksN (y : Int).toNat = (y + 7) / 8 := rfl
  by_cases hc : K.M.nc < K.M.taken u + chunksN (y : Int).toNat
  · obtain ⟨rfl, rfl, hM⟩ := st.det (q_short hl hc)
    have hc2 : (K.M.nc : Int) - (K.M.taken u : Int) < ((y : Int) + 7) / 8 := by omega
    clear hc
    have HL8 : Hid (KLive w w8 rb K1 ∧ K1.M = K.M) := ⟨hL, hM⟩
    rw [show oneC 7 ++ nilS = (⟨#[7]⟩ : ByteArray) from by decide]
    clear st hL hM hch hl
    go_wp2_with fail
    refine (klive_left u HL8.out.1 hu1).mono ?_
    rintro e w9 ⟨rfl, hL⟩
    rw [HL8.out.2]
    have HL9 : Hid (KLive w w9 rb K1) := hL
    clear hL
    go_wp2_with fail
    refine (kgood_any ⟨#[7]⟩ 7 w9 (by decide) (by decide)).mono ?_
    rintro e w10 ⟨rfl, rfl⟩
    rw [show ((7 : Int) == 0) = false from by decide]
    go_wp2_with fail
    refine (kfresh_any u HL9.out.run hu1).mono ?_
    rintro e w11 ⟨rfl, rfl⟩
    cases hfb : decide (((K1.gl u).length : Int) < 4095) with
    | true =>
      clear hfb
      go_wp2_with fail
      refine (kone_any 7 _).mono ?_
      rintro e w12 ⟨rfl, hb⟩
      rw [show oneC 7 = (⟨#[7]⟩ : ByteArray) from by decide]
      have HBw12 : Hid (Below w.heap.size w w12) := HL9.out.b.trans (hb.mono HL9.out.b.size)
      clear hb
      go_wp2_with fail
      go_ret
      exact ⟨rfl, HBw12.out⟩
    | false =>
      clear hfb
      go_wp2_with fail
      refine (kone_any 8 _).mono ?_
      rintro e w12 ⟨rfl, hb⟩
      rw [show oneC 8 = (⟨#[8]⟩ : ByteArray) from by decide]
      have HBw12 : Hid (Below w.heap.size w w12) := HL9.out.b.trans (hb.mono HL9.out.b.size)
      clear hb
      go_wp2_with fail
      refine (kone_any 7 _).mono ?_
      rintro e w13 ⟨rfl, hb⟩
      rw [show oneC 7 = (⟨#[7]⟩ : ByteArray) from by decide]
      have HBw13 : Hid (Below w.heap.size w w13) := HBw12.out.trans (hb.mono HBw12.out.size)
      clear hb
      go_wp2_with fail
      go_ret
      exact ⟨rfl, HBw13.out⟩
  · have hc2 : ¬ (K.M.nc : Int) - (K.M.taken u : Int) < ((y : Int) + 7) / 8 := by omega
    cases hn : K.M.next u with
    | none =>
      obtain ⟨rfl, rfl, hM⟩ := st.det (q_full hl hc hn)
      have HF : Hid (((K1.gl u).length : Int) < 4095 → K.M.used u = K.M.ns) := fun hlt => room_used (by rw [← hM]; exact hL.good) hu hn hlt
      have hul := used_le K.M u
      clear hn hc
      have HL8 : Hid (KLive w w8 rb K1 ∧ K1.M = K.M) := ⟨hL, hM⟩
      rw [show oneC 8 ++ nilS = (⟨#[8]⟩ : ByteArray) from by decide]
      clear st hL hM hch hl
      go_wp2_with fail
      refine (klive_left u HL8.out.1 hu1).mono ?_
      rintro e w9 ⟨rfl, hL⟩
      rw [HL8.out.2]
      have HL9 : Hid (KLive w w9 rb K1) := hL
      clear hL
      go_wp2_with fail
      refine (kgood_any ⟨#[8]⟩ 8 w9 (by decide) (by decide)).mono ?_
      rintro e w10 ⟨rfl, rfl⟩
      rw [show ((8 : Int) == 0) = false from by decide]
      go_wp2_with fail
      refine (kfresh_any u HL9.out.run hu1).mono ?_
      rintro e w11 ⟨rfl, rfl⟩
      cases hfb : decide (((K1.gl u).length : Int) < 4095) with
      | true =>
        have hz0 : ((K.M.ns : Int) - (K.M.used u : Int) == 0) = true := by
          have := HF.out (of_decide_eq_true hfb)
          rw [this]; simp
        clear hfb
        go_wp2_with fail
        refine (kone_any 8 _).mono ?_
        rintro e w12 ⟨rfl, hb⟩
        rw [show oneC 8 = (⟨#[8]⟩ : ByteArray) from by decide]
        have HBw12 : Hid (Below w.heap.size w w12) := HL9.out.b.trans (hb.mono HL9.out.b.size)
        clear hb
        go_wp2_with fail
        go_ret
        exact ⟨rfl, HBw12.out⟩
      | false =>
        clear hfb
        by_cases hus : K.M.used u = K.M.ns
        · have hz0 : ((K.M.ns : Int) - (K.M.used u : Int) == 0) = true := by rw [hus]; simp
          clear hus
          go_wp2_with fail
          refine (kone_any 8 _).mono ?_
          rintro e w12 ⟨rfl, hb⟩
          rw [show oneC 8 = (⟨#[8]⟩ : ByteArray) from by decide]
          have HBw12 : Hid (Below w.heap.size w w12) := HL9.out.b.trans (hb.mono HL9.out.b.size)
          clear hb
          go_wp2_with fail
          refine (kone_any 8 _).mono ?_
          rintro e w13 ⟨rfl, hb⟩
          rw [show oneC 8 = (⟨#[8]⟩ : ByteArray) from by decide]
          have HBw13 : Hid (Below w.heap.size w w13) := HBw12.out.trans (hb.mono HBw12.out.size)
          clear hb
          go_wp2_with fail
          go_ret
          exact ⟨rfl, HBw13.out⟩
        · have hz0 : ((K.M.ns : Int) - (K.M.used u : Int) == 0) = false := by simp; omega
          clear hus
          go_wp2_with fail
          refine (kone_any 8 _).mono ?_
          rintro e w12 ⟨rfl, hb⟩
          rw [show oneC 8 = (⟨#[8]⟩ : ByteArray) from by decide]
          have HBw12 : Hid (Below w.heap.size w w12) := HL9.out.b.trans (hb.mono HL9.out.b.size)
          clear hb
          go_wp2_with fail
          go_ret
          exact ⟨rfl, HBw12.out⟩
    | some i =>
      obtain ⟨g1, g2, g3⟩ := next_spec hn
      obtain ⟨rfl, rfl, hM⟩ := st.det (q_alloc hl hc hn)
      have hbb := HL7.out.run.inv.bare_bytes g2
      have hus : ∀ q, K1.M.used q = K.M.used q + (if q = u then 1 else 0) := fun q => by rw [hM]; exact used_set hns16 g1 g2 rfl q
      have htk : ∀ q, K1.M.taken q = K.M.taken q + (if q = u then (y + 7) / 8 else 0) := fun q => by rw [hM, taken_set hns16 g1 hbb q, new_len]; rfl
      have hfd : K1.M.find u (16 * ((K.M.s (16 * u + i)).uses : Int) + (i : Int)) = some i := by rw [hM]; exact find_laid hns16 g1 rfl rfl (hM ▸ hL.run.inv.ok)
      have hsl : K1.M.s (16 * u + i) = HSlot.new (K.M.s (16 * u + i)).uses (16 * u + i) (y : Int) := by rw [hM, Mach.set_same]
      have hpt : strOfNums (K1.M.part (16 * u + i) 0 (y : Int)) = zerosS y := part_new hsl
      obtain ⟨hd, hhd⟩ : ∃ hd, 16 * ((K.M.s (16 * u + i)).uses : Int) + (i : Int) = hd := ⟨_, rfl⟩
      have hwd : wd hd = true := wd_iff.2 (by omega)
      rw [hhd] at hfd ⊢
      obtain ⟨rp, hrp⟩ : ∃ rp, oneC 0 ++ twoW hd = rp := ⟨_, rfl⟩
      have hr3 : rp.size = 3 := by rw [← hrp, reply_size, twoW_size]
      have hr0 : byt rp 0 = 0 := by rw [← hrp]; exact byt_one _ _ ⟨by decide, by decide⟩
      have hrh : 256 * byt rp 1 + byt rp 2 = hd := by rw [← hrp, hOf_reply (twoW_size _), hOf_two hwd]
      rw [hrp]
      have HL8 : Hid (KLive w w8 rb K1 ∧ K1.M.find u hd = some i ∧ K1.M.s (16 * u + i) = HSlot.new (K.M.s (16 * u + i)).uses (16 * u + i) (y : Int) ∧ strOfNums (K1.M.part (16 * u + i) 0 (y : Int)) = zerosS y) := ⟨hL, hfd, hsl, hpt⟩
      have HN : Hid (K1.M.ns = K.M.ns ∧ K1.M.nc = K.M.nc) := ⟨st.ns, st.nc⟩
      have HU : Hid (∀ q, K1.M.used q = K.M.used q + (if q = u then 1 else 0)) := hus
      have HT : Hid (∀ q, K1.M.taken q = K.M.taken q + (if q = u then (y + 7) / 8 else 0)) := htk
      clear st hL hM hch hl hc hn hbb hus htk hfd hsl hpt hhd hrp g1 g2 g3
      go_wp2_with fail
      refine (klive_left u HL8.out.1 hu1).mono ?_
      rintro e w9 ⟨rfl, hL⟩
      rw [HN.out.1, HN.out.2, HU.out u, HT.out u, if_pos rfl, if_pos rfl]
      have HL9 : Hid (KLive w w9 rb K1) := hL
      clear hL
      go_wp2_with fail
      refine (kgood_any rp 0 w9 (by omega) hr0).mono ?_
      rintro e w10 ⟨rfl, rfl⟩
      rw [show ((0 : Int) == 0) = true from by decide]
      go_wp2_with fail
      refine (khandle_any rp w10 hr3).mono ?_
      rintro e w11 ⟨rfl, hb⟩
      rw [hrh]
      have HL11 : Hid (KLive w w11 rb K1) := HL9.out.below hb
      clear hb
      go_wp2_with fail
      refine (klive_all u i y hd HL11.out hu1 hwd HL8.out.2.1 (by rw [HL8.out.2.2.1]; rfl) (by rw [HL8.out.2.2.1]; rfl) hy2).mono ?_
      rintro e w12 ⟨rfl, K2, hS, hL⟩
      rw [HL8.out.2.2.2]
      have HL12 : Hid (KLive w w12 rb K2 ∧ K2.M = K1.M) := ⟨hL, hS.M⟩
      clear hL hS
      go_wp2_with fail
      have hul := used_le K.M u
      have htl := HL7.out.fits u
      have e1 : ((K.M.ns : Int) - ((K.M.used u : Int) + 1) == (K.M.ns : Int) - (K.M.used u : Int) - 1) = true := by simp; omega
      have e2 : ((K.M.nc : Int) - ((K.M.taken u : Int) + ((y : Int) + 7) / 8) == (K.M.nc : Int) - (K.M.taken u : Int) - ((y : Int) + 7) / 8) = true := by simp; omega
      refine (klive_left v HL12.out.1 (by rw [HL12.out.2]; exact hv1)).mono ?_
      rintro e w13 ⟨rfl, hL⟩
      rw [HL12.out.2, HN.out.1, HN.out.2, HU.out v, HT.out v]
      have HL13 : Hid (KLive w w13 rb K2) := hL
      clear hL
      by_cases hvu : v = u
      · subst hvu
        rw [if_pos rfl, if_pos rfl]
        go_wp2_with fail
        refine (kzeros_any y _ hy2).mono ?_
        rintro e w14 ⟨rfl, hb⟩
        have hLe := HL13.out.below hb
        have c5 : w14.cell? ⟨rb, 5, none⟩ = some (.bool true) := by rw [← hLe.ok]; exact rowCell hLe.run.row 5
        have HLe : Hid (KLive w w14 rb K2) := hLe
        clear hb hLe
        go_wp2_with fail
        go_ret
        exact ⟨rfl, HLe.out.b⟩
      · rw [if_neg hvu, if_neg hvu]
        have e3 : ((v : Int) == (u : Int)) = false := by simp; omega
        go_wp2_with fail
        refine (kzeros_any y _ hy2).mono ?_
        rintro e w14 ⟨rfl, hb⟩
        have hLe := HL13.out.below hb
        have c5 : w14.cell? ⟨rb, 5, none⟩ = some (.bool true) := by rw [← hLe.ok]; exact rowCell hLe.run.row 5
        have HLe : Hid (KLive w w14 rb K2) := hLe
        clear hb hLe
        go_wp2_with fail
        go_ret
        exact ⟨rfl, HLe.out.b⟩

end Go.Proofs.Ytkjjamigaamllaa
