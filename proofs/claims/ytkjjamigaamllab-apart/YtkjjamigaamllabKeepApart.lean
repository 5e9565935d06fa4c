/-
  The law Apart: tenants who grant one another nothing do not show.
-/
import Derived.Test.YtkjjamigaamllabKeepApartTwo
import Derived.Deep.QuietTactic
import Derived.Deep.DeepCutAuto
namespace Go.Proofs.Ytkjjamigaamllab
open Go.RowKit
set_option linter.unusedSimpArgs false

set_option maxHeartbeats 1600000 in
/-- two lists of the same texts -/
theorem ksame_any {w : World} {va vb : Value} {L : List ByteArray} (h1 : w.ownsRow 0 9 1 va L.length (L.map Value.string)) (h2 : w.ownsRow 0 9 1 vb L.length (L.map Value.string)) (hlen : L.length ≤ 2199023255552) :
    Calls Try.prog 20 #[va, vb] w fun e w' => e = .returned (.bool true) ∧ Below w.heap.size w w' := by
  obtain ⟨a1, c1, rfl⟩ := owns_slice h1
  obtain ⟨a2, c2, rfl⟩ := owns_slice h2
  have HC : Hid (∀ W, Below w.heap.size w W → ∀ j, j < L.length → ∃ g1 g2, a1 = some ⟨g1, 0, none⟩ ∧ a2 = some ⟨g2, 0, none⟩ ∧ W.cell? ⟨g1, j, none⟩ = some (.string (L.getD j ⟨#[]⟩)) ∧ W.cell? ⟨g2, j, none⟩ = some (.string (L.getD j ⟨#[]⟩))) := fun W hW j hj => by
    obtain ⟨g1, k1, e1, r1⟩ := owns_cell h1 (by omega)
    obtain ⟨g2, k2, e2, r2⟩ := owns_cell h2 (by omega)
    injection e1 with e1
    injection e2 with e2
    have hx : (L.map Value.string)[j]? = some (.string (L.getD j ⟨#[]⟩)) := by
      rw [List.getElem?_map, List.getElem?_eq_getElem hj, List.getD_eq_getElem?_getD, List.getElem?_eq_getElem hj]; rfl
    have l1 := (owns_lt h1 (k := g1) (by rw [e1]; rfl)).1
    have l2 := (owns_lt h2 (k := g2) (by rw [e2]; rfl)).1
    exact ⟨g1, g2, e1, e2, (hW.cell (p := ⟨g1, j, none⟩) l1).trans (r1 j _ hx), (hW.cell (p := ⟨g2, j, none⟩) l2).trans (r2 j _ hx)⟩
  clear h1 h2
  go_enter Try.func20, Try.ntmps20
  go_wp2_with fail
  go_loopw [5] (fun i W => ∃ k : Nat, k ≤ L.length ∧ i = .int .i64 (k : Int) ∧ Below w.heap.size w W) (fun i _ => L.length - (intOf i).toNat)
  case atStart => exact ⟨0, by omega, rfl, Below.refl _ _⟩
  case round =>
    obtain ⟨k, hk, rfl, hW⟩ := hrel
    by_cases hlt : k < L.length
    · have hlt2 : (k : Int) < (L.length : Int) := by omega
      obtain ⟨g1, g2, rfl, rfl, q1, q2⟩ := HC.out wr hW k hlt
      have HW : Hid (Below w.heap.size w wr) := hW
      generalize L.getD k ⟨#[]⟩ = x at q1 q2
      clear hW
      go_wp2_with fail
      go_quiet (fail)
      go_wp2_with fail
      exact ⟨⟨k + 1, by omega, rfl, HW.out.trans ((belowDrewN wr.heap.size wr nq).mono HW.out.size)⟩, by simp [intOf]; omega⟩
    · obtain rfl : k = L.length := by omega
      have HW : Hid (Below w.heap.size w wr) := hW
      clear hW
      go_wp2_with fail
      go_ret
      exact ⟨rfl, HW.out⟩

theorem KPlays.hl_len {f : Nat → KOp} {n : Nat} {K K' : KRun} (h : KPlays f n K K') : K'.hl.length ≤ K.hl.length + n := by
  induction h with
  | nil => omega
  | snoc n K K1 K2 h h1 ih =>
    cases h1 with
    | skip => omega
    | ask q er m K4 _ hq hb hs hM hgl hc hh =>
      rw [hh, hs.hl]
      split
      · rw [List.length_append]; simp; omega
      · omega

set_option maxRecDepth 100000 in
set_option maxHeartbeats 3200000 in
theorem kapart_any (t s c : Int) (a : Option Addr) (len cap : Nat) (f : Nat → KOp) (kd : Int) (w : World) (ht : inR t) (hs : inR s) (hc : inR c) (h1 : inR kd) (hS : ∀ w', Below w.heap.size w w' → KScrAt w' a len f) (hlen : len ≤ 2199023255552) :
    Calls Try.prog 5 #[.agg #[.int .i64 t, .int .i64 s, .int .i64 c], .slice a len cap, .int .i64 kd] w fun e w' => e = .returned (.bool true) ∧ Below w.heap.size w w' := by
  have HI : Hid (inR t ∧ inR s ∧ inR c ∧ inR kd ∧ ∀ w', Below w.heap.size w w' → KScrAt w' a len f) := ⟨ht, hs, hc, h1, hS⟩
  obtain ⟨ap, hap⟩ : ∃ ap : Int, pickK kd 16 = ap := ⟨_, rfl⟩
  have hap1 : 0 ≤ ap ∧ ap ≤ 15 := by have := pickK_bd kd (m := 16) (by decide); omega
  have HA : Hid (pickK kd 16 = ap) := hap
  clear ht hs hc h1 hS hap
  go_enter Try.func5, Try.ntmps5
  go_wp2_with fail
  refine (kbegin_any t s c _ HI.out.1 HI.out.2.1 HI.out.2.2.1).mono ?_
  rintro e w1 ⟨rb, gx, nt, ns, nc, Kr, rfl, hnt, hns, hnc, hkr, hgr, hBr, hbr⟩
  have b1 := pickK_bd t (m := 4) (by decide)
  have b2 := pickK_bd s (m := 16) (by decide)
  have b3 := pickK_bd c (m := 32) (by decide)
  have HB : Hid (KAt w.heap.size w1 rb Kr ∧ KGood Kr.M Kr.gl ∧ KBeg gx (bM3 nt ns nc) Kr ∧ Below w.heap.size w w1 ∧ (nt : Int) = 1 + pickK t 4 ∧ (ns : Int) = 1 + pickK s 16 ∧ (nc : Int) = 1 + pickK c 32) := ⟨hkr.mono (by simp), hgr, hBr, ((Below.refl _ _).alloc (Nat.le_refl _) _).trans (hbr.mono (by simp)), hnt, hns, hnc⟩
  have q1 : 1 ≤ nt ∧ nt ≤ 4 := by omega
  have q2 : 1 ≤ ns ∧ ns ≤ 16 := by omega
  have q3 : 1 ≤ nc ∧ nc ≤ 32 := by omega
  have hcf : w1.heap[w.heap.size]? = some (.cells #[.int .i64 t, .int .i64 s, .int .i64 c] 23 (0, 0)) := keepRow hbr (by simp) (newRowAt w _)
  have hcc := rowCell hcf
  have hrb := lt_of_row hkr.row
  clear hkr hgr hBr hbr hnt hns hnc b1 b2 b3 hcf
  go_wp2_with fail
  refine (kbegin_any t s c w1 HI.out.1 HI.out.2.1 HI.out.2.2.1).mono ?_
  rintro e w2 ⟨qb, gx2, nt2, ns2, nc2, Kq, rfl, hnt, hns, hnc, hkq, hgq, hBq, hbq⟩
  obtain rfl : nt2 = nt := by have := HB.out.2.2.2.2.1; omega
  obtain rfl : ns2 = ns := by have := HB.out.2.2.2.2.2.1; omega
  obtain rfl : nc2 = nc := by have := HB.out.2.2.2.2.2.2; omega
  have T0 : Two w w2 rb qb Kr Kq := ⟨HB.out.1.below hbq, hkq.mono HB.out.2.2.2.1.size, HB.out.2.1, hgq, fun k hk hh => by have := HB.out.1.own_lt hk; have := hkq.own_ge hh; omega, HB.out.2.2.2.1.trans (hbq.mono HB.out.2.2.2.1.size)⟩
  have hne : rb ≠ qb := by have := hkq.b0; omega
  have hqb := lt_of_row hkq.row
  have r6 : w2.cell? ⟨rb, 6, none⟩ = some (.bool Kr.shares) := rowCell T0.r.row 6
  have r7 : w2.cell? ⟨rb, 7, none⟩ = some (.bool Kr.grants) := rowCell T0.r.row 7
  have r8 : w2.cell? ⟨rb, 8, none⟩ = some (.int .i64 Kr.apart) := rowCell T0.r.row 8
  have p6 : w2.cell? ⟨qb, 6, none⟩ = some (.bool Kq.shares) := rowCell T0.q.row 6
  have p7 : w2.cell? ⟨qb, 7, none⟩ = some (.bool Kq.grants) := rowCell T0.q.row 7
  have p8 : w2.cell? ⟨qb, 8, none⟩ = some (.int .i64 Kq.apart) := rowCell T0.q.row 8
  have p9 : w2.cell? ⟨qb, 9, none⟩ = some (.int .i64 Kq.but) := rowCell T0.q.row 9
  have fr6 := rowFree T0.r.row 6
  have fr7 := rowFree T0.r.row 7
  have fr8 := rowFree T0.r.row 8
  have fp6 := rowFree T0.q.row 6
  have fp7 := rowFree T0.q.row 7
  have fp8 := rowFree T0.q.row 8
  have fp9 := rowFree T0.q.row 9
  have T1 := T0.left (T0.r.setShares true).1 T0.gr (T0.r.setShares true).2
  have T2 := T1.left (T1.r.setGrants true).1 T1.gr (T1.r.setGrants true).2
  have T3 := T2.right (T2.q.setShares true).1 T2.gq (T2.q.setShares true).2
  have T4 := T3.right (T3.q.setGrants true).1 T3.gq (T3.q.setGrants true).2
  have T5 := T4.left (T4.r.setApart ap).1 T4.gr (T4.r.setApart ap).2
  have T6 := T5.right (T5.q.setApart ap).1 T5.gq (T5.q.setApart ap).2
  have T7 := T6.right (T6.q.setBut 2).1 T6.gq (T6.q.setBut 2).2
  obtain ⟨Kr2, hKr2⟩ : ∃ Kr2, Kr2 = ({ Kr with shares := true, grants := true, apart := ap } : KRun) := ⟨_, rfl⟩
  obtain ⟨Kq2, hKq2⟩ : ∃ Kq2, Kq2 = ({ Kq with shares := true, grants := true, apart := ap, but := 2 } : KRun) := ⟨_, rfl⟩
  have T8 : Two w (((((((w2.setCell ⟨rb, 6, none⟩ (.bool true)).setCell ⟨rb, 7, none⟩ (.bool true)).setCell ⟨qb, 6, none⟩ (.bool true)).setCell ⟨qb, 7, none⟩ (.bool true)).setCell ⟨rb, 8, none⟩ (.int .i64 ap)).setCell ⟨qb, 8, none⟩ (.int .i64 ap)).setCell ⟨qb, 9, none⟩ (.int .i64 2)) rb qb Kr2 Kq2 := by rw [hKr2, hKq2]; exact T7
  have A8 : Apt ap Kr2 Kq2 := by
    rw [hKr2, hKq2]
    have i0 := bM3_inv q1 q2 q3
    have g0 := bM3_good nt2 ns2 nc2 q2.1
    have hBr := HB.out.2.2.1
    refine ⟨rfl, rfl, rfl, rfl, hBr.but, rfl, ?_, ?_, ?_, ?_, ?_, HB.out.2.1, hgq, fun i _ _ => ?_, ?_⟩
    · show EqK ap 0 Kr.M Kq.M
      rw [hBr.M, hBq.M]; exact ⟨rfl, rfl, rfl, fun _ _ => rfl⟩
    · show Shut ap Kr.M
      rw [hBr.M]; exact bM3_shut _ _ _ _
    · show Shut ap Kq.M
      rw [hBq.M]; exact bM3_shut _ _ _ _
    · show Kr.M.Inv
      rw [hBr.M]; exact i0
    · show Kq.M.Inv
      rw [hBq.M]; exact i0
    · show Kq.gl i = Kr.gl i
      rw [hBr.gl, hBq.gl]
    · show Kq.hl = Kr.hl
      rw [hBr.hl, hBq.hl]
  have HX : Hid (Two w (((((((w2.setCell ⟨rb, 6, none⟩ (.bool true)).setCell ⟨rb, 7, none⟩ (.bool true)).setCell ⟨qb, 6, none⟩ (.bool true)).setCell ⟨qb, 7, none⟩ (.bool true)).setCell ⟨rb, 8, none⟩ (.int .i64 ap)).setCell ⟨qb, 8, none⟩ (.int .i64 ap)).setCell ⟨qb, 9, none⟩ (.int .i64 2)) rb qb Kr2 Kq2 ∧ Apt ap Kr2 Kq2 ∧ Kr2.ok = true ∧ Kq2.ok = true ∧ Kr2.hl = [] ∧ Kq2.hl = []) := ⟨T8, A8, by rw [hKr2]; exact HB.out.2.2.1.ok, by rw [hKq2]; exact hBq.ok, by rw [hKr2]; exact HB.out.2.2.1.hl, by rw [hKq2]; exact hBq.hl⟩
  clear T0 T1 T2 T3 T4 T5 T6 T7 T8 A8 hKr2 hKq2 hkq hgq hBq hbq hnt hns hnc hcc
  go_wp2_with fail
  refine (kpick_any kd 16 _ HI.out.2.2.2.1 (by decide) (by decide)).mono ?_
  rintro e w3 ⟨rfl, rfl⟩
  rw [HA.out]
  go_wp2_with fail
  refine (kplay_any a len cap f HX.out.1.r HX.out.1.gr HX.out.2.2.1 (by rw [HX.out.2.1.ar]; exact hap1) (Or.inl HX.out.2.1.br) (fun w' h => HI.out.2.2.2.2 w' (HX.out.1.b.trans h)) hlen HX.out.2.2.2.2.1).mono ?_
  rintro e w4 ⟨rfl, Kr3, pr, hk, hg, ht, okr⟩
  have T9 := HX.out.1.left hk hg ht
  have HY : Hid (Two w w4 rb qb Kr3 Kq2 ∧ KPlays f len Kr2 Kr3 ∧ Kr3.ok = true) := ⟨T9, pr, okr⟩
  clear pr hk hg ht okr T9 r6 r7 r8 p6 p7 p8 p9 fr6 fr7 fr8 fp6 fp7 fp8 fp9
  go_wp2_with fail
  refine (kplay_any a len cap f HY.out.1.q HY.out.1.gq HX.out.2.2.2.1 (by rw [HX.out.2.1.aq]; exact hap1) (Or.inr HX.out.2.1.bq) (fun w' h => HI.out.2.2.2.2 w' (HY.out.1.b.trans h)) hlen HX.out.2.2.2.2.2).mono ?_
  rintro e w5 ⟨rfl, Kq3, pq, hk, hg, ht, okq⟩
  have T10 := HY.out.1.right hk hg ht
  have A10 := HX.out.2.1.plays HY.out.2.1 pq
  have hll : Kr3.hl.length ≤ 2199023255552 := by have := HY.out.2.1.hl_len; rw [HX.out.2.2.2.2.1] at this; simp at this; omega
  have r10 : w5.cell? ⟨rb, 10, none⟩ = some Kr3.hv := rowCell T10.r.row 10
  have p10 : w5.cell? ⟨qb, 10, none⟩ = some Kq3.hv := rowCell T10.q.row 10
  have HZ : Hid (Two w w5 rb qb Kr3 Kq3 ∧ Apt ap Kr3 Kq3 ∧ Kr3.ok = true ∧ Kq3.ok = true) := ⟨T10, A10, HY.out.2.2, okq⟩
  clear pq hk hg ht okq T10 A10
  have HZd : Hid (Two w w5.drew rb qb Kr3 Kq3) := HZ.out.1.below ((Below.refl _ _).drew)
  go_upto_region 14 with fail
  go_cut [9] (fun s9 wx => s9 = .bool true ∧ Two w wx rb qb Kr3 Kq3)
  case first =>
    go_region_with (first
      | (go_at_call 20
         refine (ksame_any (L := Kr3.hl) HZd.out.r.hown (by have := HZd.out.q.hown; rw [HZ.out.2.1.hl] at this; exact this) hll).mono ?_
         rintro e w6 ⟨rfl, hb⟩
         have H11 : Hid (Two w w6 rb qb Kr3 Kq3) := HZd.out.below hb
         clear hb))
    all_goals (go_wp2_with fail; go_meet; exact ⟨rfl, H11.out⟩)
  case rest =>
  obtain ⟨rfl, hT11⟩ := hcut
  have r5 : wc.cell? ⟨rb, 5, none⟩ = some (.bool true) := by rw [← HZ.out.2.2.1]; exact rowCell hT11.r.row 5
  have p5 : wc.cell? ⟨qb, 5, none⟩ = some (.bool true) := by rw [← HZ.out.2.2.2]; exact rowCell hT11.q.row 5
  have H11 : Hid (Two w wc rb qb Kr3 Kq3) := hT11
  clear hT11 r10 p10
  go_wp2_with fail
  go_loopw [10] (fun i W => ∃ k : Nat, k ≤ Kr3.M.nt ∧ i = .int .i64 (k : Int) ∧ Two w W rb qb Kr3 Kq3) (fun i _ => Kr3.M.nt - (intOf i).toNat)
  case atStart => exact ⟨0, by omega, rfl, H11.out⟩
  case round =>
    obtain ⟨k, hk, rfl, hT⟩ := hrel
    have s1 : wr.cell? ⟨rb, 1, none⟩ = some (.int .i64 (Kr3.M.nt : Int)) := rowCell hT.r.row 1
    have s0 : wr.cell? ⟨rb, 0, none⟩ = some (.pointer (some ⟨Kr3.gx, 0, none⟩)) := rowCell hT.r.row 0
    have hn4 := hT.r.inv.ok.nt
    have HT : Hid (Two w wr rb qb Kr3 Kq3) := hT
    clear hT
    by_cases hlt : k < Kr3.M.nt
    · have hlt2 : (k : Int) < (Kr3.M.nt : Int) := by omega
      go_wp2_with fail
      refine (kkind_any k HT.out.r (by rw [HZ.out.2.1.ar]; exact hap1) (by omega)).mono ?_
      rintro e w7 ⟨rfl, rfl⟩
      rw [HZ.out.2.1.ar]
      rcases kindV_two ap k with hk0 | hk0
      · rw [hk0]
        have hEq := HZ.out.2.1.E
        rw [← hk0] at hEq
        have hu := hEq.used HT.out.r.inv.ok
        have htk := hEq.taken HT.out.r.inv.ok
        have hlr : lookV Kr3.M (k : Int) = .tuple #[.agg #[.int .i64 (Kr3.M.used k : Int), .int .i64 (Kr3.M.taken k : Int)], .int .i64 0] := by
          unfold lookV
          rw [if_pos (by simp [hasB]; omega)]
          rfl
        have hlq : lookV Kq3.M (k : Int) = .tuple #[.agg #[.int .i64 (Kr3.M.used k : Int), .int .i64 (Kr3.M.taken k : Int)], .int .i64 0] := by
          unfold lookV
          rw [if_pos (by simp [hasB]; have := hEq.nt; omega)]
          show Value.tuple #[.agg #[.int .i64 (Kq3.M.used k : Int), .int .i64 (Kq3.M.taken k : Int)], .int .i64 0] = _
          rw [hu, htk]
        have HLK : Hid (lookV Kr3.M (k : Int) = .tuple #[.agg #[.int .i64 (Kr3.M.used k : Int), .int .i64 (Kr3.M.taken k : Int)], .int .i64 0] ∧ lookV Kq3.M (k : Int) = .tuple #[.agg #[.int .i64 (Kr3.M.used k : Int), .int .i64 (Kr3.M.taken k : Int)], .int .i64 0]) := ⟨hlr, hlq⟩
        clear hlr hlq hu htk hEq
        go_wp2_with fail
        refine (look_any (k : Int) HT.out.r.x HT.out.r.inv.ok).mono ?_
        rintro e w8 ⟨rfl, hb⟩
        rw [HLK.out.1]
        obtain ⟨us, hus⟩ : ∃ us : Int, (Kr3.M.used k : Int) = us := ⟨_, rfl⟩
        obtain ⟨tk, htk⟩ : ∃ tk : Int, (Kr3.M.taken k : Int) = tk := ⟨_, rfl⟩
        have HU : Hid ((Kr3.M.used k : Int) = us ∧ (Kr3.M.taken k : Int) = tk) := ⟨hus, htk⟩
        rw [hus, htk]
        obtain ⟨V, hV⟩ : ∃ V, V = w8.alloc (.cells #[.int .i64 us, .int .i64 tk] 47) := ⟨_, rfl⟩
        have hVb : Below w7.heap.size w7 V := hV ▸ hb.alloc hb.size _
        have hTV := HT.out.below hVb
        have v0 : V.cell? ⟨qb, 0, none⟩ = some (.pointer (some ⟨Kq3.gx, 0, none⟩)) := rowCell hTV.q.row 0
        have HV : Hid (V = w8.alloc (.cells #[.int .i64 us, .int .i64 tk] 47) ∧ Two w V rb qb Kr3 Kq3 ∧ V.heap[w8.heap.size]? = some (.cells #[.int .i64 us, .int .i64 tk] 47 (0, 0))) := ⟨hV, hTV, hV ▸ newRowAt _ _⟩
        clear hb hV hVb hTV hus htk
        have v0' : ∀ N, (w8.alloc N) = V → (w8.alloc N).cell? ⟨qb, 0, none⟩ = some (.pointer (some ⟨Kq3.gx, 0, none⟩)) := fun N h => by rw [h]; exact v0
        have v1 := v0' _ HV.out.1.symm
        clear v0 v0'
        go_wp2_with fail
        rw [← HV.out.1]
        refine (look_any (k : Int) HV.out.2.1.q.x HV.out.2.1.q.inv.ok).mono ?_
        rintro e w9 ⟨rfl, hb⟩
        rw [HLK.out.2, HU.out.1, HU.out.2]
        have q9 := keepRow hb (lt_of_row HV.out.2.2) HV.out.2.2
        have z0 : w9.cell? ⟨w8.heap.size, 0, none⟩ = some (.int .i64 us) := rowCell q9 0
        have z1 : w9.cell? ⟨w8.heap.size, 1, none⟩ = some (.int .i64 tk) := rowCell q9 1
        have z8 : w8.heap.size < w9.heap.size := lt_of_row q9
        have H9 : Hid (Two w w9 rb qb Kr3 Kq3) := HV.out.2.1.below hb
        clear hb q9 v1
        go_wp2_with fail
        exact ⟨⟨k + 1, by omega, rfl, H9.out.below ((Below.refl _ _).alloc (Nat.le_refl _) _)⟩, by simp [intOf]; omega⟩
      · rw [hk0]
        go_wp2_with fail
        go_roundw
        case rel => exact ⟨k + 1, by omega, rfl, HT.out⟩
        case measure => simp [intOf]; omega
    · obtain rfl : k = Kr3.M.nt := by omega
      go_wp2_with fail
      go_ret
      exact ⟨rfl, HT.out.b⟩

end Go.Proofs.Ytkjjamigaamllab
