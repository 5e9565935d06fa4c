/-
  Joined: KeepPlay, KeepFirst, KeepBegin.
-/
import Derived.Test.YtkjjamigaamllaaKeepAskAll
import Derived.Test.YtkjjamigaamllaaKeepScript
import Derived.Deep.QuietTactic
import Derived.Test.YtkjjamigaamllaaKeepRequest
namespace Go.Proofs.Ytkjjamigaamllaa
open Go.RowKit
set_option linter.unusedSimpArgs false

/- KeepPlay -/

/-- ONE STEP OF A SCRIPT, on a run: nothing is asked, or a request; the others hear the reply -/
inductive KPlay1 (K : KRun) (o : KOp) : KRun → Prop
  | skip (h : reqQ (K.gl (pickK o.tenant K.M.nt).toNat) K.shares K.grants K.apart (pickK o.tenant K.M.nt).toNat o = none ∨ K.but / 2 ^ (kindV K.apart (pickK o.tenant K.M.nt).toNat).toNat % 2 = 1) : KPlay1 K o K
  | ask (q : KReq) (er : Int) (m : ByteArray) (K1 K2 : KRun) (h : reqQ (K.gl (pickK o.tenant K.M.nt).toNat) K.shares K.grants K.apart (pickK o.tenant K.M.nt).toNat o = some q)
      (hb : ¬ K.but / 2 ^ (kindV K.apart (pickK o.tenant K.M.nt).toNat).toNat % 2 = 1) (hs : KStep K (pickK o.tenant K.M.nt).toNat q.op q.x q.o q.l q.r q.to q.d er m K1)
      (hM : K2.M = K1.M) (hgl : K2.gl = K1.gl) (hc : K2.ok = K1.ok ∧ K2.shares = K1.shares ∧ K2.grants = K1.grants ∧ K2.apart = K1.apart ∧ K2.but = K1.but)
      (hh : K2.hl = if kindV K.apart (pickK o.tenant K.M.nt).toNat = 0 then K1.hl ++ [oneC er ++ m] else K1.hl) : KPlay1 K o K2

/-- some steps -/
inductive KPlays (f : Nat → KOp) : Nat → KRun → KRun → Prop
  | nil (K : KRun) : KPlays f 0 K K
  | snoc (n : Nat) (K K1 K2 : KRun) (h : KPlays f n K K1) (h1 : KPlay1 K1 (f n) K2) : KPlays f (n + 1) K K2

/-- the run's cells while a reply is noted -/
theorem KAt.pushingH {B0 : Nat} {w V w3 : World} {rb : Nat} {K : KRun} (h : KAt B0 w rb K) (hV : Below w.heap.size w V) (hgr : V.grownBy w3 K.hv.ownBlock) :
    w3.heap[rb]? = some (.cells K.cells 56 (0, 0)) := by
  have h2 := h.below hV
  refine (hgr.block rb (lt_of_row h2.row) (fun e => ?_)).trans h2.row
  obtain ⟨_, cur, hc⟩ := owns_lt h2.hown e
  exact ne_of_type h2.row hc (by decide) rfl

set_option maxHeartbeats 3200000 in
set_option maxRecDepth 100000 in
theorem kplay_any {B0 : Nat} {w : World} {rb : Nat} {K : KRun} (a : Option Addr) (len cap : Nat) (f : Nat → KOp) (h : KAt B0 w rb K) (hg : KGood K.M K.gl) (hok : K.ok = true) (ha : 0 ≤ K.apart ∧ K.apart ≤ 15) (hbut : K.but = 0 ∨ K.but = 2)
    (hS : ∀ w', Below B0 w w' → KScrAt w' a len f) (hlen : len ≤ 2199023255552) (hhl : K.hl = []) :
    Calls Try.prog 60 #[.pointer (some ⟨rb, 0, none⟩), .slice a len cap] w fun e w' => e = .returned (.tuple #[]) ∧ ∃ K', KPlays f len K K' ∧ KAt B0 w' rb K' ∧ KGood K'.M K'.gl ∧ KTo rb K K' w w' ∧ K'.ok = true := by
  have HH : Hid (KAt B0 w rb K ∧ KGood K.M K.gl ∧ ∀ w', Below B0 w w' → KScrAt w' a len f) := ⟨h, hg, hS⟩
  clear h hg hS
  go_enter Try.func60, Try.ntmps60
  go_wp2_with fail
  go_loopw [4] (fun i W => ∃ (k : Nat) (K1 : KRun), k ≤ len ∧ i = .int .i64 (k : Int) ∧ KPlays f k K K1 ∧ KAt B0 W rb K1 ∧ KGood K1.M K1.gl ∧ KTo rb K K1 w W ∧ K1.ok = true ∧ K1.apart = K.apart ∧ K1.but = K.but ∧ K1.hl.length ≤ k) (fun i _ => len - (intOf i).toNat)
  case atStart => exact ⟨0, K, by omega, rfl, .nil K, HH.out.1, HH.out.2.1, KTo.ofBelow (Below.refl _ _), hok, rfl, rfl, by rw [hhl]; simp⟩
  case round =>
    obtain ⟨k, K1, hk, rfl, hp, hK, hG, hB, hok1, hap, hbt, hl1⟩ := hrel
    have c5 : wr.cell? ⟨rb, 5, none⟩ = some (.bool true) := by rw [← hok1]; exact rowCell hK.row 5
    by_cases hlt : k < len
    · have hlt2 : (k : Int) < (len : Int) := by omega
      obtain ⟨b, o, ea, hO⟩ := HH.out.2.2 wr (hB.below HH.out.1) k hlt
      obtain ⟨s0, s1, s2, s3, s4, s5, s6, sl, sok⟩ := hO
      subst ea
      have r1 := lt_of_row hK.row
      have c1 : ∀ N, (wr.alloc N).cell? ⟨rb, 1, none⟩ = some (.int .i64 (K1.M.nt : Int)) := fun N => by
        rw [((Below.refl wr.heap.size wr).alloc (Nat.le_refl _) N).cell (p := ⟨rb, 1, none⟩) r1]; exact rowCell hK.row 1
      have hnt1 := hK.inv.nt1
      have hnt4 := hK.inv.ok.nt
      obtain ⟨t, hT⟩ : ∃ t : Nat, pickK (f k).tenant (K1.M.nt : Int) = (t : Int) := ⟨(pickK (f k).tenant (K1.M.nt : Int)).toNat, by have := pickK_bd (f k).tenant (m := (K1.M.nt : Int)) (by omega); omega⟩
      have ht : t < K1.M.nt := by have := pickK_bd (f k).tenant (m := (K1.M.nt : Int)) (by omega); omega
      obtain ⟨W, hW⟩ : ∃ W, W = wr.alloc (.cells #[.int .i64 (f k).op, .int .i64 (f k).tenant, .int .i64 (f k).which, .int .i64 (f k).a, .int .i64 (f k).b, .int .i64 (f k).c, .string (f k).s] 119) := ⟨_, rfl⟩
      have hWb : Below wr.heap.size wr W := hW ▸ (Below.refl _ _).alloc (Nat.le_refl _) _
      have hKW := hK.below hWb
      have nw : W.heap[wr.heap.size]? = some (.cells #[.int .i64 (f k).op, .int .i64 (f k).tenant, .int .i64 (f k).which, .int .i64 (f k).a, .int .i64 (f k).b, .int .i64 (f k).c, .string (f k).s] 119 (0, 0)) := hW ▸ newRowAt _ _
      have n1 : W.cell? ⟨wr.heap.size, 1, none⟩ = some (.int .i64 (f k).tenant) := rowCell nw 1
      have cW1 : W.cell? ⟨rb, 1, none⟩ = some (.int .i64 (K1.M.nt : Int)) := rowCell hKW.row 1
      have hap' : 0 ≤ K1.apart ∧ K1.apart ≤ 15 := by rw [hap]; exact ha
      have HR : Hid (KPlays f k K K1 ∧ KAt B0 wr rb K1 ∧ KGood K1.M K1.gl ∧ KTo rb K K1 w wr ∧ K1.apart = K.apart ∧ K1.but = K.but ∧ (f k).Ok ∧ W = wr.alloc (.cells #[.int .i64 (f k).op, .int .i64 (f k).tenant, .int .i64 (f k).which, .int .i64 (f k).a, .int .i64 (f k).b, .int .i64 (f k).c, .string (f k).s] 119) ∧ Below wr.heap.size wr W ∧ (0 ≤ K1.apart ∧ K1.apart ≤ 15)) := ⟨hp, hK, hG, hB, hap, hbt, sok, hW, hWb, hap'⟩
      have HN : Hid (W.heap[wr.heap.size]? = some (.cells #[.int .i64 (f k).op, .int .i64 (f k).tenant, .int .i64 (f k).which, .int .i64 (f k).a, .int .i64 (f k).b, .int .i64 (f k).c, .string (f k).s] 119 (0, 0)) ∧ pickK (f k).tenant (K1.M.nt : Int) = (t : Int)) := ⟨nw, hT⟩
      clear hp hK hG hB hap hbt sok hW hWb hKW nw hap' hT
      go_wp2_with fail
      rw [← HR.out.2.2.2.2.2.2.2.1]
      go_quiet (first | (go_at_call 27; exact Calls.quiet_of_same (kpick_any _ _ _ HR.out.2.2.2.2.2.2.1.tenant (by omega) (by omega))))
      rw [HN.out.2]
      obtain ⟨V, hV⟩ : ∃ V, V = W.drewN nq := ⟨_, rfl⟩
      rw [← hV]
      have hVW : Below W.heap.size W V := hV ▸ belowDrewN _ _ _
      have hWs : wr.heap.size < W.heap.size := lt_of_row HN.out.1
      have nv := keepRow hVW hWs HN.out.1
      have m0 : V.cell? ⟨wr.heap.size, 0, none⟩ = some (.int .i64 (f k).op) := rowCell nv 0
      have m1 : V.cell? ⟨wr.heap.size, 1, none⟩ = some (.int .i64 (f k).tenant) := rowCell nv 1
      have m2 : V.cell? ⟨wr.heap.size, 2, none⟩ = some (.int .i64 (f k).which) := rowCell nv 2
      have m3 : V.cell? ⟨wr.heap.size, 3, none⟩ = some (.int .i64 (f k).a) := rowCell nv 3
      have m4 : V.cell? ⟨wr.heap.size, 4, none⟩ = some (.int .i64 (f k).b) := rowCell nv 4
      have m5 : V.cell? ⟨wr.heap.size, 5, none⟩ = some (.int .i64 (f k).c) := rowCell nv 5
      have m6 : V.cell? ⟨wr.heap.size, 6, none⟩ = some (.string (f k).s) := rowCell nv 6
      have hVr : Below wr.heap.size wr V := HR.out.2.2.2.2.2.2.2.2.1.trans (hVW.mono (by omega))
      have HV : Hid (Below wr.heap.size wr V ∧ KAt B0 V rb K1) := ⟨hVr, HR.out.2.1.below hVr⟩
      clear hV hVW nv hVr n1 cW1
      go_wp2_with fail
      refine (krequest_any t (f k) HR.out.2.2.2.2.2.2.1 HV.out.2 HR.out.2.2.1 ht HR.out.2.2.2.2.2.2.2.2.2).mono ?_
      rintro e w2 ⟨rfl, hb2⟩
      have HW2 : Hid (Below wr.heap.size wr w2 ∧ KAt B0 w2 rb K1) := ⟨HV.out.1.trans (hb2.mono HV.out.1.size), HV.out.2.below hb2⟩
      clear hb2 m0 m1 m2 m3 m4 m5 m6
      go_wp2_with fail
      refine (kkind_any t HW2.out.2 HR.out.2.2.2.2.2.2.2.2.2 (by omega)).mono ?_
      rintro e w3 ⟨rfl, rfl⟩
      have d9 : w3.cell? ⟨rb, 9, none⟩ = some (.int .i64 K.but) := by rw [← HR.out.2.2.2.2.2.1]; exact rowCell HW2.out.2.row 9
      have d10 : w3.cell? ⟨rb, 10, none⟩ = some K1.hv := rowCell HW2.out.2.row 10
      have hkd : kindV K1.apart t = 0 ∨ kindV K1.apart t = 1 := by unfold kindV; omega
      obtain ⟨kd, hkd2⟩ : ∃ kd, kindV K1.apart t = kd := ⟨_, rfl⟩
      rw [hkd2] at hkd ⊢
      cases hq : reqQ (K1.gl t) K1.shares K1.grants K1.apart t (f k) with
      | none =>
        rw [show reqS none = (⟨#[]⟩ : ByteArray) from rfl]
        have HQ : Hid (reqQ (K1.gl t) K1.shares K1.grants K1.apart t (f k) = none) := hq
        clear hq
        go_wp2_with fail
        go_roundw
        case rel =>
          refine ⟨k + 1, K1, by omega, rfl, .snoc k K K1 K1 HR.out.1 (.skip (Or.inl ?_)), HW2.out.2, HR.out.2.2.1, HR.out.2.2.2.1.trans (KTo.ofBelow HW2.out.1), hok1, HR.out.2.2.2.2.1, HR.out.2.2.2.2.2.1, by omega⟩
          rw [HN.out.2]
          exact HQ.out
        case measure => simp [intOf]; omega
      | some q =>
        rw [show reqS (some q) = q.bytes from rfl]
        have hqok := reqQ_ok (HR.out.2.2.1.num t) hq
        have hne : q.bytes.toList.isEmpty = false := ne_empty (body_byt hqok).2
        have HQ : Hid (reqQ (K1.gl t) K1.shares K1.grants K1.apart t (f k) = some q ∧ q.ok ∧ kindV K1.apart t = kd) := ⟨hq, hqok, hkd2⟩
        clear hq hqok hkd2
        by_cases hsk : K.but = 2 ∧ kd = 1
        · obtain ⟨hb2, rfl⟩ := hsk
          rw [hb2] at d9
          go_wp2_with fail
          go_roundw
          case rel =>
            refine ⟨k + 1, K1, by omega, rfl, .snoc k K K1 K1 HR.out.1 (.skip (Or.inr ?_)), HW2.out.2, HR.out.2.2.1, HR.out.2.2.2.1.trans (KTo.ofBelow HW2.out.1), hok1, HR.out.2.2.2.2.1, HR.out.2.2.2.2.2.1, by omega⟩
            rw [HN.out.2, HR.out.2.2.2.2.2.1, hb2]
            show (2 : Int) / 2 ^ (kindV K1.apart t).toNat % 2 = 1
            rw [HQ.out.2.2]
            rfl
          case measure => simp [intOf]; omega
        · have hbk : (K.but = 0 ∧ kd = 0) ∨ (K.but = 0 ∧ kd = 1) ∨ (K.but = 2 ∧ kd = 0) := by omega
          rcases hbk with ⟨hb2, rfl⟩ | ⟨hb2, rfl⟩ | ⟨hb2, rfl⟩
          · rw [hb2] at d9
            go_wp2_with fail
            refine (kask_any t HQ.out.2.1 HW2.out.2 HR.out.2.2.1 ht).mono ?_
            rintro e w4 ⟨er, m, K2, rfl, st, hK2, hG2, hB2⟩
            have d10 : w4.cell? ⟨rb, 10, none⟩ = some K2.hv := rowCell hK2.row 10
            have HS : Hid (KStep K1 t q.op q.x q.o q.l q.r q.to q.d er m K2 ∧ KAt B0 w4 rb K2 ∧ KGood K2.M K2.gl ∧ KTo rb K K2 w w4) := ⟨st, hK2, hG2, (HR.out.2.2.2.1.trans (KTo.ofBelow HW2.out.1)).trans hB2⟩
            clear st hK2 hG2 hB2
            have hl2 : K2.hl.length ≤ k := by rw [HS.out.1.hl]; exact hl1
            have HO : Hid (∀ N, (w4.alloc N).ownsRow 0 9 1 K2.hv K2.hl.length (K2.hl.map Value.string)) := fun N => (HS.out.2.1.below ((Below.refl w4.heap.size w4).alloc (Nat.le_refl _) N)).hown
            go_wp2_with (first
              | (at_builtin
                 refine wpList_append_mine _ rfl _ _ 54 rfl 9 Try.t9 (.string ⟨#[]⟩) 16 Try.underlying54 (by kernel_rfl) (by kernel_rfl) (by kernel_rfl) (by kernel_rfl) rfl K2.hv K2.hl.length (K2.hl.map Value.string) rfl (HO.out _) ⟨w4.heap.size, 0, none⟩ _ rfl (rowCell (newRowAt w4 _) 0) rfl (by unfold maxLen; omega) (by omega) ?_
                 intro kk cap w5 hown hgr hkk
                 have r1 := HS.out.2.1.pushingH ((Below.refl w4.heap.size w4).alloc (Nat.le_refl _) _) hgr
                 have HP : Hid _ := HS.out.2.1.pushedH ((Below.refl w4.heap.size w4).alloc (Nat.le_refl _) _) _ hown hgr (by simpa using hkk)
                 have e10 := rowCell r1 10
                 have f10 := rowFree r1 10
                 clear hown hgr hkk r1))
            go_roundw
            case rel =>
              obtain ⟨p1, p2⟩ := HP.out
              refine ⟨k + 1, K2.pushH (oneC er ++ m) _, by omega, rfl, .snoc k K K1 _ HR.out.1 (.ask q er m K2 _ (by rw [HN.out.2]; exact HQ.out.1) (by rw [HN.out.2, HR.out.2.2.2.2.2.1, hb2]; show ¬ (0 : Int) / 2 ^ (kindV K1.apart t).toNat % 2 = 1; rw [HQ.out.2.2]; decide) (by rw [HN.out.2]; exact HS.out.1) rfl rfl ⟨rfl, rfl, rfl, rfl, rfl⟩ (by rw [HN.out.2]; show K2.hl ++ [_] = if kindV K1.apart t = 0 then _ else _; rw [HQ.out.2.2, if_pos rfl])), p1, HS.out.2.2.1, HS.out.2.2.2.trans p2, HS.out.1.ok.trans hok1, HS.out.1.apart.trans HR.out.2.2.2.2.1, HS.out.1.but.trans HR.out.2.2.2.2.2.1, by show (K2.hl ++ [_]).length ≤ k + 1; rw [List.length_append, HS.out.1.hl]; simp; omega⟩
            case measure => simp [intOf]; omega
          · rw [hb2] at d9
            go_wp2_with fail
            refine (kask_any t HQ.out.2.1 HW2.out.2 HR.out.2.2.1 ht).mono ?_
            rintro e w4 ⟨er, m, K2, rfl, st, hK2, hG2, hB2⟩
            have d10 : w4.cell? ⟨rb, 10, none⟩ = some K2.hv := rowCell hK2.row 10
            have HS : Hid (KStep K1 t q.op q.x q.o q.l q.r q.to q.d er m K2 ∧ KAt B0 w4 rb K2 ∧ KGood K2.M K2.gl ∧ KTo rb K K2 w w4) := ⟨st, hK2, hG2, (HR.out.2.2.2.1.trans (KTo.ofBelow HW2.out.1)).trans hB2⟩
            clear st hK2 hG2 hB2
            go_wp2_with fail
            go_roundw
            case rel =>
              refine ⟨k + 1, K2, by omega, rfl, .snoc k K K1 K2 HR.out.1 (.ask q er m K2 K2 (by rw [HN.out.2]; exact HQ.out.1) (by rw [HN.out.2, HR.out.2.2.2.2.2.1, hb2]; show ¬ (0 : Int) / 2 ^ (kindV K1.apart t).toNat % 2 = 1; rw [HQ.out.2.2]; decide) (by rw [HN.out.2]; exact HS.out.1) rfl rfl ⟨rfl, rfl, rfl, rfl, rfl⟩ (by rw [HN.out.2]; show K2.hl = if kindV K1.apart t = 0 then _ else _; rw [HQ.out.2.2, if_neg (by decide)])), HS.out.2.1, HS.out.2.2.1, HS.out.2.2.2, HS.out.1.ok.trans hok1, HS.out.1.apart.trans HR.out.2.2.2.2.1, HS.out.1.but.trans HR.out.2.2.2.2.2.1, by rw [HS.out.1.hl]; omega⟩
            case measure => simp [intOf]; omega
          · rw [hb2] at d9
            go_wp2_with fail
            refine (kask_any t HQ.out.2.1 HW2.out.2 HR.out.2.2.1 ht).mono ?_
            rintro e w4 ⟨er, m, K2, rfl, st, hK2, hG2, hB2⟩
            have d10 : w4.cell? ⟨rb, 10, none⟩ = some K2.hv := rowCell hK2.row 10
            have HS : Hid (KStep K1 t q.op q.x q.o q.l q.r q.to q.d er m K2 ∧ KAt B0 w4 rb K2 ∧ KGood K2.M K2.gl ∧ KTo rb K K2 w w4) := ⟨st, hK2, hG2, (HR.out.2.2.2.1.trans (KTo.ofBelow HW2.out.1)).trans hB2⟩
            clear st hK2 hG2 hB2
            have hl2 : K2.hl.length ≤ k := by rw [HS.out.1.hl]; exact hl1
            have HO : Hid (∀ N, (w4.alloc N).ownsRow 0 9 1 K2.hv K2.hl.length (K2.hl.map Value.string)) := fun N => (HS.out.2.1.below ((Below.refl w4.heap.size w4).alloc (Nat.le_refl _) N)).hown
            go_wp2_with (first
              | (at_builtin
                 refine wpList_append_mine _ rfl _ _ 54 rfl 9 Try.t9 (.string ⟨#[]⟩) 16 Try.underlying54 (by kernel_rfl) (by kernel_rfl) (by kernel_rfl) (by kernel_rfl) rfl K2.hv K2.hl.length (K2.hl.map Value.string) rfl (HO.out _) ⟨w4.heap.size, 0, none⟩ _ rfl (rowCell (newRowAt w4 _) 0) rfl (by unfold maxLen; omega) (by omega) ?_
                 intro kk cap w5 hown hgr hkk
                 have r1 := HS.out.2.1.pushingH ((Below.refl w4.heap.size w4).alloc (Nat.le_refl _) _) hgr
                 have HP : Hid _ := HS.out.2.1.pushedH ((Below.refl w4.heap.size w4).alloc (Nat.le_refl _) _) _ hown hgr (by simpa using hkk)
                 have e10 := rowCell r1 10
                 have f10 := rowFree r1 10
                 clear hown hgr hkk r1))
            go_roundw
            case rel =>
              obtain ⟨p1, p2⟩ := HP.out
              refine ⟨k + 1, K2.pushH (oneC er ++ m) _, by omega, rfl, .snoc k K K1 _ HR.out.1 (.ask q er m K2 _ (by rw [HN.out.2]; exact HQ.out.1) (by rw [HN.out.2, HR.out.2.2.2.2.2.1, hb2]; show ¬ (2 : Int) / 2 ^ (kindV K1.apart t).toNat % 2 = 1; rw [HQ.out.2.2]; decide) (by rw [HN.out.2]; exact HS.out.1) rfl rfl ⟨rfl, rfl, rfl, rfl, rfl⟩ (by rw [HN.out.2]; show K2.hl ++ [_] = if kindV K1.apart t = 0 then _ else _; rw [HQ.out.2.2, if_pos rfl])), p1, HS.out.2.2.1, HS.out.2.2.2.trans p2, HS.out.1.ok.trans hok1, HS.out.1.apart.trans HR.out.2.2.2.2.1, HS.out.1.but.trans HR.out.2.2.2.2.2.1, by show (K2.hl ++ [_]).length ≤ k + 1; rw [List.length_append, HS.out.1.hl]; simp; omega⟩
            case measure => simp [intOf]; omega
    · obtain rfl : k = len := by omega
      have HR : Hid (KPlays f k K K1 ∧ KAt B0 wr rb K1 ∧ KGood K1.M K1.gl ∧ KTo rb K K1 w wr) := ⟨hp, hK, hG, hB⟩
      clear hp hK hG hB
      go_wp2
      go_end0
      exact ⟨rfl, K1, HR.out.1, HR.out.2.1, HR.out.2.2.1, HR.out.2.2.2, hok1⟩

/- KeepFirst -/

theorem sumN_none {f : Nat → Nat} (n : Nat) (h : ∀ k, k < n → f k = 0) : sumN f n = 0 := by
  induction n with
  | zero => rfl
  | succ n ih => simp [sumN, ih (fun k hk => h k (by omega)), h n (by omega)]
theorem sumN_first {f : Nat → Nat} {n : Nat} (hn : 1 ≤ n) (h : ∀ k, 0 < k → f k = 0) : sumN f n = f 0 := by
  induction n with
  | zero => omega
  | succ n ih =>
    by_cases e : n = 0
    · subst e; simp [sumN]
    · simp [sumN, ih (by omega), h n (by omega)]

/-- "A" -/
def sA : ByteArray := ⟨#[65]⟩
def bM0 (nt ns nc : Nat) : Mach := ⟨nt, ns, nc, fun _ => HSlot.none 0⟩
def bM1 (nt ns nc : Nat) : Mach := (bM0 nt ns nc).set 0 (HSlot.new 0 0 8)
def bM2 (nt ns nc : Nat) : Mach := (bM1 nt ns nc).set 0 ⟨1, true, -1, 0, 0, 8, 7, [0, 0, 0, 65, 0, 0, 0, 0]⟩
def bM3 (nt ns nc : Nat) : Mach := ⟨nt, ns, nc, fun p => HSlot.none (if p = 0 then 1 else 0)⟩

theorem b_alloc {nt ns nc : Nat} (h2 : 1 ≤ ns) (h3 : 1 ≤ nc) : StepQ (bM0 nt ns nc) 0 1 0 0 8 0 0 ⟨#[]⟩ 0 (twoW 0) (bM1 nt ns nc) := by
  have ht : (bM0 nt ns nc).taken 0 = 0 := sumN_none _ (fun k _ => by simp [bM0, HSlot.none, chunksN])
  have hn : (bM0 nt ns nc).next 0 = some 0 := firstN_some (by show 0 < ns; omega) (by simp [bM0, HSlot.none]) (fun k hk => by omega)
  have e : (bM0 nt ns nc).alloc 0 8 = (0, twoW 0, bM1 nt ns nc) := by
    unfold Mach.alloc
    rw [if_neg (by decide), if_neg (by rw [ht]; show ¬ nc < 0 + chunksN 8; simp [chunksN]; omega), hn]
    rfl
  exact Or.inl ⟨rfl, by rw [e], by rw [e], by rw [e]⟩

theorem b_find {ns : Nat} (h2 : 1 ≤ ns) (M : Mach) (hM : M.ns = ns) (hf : (M.s 0).full = true) (hu : (M.s 0).uses = 1) : M.find 0 0 = some 0 :=
  firstN_some (by rw [hM]; omega) (by simp [hf, Mach.handle, hu]) (fun k hk => by omega)

theorem b_write {nt ns nc : Nat} (h2 : 1 ≤ ns) : StepQ (bM1 nt ns nc) 0 4 0 3 0 0 0 sA 0 nilS (bM2 nt ns nc) := by
  have hf := b_find h2 (bM1 nt ns nc) rfl rfl rfl
  have e0 : (bM1 nt ns nc).writeE (16 * 0 + 0) 3 sA = 0 := by
    unfold Mach.writeE
    rw [if_neg (by show ¬ (7 : Int) / 2 % 2 = 0; decide), if_neg (by show ¬ (8 : Int) < 3 + ((1 : Nat) : Int); decide)]
  have e : (bM1 nt ns nc).write (16 * 0 + 0) 3 sA = bM2 nt ns nc := by
    unfold Mach.write
    rw [if_pos e0]
    rfl
  exact Or.inr (Or.inr ⟨by decide, 0, hf, Or.inr (Or.inr (Or.inl ⟨rfl, e0.symm, rfl, e.symm⟩))⟩)

theorem b_read {nt ns nc : Nat} (h2 : 1 ≤ ns) : StepQ (bM2 nt ns nc) 0 3 0 2 3 0 0 ⟨#[]⟩ 0 (strOfNums [0, 65, 0]) (bM2 nt ns nc) := by
  have hf := b_find h2 (bM2 nt ns nc) rfl rfl rfl
  have e : (bM2 nt ns nc).read (16 * 0 + 0) 2 3 = (0, strOfNums [0, 65, 0]) := by
    unfold Mach.read
    rw [if_neg (by show ¬ (7 : Int) % 2 = 0; decide), if_neg (by show ¬ ((64 : Int) < 3 ∨ (8 : Int) < 2 + 3); decide)]
    rfl
  exact Or.inr (Or.inr ⟨by decide, 0, hf, Or.inr (Or.inl ⟨rfl, by rw [e], by rw [e], rfl⟩)⟩)

theorem b_used2 {nt ns nc : Nat} (h2 : 1 ≤ ns) : (bM2 nt ns nc).used 0 = 1 ∧ (bM2 nt ns nc).taken 0 = 1 := by
  refine ⟨?_, ?_⟩
  · unfold Mach.used
    exact (sumN_first (n := ns) h2 (fun k hk => by
      show (if ((bM2 nt ns nc).s (16 * 0 + k)).full = true then 1 else 0) = 0
      have : (bM2 nt ns nc).s (16 * 0 + k) = HSlot.none 0 := by
        rw [bM2, Mach.set_other _ _ (by omega), bM1, Mach.set_other _ _ (by omega)]; rfl
      rw [this]; rfl)).trans rfl
  · unfold Mach.taken
    exact (sumN_first (n := ns) h2 (fun k hk => by
      show chunksN ((bM2 nt ns nc).s (16 * 0 + k)).bytes.length = 0
      have : (bM2 nt ns nc).s (16 * 0 + k) = HSlot.none 0 := by
        rw [bM2, Mach.set_other _ _ (by omega), bM1, Mach.set_other _ _ (by omega)]; rfl
      rw [this]; rfl)).trans (by show chunksN 8 = 1; decide)

theorem b_free {nt ns nc : Nat} (h2 : 1 ≤ ns) : StepQ (bM2 nt ns nc) 0 2 0 0 0 0 0 ⟨#[]⟩ 0 nilS (bM3 nt ns nc) := by
  have hf := b_find h2 (bM2 nt ns nc) rfl rfl rfl
  have oth : ∀ x, x ≠ 0 → (bM2 nt ns nc).s x = HSlot.none 0 := fun x hx => by
    rw [bM2, Mach.set_other _ _ hx, bM1, Mach.set_other _ _ hx]; rfl
  have no : ∀ x, ¬ Under (bM2 nt ns nc) 0 x := fun x hu => by
    have hfl := hu.full.2
    by_cases e : x = 0
    · subst e
      cases hu with
      | child _ _ hp => revert hp; show (-1 : Int) = _ → False; omega
      | deep _ _ hp _ => revert hp; show (-1 : Int) = _ → False; omega
    · rw [oth x e] at hfl; cases hfl
  refine Or.inr (Or.inr ⟨by decide, 0, hf, Or.inl ⟨rfl, Or.inr ⟨rfl, rfl, rfl, rfl, rfl, rfl, fun x hx => ?_, fun x hx => ?_⟩⟩⟩)
  · rcases hx with rfl | hx
    · rfl
    · exact absurd hx (no x)
  · have hx0 : x ≠ 0 := fun e => hx (Or.inl e)
    rw [oth x hx0]
    show HSlot.none (if x = 0 then 1 else 0) = _
    rw [if_neg hx0]

theorem b_used3 {nt ns nc : Nat} : (bM3 nt ns nc).used 0 = 0 ∧ (bM3 nt ns nc).taken 0 = 0 :=
  ⟨sumN_none _ (fun k _ => by simp [bM3, HSlot.none]), sumN_none _ (fun k _ => by simp [bM3, HSlot.none, chunksN])⟩

/- KeepBegin -/

theorem newRow2 (w : World) (A B : Obj) : ((w.alloc A).alloc B).drew.heap[w.heap.size + 1]? = some B := by
  have := newRowAt (w.alloc A) B
  rw [sizeAlloc] at this
  exact this

set_option maxHeartbeats 1600000 in
theorem kfit_any (t s c : Int) (w : World) (ht : inR t) (hs : inR s) (hc : inR c) :
    Calls Try.prog 61 #[.agg #[.int .i64 t, .int .i64 s, .int .i64 c]] w fun e w' => e = .returned (.agg #[.int .i64 (1 + pickK t 4), .int .i64 (1 + pickK s 16), .int .i64 (1 + pickK c 32)]) ∧ Below w.heap.size w w' := by
  have HI : Hid (inR t ∧ inR s ∧ inR c) := ⟨ht, hs, hc⟩
  have b1 := pickK_bd t (m := 4) (by decide)
  have b2 := pickK_bd s (m := 16) (by decide)
  have b3 := pickK_bd c (m := 32) (by decide)
  obtain ⟨b1a, b1b⟩ := b1
  obtain ⟨b2a, b2b⟩ := b2
  obtain ⟨b3a, b3b⟩ := b3
  have E : Hid (IntKind.i64.wrap (1 + pickK t 4) = 1 + pickK t 4 ∧ IntKind.i64.wrap (1 + pickK s 16) = 1 + pickK s 16 ∧ IntKind.i64.wrap (1 + pickK c 32) = 1 + pickK c 32) := ⟨Go.IntWalk.i64_in _ (by omega), Go.IntWalk.i64_in _ (by omega), Go.IntWalk.i64_in _ (by omega)⟩
  clear ht hs hc
  go_enter Try.func61, Try.ntmps61
  go_wp2_with fail
  go_region_held3 (fun W => W.cell? ⟨w.heap.size, 0, none⟩ = some (.int .i64 t) ∧ W.cell? ⟨w.heap.size, 1, none⟩ = some (.int .i64 s) ∧ W.cell? ⟨w.heap.size, 2, none⟩ = some (.int .i64 c)) (go_keep)
    (first | (go_at_call 27; refine (kpick_any _ _ _ (by first | exact HI.out.1 | exact HI.out.2.1 | exact HI.out.2.2) (by decide) (by decide)).mono ?_; rintro e w2 ⟨rfl, rfl⟩))
  all_goals go_wp2
  all_goals rw [E.out.1, E.out.2.1, E.out.2.2]
  all_goals exact bodyPost_ret (results_cell_row (P := Try.prog) Try.results61 _ _ (w.heap.size + 1) 32 #[.int .i64 (1 + pickK t 4), .int .i64 (1 + pickK s 16), .int .i64 (1 + pickK c 32)] (0, 0) _ rfl (newRow2 w _ _) Try.underlying32 rfl (by kernel_rfl)) rfl ⟨rfl, (((Below.refl _ _).alloc (Nat.le_refl _) _).alloc (by simp) _).drew⟩

theorem made_rows (l : Nat) : madeCells (Value.slice none 0 0).cells (l * 1) = (List.replicate l (Value.slice none 0 0)).toArray := by
  apply Array.ext
  · simp [madeCells]
  · intro i h1 h2
    simp [madeCells, Value.cells, Nat.mod_one]
/-- make([][]int, l) -/
theorem make_rows (w : World) (l : Nat) (hl : l ≤ 65535) : (Instr.makeSlice 53 (.int .i64 (l : Int)) (.int .i64 (l : Int))).run Try.prog w = .ok (.slice (some ⟨w.heap.size, 0, none⟩) l l) (w.alloc (.cells (List.replicate l (Value.slice none 0 0)).toArray 44)) := by
  have := run_makeSlice (P := Try.prog) w 53 44 Try.t44 (.slice none 0 0) Try.underlying53 (by kernel_rfl) (by kernel_rfl) .i64 .i64 (l : Int) (l : Int) (by omega) (Int.le_refl _) (by show (l : Int).toNat * 1 ≤ _; omega) (by show ((24 : Nat) : Int) * l ≤ _; omega) (by omega)
  rw [this]
  have e : (l : Int).toNat * Try.t44.size = l * 1 := rfl
  rw [e, made_rows]
  rfl

/-- the run at its beginning -/
def KRun.first (gx gb nt ns nc : Nat) : KRun := ⟨gx, bM0 nt ns nc, id, gb, fun _ => .slice none 0 0, fun _ => [], true, false, false, 0, 0, .slice none 0 0, []⟩

theorem KAt.first {B0 gx nt ns nc : Nat} {w2 : World} (hx : HAt w2 gx (Mach.new nt ns nc) id) (hB : B0 ≤ gx) (h1 : 1 ≤ nt ∧ nt ≤ 4) (h2 : 1 ≤ ns ∧ ns ≤ 16) (h3 : 1 ≤ nc ∧ nc ≤ 32) :
    KAt B0 ((w2.alloc (.cells (Array.replicate nt (Value.slice none 0 0)) 44)).alloc (.cells #[.pointer (some ⟨gx, 0, none⟩), .int .i64 (nt : Int), .int .i64 (ns : Int), .int .i64 (nc : Int), .slice (some ⟨w2.heap.size, 0, none⟩) nt nt, .bool true, .bool false, .bool false, .int .i64 0, .int .i64 0, .slice none 0 0] 56)).drew (w2.heap.size + 1) (KRun.first gx w2.heap.size nt ns nc) ∧
      KGood (bM0 nt ns nc) (fun _ => []) := by
  obtain ⟨A, hA⟩ : ∃ A, A = Obj.cells (Array.replicate nt (Value.slice none 0 0)) 44 := ⟨_, rfl⟩
  obtain ⟨B, hB2⟩ : ∃ B, B = Obj.cells #[.pointer (some ⟨gx, 0, none⟩), .int .i64 (nt : Int), .int .i64 (ns : Int), .int .i64 (nc : Int), .slice (some ⟨w2.heap.size, 0, none⟩) nt nt, .bool true, .bool false, .bool false, .int .i64 0, .int .i64 0, .slice none 0 0] 56 := ⟨_, rfl⟩
  rw [← hA, ← hB2]
  have hl := hx.lt
  have hb : Below w2.heap.size w2 ((w2.alloc A).alloc B).drew := (((Below.refl _ _).alloc (Nat.le_refl _) _).alloc (by simp) _).drew
  have foot : ∀ k, HFoot gx (bM0 nt ns nc) id k → k = gx := fun k hk => by
    rcases hk with h | ⟨p, _, hb, _⟩
    · exact h
    · exact absurd rfl hb
  refine ⟨⟨?_, ?_, fun i _ => World.ownsRow_nil _ _ _ _, World.ownsRow_nil _ _ _ _, hx.below hb, inv_new h1 h2 h3, fun i j _ _ _ k hk => (by cases hk), fun hf => ?_, fun hf => ?_, fun i _ k hk => (by cases hk), fun k hk => (by cases hk), by omega, ?_, fun i _ k hk => (by cases hk), fun k hk => (by cases hk), fun k hk => ?_⟩, ⟨fun t n _ _ hf => (by cases hf), fun t _ => ?_, fun t x hx => (by cases hx)⟩⟩
  · have := newRow2 w2 A B
    rw [this, hB2]
    rfl
  · show ((w2.alloc A).alloc B).heap[w2.heap.size]? = _
    rw [Below.heap_alloc _ _ _ (by simp), newRowAt, hA]
    have : Array.replicate nt (Value.slice none 0 0) = (KRun.first gx w2.heap.size nt ns nc).gcells := by
      apply Array.ext
      · simp [KRun.gcells, KRun.first, bM0]
      · intro i a1 a2
        simp [KRun.gcells, KRun.first]
    rw [this]
  · have := foot _ hf; omega
  · have := foot _ hf
    have : w2.heap.size = gx := this
    omega
  · show B0 ≤ w2.heap.size
    omega
  · have := foot k hk; omega
  · exact (sumN_none _ (fun k _ => by simp [bM0, HSlot.none])).symm

theorem KAt.own_lt {B0 : Nat} {w : World} {rb : Nat} {K : KRun} (h : KAt B0 w rb K) {k : Nat} (hk : KOwn rb K k) : k < w.heap.size :=
  hk.elim (fun h1 => (h.kfoot_lt h1).1) (fun h1 => h.foot_lt h1)

/-- the run while it begins -/
structure KBeg (gx : Nat) (M : Mach) (K : KRun) : Prop where
  M : K.M = M
  gl : K.gl = fun i => if i = 0 then [(0 : Int)] else []
  ok : K.ok = true
  shares : K.shares = false
  grants : K.grants = false
  apart : K.apart = 0
  but : K.but = 0
  hl : K.hl = []
  gx : K.gx = gx
theorem KBeg.next {gx : Nat} {M M' : Mach} {K K' : KRun} {op x o l r to : Int} {d : ByteArray} {er : Int} {m : ByteArray} (b : KBeg gx M K) (st : KStep K 0 op x o l r to d er m K') (hM : K'.M = M') (h1 : op ≠ 1) (h5 : op ≠ 5) (h6 : op ≠ 6) : KBeg gx M' K' :=
  ⟨hM, by rw [st.gl]; unfold gave; rw [if_neg (by rintro ⟨_, h | h⟩; exact h1 h; exact h5 h), if_neg (fun h => h6 h.2)]; exact b.gl, st.ok.trans b.ok, st.shares.trans b.shares, st.grants.trans b.grants, st.apart.trans b.apart, st.but.trans b.but, st.hl.trans b.hl, st.gx.trans b.gx⟩

set_option maxHeartbeats 1600000 in
theorem kbegin_any (t s c : Int) (w : World) (ht : inR t) (hs : inR s) (hc : inR c) :
    Calls Try.prog 38 #[.agg #[.int .i64 t, .int .i64 s, .int .i64 c]] w fun e w' => ∃ (rb gx nt ns nc : Nat) (K : KRun), e = .returned (.pointer (some ⟨rb, 0, none⟩)) ∧ (nt : Int) = 1 + pickK t 4 ∧ (ns : Int) = 1 + pickK s 16 ∧ (nc : Int) = 1 + pickK c 32 ∧ KAt w.heap.size w' rb K ∧ KGood K.M K.gl ∧ KBeg gx (bM3 nt ns nc) K ∧ Below w.heap.size w w' := by
  have b1 := pickK_bd t (m := 4) (by decide)
  have b2 := pickK_bd s (m := 16) (by decide)
  have b3 := pickK_bd c (m := 32) (by decide)
  obtain ⟨nt, hnt⟩ : ∃ nt : Nat, 1 + pickK t 4 = (nt : Int) := ⟨(1 + pickK t 4).toNat, by omega⟩
  obtain ⟨ns, hns⟩ : ∃ ns : Nat, 1 + pickK s 16 = (ns : Int) := ⟨(1 + pickK s 16).toNat, by omega⟩
  obtain ⟨nc, hnc⟩ : ∃ nc : Nat, 1 + pickK c 32 = (nc : Int) := ⟨(1 + pickK c 32).toNat, by omega⟩
  have c1 : 1 ≤ nt := by omega
  have c2 : nt ≤ 4 := by omega
  have c3 : 1 ≤ ns := by omega
  have c4 : ns ≤ 16 := by omega
  have c5 : 1 ≤ nc := by omega
  have c6 : nc ≤ 32 := by omega
  have HI : Hid (inR t ∧ inR s ∧ inR c) := ⟨ht, hs, hc⟩
  have HE : Hid (1 + pickK t 4 = (nt : Int) ∧ 1 + pickK s 16 = (ns : Int) ∧ 1 + pickK c 32 = (nc : Int)) := ⟨hnt, hns, hnc⟩
  clear b1 b2 b3 hnt hns hnc ht hs hc
  go_enter Try.func38, Try.ntmps38
  go_wp2_with fail
  refine (kfit_any t s c _ HI.out.1 HI.out.2.1 HI.out.2.2).mono ?_
  rintro e w1 ⟨rfl, hb1⟩
  rw [HE.out.1, HE.out.2.1, HE.out.2.2]
  have HB1 : Hid (Below w.heap.size w w1) := ((Below.refl _ _).alloc (Nat.le_refl _) _).trans (hb1.mono (by simp))
  clear hb1
  go_wp2_with fail
  refine (new_good nt ns nc _ (by simp [confB]; omega)).mono ?_
  rintro e w2 ⟨rfl, hx, hb2⟩
  have hz2 := hb2.size
  have q0 := keepRow hb2 (by simp) (newRowAt w1 (.cells #[.int .i64 (nt : Int), .int .i64 (ns : Int), .int .i64 (nc : Int)] 32))
  have qc := rowCell q0
  have HB2 : Hid (Below w.heap.size w w2 ∧ HAt w2 ((w1.alloc (.cells #[.int .i64 (nt : Int), .int .i64 (ns : Int), .int .i64 (nc : Int)] 32)).heap.size + 1) (Mach.new nt ns nc) id ∧ w1.heap.size < w2.heap.size) := ⟨(HB1.out.alloc HB1.out.size _).trans (hb2.mono (by have := HB1.out.size; simp; omega)), hx, by simp at hz2; omega⟩
  have hmk := fun W => make_rows W nt (by omega)
  have hq2 := HB2.out.2.2
  clear hb2 hx q0
  go_wp2_with fail
  go_region
  have hgx : (w1.alloc (.cells #[.int .i64 (nt : Int), .int .i64 (ns : Int), .int .i64 (nc : Int)] 32)).heap.size + 1 = w1.heap.size + 1 + 1 := by simp
  have hx2 := HB2.out.2.1
  rw [hgx] at hx2
  obtain ⟨k0, g0⟩ := KAt.first (B0 := w.heap.size) hx2 (by have := HB1.out.size; omega) ⟨c1, c2⟩ ⟨c3, c4⟩ ⟨c5, c6⟩
  obtain ⟨W, hW⟩ : ∃ W, W = ((w2.alloc (.cells (Array.replicate nt (Value.slice none 0 0)) 44)).alloc (.cells #[.pointer (some ⟨w1.heap.size + 1 + 1, 0, none⟩), .int .i64 (nt : Int), .int .i64 (ns : Int), .int .i64 (nc : Int), .slice (some ⟨w2.heap.size, 0, none⟩) nt nt, .bool true, .bool false, .bool false, .int .i64 0, .int .i64 0, .slice none 0 0] 56)).drew := ⟨_, rfl⟩
  rw [← hW] at k0
  have HK0 : Hid (KAt w.heap.size W (w2.heap.size + 1) (KRun.first (w1.heap.size + 1 + 1) w2.heap.size nt ns nc) ∧ KGood (bM0 nt ns nc) (fun _ => []) ∧ Below w.heap.size w W ∧ W = ((w2.alloc (.cells (Array.replicate nt (Value.slice none 0 0)) 44)).alloc (.cells #[.pointer (some ⟨w1.heap.size + 1 + 1, 0, none⟩), .int .i64 (nt : Int), .int .i64 (ns : Int), .int .i64 (nc : Int), .slice (some ⟨w2.heap.size, 0, none⟩) nt nt, .bool true, .bool false, .bool false, .int .i64 0, .int .i64 0, .slice none 0 0] 56)).drew) :=
    ⟨k0, g0, hW ▸ ((HB2.out.1.alloc HB2.out.1.size _).alloc (by have := HB2.out.1.size; simp; omega) _).drew, hW⟩
  clear hgx hx2 k0 g0 hmk qc hW hz2
  go_wp2_with fail
  rw [← HK0.out.2.2.2]
  refine (kalloc_any 8 W (by decide)).mono ?_
  rintro e w3 ⟨rfl, hb3⟩
  have HK1 : Hid (KAt w.heap.size w3 (w2.heap.size + 1) (KRun.first (w1.heap.size + 1 + 1) w2.heap.size nt ns nc) ∧ Below w.heap.size w w3) := ⟨HK0.out.1.below hb3, HK0.out.2.2.1.trans (hb3.mono HK0.out.2.2.1.size)⟩
  clear hb3
  go_wp2_with fail
  refine (kask_any 0 (by decide) HK1.out.1 HK0.out.2.1 (by show 0 < nt; omega)).mono ?_
  rintro e w4 ⟨er, m, K1, rfl, st, hk, hg, hb⟩
  obtain ⟨rfl, rfl, hM⟩ := (b_alloc c3 c5).det st.q
  have hg1 : K1.gl = fun i => if i = 0 then [(0 : Int)] else [] := by
    rw [st.gl]
    funext i
    show (if (0 : Int) = 0 ∧ ((1 : Int) = 1 ∨ (1 : Int) = 5) then fun i => if i = 0 then [] ++ [hOf (twoW 0)] else [] else _) i = _
    rw [if_pos ⟨rfl, Or.inl rfl⟩, hOf_two (by decide)]
    rfl
  have HK2 : Hid (KAt w.heap.size w4 (w2.heap.size + 1) K1 ∧ KGood K1.M K1.gl ∧ Below w.heap.size w w4 ∧ KBeg (w1.heap.size + 1 + 1) (bM1 nt ns nc) K1) := ⟨hk, hg, HK1.out.2.trans (hb.below HK1.out.1), ⟨hM.symm, hg1, st.ok, st.shares, st.grants, st.apart, st.but, st.hl, st.gx⟩⟩
  rw [show oneC 0 ++ twoW 0 = (⟨#[0, 0, 0]⟩ : ByteArray) from by kernel_rfl]
  clear st hk hg hb hM hg1
  go_wp2_with fail
  refine (kwrite_any 0 3 sA w4 (by decide) (by decide) (by decide)).mono ?_
  rintro e w5 ⟨rfl, hb5⟩
  have HA2 : Hid (KAt w.heap.size w5 (w2.heap.size + 1) K1 ∧ Below w.heap.size w w5) := ⟨HK2.out.1.below hb5, HK2.out.2.2.1.trans (hb5.mono HK2.out.2.2.1.size)⟩
  clear hb5
  go_wp2_with fail
  refine (kask_any 0 (by decide) HA2.out.1 HK2.out.2.1 (by rw [HK2.out.2.2.2.M]; show 0 < nt; omega)).mono ?_
  rintro e w6 ⟨er, m, K2, rfl, st, hk, hg, hb⟩
  obtain ⟨rfl, rfl, hM⟩ := (b_write (nt := nt) (nc := nc) c3).det (HK2.out.2.2.2.M ▸ st.q)
  have HB12 : Hid (KAt w.heap.size w6 (w2.heap.size + 1) K2 ∧ KGood K2.M K2.gl ∧ Below w.heap.size w w6 ∧ KBeg (w1.heap.size + 1 + 1) (bM2 nt ns nc) K2) := ⟨hk, hg, HA2.out.2.trans (hb.below HA2.out.1), HK2.out.2.2.2.next st hM.symm (by decide) (by decide) (by decide)⟩
  rw [show oneC 0 ++ nilS = (⟨#[0]⟩ : ByteArray) from by decide]
  clear st hk hg hb hM
  go_wp2_with fail
  refine (kread_any 0 2 3 w6 (by decide) (by decide) (by decide)).mono ?_
  rintro e w7 ⟨rfl, hb5⟩
  have HA3 : Hid (KAt w.heap.size w7 (w2.heap.size + 1) K2 ∧ Below w.heap.size w w7) := ⟨HB12.out.1.below hb5, HB12.out.2.2.1.trans (hb5.mono HB12.out.2.2.1.size)⟩
  clear hb5
  go_wp2_with fail
  refine (kask_any 0 (by decide) HA3.out.1 HB12.out.2.1 (by rw [HB12.out.2.2.2.M]; show 0 < nt; omega)).mono ?_
  rintro e w8 ⟨er, m, K3, rfl, st, hk, hg, hb⟩
  obtain ⟨rfl, rfl, hM⟩ := (b_read (nt := nt) (nc := nc) c3).det (HB12.out.2.2.2.M ▸ st.q)
  have HB13 : Hid (KAt w.heap.size w8 (w2.heap.size + 1) K3 ∧ KGood K3.M K3.gl ∧ Below w.heap.size w w8 ∧ KBeg (w1.heap.size + 1 + 1) (bM2 nt ns nc) K3) := ⟨hk, hg, HA3.out.2.trans (hb.below HA3.out.1), HB12.out.2.2.2.next st hM.symm (by decide) (by decide) (by decide)⟩
  rw [show oneC 0 ++ strOfNums [0, 65, 0] = (⟨#[0, 0, 65, 0]⟩ : ByteArray) from by decide]
  clear st hk hg hb hM
  go_wp2_with fail
  refine (look_any 0 (g := w1.heap.size + 1 + 1) (M := bM2 nt ns nc) (bl := K3.bl) (by rw [← HB13.out.2.2.2.M, ← HB13.out.2.2.2.gx]; exact HB13.out.1.x) (HB13.out.2.2.2.M ▸ HB13.out.1.inv.ok)).mono ?_
  rintro e w9 ⟨rfl, hb5⟩
  rw [show lookV (bM2 nt ns nc) 0 = .tuple #[.agg #[.int .i64 1, .int .i64 1], .int .i64 0] from by
    have := b_used2 (nt := nt) (nc := nc) c3
    unfold lookV
    rw [if_pos (by simp [hasB, bM2, bM1, bM0, bM3, Mach.set]; omega)]
    show Value.tuple #[.agg #[.int .i64 ((bM2 nt ns nc).used 0 : Int), .int .i64 ((bM2 nt ns nc).taken 0 : Int)], .int .i64 0] = _
    rw [this.1, this.2]
    rfl]
  obtain ⟨V9, hV⟩ : ∃ V, V = w9.alloc (.cells #[.int .i64 1, .int .i64 1] 76) := ⟨_, rfl⟩
  have hVb : Below w8.heap.size w8 V9 := hV ▸ hb5.alloc hb5.size _
  have HV9 : Hid (V9 = w9.alloc (.cells #[.int .i64 1, .int .i64 1] 76) ∧ KAt w.heap.size V9 (w2.heap.size + 1) K3 ∧ Below w.heap.size w V9 ∧ V9.heap[w9.heap.size]? = some (.cells #[.int .i64 1, .int .i64 1] 76 (0, 0)) ∧ w8.heap.size ≤ w9.heap.size) := ⟨hV, HB13.out.1.below hVb, HB13.out.2.2.1.trans (hVb.mono HB13.out.2.2.1.size), hV ▸ newRowAt _ _, hb5.size⟩
  clear hb5 hV hVb
  go_wp2_with fail
  rw [← HV9.out.1]
  refine (kfree_any 0 V9 (by decide)).mono ?_
  rintro e w10 ⟨rfl, hb5⟩
  have HA4 : Hid (KAt w.heap.size w10 (w2.heap.size + 1) K3 ∧ Below w.heap.size w w10 ∧ w10.heap[w9.heap.size]? = some (.cells #[.int .i64 1, .int .i64 1] 76 (0, 0)) ∧ w9.heap.size < w10.heap.size) := ⟨HV9.out.2.1.below hb5, HV9.out.2.2.1.trans (hb5.mono HV9.out.2.2.1.size), keepRow hb5 (lt_of_row HV9.out.2.2.2.1) HV9.out.2.2.2.1, Nat.lt_of_lt_of_le (lt_of_row HV9.out.2.2.2.1) hb5.size⟩
  clear hb5
  go_wp2_with fail
  refine (kask_any 0 (by decide) HA4.out.1 HB13.out.2.1 (by rw [HB13.out.2.2.2.M]; show 0 < nt; omega)).mono ?_
  rintro e w11 ⟨er, m, K4, rfl, st, hk, hg, hb⟩
  obtain ⟨rfl, rfl, hM⟩ := (b_free (nt := nt) (nc := nc) c3).det (HB13.out.2.2.2.M ▸ st.q)
  have no9 : ¬ KOwn (w2.heap.size + 1) K3 w9.heap.size := fun h => by have := HB13.out.1.own_lt h; have := HV9.out.2.2.2.2; omega
  have HB14 : Hid (KAt w.heap.size w11 (w2.heap.size + 1) K4 ∧ KGood K4.M K4.gl ∧ Below w.heap.size w w11 ∧ KBeg (w1.heap.size + 1 + 1) (bM3 nt ns nc) K4 ∧ w11.heap[w9.heap.size]? = some (.cells #[.int .i64 1, .int .i64 1] 76 (0, 0))) :=
    ⟨hk, hg, HA4.out.2.1.trans (hb.below HA4.out.1), HB13.out.2.2.2.next st hM.symm (by decide) (by decide) (by decide), (hb.fr.block _ HA4.out.2.2.2 no9).trans HA4.out.2.2.1⟩
  rw [show oneC 0 ++ nilS = (⟨#[0]⟩ : ByteArray) from by decide]
  clear st hk hg hb hM no9
  go_wp2_with fail
  refine (look_any 0 (g := w1.heap.size + 1 + 1) (M := bM3 nt ns nc) (bl := K4.bl) (by rw [← HB14.out.2.2.2.1.M, ← HB14.out.2.2.2.1.gx]; exact HB14.out.1.x) (HB14.out.2.2.2.1.M ▸ HB14.out.1.inv.ok)).mono ?_
  rintro e w12 ⟨rfl, hb5⟩
  rw [show lookV (bM3 nt ns nc) 0 = .tuple #[.agg #[.int .i64 0, .int .i64 0], .int .i64 0] from by
    have := b_used3 (nt := nt) (ns := ns) (nc := nc)
    unfold lookV
    rw [if_pos (by simp [hasB, bM3]; omega)]
    show Value.tuple #[.agg #[.int .i64 ((bM3 nt ns nc).used 0 : Int), .int .i64 ((bM3 nt ns nc).taken 0 : Int)], .int .i64 0] = _
    rw [this.1, this.2]
    rfl]
  have q9 := keepRow hb5 (lt_of_row HB14.out.2.2.2.2) HB14.out.2.2.2.2
  have v0 := rowCell q9 0
  have v1 := rowCell q9 1
  have HB15 : Hid (KAt w.heap.size w12 (w2.heap.size + 1) K4 ∧ Below w.heap.size w w12) := ⟨HB14.out.1.below hb5, HB14.out.2.2.1.trans (hb5.mono HB14.out.2.2.1.size)⟩
  have hz12 : w9.heap.size < w12.heap.size := lt_of_row q9
  clear hb5 q9
  go_wp2_with fail
  go_ret
  exact ⟨w2.heap.size + 1, w1.heap.size + 1 + 1, nt, ns, nc, K4, rfl, HE.out.1.symm, HE.out.2.1.symm, HE.out.2.2.symm, HB15.out.1.below ((Below.refl _ _).alloc (Nat.le_refl _) _), HB14.out.2.1, HB14.out.2.2.2.1, HB15.out.2.alloc HB15.out.2.size _⟩

end Go.Proofs.Ytkjjamigaamllaa
