/-
  Joined: KeepPlayed, KeepHeld, KeepAll, KeepLong.
-/
import Derived.Test.YtkjjamigaamllaaJoinPlay
import Derived.Test.YtkjjamigaamllaaJoinFacts
namespace Go.Proofs.Ytkjjamigaamllaa
open Go.RowKit
set_option linter.unusedSimpArgs false

/- KeepPlayed -/

/-- a cell of the run that is no row is turned -/
theorem KAt.setField {B0 : Nat} {w : World} {rb : Nat} {K K' : KRun} (h : KAt B0 w rb K) (i : Nat) (v : Value) (hc : K.cells.setIfInBounds i v = K'.cells) (e1 : K'.gx = K.gx) (e2 : K'.M = K.M) (e3 : K'.bl = K.bl) (e4 : K'.gb = K.gb) (e5 : K'.gv = K.gv) (e6 : K'.gl = K.gl) (e7 : K'.hv = K.hv) (e8 : K'.hl = K.hl) :
    KAt B0 (w.setCell ⟨rb, i, none⟩ v) rb K' ∧ KTo rb K K' w (w.setCell ⟨rb, i, none⟩ v) := by
  cases K'
  subst e1 e2 e3 e4 e5 e6 e7 e8
  have other : ∀ (j : Nat) (cs : Array Value) (ty : TypeId), w.heap[j]? = some (.cells cs ty (0, 0)) → ty ≠ 56 → (w.setCell ⟨rb, i, none⟩ v).heap[j]? = w.heap[j]? := fun j cs ty hj hne =>
    Below.heap_setCell _ _ _ _ (fun e => ne_of_type hj h.row hne e)
  have hF : Frm (· = rb) w (w.setCell ⟨rb, i, none⟩ v) := Frm.setCell _ _ _ _ rfl
  refine ⟨⟨?_, (other _ _ _ h.garr (by decide)).trans h.garr, fun i hi => owns_frame (h.gown i hi) (fun k hk => ?_), owns_frame h.hown (fun k hk => ?_), h.x.frame hF (fun k hk e => h.fr (e ▸ hk)), h.inv, h.gne, h.fr, h.fg, h.fv, h.fh, h.b0, h.g0, h.v0, h.h0, h.x0⟩, ⟨hF.mono (fun k _ e => Or.inl (Or.inl e)), fun k hk => Or.inl hk⟩⟩
  · have := Go.Joins.block_setCell (i := i) h.row v
    rw [hc] at this
    exact this
  · obtain ⟨_, cur, hc⟩ := owns_lt (h.gown i hi) hk
    exact other _ _ _ hc (by decide)
  · obtain ⟨_, cur, hc⟩ := owns_lt h.hown hk
    exact other _ _ _ hc (by decide)
theorem KAt.setShares {B0 : Nat} {w : World} {rb : Nat} {K : KRun} (h : KAt B0 w rb K) (b : Bool) :
    KAt B0 (w.setCell ⟨rb, 6, none⟩ (.bool b)) rb { K with shares := b } ∧ KTo rb K { K with shares := b } w (w.setCell ⟨rb, 6, none⟩ (.bool b)) := h.setField 6 _ rfl rfl rfl rfl rfl rfl rfl rfl rfl
theorem KAt.setGrants {B0 : Nat} {w : World} {rb : Nat} {K : KRun} (h : KAt B0 w rb K) (b : Bool) :
    KAt B0 (w.setCell ⟨rb, 7, none⟩ (.bool b)) rb { K with grants := b } ∧ KTo rb K { K with grants := b } w (w.setCell ⟨rb, 7, none⟩ (.bool b)) := h.setField 7 _ rfl rfl rfl rfl rfl rfl rfl rfl rfl
theorem KAt.setApart {B0 : Nat} {w : World} {rb : Nat} {K : KRun} (h : KAt B0 w rb K) (b : Int) :
    KAt B0 (w.setCell ⟨rb, 8, none⟩ (.int .i64 b)) rb { K with apart := b } ∧ KTo rb K { K with apart := b } w (w.setCell ⟨rb, 8, none⟩ (.int .i64 b)) := h.setField 8 _ rfl rfl rfl rfl rfl rfl rfl rfl rfl
theorem KAt.setBut {B0 : Nat} {w : World} {rb : Nat} {K : KRun} (h : KAt B0 w rb K) (b : Int) :
    KAt B0 (w.setCell ⟨rb, 9, none⟩ (.int .i64 b)) rb { K with but := b } ∧ KTo rb K { K with but := b } w (w.setCell ⟨rb, 9, none⟩ (.int .i64 b)) := h.setField 9 _ rfl rfl rfl rfl rfl rfl rfl rfl rfl

theorem KAt.mono {B0 B1 : Nat} {w : World} {rb : Nat} {K : KRun} (h : KAt B1 w rb K) (hle : B0 ≤ B1) : KAt B0 w rb K :=
  ⟨h.row, h.garr, h.gown, h.hown, h.x, h.inv, h.gne, h.fr, h.fg, h.fv, h.fh, Nat.le_trans hle h.b0, Nat.le_trans hle h.g0, fun i hi k hk => Nat.le_trans hle (h.v0 i hi k hk), fun k hk => Nat.le_trans hle (h.h0 k hk), fun k hk => Nat.le_trans hle (h.x0 k hk)⟩

/-- a run that was played -/
structure KDone (f : Nat → KOp) (len : Nat) (sh gr : Bool) (nt ns nc : Nat) (K : KRun) : Prop where
  ex : ∃ K0 gx, KBeg gx (bM3 nt ns nc) K0 ∧ KPlays f len { K0 with shares := sh, grants := gr } K
  ok : K.ok = true

set_option maxHeartbeats 1600000 in
theorem kplayed_any (t s c : Int) (a : Option Addr) (len cap : Nat) (f : Nat → KOp) (sh gr : Bool) (w : World) (ht : inR t) (hs : inR s) (hc : inR c) (hS : ∀ w', Below w.heap.size w w' → KScrAt w' a len f) (hlen : len ≤ 2199023255552) :
    Calls Try.prog 26 #[.agg #[.int .i64 t, .int .i64 s, .int .i64 c], .slice a len cap, .bool sh, .bool gr] w fun e w' => ∃ (rb nt ns nc : Nat) (K : KRun), e = .returned (.pointer (some ⟨rb, 0, none⟩)) ∧ (nt : Int) = 1 + pickK t 4 ∧ (ns : Int) = 1 + pickK s 16 ∧ (nc : Int) = 1 + pickK c 32 ∧ KDone f len sh gr nt ns nc K ∧ KAt w.heap.size w' rb K ∧ KGood K.M K.gl ∧ Below w.heap.size w w' := by
  have HI : Hid (inR t ∧ inR s ∧ inR c ∧ ∀ w', Below w.heap.size w w' → KScrAt w' a len f) := ⟨ht, hs, hc, hS⟩
  clear ht hs hc hS
  go_enter Try.func26, Try.ntmps26
  go_wp2_with fail
  refine (kbegin_any t s c _ HI.out.1 HI.out.2.1 HI.out.2.2.1).mono ?_
  rintro e w1 ⟨rb, gx, nt, ns, nc, K0, rfl, hnt, hns, hnc, hk, hg, hB, hb⟩
  have hrb := lt_of_row hk.row
  have f6 : w1.frozen? ⟨rb, 6, none⟩ = false := rowFree hk.row 6
  have f7 : w1.frozen? ⟨rb, 7, none⟩ = false := rowFree hk.row 7
  have c6 : w1.cell? ⟨rb, 6, none⟩ = some (.bool K0.shares) := rowCell hk.row 6
  have c7 : w1.cell? ⟨rb, 7, none⟩ = some (.bool K0.grants) := rowCell hk.row 7
  obtain ⟨k1, t1⟩ := hk.setShares sh
  obtain ⟨k2, t2⟩ := k1.setGrants gr
  have hsz : w.heap.size ≤ (w.alloc (.cells #[.int .i64 t, .int .i64 s, .int .i64 c] 32)).heap.size := by simp
  have hb1 : Below w.heap.size w w1 := ((Below.refl _ _).alloc (Nat.le_refl _) _).trans (hb.mono hsz)
  have hb2 : Below w.heap.size w ((w1.setCell ⟨rb, 6, none⟩ (.bool sh)).setCell ⟨rb, 7, none⟩ (.bool gr)) := hb1.trans (((t1.trans t2).below hk).mono hsz)
  have HK : Hid (KAt w.heap.size ((w1.setCell ⟨rb, 6, none⟩ (.bool sh)).setCell ⟨rb, 7, none⟩ (.bool gr)) rb { K0 with shares := sh, grants := gr } ∧ KGood K0.M K0.gl ∧ KBeg gx (bM3 nt ns nc) K0 ∧ Below w.heap.size w ((w1.setCell ⟨rb, 6, none⟩ (.bool sh)).setCell ⟨rb, 7, none⟩ (.bool gr)) ∧ (nt : Int) = 1 + pickK t 4 ∧ (ns : Int) = 1 + pickK s 16 ∧ (nc : Int) = 1 + pickK c 32) := ⟨k2.mono hsz, hg, hB, hb2, hnt, hns, hnc⟩
  clear hk hg hB hb hb1 hb2 k1 t1 k2 t2 hnt hns hnc hsz
  go_wp2_with fail
  refine (kplay_any a len cap f HK.out.1 HK.out.2.1 HK.out.2.2.1.ok (by show 0 ≤ K0.apart ∧ K0.apart ≤ 15; rw [HK.out.2.2.1.apart]; decide) (Or.inl HK.out.2.2.1.but) (fun w' h => HI.out.2.2.2 w' (HK.out.2.2.2.1.trans h)) hlen HK.out.2.2.1.hl).mono ?_
  rintro e w2 ⟨rfl, K', hp, hk, hg, ht, hok⟩
  have c5 : w2.cell? ⟨rb, 5, none⟩ = some (.bool true) := by rw [← hok]; exact rowCell hk.row 5
  have HR : Hid (KPlays f len { K0 with shares := sh, grants := gr } K' ∧ KAt w.heap.size w2 rb K' ∧ KGood K'.M K'.gl ∧ Below w.heap.size w w2 ∧ K'.ok = true) := ⟨hp, hk, hg, HK.out.2.2.2.1.trans (ht.below HK.out.1), hok⟩
  clear hp hk hg ht hok
  go_wp2_with fail
  go_ret
  exact ⟨rb, nt, ns, nc, K', rfl, HK.out.2.2.2.2.1, HK.out.2.2.2.2.2.1, HK.out.2.2.2.2.2.2, ⟨⟨K0, gx, HK.out.2.2.1, HR.out.1⟩, HR.out.2.2.2.2⟩, HR.out.2.1, HR.out.2.2.1, HR.out.2.2.2.1⟩

/- KeepHeld -/

/-- a number that a tenant was not given names nothing -/
theorem find_not_given {M : Mach} {gl : Nat → List Int} (h : KGood M gl) (ok : M.Ok) {t : Nat} (ht : t < M.nt) {x : Int} (hx : ¬ x ∈ gl t) : M.find t x = none :=
  (find_none_iff ok).2 (fun n h1 h2 h3 => hx (h3 ▸ h.held t n ht h1 h2))

theorem gave_plain (gl : Nat → List Int) (t : Nat) (op to e : Int) (m : ByteArray) (h1 : op ≠ 1) (h5 : op ≠ 5) (h6 : op ≠ 6) : gave gl t op to e m = gl := by
  unfold gave
  rw [if_neg (by rintro ⟨_, h | h⟩; exact h1 h; exact h5 h), if_neg (fun h => h6 h.2)]

theorem okb_1 {l : Int} (hl : wd l = true) : okB 1 0 0 l 0 0 (⟨#[]⟩ : ByteArray).size = true := by
  show okB 1 0 0 l 0 0 0 = true
  simp [okB, wd, bt, zr] at hl ⊢; omega
theorem okb_2 {h : Int} (hh : wd h = true) : okB 2 h 0 0 0 0 (⟨#[]⟩ : ByteArray).size = true := by
  show okB 2 h 0 0 0 0 0 = true
  simp [okB, wd, bt, zr] at hh ⊢; omega
theorem okb_3 {h o l : Int} (hh : wd h = true) (ho : wd o = true) (hl : wd l = true) : okB 3 h o l 0 0 (⟨#[]⟩ : ByteArray).size = true := by
  show okB 3 h o l 0 0 0 = true
  simp [okB, wd, bt, zr] at hh ho hl ⊢; omega
theorem okb_4 {h o : Int} {d : ByteArray} (hh : wd h = true) (ho : wd o = true) (hd : d.size ≤ 64) : okB 4 h o 0 0 0 d.size = true := by
  simp [okB, wd, bt, zr] at hh ho ⊢; omega
theorem okb_5 {h o l r : Int} (hh : wd h = true) (ho : wd o = true) (hl : wd l = true) (hr : bt r = true) : okB 5 h o l r 0 (⟨#[]⟩ : ByteArray).size = true := by
  show okB 5 h o l r 0 0 = true
  simp [okB, wd, bt, zr] at hh ho hl hr ⊢; omega
theorem okb_6 {h t : Int} (hh : wd h = true) (ht : bt t = true) : okB 6 h 0 0 0 t (⟨#[]⟩ : ByteArray).size = true := by
  show okB 6 h 0 0 0 t 0 = true
  simp [okB, wd, bt, zr] at hh ht ⊢; omega
theorem okb_7 {h : Int} (hh : wd h = true) : okB 7 h 0 0 0 0 (⟨#[]⟩ : ByteArray).size = true := by
  show okB 7 h 0 0 0 0 0 = true
  simp [okB, wd, bt, zr] at hh ⊢; omega
theorem okb_8 {h : Int} (hh : wd h = true) : okB 8 h 0 0 0 0 (⟨#[]⟩ : ByteArray).size = true := by
  show okB 8 h 0 0 0 0 0 = true
  simp [okB, wd, bt, zr] at hh ⊢; omega
theorem okb_9 {h : Int} (hh : wd h = true) : okB 9 h 0 0 0 0 (⟨#[]⟩ : ByteArray).size = true := by
  show okB 9 h 0 0 0 0 0 = true
  simp [okB, wd, bt, zr] at hh ⊢; omega

/-- the cells of the handles that a tenant was given -/
theorem KAt.given {B0 : Nat} {w : World} {rb : Nat} {K : KRun} (h : KAt B0 w rb K) {t : Nat} (ht : t < K.M.nt) :
    ∃ va vc, w.cell? ⟨K.gb, t, none⟩ = some (.slice va (K.gl t).length vc) ∧ ∀ j, j < (K.gl t).length → ∃ g, va = some ⟨g, 0, none⟩ ∧ w.cell? ⟨g, j, none⟩ = some (.int .i64 ((K.gl t).getD j 0)) := by
  have own := h.gown t ht
  have cg0 : w.cell? ⟨K.gb, t, none⟩ = some (K.gv t) := by
    rw [rowCell h.garr]
    simp [KRun.gcells, ht]
  by_cases h0 : 0 < (K.gl t).length
  · obtain ⟨g, cap, hv, hc⟩ := owns_cell own h0
    refine ⟨some ⟨g, 0, none⟩, cap, by rw [cg0, hv], fun j hj => ⟨g, rfl, hc j _ ?_⟩⟩
    rw [List.getElem?_map, List.getElem?_eq_getElem hj, List.getD_eq_getElem?_getD, List.getElem?_eq_getElem hj]; rfl
  · obtain ⟨va, vc, hv⟩ := owns_slice own
    exact ⟨va, vc, by rw [cg0, hv], fun j hj => by omega⟩

set_option maxHeartbeats 1600000 in
theorem kheld_any (t s c : Int) (a : Option Addr) (len cap : Nat) (f : Nat → KOp) (tn nu : Int) (w : World) (ht : inR t) (hs : inR s) (hc : inR c) (h1 : inR tn) (h2 : inR nu) (hS : ∀ w', Below w.heap.size w w' → KScrAt w' a len f) (hlen : len ≤ 2199023255552) :
    Calls Try.prog 14 #[.agg #[.int .i64 t, .int .i64 s, .int .i64 c], .slice a len cap, .int .i64 tn, .int .i64 nu] w fun e w' => e = .returned (.bool true) ∧ Below w.heap.size w w' := by
  have HI : Hid (inR t ∧ inR s ∧ inR c ∧ inR tn ∧ inR nu ∧ ∀ w', Below w.heap.size w w' → KScrAt w' a len f) := ⟨ht, hs, hc, h1, h2, hS⟩
  clear ht hs hc h1 h2 hS
  go_enter Try.func14, Try.ntmps14
  go_wp2_with fail
  refine (kplayed_any t s c a len cap f true true _ HI.out.1 HI.out.2.1 HI.out.2.2.1 (fun w' h => HI.out.2.2.2.2.2 w' (((Below.refl _ _).alloc (Nat.le_refl _) _).trans (h.mono (by simp)))) hlen).mono ?_
  rintro e w1 ⟨rb, nt, ns, nc, K, rfl, hnt, hns, hnc, hD, hk, hg, hb⟩
  have hnt1 := hk.inv.nt1
  have hnt4 := hk.inv.ok.nt
  have c1 : w1.cell? ⟨rb, 1, none⟩ = some (.int .i64 (K.M.nt : Int)) := rowCell hk.row 1
  obtain ⟨u, hT⟩ : ∃ u : Nat, pickK tn (K.M.nt : Int) = (u : Int) := ⟨(pickK tn (K.M.nt : Int)).toNat, by have := pickK_bd tn (m := (K.M.nt : Int)) (by omega); omega⟩
  have hu : u < K.M.nt := by have := pickK_bd tn (m := (K.M.nt : Int)) (by omega); omega
  obtain ⟨x, hx⟩ : ∃ x : Int, pickK nu 65536 = x := ⟨_, rfl⟩
  have hxw : wd x = true := by have := pickK_bd nu (m := 65536) (by decide); exact wd_iff.2 (by omega)
  have HK : Hid (KAt w.heap.size w1 rb K ∧ KGood K.M K.gl ∧ K.ok = true ∧ Below w.heap.size w w1 ∧ pickK tn (K.M.nt : Int) = (u : Int) ∧ pickK nu 65536 = x) := ⟨hk.mono (by simp), hg, hD.ok, ((Below.refl _ _).alloc (Nat.le_refl _) _).trans (hb.mono (by simp)), hT, hx⟩
  clear hnt hns hnc hD hk hg hb hT hx
  go_wp2_with fail
  refine (kpick_any tn (K.M.nt : Int) w1 HI.out.2.2.2.1 (by omega) (by omega)).mono ?_
  rintro e w2 ⟨rfl, rfl⟩
  rw [HK.out.2.2.2.2.1]
  go_wp2_with fail
  refine (kpick_any nu 65536 w2 HI.out.2.2.2.2.1 (by decide) (by decide)).mono ?_
  rintro e w3 ⟨rfl, rfl⟩
  rw [HK.out.2.2.2.2.2]
  go_wp2_with fail
  refine (kinfo_any x w3 hxw).mono ?_
  rintro e w4 ⟨rfl, hb4⟩
  have HK4 : Hid (KAt w.heap.size w4 rb K ∧ Below w.heap.size w w4) := ⟨HK.out.1.below hb4, HK.out.2.2.2.1.trans (hb4.mono HK.out.2.2.2.1.size)⟩
  clear hb4
  go_wp2_with fail
  refine (kask_any u (op := 9) (x := x) (okb_9 hxw) HK4.out.1 HK.out.2.1 hu).mono ?_
  rintro e w5 ⟨er, m, K1, rfl, st, hk, hg, hb⟩
  have hgl : K1.gl = K.gl := by rw [st.gl]; exact gave_plain _ _ _ _ _ _ (by decide) (by decide) (by decide)
  have hE : Hid (¬ x ∈ K.gl u → er = 4 ∧ m = nilS) := fun hn => by
    rcases st.q with ⟨h, _⟩ | ⟨_, _, h3, h4, _⟩ | ⟨_, n, hf, _⟩
    · exact absurd h (by decide)
    · exact ⟨h3, h4⟩
    · rw [find_not_given HK.out.2.1 HK.out.1.inv.ok hu hn] at hf
      cases hf
  have HK5 : Hid (KAt w.heap.size w5 rb K1 ∧ Below w.heap.size w w5 ∧ K1.ok = true ∧ K1.gl = K.gl ∧ K1.M.nt = K.M.nt) := ⟨hk, HK4.out.2.trans (hb.below HK4.out.1), st.ok.trans HK.out.2.2.1, hgl, st.nt⟩
  have d4 : w5.cell? ⟨rb, 4, none⟩ = some (.slice (some ⟨K1.gb, 0, none⟩) K1.M.nt K1.M.nt) := rowCell hk.row 4
  have d5 : w5.cell? ⟨rb, 5, none⟩ = some (.bool true) := by rw [← HK5.out.2.2.1]; exact rowCell hk.row 5
  obtain ⟨va, vc, cg, cj⟩ := hk.given (t := u) (by rw [st.nt]; exact hu)
  have hlen2 : (K1.gl u).length ≤ 65536 := hg.small hk.inv.ok (by rw [st.nt]; exact hu)
  have hu2 : (u : Int) < (K1.M.nt : Int) := by rw [st.nt]; omega
  have HC : Hid (∀ j, j < (K1.gl u).length → ∃ g, va = some ⟨g, 0, none⟩ ∧ w5.cell? ⟨g, j, none⟩ = some (.int .i64 ((K1.gl u).getD j 0))) := cj
  generalize hL : K1.gl u = L at cg HC hlen2
  have HL : Hid (L = K.gl u) := by show _ = _; rw [← hL, hgl]
  clear st hk hg hb hgl cj hL
  go_wp2_with fail
  go_loopw [13] (fun i W => ∃ k : Nat, k ≤ L.length ∧ i = .int .i64 (k : Int) ∧ W = w5 ∧ ∀ j, j < k → L.getD j 0 ≠ x) (fun i _ => L.length - (intOf i).toNat)
  case atStart => exact ⟨0, by omega, rfl, rfl, fun j hj => by omega⟩
  case round =>
    obtain ⟨k, hk, rfl, rfl, hno⟩ := hrel
    by_cases hlt : k < L.length
    · obtain ⟨g, rfl, ck⟩ := HC.out k hlt
      have hlt2 : (k : Int) < (L.length : Int) := by omega
      have HN : Hid (∀ j, j < k → L.getD j 0 ≠ x) := hno
      obtain ⟨y, hy⟩ : ∃ y, L.getD k 0 = y := ⟨_, rfl⟩
      rw [hy] at ck
      have HY : Hid (L.getD k 0 = y) := hy
      clear hno hy
      by_cases hyx : y = x
      · subst hyx
        go_wp2_with fail
        go_ret
        exact ⟨rfl, HK5.out.2.1⟩
      · have hb : (y == x) = false := by simp [hyx]
        go_wp2_with fail
        go_roundw
        case rel =>
          refine ⟨k + 1, by omega, rfl, by first | rfl | trivial, fun j hj => ?_⟩
          by_cases e : j = k
          · rw [e, HY.out]; exact hyx
          · exact HN.out j (by omega)
        case measure => simp [intOf]; omega
    · obtain rfl : k = L.length := by omega
      have hnx : ¬ x ∈ K.gl u := fun hm => by
        rw [← HL.out] at hm
        obtain ⟨j, hj, hjx⟩ := List.getElem_of_mem hm
        exact hno j hj (by rw [List.getD_eq_getElem?_getD, List.getElem?_eq_getElem hj]; exact hjx)
      obtain ⟨rfl, rfl⟩ := hE.out hnx
      clear hno hnx
      rw [show oneC 4 ++ nilS = (⟨#[4]⟩ : ByteArray) from by decide]
      go_wp2_with fail
      refine (kone_any 4 _).mono ?_
      rintro e w6 ⟨rfl, hb6⟩
      rw [show oneC 4 = (⟨#[4]⟩ : ByteArray) from by decide]
      have HB6 : Hid (Below w.heap.size w w6) := HK5.out.2.1.trans (hb6.mono HK5.out.2.1.size)
      clear hb6
      go_wp2_with fail
      go_ret
      exact ⟨rfl, HB6.out⟩

/- KeepAll -/

/-- n bytes of 0 -/
def zerosS (n : Nat) : ByteArray := strOfNums (List.replicate n 0)

set_option maxHeartbeats 400000 in
theorem kzeros_any (n : Nat) (w : World) (hn : n ≤ 256) :
    Calls Try.prog 37 #[.int .i64 (n : Int)] w fun e w' => e = .returned (.string (zerosS n)) ∧ Below w.heap.size w w' := by
  have hmk := make_bytes w n (by omega)
  have cv : (convert 90 9 (.slice (some ⟨w.heap.size, 0, none⟩) n n)).run Try.prog (w.alloc (.cells (byteCells (List.replicate n 0)) 5)) = .ok (.string (zerosS n)) (w.alloc (.cells (byteCells (List.replicate n 0)) 5)) := by
    have := conv_part (w := w.alloc (.cells (byteCells (List.replicate n 0)) 5)) (newRowAt w _) 0 n n (by simp)
    rw [this]
    simp [zerosS]
  go_enter Try.func37, Try.ntmps37
  go_wp2
  go_ret
  exact ⟨rfl, (Below.refl _ _).alloc (Nat.le_refl _) _⟩

/-- a run whose house, handles and flags are the same -/
structure KSame (K K' : KRun) : Prop where
  M : K'.M = K.M
  gl : K'.gl = K.gl
  ok : K'.ok = K.ok
  shares : K'.shares = K.shares
  grants : K'.grants = K.grants
  apart : K'.apart = K.apart
  but : K'.but = K.but
  hl : K'.hl = K.hl
  gx : K'.gx = K.gx
theorem KSame.refl (K : KRun) : KSame K K := ⟨rfl, rfl, rfl, rfl, rfl, rfl, rfl, rfl, rfl⟩
theorem KSame.trans {K K1 K2 : KRun} (a : KSame K K1) (b : KSame K1 K2) : KSame K K2 :=
  ⟨b.M.trans a.M, b.gl.trans a.gl, b.ok.trans a.ok, b.shares.trans a.shares, b.grants.trans a.grants, b.apart.trans a.apart, b.but.trans a.but, b.hl.trans a.hl, b.gx.trans a.gx⟩
theorem KStep.det {K K' : KRun} {t : Nat} {op x o l r to : Int} {d : ByteArray} {er e2 : Int} {m m2 : ByteArray} {M2 : Mach} (st : KStep K t op x o l r to d er m K') (q : StepQ K.M t op x o l r to d e2 m2 M2) : er = e2 ∧ m = m2 ∧ K'.M = M2 := by
  obtain ⟨h1, h2, h3⟩ := st.q.det q
  exact ⟨h1, h2, h3⟩
theorem KStep.same {K K' : KRun} {t : Nat} {op x o l r to : Int} {d : ByteArray} {er : Int} {m : ByteArray} (st : KStep K t op x o l r to d er m K') (hM : K'.M = K.M) (hg : K'.gl = K.gl) : KSame K K' :=
  ⟨hM, hg, st.ok, st.shares, st.grants, st.apart, st.but, st.hl, st.gx⟩
theorem KStep.read {K K' : KRun} {t n : Nat} {x o l : Int} {er : Int} {m : ByteArray} (st : KStep K t 3 x o l 0 0 ⟨#[]⟩ er m K') (hf : K.M.find t x = some n) : er = (K.M.read (16 * t + n) o l).1 ∧ m = (K.M.read (16 * t + n) o l).2 ∧ KSame K K' := by
  obtain ⟨h1, h2, h3⟩ := st.det (Or.inr (Or.inr ⟨by decide, n, hf, Or.inr (Or.inl ⟨rfl, rfl, rfl, rfl⟩)⟩))
  exact ⟨h1, h2, st.same h3 (by rw [st.gl]; exact gave_plain _ _ _ _ _ _ (by decide) (by decide) (by decide))⟩

theorem strOfNums_app (a b : List Int) : strOfNums (a ++ b) = strOfNums a ++ strOfNums b := by
  unfold strOfNums
  ext1
  simp [ByteArray.data_append]
theorem part_app (M : Mach) (p a n : Nat) (h0 : 0 ≤ (M.s p).first) : strOfNums (M.part p 0 ((a + n : Nat) : Int)) = strOfNums (M.part p 0 (a : Int)) ++ strOfNums (M.part p (a : Int) (n : Int)) := by
  rw [← strOfNums_app]
  unfold Mach.part
  have e1 : ((a + n : Nat) : Int).toNat = a + n := rfl
  have e2 : (a : Int).toNat = a := rfl
  have e3 : (n : Int).toNat = n := rfl
  have e4 : ((M.s p).first + (a : Int)).toNat = ((M.s p).first + 0).toNat + a := by omega
  rw [e1, e2, e3, e4, List.take_add, List.drop_drop]

theorem tail_reply (e : Int) (m : ByteArray) : (oneC e ++ m).extract 1 (oneC e ++ m).size = m :=
  ByteArray.extract_append_eq_right (oneC_sz e).symm (by rw [ByteArray.size_append])
theorem inv_first {M : Mach} (inv : M.Inv) {p : Nat} (hf : (M.s p).full = true) : 0 ≤ (M.s p).first := by
  obtain ⟨_, _, _, _, _, h, _⟩ := inv.top p hf
  exact h
theorem part_len {M : Mach} (inv : M.Inv) {p : Nat} (hf : (M.s p).full = true) {o l : Int} (ho : 0 ≤ o) (hl : 0 ≤ l) (h : o + l ≤ (M.s p).len) : (M.part p o l).length = l.toNat := by
  obtain ⟨r, e1, _, _, _, e5, _, e7⟩ := inv.top p hf
  unfold Mach.part
  rw [List.length_take, List.length_drop, e1]
  have : (r : Int).toNat = r := rfl
  rw [this]
  omega
theorem all_read {M : Mach} {p size : Nat} {o l : Int} (hr : (M.s p).rights % 2 = 1) (hl : (M.s p).len = (size : Int)) (h1 : l ≤ 64) (h2 : o + l ≤ (size : Int)) : M.read p o l = (0, strOfNums (M.part p o l)) := by
  unfold Mach.read
  rw [if_neg (by omega), if_neg (by omega)]

set_option maxHeartbeats 3200000 in
theorem kall_any {B0 : Nat} {w : World} {rb : Nat} {K : KRun} (t n size : Nat) (x : Int) (h : KAt B0 w rb K) (hg : KGood K.M K.gl) (ht : t < K.M.nt) (hx : wd x = true) (hf : K.M.find t x = some n) (hr : (K.M.s (16 * t + n)).rights % 2 = 1) (hl : (K.M.s (16 * t + n)).len = (size : Int)) (hs : size ≤ 256) :
    Calls Try.prog 36 #[.pointer (some ⟨rb, 0, none⟩), .int .i64 (t : Int), .int .i64 x, .int .i64 (size : Int)] w fun e w' =>
      e = .returned (.tuple #[.string (strOfNums (K.M.part (16 * t + n) 0 (size : Int))), .bool true]) ∧ ∃ K', KSame K K' ∧ KAt B0 w' rb K' ∧ KGood K'.M K'.gl ∧ KTo rb K K' w w' := by
  have HH : Hid (KAt B0 w rb K ∧ KGood K.M K.gl ∧ K.M.find t x = some n ∧ (K.M.s (16 * t + n)).rights % 2 = 1 ∧ (K.M.s (16 * t + n)).len = (size : Int)) := ⟨h, hg, hf, hr, hl⟩
  clear h hg hf hr hl
  go_enter Try.func36, Try.ntmps36
  go_wp2_with fail
  go_loopw [10, 11] (fun sv av W => ∃ (q : Nat) (K1 : KRun), sv = .string (strOfNums (K.M.part (16 * t + n) 0 ((min (64 * q) size : Nat) : Int))) ∧ av = .int .i64 ((64 * q : Nat) : Int) ∧ q ≤ 4 ∧ KSame K K1 ∧ KAt B0 W rb K1 ∧ KGood K1.M K1.gl ∧ KTo rb K K1 w W) (fun _ av _ => size - (intOf av).toNat)
  case atStart => exact ⟨0, K, by simp [Mach.part]; rfl, rfl, by omega, KSame.refl K, HH.out.1, HH.out.2.1, KTo.ofBelow (Below.refl _ _)⟩
  case round =>
    obtain ⟨q, K1, rfl, rfl, hq, hS, hK, hG, hB⟩ := hrel
    by_cases hlt : 64 * q < size
    · have hmin : min (64 * q) size = 64 * q := by omega
      rw [hmin]
      have hq3 : q + 1 ≤ 4 := by omega
      have HQ : Hid (∀ K2 W2 (s2 : ByteArray), s2 = strOfNums (K.M.part (16 * t + n) 0 ((min (64 * q + 64) size : Nat) : Int)) → KSame K K2 → KAt B0 W2 rb K2 → KGood K2.M K2.gl → KTo rb K K2 w W2 → ∃ (q' : Nat) (K1 : KRun), Value.string s2 = .string (strOfNums (K.M.part (16 * t + n) 0 ((min (64 * q') size : Nat) : Int))) ∧ Value.int .i64 (((64 * q : Nat) : Int) + 64) = .int .i64 ((64 * q' : Nat) : Int) ∧ q' ≤ 4 ∧ KSame K K1 ∧ KAt B0 W2 rb K1 ∧ KGood K1.M K1.gl ∧ KTo rb K K1 w W2) :=
        fun K2 W2 s2 e1 e2 e3 e4 e5 => ⟨q + 1, K2, by rw [e1]; rfl, by congr 1, hq3, e2, e3, e4, e5⟩
      have hle : 64 * q ≤ 256 := by omega
      generalize hk : 64 * q = k at *
      clear hk hq hq3 hmin q
      have hlt2 : (k : Int) < (size : Int) := by omega
      obtain ⟨s0, hs0⟩ : ∃ s0, strOfNums (K.M.part (16 * t + n) 0 (k : Int)) = s0 := ⟨_, rfl⟩
      rw [hs0]
      have hz0 : s0.size ≤ 256 := by
        rw [← hs0, strOfNums_size]
        unfold Mach.part
        rw [List.length_take]
        omega
      have HR : Hid (KSame K K1 ∧ KAt B0 wr rb K1 ∧ KGood K1.M K1.gl ∧ KTo rb K K1 w wr ∧ strOfNums (K.M.part (16 * t + n) 0 (k : Int)) = s0) := ⟨hS, hK, hG, hB, hs0⟩
      clear hS hK hG hB hs0
      by_cases hc : 64 < size - k
      · have hc2 : (64 : Int) < (size : Int) - (k : Int) := by omega
        have hw1 : wd (k : Int) = true := wd_iff.2 (by omega)
        have hw2 : wd (64) = true := wd_iff.2 (by omega)
        go_wp2_with fail
        refine (kread_any x (k : Int) (64) wr hx hw1 hw2).mono ?_
        rintro e w2 ⟨rfl, hb2⟩
        have HW2 : Hid (KAt B0 w2 rb K1 ∧ KTo rb K K1 w w2) := ⟨HR.out.2.1.below hb2, HR.out.2.2.2.1.trans (KTo.ofBelow hb2)⟩
        clear hb2
        go_wp2_with fail
        refine (kask_any t (okb_3 hx hw1 hw2) HW2.out.1 HR.out.2.2.1 (by rw [HR.out.1.M]; exact ht)).mono ?_
        rintro e w3 ⟨er, m, K2, rfl, st, hk2, hg2, ht2⟩
        obtain ⟨e1, e2, e3⟩ := st.read (n := n) (by rw [HR.out.1.M]; exact HH.out.2.2.1)
        rw [HR.out.1.M, all_read (HH.out.2.2.2.1) (HH.out.2.2.2.2) (by omega) (by omega)] at e1 e2
        obtain rfl : er = 0 := e1
        obtain ⟨a, ha⟩ : ∃ a, oneC 0 ++ m = a := ⟨_, rfl⟩
        have hml : (m.size : Int) = 64 := by
          have e4 : m = strOfNums (K.M.part (16 * t + n) (k : Int) (64)) := e2
          have := HH.out.2.2.2.2
          rw [e4, strOfNums_size, part_len HH.out.1.inv (find_lt HH.out.2.2.1).2 (by omega) (by omega) (by omega)]
          omega
        have ha1 : (a.size : Int) = 1 + 64 := by rw [← ha, reply_size]; omega
        have ha0 : byt a 0 = 0 := by rw [← ha]; exact byt_one _ _ ⟨by decide, by decide⟩
        have hap : 0 < a.size := by omega
        have ha2 : ((a[0].toNat : Int) == 0) = true := by rw [byte_of hap ha0]; rfl
        rw [ha]
        have HS : Hid (KSame K K2 ∧ KAt B0 w3 rb K2 ∧ KGood K2.M K2.gl ∧ KTo rb K K2 w w3 ∧ m = strOfNums (K.M.part (16 * t + n) (k : Int) (64)) ∧ oneC 0 ++ m = a) := ⟨HR.out.1.trans e3, hk2, hg2, HW2.out.2.trans ht2, e2, ha⟩
        clear st hk2 hg2 ht2 e2 e3 ha ha0
        go_wp2_with fail
        refine ⟨HQ.out K2 w3 _ ?_ HS.out.1 HS.out.2.1 HS.out.2.2.1 HS.out.2.2.2.1, by simp [intOf]; omega⟩
        obtain ⟨j, hj⟩ : ∃ j : Nat, (64 : Int) = (j : Int) := ⟨(64 : Int).toNat, by omega⟩
        have e5 : min (k + 64) size = k + j := by omega
        rw [e5, part_app _ _ _ _ (inv_first HH.out.1.inv (find_lt HH.out.2.2.1).2), HR.out.2.2.2.2, ← hj, ← HS.out.2.2.2.2.1, ← HS.out.2.2.2.2.2, tail_reply]
      · have hc2 : ¬ (64 : Int) < (size : Int) - (k : Int) := by omega
        have hw1 : wd (k : Int) = true := wd_iff.2 (by omega)
        have hw2 : wd ((size : Int) - (k : Int)) = true := wd_iff.2 (by omega)
        go_wp2_with fail
        refine (kread_any x (k : Int) ((size : Int) - (k : Int)) wr hx hw1 hw2).mono ?_
        rintro e w2 ⟨rfl, hb2⟩
        have HW2 : Hid (KAt B0 w2 rb K1 ∧ KTo rb K K1 w w2) := ⟨HR.out.2.1.below hb2, HR.out.2.2.2.1.trans (KTo.ofBelow hb2)⟩
        clear hb2
        go_wp2_with fail
        refine (kask_any t (okb_3 hx hw1 hw2) HW2.out.1 HR.out.2.2.1 (by rw [HR.out.1.M]; exact ht)).mono ?_
        rintro e w3 ⟨er, m, K2, rfl, st, hk2, hg2, ht2⟩
        obtain ⟨e1, e2, e3⟩ := st.read (n := n) (by rw [HR.out.1.M]; exact HH.out.2.2.1)
        rw [HR.out.1.M, all_read (HH.out.2.2.2.1) (HH.out.2.2.2.2) (by omega) (by omega)] at e1 e2
        obtain rfl : er = 0 := e1
        obtain ⟨a, ha⟩ : ∃ a, oneC 0 ++ m = a := ⟨_, rfl⟩
        have hml : (m.size : Int) = (size : Int) - (k : Int) := by
          have e4 : m = strOfNums (K.M.part (16 * t + n) (k : Int) ((size : Int) - (k : Int))) := e2
          have := HH.out.2.2.2.2
          rw [e4, strOfNums_size, part_len HH.out.1.inv (find_lt HH.out.2.2.1).2 (by omega) (by omega) (by omega)]
          omega
        have ha1 : (a.size : Int) = 1 + ((size : Int) - (k : Int)) := by rw [← ha, reply_size]; omega
        have ha0 : byt a 0 = 0 := by rw [← ha]; exact byt_one _ _ ⟨by decide, by decide⟩
        have hap : 0 < a.size := by omega
        have ha2 : ((a[0].toNat : Int) == 0) = true := by rw [byte_of hap ha0]; rfl
        rw [ha]
        have HS : Hid (KSame K K2 ∧ KAt B0 w3 rb K2 ∧ KGood K2.M K2.gl ∧ KTo rb K K2 w w3 ∧ m = strOfNums (K.M.part (16 * t + n) (k : Int) ((size : Int) - (k : Int))) ∧ oneC 0 ++ m = a) := ⟨HR.out.1.trans e3, hk2, hg2, HW2.out.2.trans ht2, e2, ha⟩
        clear st hk2 hg2 ht2 e2 e3 ha ha0
        go_wp2_with fail
        refine ⟨HQ.out K2 w3 _ ?_ HS.out.1 HS.out.2.1 HS.out.2.2.1 HS.out.2.2.2.1, by simp [intOf]; omega⟩
        obtain ⟨j, hj⟩ : ∃ j : Nat, ((size : Int) - (k : Int) : Int) = (j : Int) := ⟨((size : Int) - (k : Int) : Int).toNat, by omega⟩
        have e5 : min (k + 64) size = k + j := by omega
        rw [e5, part_app _ _ _ _ (inv_first HH.out.1.inv (find_lt HH.out.2.2.1).2), HR.out.2.2.2.2, ← hj, ← HS.out.2.2.2.2.1, ← HS.out.2.2.2.2.2, tail_reply]
    · have hmin : min (64 * q) size = size := by omega
      have hlt2 : ¬ ((64 * q : Nat) : Int) < (size : Int) := by omega
      rw [hmin]
      have HR : Hid (KSame K K1 ∧ KAt B0 wr rb K1 ∧ KGood K1.M K1.gl ∧ KTo rb K K1 w wr) := ⟨hS, hK, hG, hB⟩
      clear hS hK hG hB hmin
      go_wp2_with fail
      go_ret2
      exact ⟨rfl, K1, HR.out⟩

/- KeepLong -/

theorem KStep.facts {K K' : KRun} {t : Nat} {op x o l r to : Int} {d : ByteArray} {er : Int} {m : ByteArray} (hok : okB op x o l r to d.size = true) (st : KStep K t op x o l r to d er m K') (ht : t < K.M.nt) (inv : K.M.Inv) (g : KGood K.M K.gl) (ft : K.M.Fits) : K'.M.Inv ∧ KGood K'.M K'.gl ∧ K'.M.Fits := by
  obtain ⟨i1, _⟩ := StepS.inv inv ht ((stepS_body hok).2 st.q)
  refine ⟨i1, ?_, ft.step inv st.q⟩
  rw [st.gl]
  exact g.step inv (ok_bd hok).2.2.2.2.1.1 st.q
theorem KPlays.facts {f : Nat → KOp} {n : Nat} {K K' : KRun} (h : KPlays f n K K') (inv : K.M.Inv) (g : KGood K.M K.gl) (ft : K.M.Fits) : K'.M.Inv ∧ KGood K'.M K'.gl ∧ K'.M.Fits ∧ K'.M.nt = K.M.nt ∧ K'.M.ns = K.M.ns ∧ K'.M.nc = K.M.nc := by
  induction h with
  | nil => exact ⟨inv, g, ft, rfl, rfl, rfl⟩
  | snoc n K K1 K2 h h1 ih =>
    obtain ⟨a1, a2, a3, a4, a5, a6⟩ := ih inv g ft
    cases h1 with
    | skip => exact ⟨a1, a2, a3, a4, a5, a6⟩
    | ask q er m K4 _ hq hb hs hM hgl hc hh =>
      have hb := pickK_bd (f n).tenant (m := (K1.M.nt : Int)) (by have := a1.nt1; omega)
      have ht : (pickK (f n).tenant (K1.M.nt : Int)).toNat < K1.M.nt := by omega
      obtain ⟨b1, b2, b3⟩ := hs.facts (reqQ_ok (a2.num _) hq) ht a1 a2 a3
      rw [hM, hgl]
      exact ⟨b1, b2, b3, hs.nt.trans a4, hs.ns.trans a5, hs.nc.trans a6⟩

theorem bM3_fits (nt ns nc : Nat) : (bM3 nt ns nc).Fits := fun t => by
  unfold Mach.taken
  rw [sumN_none _ (fun k _ => by simp [bM3, HSlot.none, chunksN])]
  omega
theorem bM3_inv {nt ns nc : Nat} (h1 : 1 ≤ nt ∧ nt ≤ 4) (h2 : 1 ≤ ns ∧ ns ≤ 16) (h3 : 1 ≤ nc ∧ nc ≤ 32) : (bM3 nt ns nc).Inv := by
  have i0 := inv_new h1 h2 h3
  refine ⟨⟨i0.ok.nt, i0.ok.ns, i0.ok.nc, fun p => ?_, fun p => by simp [bM3, HSlot.none]⟩, i0.nt1, i0.ns1, i0.nc1, fun p hp => by simp [bM3, HSlot.none] at hp, fun p hp => by simp [bM3, HSlot.none] at hp, fun p _ => rfl, fun p hp => by simp [bM3, HSlot.none] at hp, fun p hp => by simp [bM3, HSlot.none] at hp, fun p hp => by simp [bM3, HSlot.none] at hp, fun p => by simp [bM3, HSlot.none], fun p b hb => by simp [bM3, HSlot.none] at hb, ⟨fun _ => 0, fun p q hp => by simp [bM3, HSlot.none] at hp⟩⟩
  simp only [bM3, HSlot.none]
  split <;> omega
theorem bM3_good (nt ns nc : Nat) (h2 : 1 ≤ ns) : KGood (bM3 nt ns nc) (fun i => if i = 0 then [(0 : Int)] else []) := by
  refine ⟨fun t n _ _ hf => by simp [bM3, HSlot.none] at hf, fun t _ => ?_, fun t x hx => ?_⟩
  · by_cases e : t = 0
    · subst e
      rw [if_pos rfl]
      have := sumN_first (f := fun n => ((bM3 nt ns nc).s (16 * 0 + n)).uses) (n := ns) h2 (fun k hk => by simp [bM3, HSlot.none]; omega)
      show 1 = sumN _ ns
      rw [this]
      rfl
    · rw [if_neg e]
      exact (sumN_none _ (fun k _ => by simp [bM3, HSlot.none]; omega)).symm
  · by_cases e : t = 0
    · simp [e] at hx; rw [hx]; decide
    · simp [e] at hx

/-- a run that lives, in a world that came of another -/
structure KLive (w0 w : World) (rb : Nat) (K : KRun) : Prop where
  run : KAt w0.heap.size w rb K
  good : KGood K.M K.gl
  fits : K.M.Fits
  ok : K.ok = true
  b : Below w0.heap.size w0 w
theorem KLive.below {w0 w w' : World} {rb : Nat} {K : KRun} (h : KLive w0 w rb K) (hb : Below w.heap.size w w') : KLive w0 w' rb K :=
  ⟨h.run.below hb, h.good, h.fits, h.ok, h.b.trans (hb.mono h.b.size)⟩
theorem KDone.live {w0 w1 w : World} {rb : Nat} {K : KRun} {f : Nat → KOp} {len : Nat} {sh gr : Bool} {nt ns nc : Nat} (h : KDone f len sh gr nt ns nc K) (hk : KAt w1.heap.size w rb K) (hg : KGood K.M K.gl) (hb : Below w1.heap.size w1 w) (h1 : Below w0.heap.size w0 w1) (h2 : 1 ≤ nt ∧ nt ≤ 4) (h3 : 1 ≤ ns ∧ ns ≤ 16) (h4 : 1 ≤ nc ∧ nc ≤ 32) : KLive w0 w rb K := by
  obtain ⟨K0, gx, hB, hp⟩ := h.ex
  have i0 : K0.M.Inv := by rw [hB.M]; exact bM3_inv h2 h3 h4
  have g0 : KGood K0.M K0.gl := by rw [hB.M, hB.gl]; exact bM3_good _ _ _ h3.1
  have f0 : K0.M.Fits := by rw [hB.M]; exact bM3_fits _ _ _
  obtain ⟨_, _, c, _⟩ := hp.facts i0 g0 f0
  exact ⟨hk.mono h1.size, hg, c, h.ok, h1.trans (hb.mono h1.size)⟩
theorem klive_ask {w0 w : World} {rb : Nat} {K : KRun} (t : Nat) {op x o l r to : Int} {d : ByteArray} (hok : okB op x o l r to d.size = true) (h : KLive w0 w rb K) (ht : t < K.M.nt) :
    Calls Try.prog 29 #[.pointer (some ⟨rb, 0, none⟩), .int .i64 t, .string (bodyS op x o l r to d)] w fun e w' =>
      ∃ (er : Int) (m : ByteArray) (K' : KRun), e = .returned (.string (oneC er ++ m)) ∧ KStep K t op x o l r to d er m K' ∧ KLive w0 w' rb K' := by
  refine (kask_any t hok h.run h.good ht).mono ?_
  rintro e w' ⟨er, m, K', rfl, st, hk, hg, hT⟩
  exact ⟨er, m, K', rfl, st, hk, hg, h.fits.step h.run.inv st.q, st.ok.trans h.ok, h.b.trans (hT.below h.run)⟩
theorem klive_left {w0 w : World} {rb : Nat} {K : KRun} (t : Nat) (h : KLive w0 w rb K) (ht : t < K.M.nt) :
    Calls Try.prog 46 #[.pointer (some ⟨rb, 0, none⟩), .int .i64 (t : Int)] w fun e w' => e = .returned (.tuple #[.int .i64 ((K.M.ns : Int) - (K.M.used t : Int)), .int .i64 ((K.M.nc : Int) - (K.M.taken t : Int)), .bool true]) ∧ KLive w0 w' rb K := by
  refine (kleft_any t h.run ht (used_le _ _) (h.fits t)).mono ?_
  rintro e w' ⟨rfl, hb⟩
  exact ⟨rfl, h.below hb⟩
theorem klive_all {w0 w : World} {rb : Nat} {K : KRun} (t n size : Nat) (x : Int) (h : KLive w0 w rb K) (ht : t < K.M.nt) (hx : wd x = true) (hf : K.M.find t x = some n) (hr : (K.M.s (16 * t + n)).rights % 2 = 1) (hl : (K.M.s (16 * t + n)).len = (size : Int)) (hs : size ≤ 256) :
    Calls Try.prog 36 #[.pointer (some ⟨rb, 0, none⟩), .int .i64 (t : Int), .int .i64 x, .int .i64 (size : Int)] w fun e w' =>
      e = .returned (.tuple #[.string (strOfNums (K.M.part (16 * t + n) 0 (size : Int))), .bool true]) ∧ ∃ K', KSame K K' ∧ KLive w0 w' rb K' := by
  refine (kall_any t n size x h.run h.good ht hx hf hr hl hs).mono ?_
  rintro e w' ⟨rfl, K', hS, hk, hg, hT⟩
  exact ⟨rfl, K', hS, hk, hg, by rw [hS.M]; exact h.fits, hS.ok.trans h.ok, h.b.trans (hT.below h.run)⟩
theorem klive_named {w0 w : World} {rb : Nat} {K : KRun} (t : Nat) (which : Int) (h : KLive w0 w rb K) (ht : t < K.M.nt) (hw : inR which) :
    Calls Try.prog 28 #[.pointer (some ⟨rb, 0, none⟩), .int .i64 (t : Int), .int .i64 which] w fun e w' => e = .returned (.int .i64 (namedV (K.gl t) which)) ∧ w' = w :=
  knamed_any t which h.run h.good ht hw

end Go.Proofs.Ytkjjamigaamllaa
