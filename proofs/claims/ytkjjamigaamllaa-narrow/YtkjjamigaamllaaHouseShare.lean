/-
  Derive, Grant and Drop, by the landed house.
-/
import Derived.Test.YtkjjamigaamllaaStepDef
import Derived.Test.YtkjjamigaamllaaHouseNew
namespace Go.Proofs.Ytkjjamigaamllaa
open Go.RowKit
set_option linter.unusedSimpArgs false

/-- the rights of a share, bit by bit: of every number of one byte and every rights -/
def shareAll : Bool := (List.range 256).all fun r => (List.range 8).all fun m =>
  if shareB (m : Int) (r : Int) then bits BinOp.and IntKind.i64 (r : Int) (m : Int) == (r : Int) && bits BinOp.and IntKind.i64 (m : Int) 4 == 4
  else bits BinOp.and IntKind.i64 (m : Int) 4 == 0 || (bits BinOp.and IntKind.i64 (m : Int) 4 == 4 && !(bits BinOp.and IntKind.i64 (r : Int) (m : Int) == (r : Int)))
theorem shareAll_true : shareAll = true := by kernel_rfl
theorem share_one (r m : Nat) (hr : r ≤ 255) (hm : m ≤ 7) :
    (if shareB (m : Int) (r : Int) then bits BinOp.and IntKind.i64 (r : Int) (m : Int) == (r : Int) && bits BinOp.and IntKind.i64 (m : Int) 4 == 4
  else bits BinOp.and IntKind.i64 (m : Int) 4 == 0 || (bits BinOp.and IntKind.i64 (m : Int) 4 == 4 && !(bits BinOp.and IntKind.i64 (r : Int) (m : Int) == (r : Int)))) = true := by
  have h1 := List.all_eq_true.mp shareAll_true r (List.mem_range.mpr (by omega))
  exact List.all_eq_true.mp h1 m (List.mem_range.mpr (by omega))
theorem share_yes {r m : Nat} (hr : r ≤ 255) (hm : m ≤ 7) (h : shareB (m : Int) (r : Int) = true) : bits BinOp.and IntKind.i64 (r : Int) (m : Int) = (r : Int) ∧ bits BinOp.and IntKind.i64 (m : Int) 4 = 4 := by
  have := share_one r m hr hm
  rw [h, if_pos rfl, Bool.and_eq_true, beq_iff_eq, beq_iff_eq] at this
  exact this
theorem share_no {r m : Nat} (hr : r ≤ 255) (hm : m ≤ 7) (h : ¬ shareB (m : Int) (r : Int) = true) : bits BinOp.and IntKind.i64 (m : Int) 4 = 0 ∨ (bits BinOp.and IntKind.i64 (m : Int) 4 = 4 ∧ (bits BinOp.and IntKind.i64 (r : Int) (m : Int) == (r : Int)) = false) := by
  have := share_one r m hr hm
  rw [if_neg h, Bool.or_eq_true, Bool.and_eq_true, beq_iff_eq, beq_iff_eq] at this
  rcases this with h1 | ⟨h1, h2⟩
  · exact Or.inl h1
  · exact Or.inr ⟨h1, by simpa using h2⟩

/-- what Derive answers and makes -/
def DeriveP (M : Mach) (t p : Nat) (o l r : Int) (e : Int) (m : ByteArray) (M' : Mach) : Prop :=
  (¬ shareB (M.s p).rights r = true ∧ e = 5 ∧ m = nilS ∧ M' = M) ∨ (shareB (M.s p).rights r = true ∧ (M.s p).len < o + l ∧ e = 6 ∧ m = nilS ∧ M' = M) ∨
    (shareB (M.s p).rights r = true ∧ ¬ (M.s p).len < o + l ∧ e = M.layE t ∧ m = M.layS t ∧ M' = M.lay t p ((M.s p).first + o) l r)

theorem laid_ok {M : Mach} (ok : M.Ok) {p : Nat} (hu : (M.s p).uses ≤ 4095) (a r f l m : Int) : (M.set p ((M.s p).laid a r f l m)).Ok := by
  refine ⟨ok.nt, ok.ns, ok.nc, fun q => ?_, fun q => ?_⟩
  · by_cases hq : q = p
    · subst hq; rw [Mach.set_same]; simp [HSlot.laid]; omega
    · rw [Mach.set_other _ _ hq]; exact ok.uses q
  · by_cases hq : q = p
    · subst hq; rw [Mach.set_same]; exact ok.bytes q
    · rw [Mach.set_other _ _ hq]; exact ok.bytes q
theorem laid_bytes (M : Mach) (p : Nat) (a r f l m : Int) (q : Nat) : ((M.set p ((M.s p).laid a r f l m)).s q).bytes = (M.s q).bytes := by
  by_cases hq : q = p
  · subst hq; rw [Mach.set_same]; rfl
  · rw [Mach.set_other _ _ hq]
theorem laid_handle (M : Mach) (t i : Nat) (hi : i < 16) (a r f l m : Int) : (M.set (16 * t + i) ((M.s (16 * t + i)).laid a r f l m)).handle (16 * t + i) = 16 * ((M.s (16 * t + i)).uses : Int) + (i : Int) := by
  unfold Mach.handle
  rw [Mach.set_same]
  simp only [HSlot.laid]
  omega

/-- what give answers and makes: a holding laid into a tenant's next slot -/
def GiveP (M : Mach) (t : Nat) (a r f l m : Int) (e : Int) (s : ByteArray) (M' : Mach) : Prop :=
  (M.next t = none ∧ e = 8 ∧ s = nilS ∧ M' = M) ∨
    ∃ i, M.next t = some i ∧ e = 0 ∧ s = twoW (16 * ((M.s (16 * t + i)).uses : Int) + (i : Int)) ∧ M' = M.set (16 * t + i) ((M.s (16 * t + i)).laid a r f l m)
theorem GiveP.lay {M : Mach} {t p : Nat} {f l m : Int} {e : Int} {s : ByteArray} {M' : Mach} (h : GiveP M t (p : Int) (M.s p).root f l m e s M') : e = M.layE t ∧ s = M.layS t ∧ M' = M.lay t p f l m := by
  unfold Mach.layE Mach.layS Mach.lay
  rcases h with ⟨h1, h2, h3, h4⟩ | ⟨i, h1, h2, h3, h4⟩
  · rw [h1]; exact ⟨h2, h3, h4⟩
  · rw [h1]; exact ⟨h2, h3, h4⟩

set_option maxHeartbeats 1600000 in
theorem give_any {g : Nat} {M : Mach} {bl : Nat → Nat} {w : World} (t : Nat) (a r f l m : Int) (h : HAt w g M bl) (ok : M.Ok) (ht : t < 4) :
    Calls Try.prog 95 #[.pointer (some ⟨g, 0, none⟩), .int .i64 (t : Int), .agg #[.int .i64 a, .int .i64 r, .int .i64 f, .int .i64 l, .int .i64 m]] w fun e w' =>
      ∃ (er : Int) (s : ByteArray) (M' : Mach), e = .returned (.tuple #[.string s, .int .i64 er]) ∧ GiveP M t a r f l m er s M' ∧ HAt w' g M' bl ∧ Frm (· = g) w w' ∧ ∀ q, (M'.s q).bytes = (M.s q).bytes := by
  have hns := ok.ns
  have hg := h.lt
  have HH : Hid (HAt w g M bl ∧ M.Ok) := ⟨h, ok⟩
  have HV : Hid (HAt (w.alloc (.cells #[.int .i64 a, .int .i64 r, .int .i64 f, .int .i64 l, .int .i64 m] 110)) g M bl) := h.below ((Below.refl _ _).alloc (Nat.le_refl _) _)
  clear h ok
  rcases firstN_spec (fun n => !(M.s (16 * t + n)).full && decide ((M.s (16 * t + n)).uses ≤ 4095)) M.ns with ⟨hn1, hn2⟩ | ⟨i, hn1, hn2, hn3, hn4⟩
  · have hn1 : M.next t = none := hn1
    have HA : Hid (GiveP M t a r f l m 8 nilS M) := Or.inl ⟨hn1, rfl, rfl, rfl⟩
    have hV : nextV M t = .tuple #[.int .i64 0, .bool false] := by unfold nextV; rw [hn1]
    clear hn1 hn2
    go_enter Try.func95, Try.ntmps95
    go_wp2_with fail
    refine (next_any t HV.out HH.out.2 ht).mono ?_
    rintro e w1 ⟨rfl, rfl⟩
    rw [hV]
    go_wp2_with fail
    go_ret2
    exact ⟨8, nilS, M, rfl, HA.out, HV.out, Frm.alloc _ _ _, fun _ => rfl⟩
  · have hn1 : M.next t = some i := hn1
    have hp2 : 16 * t + i < 64 := by omega
    have hun : Hid ((M.s (16 * t + i)).uses ≤ 4095) := by
      show _ ≤ _
      simp at hn3
      exact hn3.2
    have hi16 : i < 16 := by omega
    have HA : Hid (GiveP M t a r f l m 0 (twoW (16 * ((M.s (16 * t + i)).uses : Int) + (i : Int))) (M.set (16 * t + i) ((M.s (16 * t + i)).laid a r f l m))) := Or.inr ⟨i, hn1, rfl, rfl, rfl⟩
    have HL : Hid ((M.set (16 * t + i) ((M.s (16 * t + i)).laid a r f l m)).handle (16 * t + i) = 16 * ((M.s (16 * t + i)).uses : Int) + (i : Int)) := laid_handle M t i hi16 _ _ _ _ _
    have hV : nextV M t = .tuple #[.int .i64 ((16 * t + i : Nat) : Int), .bool true] := by unfold nextV; rw [hn1]
    clear hn1 hn3 hn4
    generalize hpp : 16 * t + i = p2 at *
    go_enter Try.func95, Try.ntmps95
    go_wp2_with fail
    refine (next_any t HV.out HH.out.2 ht).mono ?_
    rintro e w1 ⟨rfl, rfl⟩
    rw [hV]
    clear hV
    go_wp2_with fail
    refine (lay_any p2 _ _ _ _ _ HV.out HH.out.2 hp2).mono ?_
    rintro e w2 ⟨rfl, hM2, hF2⟩
    have HY : Hid (HAt w2 g (M.set p2 ((M.s p2).laid a r f l m)) bl ∧ Frm (· = g) w w2) := ⟨hM2, (Frm.alloc (· = g) w _).trans hF2 (fun _ _ h => h)⟩
    have hok3 : Hid ((M.set p2 ((M.s p2).laid a r f l m)).Ok) := laid_ok HH.out.2 hun.out _ _ _ _ _
    clear hM2 hF2
    go_wp2_with fail
    refine (handleAt_any p2 HY.out.1 hok3.out hp2).mono ?_
    rintro e w3 ⟨rfl, rfl⟩
    go_wp2_with fail
    refine (twoBytes_any _ _).mono ?_
    rintro e w4 ⟨rfl, hb4⟩
    have HQ : Hid (Below w3.heap.size w3 w4) := hb4
    clear hb4
    go_wp2_with fail
    go_ret2
    refine ⟨0, _, _, ?_, HA.out, HY.out.1.below HQ.out, HY.out.2.trans (Frm.ofBelow (F := fun _ => False) HQ.out) (fun _ _ h => h.elim), fun q => laid_bytes _ _ _ _ _ _ _ _⟩
    rw [HL.out]
    rfl

set_option maxHeartbeats 1600000 in
theorem derive_any {g : Nat} {M : Mach} {bl : Nat → Nat} {w : World} (t p o l r : Nat) (h : HAt w g M bl) (inv : M.Inv) (ht : t < 4) (hp : p < 64) (hfull : (M.s p).full = true) (ho : o ≤ 65535) (hl : l ≤ 65535) (hr : r ≤ 255) :
    Calls Try.prog 79 #[.pointer (some ⟨g, 0, none⟩), .int .i64 (t : Int), .int .i64 (p : Int), .int .i64 (o : Int), .int .i64 (l : Int), .int .i64 (r : Int)] w fun e w' =>
      ∃ (er : Int) (m : ByteArray) (M' : Mach), e = .returned (.tuple #[.string m, .int .i64 er]) ∧ DeriveP M t p o l r er m M' ∧ HAt w' g M' bl ∧ Frm (· = g) w w' ∧ ∀ q, (M'.s q).bytes = (M.s q).bytes := by
  obtain ⟨m, hm⟩ : ∃ m : Nat, (M.s p).rights = (m : Int) := ⟨(M.s p).rights.toNat, by have := inv.rights p; omega⟩
  have hm7 : m ≤ 7 := by have := inv.rights p; omega
  obtain ⟨q, e1, e2, e3, e4, e5, e6, e7⟩ := inv.top p hfull
  have hby := inv.ok.bytes q
  obtain ⟨f, hf⟩ : ∃ f : Nat, (M.s p).first = (f : Int) := ⟨(M.s p).first.toNat, by omega⟩
  obtain ⟨z, hz⟩ : ∃ z : Nat, (M.s p).len = (z : Int) := ⟨(M.s p).len.toNat, by omega⟩
  have hfz : f + z ≤ 256 := by omega
  have c2 := h.frm p hp
  have c3 := h.root p hp
  have c4 := h.first p hp
  have c5 := h.len p hp
  have c6 := h.rights p hp
  have hns := inv.ok.ns
  rw [hm] at c6
  rw [hf] at c4
  rw [hz] at c5
  have hg := h.lt
  have HH : Hid (HAt w g M bl ∧ M.Ok ∧ (M.s p).rights = (m : Int) ∧ (M.s p).first = (f : Int) ∧ (M.s p).len = (z : Int)) := ⟨h, inv.ok, hm, hf, hz⟩
  clear h inv e1 e2 e3 e4 e5 e6 e7 hby hm hf hz
  by_cases h1 : shareB (m : Int) (r : Int) = true
  · obtain ⟨a1, a2⟩ := share_yes hr hm7 h1
    have HS : Hid (shareB (M.s p).rights r = true) := by show _ = _; rw [HH.out.2.2.1]; exact h1
    clear h1
    by_cases h5 : (z : Int) < (o : Int) + (l : Int)
    · have HA : Hid (DeriveP M t p o l r 6 nilS M) := Or.inr (Or.inl ⟨HS.out, by rw [HH.out.2.2.2.2]; exact h5, rfl, rfl, rfl⟩)
      go_enter Try.func79, Try.ntmps79
      go_wp2
      go_ret2
      exact ⟨6, nilS, M, rfl, HA.out, HH.out.1.below ((Below.refl _ _).alloc (Nat.le_refl _) _), Frm.alloc _ _ _, fun _ => rfl⟩
    · have HA : Hid (∀ er m' M', GiveP M t (p : Int) (M.s p).root ((f : Int) + (o : Int)) (l : Int) (r : Int) er m' M' → DeriveP M t p o l r er m' M') := fun er m' M' hG => by
        have hG := hG.lay
        rw [← HH.out.2.2.2.1] at hG
        exact Or.inr (Or.inr ⟨HS.out, by rw [HH.out.2.2.2.2]; exact h5, hG⟩)
      go_enter Try.func79, Try.ntmps79
      go_wp2_with fail
      refine (give_any t _ _ _ _ _ (HH.out.1.below ((Below.refl _ _).alloc (Nat.le_refl _) _)) HH.out.2.1 ht).mono ?_
      rintro e w1 ⟨er, s, M', rfl, hG, hM, hF, hJ⟩
      have HR : Hid (GiveP M t (p : Int) (M.s p).root ((f : Int) + (o : Int)) (l : Int) (r : Int) er s M' ∧ HAt w1 g M' bl ∧ Frm (· = g) w w1 ∧ ∀ q, (M'.s q).bytes = (M.s q).bytes) := ⟨hG, hM, (Frm.alloc (· = g) w _).trans hF (fun _ _ h => h), hJ⟩
      clear hG hM hF hJ
      go_wp2_with fail
      go_ret2
      exact ⟨er, s, M', rfl, HA.out _ _ _ HR.out.1, HR.out.2⟩
  · have HA : Hid (DeriveP M t p o l r 5 nilS M) := Or.inl ⟨by rw [HH.out.2.2.1]; exact h1, rfl, rfl, rfl⟩
    rcases share_no hr hm7 h1 with a1 | ⟨a1, a2⟩
    · clear h1
      go_enter Try.func79, Try.ntmps79
      go_wp2
      go_ret2
      exact ⟨5, nilS, M, rfl, HA.out, HH.out.1.below ((Below.refl _ _).alloc (Nat.le_refl _) _), Frm.alloc _ _ _, fun _ => rfl⟩
    · clear h1
      go_enter Try.func79, Try.ntmps79
      go_wp2
      go_ret2
      exact ⟨5, nilS, M, rfl, HA.out, HH.out.1.below ((Below.refl _ _).alloc (Nat.le_refl _) _), Frm.alloc _ _ _, fun _ => rfl⟩

/-- what Grant answers and makes -/
def GrantP (M : Mach) (p : Nat) (to : Int) (e : Int) (m : ByteArray) (M' : Mach) : Prop :=
  (¬ (M.s p).rights / 4 = 1 ∧ e = 5 ∧ m = nilS ∧ M' = M) ∨ ((M.s p).rights / 4 = 1 ∧ (M.nt : Int) ≤ to ∧ e = 3 ∧ m = nilS ∧ M' = M) ∨
    ((M.s p).rights / 4 = 1 ∧ ¬ (M.nt : Int) ≤ to ∧ e = M.layE to.toNat ∧ m = M.layS to.toNat ∧ M' = M.lay to.toNat p (M.s p).first (M.s p).len (M.s p).rights)

theorem four_no {m : Nat} (hm : m ≤ 7) (h : ¬ (m : Int) / 4 = 1) : bits BinOp.and IntKind.i64 (m : Int) 4 = 0 := by
  have : m ≤ 3 := by omega
  obtain rfl | rfl | rfl | rfl : m = 0 ∨ m = 1 ∨ m = 2 ∨ m = 3 := by omega
  all_goals decide
theorem four_yes {m : Nat} (hm : m ≤ 7) (h : (m : Int) / 4 = 1) : bits BinOp.and IntKind.i64 (m : Int) 4 = 4 := by
  obtain rfl | rfl | rfl | rfl : m = 4 ∨ m = 5 ∨ m = 6 ∨ m = 7 := by omega
  all_goals decide

set_option maxHeartbeats 1600000 in
theorem grant_any {g : Nat} {M : Mach} {bl : Nat → Nat} {w : World} (p to : Nat) (h : HAt w g M bl) (inv : M.Inv) (hp : p < 64) :
    Calls Try.prog 80 #[.pointer (some ⟨g, 0, none⟩), .int .i64 (to : Int), .int .i64 (p : Int)] w fun e w' =>
      ∃ (er : Int) (m : ByteArray) (M' : Mach), e = .returned (.tuple #[.string m, .int .i64 er]) ∧ GrantP M p to er m M' ∧ HAt w' g M' bl ∧ Frm (· = g) w w' ∧ ∀ q, (M'.s q).bytes = (M.s q).bytes := by
  obtain ⟨m, hm⟩ : ∃ m : Nat, (M.s p).rights = (m : Int) := ⟨(M.s p).rights.toNat, by have := inv.rights p; omega⟩
  have hm7 : m ≤ 7 := by have := inv.rights p; omega
  have hnt := inv.ok.nt
  have c2 := h.frm p hp
  have c3 := h.root p hp
  have c4 := h.first p hp
  have c5 := h.len p hp
  have c6 := h.rights p hp
  rw [hm] at c6
  have hg := h.lt
  have HH : Hid (HAt w g M bl ∧ M.Ok ∧ (M.s p).rights = (m : Int)) := ⟨h, inv.ok, hm⟩
  clear h inv hm
  by_cases h1 : (m : Int) / 4 = 1
  · have a1 := four_yes hm7 h1
    have HS : Hid ((M.s p).rights / 4 = 1) := by show _ = _; rw [HH.out.2.2]; exact h1
    clear h1
    by_cases h5 : (M.nt : Int) ≤ (to : Int)
    · have HA : Hid (GrantP M p to 3 nilS M) := Or.inr (Or.inl ⟨HS.out, h5, rfl, rfl, rfl⟩)
      have hb : hasB M.nt (to : Int) = false := by simp [hasB]; omega
      clear h5
      go_enter Try.func80, Try.ntmps80
      go_wp2_with fail
      refine (has_any (to : Int) (HH.out.1.below ((Below.refl _ _).alloc (Nat.le_refl _) _))).mono ?_
      rintro e w1 ⟨rfl, rfl⟩
      rw [hb]
      go_wp2_with fail
      go_ret2
      exact ⟨3, nilS, M, rfl, HA.out, HH.out.1.below ((Below.refl _ _).alloc (Nat.le_refl _) _), Frm.alloc _ _ _, fun _ => rfl⟩
    · have HA : Hid (∀ er m' M', GiveP M to (p : Int) (M.s p).root (M.s p).first (M.s p).len (M.s p).rights er m' M' → GrantP M p to er m' M') := fun er m' M' hG => Or.inr (Or.inr ⟨HS.out, h5, hG.lay⟩)
      have hb : hasB M.nt (to : Int) = true := by simp [hasB]; omega
      have ht : to < 4 := by omega
      go_enter Try.func80, Try.ntmps80
      go_wp2_with fail
      refine (has_any (to : Int) (HH.out.1.below ((Below.refl _ _).alloc (Nat.le_refl _) _))).mono ?_
      rintro e w1 ⟨rfl, rfl⟩
      rw [hb]
      go_wp2_with fail
      rw [← HH.out.2.2]
      refine (give_any to _ _ _ _ _ (HH.out.1.below ((Below.refl _ _).alloc (Nat.le_refl _) _)) HH.out.2.1 ht).mono ?_
      rintro e w1 ⟨er, s, M', rfl, hG, hM, hF, hJ⟩
      have HR : Hid (GiveP M to (p : Int) (M.s p).root (M.s p).first (M.s p).len (M.s p).rights er s M' ∧ HAt w1 g M' bl ∧ Frm (· = g) w w1 ∧ ∀ q, (M'.s q).bytes = (M.s q).bytes) := ⟨hG, hM, (Frm.alloc (· = g) w _).trans hF (fun _ _ h => h), hJ⟩
      clear hG hM hF hJ
      go_wp2_with fail
      go_ret2
      exact ⟨er, s, M', rfl, HA.out _ _ _ HR.out.1, HR.out.2⟩
  · have HA : Hid (GrantP M p to 5 nilS M) := Or.inl ⟨by rw [HH.out.2.2]; exact h1, rfl, rfl, rfl⟩
    have a1 := four_no hm7 h1
    clear h1
    go_enter Try.func80, Try.ntmps80
    go_wp2
    go_ret2
    exact ⟨5, nilS, M, rfl, HA.out, HH.out.1.below ((Below.refl _ _).alloc (Nat.le_refl _) _), Frm.alloc _ _ _, fun _ => rfl⟩

set_option maxHeartbeats 400000 in
theorem drop_any {g : Nat} {M : Mach} {bl : Nat → Nat} {w : World} (p : Nat) (h : HAt w g M bl) (hp : p < 64) (hfull : (M.s p).full = true) :
    Calls Try.prog 82 #[.pointer (some ⟨g, 0, none⟩), .int .i64 (p : Int)] w fun e w' =>
      ((M.s p).frm = -1 ∧ e = .returned (.int .i64 9) ∧ w' = w) ∨
      ((M.s p).frm ≠ -1 ∧ e = .returned (.int .i64 0) ∧ ∃ M', HAt w' g M' bl ∧ Gone (fun x => x = p ∨ Under M p x) M M' ∧ Frm (· = g) w w') := by
  have cf := h.frm p hp
  have HH : Hid (HAt w g M bl) := h
  clear h
  by_cases he : (M.s p).frm = -1
  · rw [he] at cf
    go_enter Try.func82, Try.ntmps82
    go_wp2
    go_ret
    exact Or.inl ⟨he, rfl, rfl⟩
  · have he2 : ((M.s p).frm == -1) = false := by simp [he]
    go_enter Try.func82, Try.ntmps82
    go_wp2_with fail
    refine (empty_any p HH.out hp hfull).mono ?_
    rintro e w1 ⟨rfl, M', hM, hG, hF⟩
    have HX : Hid (∃ M', HAt w1 g M' bl ∧ Gone (fun x => x = p ∨ Under M p x) M M' ∧ Frm (· = g) w w1) := ⟨M', hM, hG, hF⟩
    clear hM hG hF
    go_wp2
    go_ret
    exact Or.inr ⟨he, rfl, HX.out⟩

end Go.Proofs.Ytkjjamigaamllaa
