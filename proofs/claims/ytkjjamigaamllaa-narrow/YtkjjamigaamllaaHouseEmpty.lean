/-
  What is below a slot, and the functions of the landed house that empty slots: empty, emptyBelow.
-/
import Derived.Test.YtkjjamigaamllaaHouseWrite
import Derived.Deep.LoopGhost
namespace Go.Proofs.Ytkjjamigaamllaa
open Go.RowKit
set_option linter.unusedSimpArgs false

/-- BELOW A SLOT is all that comes from it, what comes from that, and so on -/
inductive Under (M : Mach) (p : Nat) : Nat → Prop
  | child {x : Nat} (hx : x < 64) (hf : (M.s x).full = true) (hp : (M.s x).frm = (p : Int)) : Under M p x
  | deep {x y : Nat} (hx : x < 64) (hf : (M.s x).full = true) (hp : (M.s x).frm = (y : Int)) (hy : Under M p y) : Under M p x

/-- M' is M, but what a set of slots held is gone -/
structure Gone (D : Nat → Prop) (M M' : Mach) : Prop where
  nt : M'.nt = M.nt
  ns : M'.ns = M.ns
  nc : M'.nc = M.nc
  out : ∀ x, D x → M'.s x = HSlot.none (M.s x).uses
  same : ∀ x, ¬ D x → M'.s x = M.s x

theorem Under.full {M : Mach} {p x : Nat} (h : Under M p x) : x < 64 ∧ (M.s x).full = true := by cases h <;> exact ⟨by assumption, by assumption⟩
theorem Under.trans {M : Mach} {p x y : Nat} (h : Under M y x) (k : Under M p y) : Under M p x := by
  induction h with
  | child hx hf hp => exact .deep hx hf hp k
  | deep hx hf hp _ ih => exact .deep hx hf hp ih

/-- fewer slots that hold something, each as it was: no more is below -/
theorem Under.more {M M' : Mach} {p x : Nat} (hs : ∀ x, (M'.s x).full = true → M'.s x = M.s x) (h : Under M' p x) : Under M p x := by
  induction h with
  | child hx hf hp => have e := hs _ hf; exact .child hx (e ▸ hf) (e ▸ hp)
  | deep hx hf hp _ ih => have e := hs _ hf; exact .deep hx (e ▸ hf) (e ▸ hp) ih

/-- where a set that is shut downwards is gone, and p itself: what is below p outside of it is below p still -/
theorem Under.less {M M' : Mach} {D : Nat → Prop} {p x : Nat} (hD : ∀ x y, x < 64 → (M.s x).full = true → (M.s x).frm = ((y : Nat) : Int) → D y → D x) (hs : ∀ x, ¬ D x → x ≠ p → M'.s x = M.s x)
    (h : Under M p x) (hx : ¬ D x) (hp : x ≠ p) : Under M' p x := by
  induction h with
  | child hx1 hf hc => have e := hs _ hx hp; exact .child hx1 (e ▸ hf) (e ▸ hc)
  | @deep x y hx1 hf hc hy ih =>
    have e := hs _ hx hp
    by_cases hyp : y = p
    · subst hyp; exact .child hx1 (e ▸ hf) (e ▸ hc)
    · exact .deep hx1 (e ▸ hf) (e ▸ hc) (ih (fun hd => hx (hD _ _ hx1 hf hc hd)) hyp)

/-- how many slots hold something -/
def Mach.fulls (M : Mach) : Nat := sumN (fun i => if (M.s i).full then 1 else 0) 64
theorem sumN_pt {f g : Nat → Nat} (n : Nat) (h : ∀ k, k < n → f k ≤ g k) : sumN f n ≤ sumN g n := by
  induction n with
  | zero => exact Nat.le_refl _
  | succ n ih =>
    have h1 := ih (fun k hk => h k (by omega))
    have h2 := h n (by omega)
    simp only [sumN]
    omega
theorem Gone.fulls {D : Nat → Prop} {M M' : Mach} (h : Gone D M M') : M'.fulls ≤ M.fulls := by
  refine sumN_pt 64 (fun k _ => ?_)
  by_cases hd : D k
  · rw [h.out k hd]; simp [HSlot.none]
  · rw [h.same k hd]; exact Nat.le_refl _
theorem fulls_set {M : Mach} {p : Nat} (hp : p < 64) (hf : (M.s p).full = true) (u : Nat) : (M.set p (HSlot.none u)).fulls + 1 = M.fulls := by
  have := sumN_upd (f := fun i => if (M.s i).full then 1 else 0) (g := fun i => if ((M.set p (HSlot.none u)).s i).full then 1 else 0) 64 hp (fun k _ hne => by
    show (if ((M.set p (HSlot.none u)).s k).full then 1 else 0) = _
    rw [Mach.set_other M _ hne])
  have e1 : (if ((M.set p (HSlot.none u)).s p).full then 1 else 0) = 0 := by rw [Mach.set_same]; rfl
  have e2 : (if (M.s p).full then 1 else 0) = 1 := by rw [hf]; rfl
  have e3 : (M.set p (HSlot.none u)).fulls + (if (M.s p).full then 1 else 0) = M.fulls + (if ((M.set p (HSlot.none u)).s p).full then 1 else 0) := this
  rw [e1, e2] at e3
  omega
theorem Gone.ok {D : Nat → Prop} {M M' : Mach} (h : Gone D M M') (ok : M.Ok) : M'.Ok := by
  refine ⟨h.nt ▸ ok.nt, h.ns ▸ ok.ns, h.nc ▸ ok.nc, fun p => ?_, fun p => ?_⟩
  · by_cases hd : D p
    · rw [h.out p hd]; exact ok.uses p
    · rw [h.same p hd]; exact ok.uses p
  · by_cases hd : D p
    · rw [h.out p hd]; simp [HSlot.none]
    · rw [h.same p hd]; exact ok.bytes p
theorem gone_one (M : Mach) (p : Nat) : Gone (· = p) M (M.set p (HSlot.none (M.s p).uses)) :=
  ⟨rfl, rfl, rfl, fun x hx => by subst hx; exact Mach.set_same _ _ _, fun x hx => Mach.set_other _ _ hx⟩

/-- the cells that empty writes -/
def goneCells : List Value := [.bool false, .int .i64 0, .int .i64 0, .int .i64 0, .int .i64 0, .int .i64 0, .slice none 0 0]

theorem HAt.emptied {w : World} {g : Nat} {M : Mach} {bl : Nat → Nat} {p : Nat} (h : HAt w g M bl) (hp : p < 64) :
    HAt (w.setCells g (3 + p * 8 + 1) goneCells) g (M.set p (HSlot.none (M.s p).uses)) bl ∧ Frm (· = g) w (w.setCells g (3 + p * 8 + 1) goneCells) := by
  have hfrm : Frm (· = g) w (w.setCells g (3 + p * 8 + 1) goneCells) := Frm.setCells (· = g) g rfl goneCells (3 + p * 8 + 1) w
  refine ⟨?_, hfrm⟩
  have hin : ∀ j (hj : j < 7), (w.setCells g (3 + p * 8 + 1) goneCells).cell? ⟨g, 3 + p * 8 + 1 + j, none⟩ = some (goneCells[j]'hj) := by
    refine fun j hj => World.cell?_setCells_in g goneCells (3 + p * 8 + 1) w ?_ j hj
    intro j hj
    have hj : j < 7 := hj
    have : j = 0 ∨ j = 1 ∨ j = 2 ∨ j = 3 ∨ j = 4 ∨ j = 5 ∨ j = 6 := by omega
    rcases this with rfl | rfl | rfl | rfl | rfl | rfl | rfl
    · rw [Nat.add_zero, h.full p hp]; rfl
    · rw [show 3 + p * 8 + 1 + 1 = 3 + p * 8 + 2 from rfl, h.frm p hp]; rfl
    · rw [show 3 + p * 8 + 1 + 2 = 3 + p * 8 + 3 from rfl, h.root p hp]; rfl
    · rw [show 3 + p * 8 + 1 + 3 = 3 + p * 8 + 4 from rfl, h.first p hp]; rfl
    · rw [show 3 + p * 8 + 1 + 4 = 3 + p * 8 + 5 from rfl, h.len p hp]; rfl
    · rw [show 3 + p * 8 + 1 + 5 = 3 + p * 8 + 6 from rfl, h.rights p hp]; rfl
    · rw [show 3 + p * 8 + 1 + 6 = 3 + p * 8 + 7 from rfl, h.bytes p hp]; rfl
  refine (h.slotSet (p := p) (HSlot.none (M.s p).uses) (bl p) hp hfrm ?_ ?_ ?_ ?_ ?_).same (funext fun q => ?_)
  · intro i
    rw [World.frozen?_setCells]
    exact h.free i
  · intro i hi
    rw [World.cell?_setCells_out]
    intro _ _
    show i < 3 + p * 8 + 1 ∨ 3 + p * 8 + 1 + 7 ≤ i
    omega
  · intro j hj
    match j, hj with
    | 0, _ =>
      rw [World.cell?_setCells_out]
      · exact h.uses p hp
      · intro _ _
        exact Or.inl (Nat.lt_succ_self _)
    | j + 1, hj =>
      have := hin j (by omega)
      rw [show 3 + p * 8 + (j + 1) = 3 + p * 8 + 1 + j by omega, this]
      have : j = 0 ∨ j = 1 ∨ j = 2 ∨ j = 3 ∨ j = 4 ∨ j = 5 := by omega
      rcases this with rfl | rfl | rfl | rfl | rfl | rfl <;> rfl
  · exact hin 6 (by omega)
  · intro hne
    exact absurd rfl hne
  · by_cases e : q = p
    · rw [if_pos e, e]
    · rw [if_neg e]

/-- what emptyBelow is to do -/
def BelowC (n : Nat) : Prop := ∀ {g : Nat} {M : Mach} {bl : Nat → Nat} {w : World} (p : Nat), HAt w g M bl → M.fulls ≤ n → p < 64 →
    Calls Try.prog 81 #[.pointer (some ⟨g, 0, none⟩), .int .i64 (p : Int)] w fun e w' => e = .returned (.tuple #[]) ∧ ∃ M', HAt w' g M' bl ∧ Gone (Under M p) M M' ∧ Frm (· = g) w w'

set_option maxHeartbeats 800000 in
theorem empty_of {n : Nat} (hB : BelowC n) {g : Nat} {M : Mach} {bl : Nat → Nat} {w : World} (p : Nat) (h : HAt w g M bl) (hn : M.fulls ≤ n + 1) (hp : p < 64) (hfull : (M.s p).full = true) :
    Calls Try.prog 94 #[.pointer (some ⟨g, 0, none⟩), .int .i64 (p : Int)] w fun e w' => e = .returned (.tuple #[]) ∧ ∃ M', HAt w' g M' bl ∧ Gone (fun x => x = p ∨ Under M p x) M M' ∧ Frm (· = g) w w' := by
  have cf := h.full p hp
  have c2 := h.frm p hp
  have c3 := h.root p hp
  have c4 := h.first p hp
  have c5 := h.len p hp
  have c6 := h.rights p hp
  have c7 := h.bytes p hp
  have f1 := h.free (3 + p * 8 + 1)
  have f2 := h.free (3 + p * 8 + 2)
  have f3 := h.free (3 + p * 8 + 3)
  have f4 := h.free (3 + p * 8 + 4)
  have f5 := h.free (3 + p * 8 + 5)
  have f6 := h.free (3 + p * 8 + 6)
  have f7 := h.free (3 + p * 8 + 7)
  obtain ⟨k1, k2⟩ := h.emptied hp
  have HK : Hid (HAt (w.setCells g (3 + p * 8 + 1) goneCells) g (M.set p (HSlot.none (M.s p).uses)) bl ∧ Frm (· = g) w (w.setCells g (3 + p * 8 + 1) goneCells)) := ⟨k1, k2⟩
  have hn2 := fulls_set hp hfull (M.s p).uses
  have HN : Hid ((M.set p (HSlot.none (M.s p).uses)).fulls ≤ n) := by show _ ≤ _; omega
  have HB : Hid (BelowC n) := hB
  clear h k1 k2 hn2 hn hB
  go_enter Try.func94, Try.ntmps94
  go_wp2_with fail
  refine (HB.out (w := w.setCells g (3 + p * 8 + 1) goneCells) p HK.out.1 HN.out hp).mono ?_
  rintro e w1 ⟨rfl, M', hM, hG, hF⟩
  go_wp2_with fail
  go_end0
  refine ⟨rfl, M', hM, ?_, HK.out.2.trans hF (fun _ _ h => h)⟩
  refine ⟨hG.nt, hG.ns, hG.nc, fun x hx => ?_, fun x hx => ?_⟩
  · by_cases hxp : x = p
    · subst hxp
      by_cases hu : Under (M.set x (HSlot.none (M.s x).uses)) x x
      · rw [hG.out x hu, Mach.set_same]; rfl
      · rw [hG.same x hu, Mach.set_same]
    · have hu : Under M p x := hx.resolve_left hxp
      have := Under.less (M' := M.set p (HSlot.none (M.s p).uses)) (D := fun _ => False) (fun _ _ _ _ _ h => h) (fun x _ hne => Mach.set_other M _ hne) hu (fun h => h) hxp
      rw [hG.out x this, Mach.set_other M _ hxp]
  · have hxp : x ≠ p := fun e => hx (Or.inl e)
    have hu : ¬ Under (M.set p (HSlot.none (M.s p).uses)) p x := fun hu => hx (Or.inr (hu.more (fun y hy => by
      by_cases e : y = p
      · subst e; rw [Mach.set_same] at hy; simp [HSlot.none] at hy
      · exact Mach.set_other M _ e)))
    rw [hG.same x hu, Mach.set_other M _ hxp]

/-- what the first k children of p, and all below them, are -/
def Kids (M : Mach) (p k : Nat) (x : Nat) : Prop := ∃ c, c < k ∧ c < 64 ∧ (M.s c).full = true ∧ (M.s c).frm = (p : Int) ∧ (x = c ∨ Under M c x)

theorem Kids.down {M : Mach} {p k x y : Nat} (hx : x < 64) (hf : (M.s x).full = true) (hc : (M.s x).frm = ((y : Nat) : Int)) (h : Kids M p k y) : Kids M p k x := by
  obtain ⟨c, h1, h2, h3, h4, h5⟩ := h
  refine ⟨c, h1, h2, h3, h4, Or.inr ?_⟩
  rcases h5 with rfl | h5
  · exact .child hx hf hc
  · exact .deep hx hf hc h5
theorem Kids.under {M : Mach} {p k x y : Nat} (hu : Under M y x) (h : Kids M p k y) : Kids M p k x := by
  obtain ⟨c, h1, h2, h3, h4, h5⟩ := h
  refine ⟨c, h1, h2, h3, h4, Or.inr ?_⟩
  rcases h5 with rfl | h5
  · exact hu
  · exact hu.trans h5
theorem kids_all {M : Mach} {p x : Nat} : Kids M p 64 x ↔ Under M p x := by
  constructor
  · rintro ⟨c, _, h2, h3, h4, rfl | h5⟩
    · exact .child h2 h3 h4
    · exact h5.trans (.child h2 h3 h4)
  · intro h
    induction h with
    | child hx hf hp => exact ⟨_, hx, hx, hf, hp, Or.inl rfl⟩
    | deep hx hf hp _ ih => exact ih.down hx hf hp
theorem Gone.congr {D E : Nat → Prop} {M M' : Mach} (h : Gone D M M') (e : ∀ x, D x ↔ E x) : Gone E M M' :=
  ⟨h.nt, h.ns, h.nc, fun x hx => h.out x ((e x).2 hx), fun x hx => h.same x (fun hd => hx ((e x).1 hd))⟩

theorem kids_skip {M : Mach} {p k : Nat} (h : ¬ ((M.s k).full = true ∧ (M.s k).frm = (p : Int)) ∨ Kids M p k k) (x : Nat) : Kids M p k x ↔ Kids M p (k + 1) x := by
  constructor
  · rintro ⟨c, h1, h2⟩
    exact ⟨c, by omega, h2⟩
  · rintro ⟨c, h1, h2, h3, h4, h5⟩
    by_cases hc : c < k
    · exact ⟨c, hc, h2, h3, h4, h5⟩
    · obtain rfl : c = k := by omega
      rcases h with h | h
      · exact absurd ⟨h3, h4⟩ h
      · rcases h5 with rfl | h5
        · exact h
        · exact h.under h5

theorem kids_step {M M1 M2 : Mach} {p k : Nat} (hk : k < 64) (hf : (M.s k).full = true) (hp : (M.s k).frm = (p : Int)) (hn : ¬ Kids M p k k) (h1 : Gone (Kids M p k) M M1) (h2 : Gone (fun x => x = k ∨ Under M1 k x) M1 M2) : Gone (Kids M p (k + 1)) M M2 := by
  have up : ∀ x, Kids M p (k + 1) x → ¬ Kids M p k x → x = k ∨ Under M1 k x := by
    rintro x ⟨c, g1, g2, g3, g4, g5⟩ hx
    by_cases hc : c < k
    · exact absurd ⟨c, hc, g2, g3, g4, g5⟩ hx
    · obtain rfl : c = k := by omega
      by_cases hxk : x = c
      · exact Or.inl hxk
      · exact Or.inr (Under.less (D := Kids M p c) (fun x y q1 q2 q3 q4 => Kids.down q1 q2 q3 q4) (fun y hy _ => h1.same y hy) (g5.resolve_left hxk) hx hxk)
  have down : ∀ x, (x = k ∨ Under M1 k x) → Kids M p (k + 1) x := by
    rintro x hx
    refine ⟨k, by omega, hk, hf, hp, hx.imp id (fun hu => hu.more (fun y hy => ?_))⟩
    by_cases hd : Kids M p k y
    · rw [h1.out y hd] at hy; simp [HSlot.none] at hy
    · exact h1.same y hd
  refine ⟨h2.nt.trans h1.nt, h2.ns.trans h1.ns, h2.nc.trans h1.nc, fun x hx => ?_, fun x hx => ?_⟩
  · by_cases hd : Kids M p k x
    · by_cases hu : x = k ∨ Under M1 k x
      · rw [h2.out x hu, h1.out x hd]; rfl
      · rw [h2.same x hu, h1.out x hd]
    · rw [h2.out x (up x hx hd), h1.same x hd]
  · have hd : ¬ Kids M p k x := fun hd => hx ⟨hd.choose, by have := hd.choose_spec.1; omega, hd.choose_spec.2⟩
    rw [h2.same x (fun hu => hx (down x hu)), h1.same x hd]

set_option maxHeartbeats 1600000 in
theorem below_step (n : Nat) (hB : ∀ m, m < n → BelowC m) : BelowC n := by
  intro g M bl w p h hn hp
  have HB : Hid (∀ m, m < n → BelowC m) := hB
  have HM : Hid (M.fulls ≤ n) := hn
  have HH : Hid (HAt w g M bl) := h
  have cp := h.frm p hp
  clear h hn hB cp
  go_enter Try.func81, Try.ntmps81
  go_wp2
  go_loopw [5] (fun i W => ∃ (k : Nat) (M1 : Mach), k ≤ 64 ∧ i = .int .i64 (k : Int) ∧ HAt W g M1 bl ∧ Gone (Kids M p k) M M1 ∧ Frm (· = g) w W) (fun i _ => 64 - (intOf i).toNat)
  case atStart =>
    refine ⟨0, M, by omega, rfl, HH.out, ⟨rfl, rfl, rfl, fun x hx => ?_, fun _ _ => rfl⟩, Frm.refl _ _⟩
    obtain ⟨c, hc, _⟩ := hx
    omega
  case round =>
    obtain ⟨k, M1, hk, rfl, hM1, hG1, hF1⟩ := hrel
    by_cases hlt : k < 64
    · have hlt2 : (k : Int) < 64 := by omega
      have cf := hM1.full k hlt
      have cm := hM1.frm k hlt
      have HX : Hid (HAt wr g M1 bl ∧ Gone (Kids M p k) M M1 ∧ Frm (· = g) w wr) := ⟨hM1, hG1, hF1⟩
      clear hM1 hG1 hF1
      by_cases hkid : Kids M p k k
      · have hf : (M1.s k).full = false := by rw [HX.out.2.1.out k hkid]; rfl
        have HS : Hid (Kids M p k k) := hkid
        rw [hf] at cf
        clear hkid
        go_wp2
        go_roundw
        case rel => exact ⟨k + 1, M1, by omega, rfl, HX.out.1, HX.out.2.1.congr (kids_skip (Or.inr HS.out)), HX.out.2.2⟩
        case measure => simp [intOf]; omega
      · have hsame := HX.out.2.1.same k hkid
        rw [hsame] at cf cm
        cases hf : (M.s k).full with
        | false =>
          rw [hf] at cf
          have HS : Hid (¬ ((M.s k).full = true ∧ (M.s k).frm = (p : Int))) := by intro hh; rw [hf] at hh; simp at hh
          clear hkid
          go_wp2
          go_roundw
          case rel => exact ⟨k + 1, M1, by omega, rfl, HX.out.1, HX.out.2.1.congr (kids_skip (Or.inl HS.out)), HX.out.2.2⟩
          case measure => simp [intOf]; omega
        | true =>
          rw [hf] at cf
          by_cases he : (M.s k).frm = (p : Int)
          · rw [he] at cm
            have hE : Hid (M1.fulls ≤ (n - 1) + 1 ∧ n - 1 < n) := by
              have q1 := HX.out.2.1.fulls
              have q2 := HM.out
              have q3 := fulls_set (M := M) hlt hf 0
              exact ⟨by omega, by omega⟩
            have hf1 : Hid ((M1.s k).full = true) := by show _ = _; rw [hsame]; exact hf
            have HS : Hid ((M.s k).full = true ∧ (M.s k).frm = (p : Int) ∧ ¬ Kids M p k k) := ⟨hf, he, hkid⟩
            clear hkid hsame he hf
            go_wp2_with fail
            refine (empty_of (HB.out (n - 1) hE.out.2) k HX.out.1 hE.out.1 hlt hf1.out).mono ?_
            rintro e w1 ⟨rfl, M2, hM2, hG2, hF2⟩
            have HY : Hid (HAt w1 g M2 bl ∧ Gone (fun x => x = k ∨ Under M1 k x) M1 M2 ∧ Frm (· = g) wr w1) := ⟨hM2, hG2, hF2⟩
            clear hM2 hG2 hF2
            go_wp2
            go_roundw
            case rel => exact ⟨k + 1, M2, by omega, rfl, HY.out.1, kids_step hlt HS.out.1 HS.out.2.1 HS.out.2.2 HX.out.2.1 HY.out.2.1, HX.out.2.2.trans HY.out.2.2 (fun _ _ h => h)⟩
            case measure => simp [intOf]; omega
          · have he2 : ((M.s k).frm == (p : Int)) = false := by simp [he]
            have HS : Hid (¬ ((M.s k).full = true ∧ (M.s k).frm = (p : Int))) := fun hh => he hh.2
            clear hkid
            go_wp2
            go_roundw
            case rel => exact ⟨k + 1, M1, by omega, rfl, HX.out.1, HX.out.2.1.congr (kids_skip (Or.inl HS.out)), HX.out.2.2⟩
            case measure => simp [intOf]; omega
    · obtain rfl : k = 64 := by omega
      have HX : Hid (HAt wr g M1 bl ∧ Gone (Kids M p 64) M M1 ∧ Frm (· = g) w wr) := ⟨hM1, hG1, hF1⟩
      clear hM1 hG1 hF1
      go_wp2
      go_end0
      exact ⟨rfl, M1, HX.out.1, HX.out.2.1.congr (fun x => kids_all), HX.out.2.2⟩

theorem below_all : ∀ n, BelowC n := by
  intro n
  induction n using Nat.strongRecOn with
  | ind n ih => exact below_step n ih

/-- emptyBelow: all that is below is gone, nothing else is -/
theorem emptyBelow_any {g : Nat} {M : Mach} {bl : Nat → Nat} {w : World} (p : Nat) (h : HAt w g M bl) (hp : p < 64) :
    Calls Try.prog 81 #[.pointer (some ⟨g, 0, none⟩), .int .i64 (p : Int)] w fun e w' => e = .returned (.tuple #[]) ∧ ∃ M', HAt w' g M' bl ∧ Gone (Under M p) M M' ∧ Frm (· = g) w w' :=
  below_all M.fulls p h (Nat.le_refl _) hp
/-- empty: the slot and all that is below -/
theorem empty_any {g : Nat} {M : Mach} {bl : Nat → Nat} {w : World} (p : Nat) (h : HAt w g M bl) (hp : p < 64) (hfull : (M.s p).full = true) :
    Calls Try.prog 94 #[.pointer (some ⟨g, 0, none⟩), .int .i64 (p : Int)] w fun e w' => e = .returned (.tuple #[]) ∧ ∃ M', HAt w' g M' bl ∧ Gone (fun x => x = p ∨ Under M p x) M M' ∧ Frm (· = g) w w' :=
  empty_of (below_all M.fulls) p h (by omega) hp hfull

end Go.Proofs.Ytkjjamigaamllaa
