/-
  Joined: MachInv, SimBase, SimLaid, SimGone, StepDef, HouseShare, HouseAsk.
-/
import Derived.Test.YtkjjamigaamllaaHouseSpec
import Derived.Test.YtkjjamigaamllaaRefServedHead
import Derived.Test.YtkjjamigaamllaaBackMath
import Derived.Test.YtkjjamigaamllaaHouseNew
namespace Go.Proofs.Ytkjjamigaamllaa
open Go.RowKit
set_option linter.unusedSimpArgs false

/- MachInv -/

theorem Mach.set_cases {M : Mach} {p : Nat} {x : HSlot} (q : Nat) : (q = p ∧ (M.set p x).s q = x) ∨ (q ≠ p ∧ (M.set p x).s q = M.s q) := by
  by_cases e : q = p
  · exact Or.inl ⟨e, by subst e; exact Mach.set_same _ _ _⟩
  · exact Or.inr ⟨e, Mach.set_other _ _ e⟩

theorem inv_new {t s c : Nat} (ht : 1 ≤ t ∧ t ≤ 4) (hs : 1 ≤ s ∧ s ≤ 16) (hc : 1 ≤ c ∧ c ≤ 32) : (Mach.mk t s c (fun _ => HSlot.none 0)).Inv :=
  { ok := ⟨ht.2, hs.2, hc.2, fun _ => by simp [HSlot.none], fun _ => by simp [HSlot.none]⟩
    nt1 := ht.1
    ns1 := hs.1
    nc1 := hc.1
    mine := fun p h => by simp [HSlot.none] at h
    used := fun p h => by simp [HSlot.none] at h
    bare := fun p _ => rfl
    root := fun p h => by simp [HSlot.none] at h
    down := fun p h => by simp [HSlot.none] at h
    top := fun p h => by simp [HSlot.none] at h
    rights := fun p => by simp [HSlot.none]
    byte := fun p b h => by simp [HSlot.none] at h
    rank := ⟨fun _ => 0, fun p q h => by simp [HSlot.none] at h⟩ }

/-- the place of a tenant's slot -/
theorem place_lt {M : Mach} (inv : M.Inv) {t n : Nat} (ht : t < M.nt) (hn : n < M.ns) : 16 * t + n < 64 ∧ (16 * t + n) / 16 = t ∧ (16 * t + n) % 16 = n := by
  have := inv.ok.nt
  have := inv.ok.ns
  omega
theorem Mach.Inv.lt {M : Mach} (inv : M.Inv) {p : Nat} (h : (M.s p).full = true) : p < 64 := by
  obtain ⟨h1, h2⟩ := inv.mine p h
  have := inv.ok.nt
  have := inv.ok.ns
  omega
theorem Mach.Inv.bytes_of {M : Mach} (inv : M.Inv) {p : Nat} (h : (M.s p).frm ≠ -1) : (M.s p).bytes = [] := by
  cases hf : (M.s p).full with
  | false => rw [inv.bare p hf]; rfl
  | true => obtain ⟨_, _, _, _, _, _, _, _, hb⟩ := inv.down p hf h; exact hb
theorem Mach.Inv.bytes_empty {M : Mach} (inv : M.Inv) {p : Nat} (h : (M.s p).full = false) : (M.s p).bytes = [] := by rw [inv.bare p h]; rfl

/-- something that comes from a slot is laid into an empty one -/
theorem inv_lay {M : Mach} (inv : M.Inv) {t n : Nat} (ht : t < M.nt) (hn : n < M.ns) (he : (M.s (16 * t + n)).full = false) (hu : (M.s (16 * t + n)).uses ≤ 4095)
    {q : Nat} (hq : (M.s q).full = true) {a l m : Int} (h1 : (M.s q).first ≤ a) (h2 : a + l ≤ (M.s q).first + (M.s q).len) (h3 : 0 ≤ l) (h4 : 0 ≤ m ∧ m ≤ 7) :
    (M.set (16 * t + n) ((M.s (16 * t + n)).laid (q : Int) (M.s q).root a l m)).Inv := by
  obtain ⟨hp, hp1, hp2⟩ := place_lt inv ht hn
  obtain ⟨p, hpe⟩ : ∃ p, p = 16 * t + n := ⟨_, rfl⟩
  rw [← hpe] at he hu hp hp1 hp2 ⊢
  have hq64 := inv.lt hq
  have hne : ∀ r, (M.s r).full = true → r ≠ p := fun r hr e => by rw [e, he] at hr; cases hr
  have hb := inv.bytes_empty he
  obtain ⟨rk, hrk⟩ := inv.rank
  refine { ok := ⟨inv.ok.nt, inv.ok.ns, inv.ok.nc, fun r => ?_, fun r => ?_⟩, nt1 := inv.nt1, ns1 := inv.ns1, nc1 := inv.nc1, mine := fun r h => ?_, used := fun r h => ?_, bare := fun r h => ?_, root := fun r h hf => ?_, down := fun r h hf => ?_, top := fun r h => ?_, rights := fun r => ?_, byte := fun r => ?_, rank := ⟨fun r => if r = p then rk q + 1 else rk r, fun r s h hf => ?_⟩ }
  all_goals rcases Mach.set_cases (M := M) (p := p) (x := (M.s p).laid (q : Int) (M.s q).root a l m) r with ⟨e, hs⟩ | ⟨e, hs⟩
  · rw [hs]; show (M.s p).uses + 1 ≤ 4096; omega
  · rw [hs]; exact inv.ok.uses r
  · rw [hs]; show (M.s p).bytes.length ≤ 256; rw [hb]; simp
  · rw [hs]; exact inv.ok.bytes r
  · subst e; exact ⟨by rw [hp1]; exact ht, by rw [hp2]; exact hn⟩
  · rw [hs] at h; exact inv.mine r h
  · rw [hs]; show 1 ≤ (M.s p).uses + 1; omega
  · rw [hs] at h ⊢; exact inv.used r h
  · rw [hs] at h; cases h
  · rw [hs] at h ⊢; exact inv.bare r h
  · rw [hs] at hf
    have : (q : Int) = -1 := hf
    omega
  · rw [hs] at h hf ⊢; exact inv.root r h hf
  · refine ⟨q, by rw [hs]; rfl, hq64, ?_⟩
    rw [Mach.set_other _ _ (hne q hq), hs]
    exact ⟨hq, rfl, h1, h2, h3, hb⟩
  · rw [hs] at h hf
    obtain ⟨s, g1, g2, g3, g4⟩ := inv.down r h hf
    refine ⟨s, by rw [hs]; exact g1, g2, ?_⟩
    rw [Mach.set_other _ _ (hne s g3), hs]
    exact ⟨g3, g4⟩
  · obtain ⟨s, g1, g2, g3, g4, g5, g6, g7⟩ := inv.top q hq
    refine ⟨s, by rw [hs]; exact g1, g2, ?_⟩
    rw [Mach.set_other _ _ (hne s g3), hs]
    refine ⟨g3, g4, ?_, h3, ?_⟩
    · show 0 ≤ a; omega
    · show a + l ≤ _; omega
  · rw [hs] at h
    obtain ⟨s, g1, g2, g3, g4⟩ := inv.top r h
    refine ⟨s, by rw [hs]; exact g1, g2, ?_⟩
    rw [Mach.set_other _ _ (hne s g3), hs]
    exact ⟨g3, g4⟩
  · rw [hs]; exact h4
  · rw [hs]; exact inv.rights r
  · rw [hs]; show ∀ b ∈ (M.s p).bytes, _; rw [hb]; intro b hb2; cases hb2
  · rw [hs]; exact inv.byte r
  · rw [hs] at hf
    have hf : (q : Int) = (s : Int) := hf
    obtain rfl : q = s := by omega
    show (if q = p then rk q + 1 else rk q) < (if r = p then rk q + 1 else rk r)
    rw [if_pos e, if_neg (hne q hq)]
    omega
  · rw [hs] at h hf
    show (if s = p then rk q + 1 else rk s) < (if r = p then rk q + 1 else rk r)
    have hs1 : (M.s r).frm ≠ -1 := by rw [hf]; omega
    obtain ⟨s2, g1, g2, g3, _⟩ := inv.down r h hs1
    have : s2 = s := by rw [hf] at g1; omega
    subst this
    rw [if_neg e, if_neg (hne s2 g3)]
    exact hrk r s2 h hf

/-- a root is laid into an empty slot -/
theorem inv_alloc {M : Mach} (inv : M.Inv) {t n : Nat} (ht : t < M.nt) (hn : n < M.ns) (he : (M.s (16 * t + n)).full = false) (hu : (M.s (16 * t + n)).uses ≤ 4095) {l : Int} (hl : 1 ≤ l ∧ l ≤ 256) :
    (M.set (16 * t + n) (HSlot.new (M.s (16 * t + n)).uses (16 * t + n) l)).Inv := by
  obtain ⟨hp, hp1, hp2⟩ := place_lt inv ht hn
  obtain ⟨p, hpe⟩ : ∃ p, p = 16 * t + n := ⟨_, rfl⟩
  rw [← hpe] at he hu hp hp1 hp2 ⊢
  have hne : ∀ r, (M.s r).full = true → r ≠ p := fun r hr e => by rw [e, he] at hr; cases hr
  have hlen : (List.replicate l.toNat (0 : Int)).length = l.toNat := List.length_replicate
  obtain ⟨rk, hrk⟩ := inv.rank
  refine { ok := ⟨inv.ok.nt, inv.ok.ns, inv.ok.nc, fun r => ?_, fun r => ?_⟩, nt1 := inv.nt1, ns1 := inv.ns1, nc1 := inv.nc1, mine := fun r h => ?_, used := fun r h => ?_, bare := fun r h => ?_, root := fun r h hf => ?_, down := fun r h hf => ?_, top := fun r h => ?_, rights := fun r => ?_, byte := fun r => ?_, rank := ⟨rk, fun r s h hf => ?_⟩ }
  all_goals rcases Mach.set_cases (M := M) (p := p) (x := HSlot.new (M.s p).uses p l) r with ⟨e, hs⟩ | ⟨e, hs⟩
  · rw [hs]; show (M.s p).uses + 1 ≤ 4096; omega
  · rw [hs]; exact inv.ok.uses r
  · rw [hs]; show (List.replicate l.toNat (0 : Int)).length ≤ 256; rw [hlen]; omega
  · rw [hs]; exact inv.ok.bytes r
  · subst e; exact ⟨by rw [hp1]; exact ht, by rw [hp2]; exact hn⟩
  · rw [hs] at h; exact inv.mine r h
  · rw [hs]; show 1 ≤ (M.s p).uses + 1; omega
  · rw [hs] at h ⊢; exact inv.used r h
  · rw [hs] at h; cases h
  · rw [hs] at h ⊢; exact inv.bare r h
  · rw [hs, e]
    refine ⟨rfl, rfl, hl.1, ?_, rfl⟩
    show l = ((List.replicate l.toNat (0 : Int)).length : Int)
    rw [hlen]
    omega
  · rw [hs] at h hf ⊢; exact inv.root r h hf
  · rw [hs] at hf; exact absurd rfl hf
  · rw [hs] at h hf
    obtain ⟨s, g1, g2, g3, g4⟩ := inv.down r h hf
    refine ⟨s, by rw [hs]; exact g1, g2, ?_⟩
    rw [Mach.set_other _ _ (hne s g3), hs]
    exact ⟨g3, g4⟩
  · refine ⟨p, by rw [hs]; rfl, hp, ?_⟩
    rw [Mach.set_same, hs]
    refine ⟨rfl, rfl, Int.le_refl _, ?_, ?_⟩
    · show 0 ≤ l; omega
    · show 0 + l ≤ ((List.replicate l.toNat (0 : Int)).length : Int)
      rw [hlen]
      omega
  · rw [hs] at h
    obtain ⟨s, g1, g2, g3, g4⟩ := inv.top r h
    refine ⟨s, by rw [hs]; exact g1, g2, ?_⟩
    rw [Mach.set_other _ _ (hne s g3), hs]
    exact ⟨g3, g4⟩
  · rw [hs]; show (0 : Int) ≤ 7 ∧ (7 : Int) ≤ 7; omega
  · rw [hs]; exact inv.rights r
  · rw [hs]
    intro b hb
    have : b = 0 := (List.mem_replicate.1 hb).2
    omega
  · rw [hs]; exact inv.byte r
  · rw [hs] at hf
    have hf : (-1 : Int) = (s : Int) := hf
    omega
  · rw [hs] at h hf
    exact hrk r s h hf

/-- slots are emptied with all below them -/
theorem inv_gone {M M' : Mach} {D : Nat → Prop} (inv : M.Inv) (h : Gone D M M') (hD : ∀ x y : Nat, (M.s x).full = true → (M.s x).frm = (y : Int) → D y → D x) (hR : ∀ x r : Nat, (M.s x).full = true → (M.s x).root = (r : Int) → D r → D x) : M'.Inv := by
  have full : ∀ x, (M'.s x).full = true → ¬ D x ∧ M'.s x = M.s x := fun x hx => by
    by_cases hd : D x
    · rw [h.out x hd] at hx; cases hx
    · exact ⟨hd, h.same x hd⟩
  obtain ⟨rk, hrk⟩ := inv.rank
  refine { ok := h.ok inv.ok, nt1 := h.nt ▸ inv.nt1, ns1 := h.ns ▸ inv.ns1, nc1 := h.nc ▸ inv.nc1, mine := fun r hf => ?_, used := fun r hf => ?_, bare := fun r hf => ?_, root := fun r hf h1 => ?_, down := fun r hf h1 => ?_, top := fun r hf => ?_, rights := fun r => ?_, byte := fun r => ?_, rank := ⟨rk, fun r s hf h1 => ?_⟩ }
  · obtain ⟨_, e⟩ := full r hf
    rw [e] at hf
    rw [h.nt, h.ns]
    exact inv.mine r hf
  · obtain ⟨_, e⟩ := full r hf
    rw [e] at hf ⊢
    exact inv.used r hf
  · by_cases hd : D r
    · rw [h.out r hd]; rfl
    · rw [h.same r hd] at hf ⊢; exact inv.bare r hf
  · obtain ⟨_, e⟩ := full r hf
    rw [e] at hf h1 ⊢
    exact inv.root r hf h1
  · obtain ⟨hd, e⟩ := full r hf
    rw [e] at hf h1 ⊢
    obtain ⟨s, g1, g2, g3, g4⟩ := inv.down r hf h1
    have hs : ¬ D s := fun hs => hd (hD r s hf g1 hs)
    exact ⟨s, g1, g2, by rw [h.same s hs]; exact ⟨g3, g4⟩⟩
  · obtain ⟨hd, e⟩ := full r hf
    rw [e] at hf ⊢
    obtain ⟨s, g1, g2, g3, g4⟩ := inv.top r hf
    have hs : ¬ D s := fun hs => hd (hR r s hf g1 hs)
    exact ⟨s, g1, g2, by rw [h.same s hs]; exact ⟨g3, g4⟩⟩
  · by_cases hd : D r
    · rw [h.out r hd]; simp [HSlot.none]
    · rw [h.same r hd]; exact inv.rights r
  · by_cases hd : D r
    · rw [h.out r hd]; intro b hb; cases hb
    · rw [h.same r hd]; exact inv.byte r
  · obtain ⟨_, e⟩ := full r hf
    rw [e] at hf h1
    exact hrk r s hf h1

/-- what has a slot for its root is that slot, or below it -/
theorem Mach.Inv.root_under {M : Mach} (inv : M.Inv) {x r : Nat} (hx : (M.s x).full = true) (hr : (M.s x).root = (r : Int)) : x = r ∨ Under M r x := by
  obtain ⟨rk, hrk⟩ := inv.rank
  have : ∀ n x : Nat, rk x ≤ n → (M.s x).full = true → (M.s x).root = (r : Int) → x = r ∨ Under M r x := by
    intro n
    induction n with
    | zero =>
      intro x hn hx hr
      by_cases hf : (M.s x).frm = -1
      · obtain ⟨h1, _⟩ := inv.root x hx hf
        left
        rw [h1] at hr
        omega
      · obtain ⟨q, g1, g2, g3, g4, _⟩ := inv.down x hx hf
        have := hrk x q hx g1
        omega
    | succ n ih =>
      intro x hn hx hr
      by_cases hf : (M.s x).frm = -1
      · obtain ⟨h1, _⟩ := inv.root x hx hf
        left
        rw [h1] at hr
        omega
      · obtain ⟨q, g1, g2, g3, g4, _⟩ := inv.down x hx hf
        have h5 := hrk x q hx g1
        rcases ih q (by omega) g3 (g4 ▸ hr) with e | e
        · subst e; exact Or.inr (.child (inv.lt hx) hx g1)
        · exact Or.inr (.deep (inv.lt hx) hx g1 e)
  exact this (rk x) x (Nat.le_refl _) hx hr
theorem Under.not_root {M : Mach} {p x : Nat} (h : Under M p x) : (M.s x).frm ≠ -1 := by
  cases h with
  | child _ _ hp => rw [hp]; omega
  | deep _ _ hp _ => rw [hp]; omega
theorem Under.not_self {M : Mach} (inv : M.Inv) {p : Nat} (h : Under M p p) : False := by
  obtain ⟨rk, hrk⟩ := inv.rank
  have : ∀ {p x : Nat}, Under M p x → rk p < rk x := by
    intro p x h
    induction h with
    | child hx hf hp => exact hrk _ _ hf hp
    | deep hx hf hp _ ih => exact Nat.lt_trans ih (hrk _ _ hf hp)
  exact Nat.lt_irrefl _ (this h)

theorem inv_below {M M' : Mach} {p : Nat} (inv : M.Inv) (h : Gone (Under M p) M M') : M'.Inv := by
  refine inv_gone inv h (fun x y hx hf hy => .deep (inv.lt hx) hx hf hy) (fun x r hx hr hu => ?_)
  obtain ⟨r2, g1, _, _, g4, _⟩ := inv.top x hx
  have : r2 = r := by rw [hr] at g1; omega
  subst this
  exact absurd g4 hu.not_root
theorem inv_left {M M' : Mach} {p : Nat} (inv : M.Inv) (h : Gone (fun x => x = p ∨ Under M p x) M M') : M'.Inv := by
  refine inv_gone inv h (fun x y hx hf hy => ?_) (fun x r hx hr hu => ?_)
  · rcases hy with rfl | hy
    · exact Or.inr (.child (inv.lt hx) hx hf)
    · exact Or.inr (.deep (inv.lt hx) hx hf hy)
  · rcases hu with rfl | hu
    · exact inv.root_under hx hr
    · obtain ⟨r2, g1, _, _, g4, _⟩ := inv.top x hx
      have : r2 = r := by rw [hr] at g1; omega
      subst this
      exact absurd g4 hu.not_root

/-- bytes of an object are turned -/
theorem inv_turn {M : Mach} (inv : M.Inv) {r : Nat} {bs : List Int} (hlen : bs.length = (M.s r).bytes.length) (hb : ∀ b ∈ bs, 0 ≤ b ∧ b ≤ 255) : (M.set r ((M.s r).withBytes bs)).Inv := by
  have same : ∀ q, (M.set r ((M.s r).withBytes bs)).s q = (M.s q).withBytes (if q = r then bs else (M.s q).bytes) := fun q => by
    rcases Mach.set_cases (M := M) (p := r) (x := (M.s r).withBytes bs) q with ⟨e, hs⟩ | ⟨e, hs⟩
    · rw [hs, if_pos e, e]
    · rw [hs, if_neg e]; rfl
  have len : ∀ q, ((M.set r ((M.s r).withBytes bs)).s q).bytes.length = (M.s q).bytes.length := fun q => by
    rw [same]
    show (if q = r then bs else (M.s q).bytes).length = _
    by_cases e : q = r
    · rw [if_pos e, e]; exact hlen
    · rw [if_neg e]
  refine { ok := ⟨inv.ok.nt, inv.ok.ns, inv.ok.nc, fun q => ?_, fun q => ?_⟩, nt1 := inv.nt1, ns1 := inv.ns1, nc1 := inv.nc1, mine := fun q h => ?_, used := fun q h => ?_, bare := fun q h => ?_, root := fun q h hf => ?_, down := fun q h hf => ?_, top := fun q h => ?_, rights := fun q => ?_, byte := fun q => ?_, rank := ?_ }
  · rw [same]; exact inv.ok.uses q
  · rw [len]; exact inv.ok.bytes q
  · rw [same] at h; exact inv.mine q h
  · rw [same] at h ⊢; exact inv.used q h
  · rw [same] at h ⊢
    have h : (M.s q).full = false := h
    have hb2 := inv.bytes_empty h
    have e2 : (if q = r then bs else (M.s q).bytes) = [] := by
      by_cases e : q = r
      · subst e
        rw [if_pos rfl]
        rw [hb2] at hlen
        exact List.eq_nil_of_length_eq_zero hlen
      · rw [if_neg e]; exact hb2
    rw [e2]
    have := inv.bare q h
    rw [this]
    rfl
  · have h0 : (M.s q).full = true := by rw [same] at h; exact h
    have h1 : (M.s q).frm = -1 := by rw [same] at hf; exact hf
    obtain ⟨g1, g2, g3, g4, g5⟩ := inv.root q h0 h1
    rw [len]
    rw [same]
    exact ⟨g1, g2, g3, g4, g5⟩
  · have h0 : (M.s q).full = true := by rw [same] at h; exact h
    have h1 : (M.s q).frm ≠ -1 := by rw [same] at hf; exact hf
    obtain ⟨s, g1, g2, g3, g4, g5, g6, g7, g8⟩ := inv.down q h0 h1
    refine ⟨s, ?_⟩
    rw [same q, same s]
    refine ⟨g1, g2, g3, g4, g5, g6, g7, ?_⟩
    show (if q = r then bs else (M.s q).bytes) = []
    by_cases e : q = r
    · subst e
      rw [if_pos rfl]
      rw [g8] at hlen
      exact List.eq_nil_of_length_eq_zero hlen
    · rw [if_neg e]; exact g8
  · have h0 : (M.s q).full = true := by rw [same] at h; exact h
    obtain ⟨s, g1, g2, g3, g4, g5, g6, g7⟩ := inv.top q h0
    refine ⟨s, ?_⟩
    rw [len s, same q, same s]
    exact ⟨g1, g2, g3, g4, g5, g6, g7⟩
  · rw [same]; exact inv.rights q
  · rw [same]
    show ∀ b ∈ (if q = r then bs else (M.s q).bytes), _
    by_cases e : q = r
    · rw [if_pos e]; exact hb
    · rw [if_neg e]; exact inv.byte q
  · obtain ⟨rk, hrk⟩ := inv.rank
    refine ⟨rk, fun p q h hf => ?_⟩
    rw [same] at h hf
    exact hrk p q h hf
theorem spl_byte {bs : List Int} (h : ∀ b ∈ bs, 0 ≤ b ∧ b ≤ 255) (a : Nat) (d : ByteArray) (k : Nat) : ∀ b ∈ spl bs a d k, 0 ≤ b ∧ b ≤ 255 := by
  induction k with
  | zero => exact h
  | succ k ih =>
    intro b hb
    rcases List.mem_or_eq_of_mem_set hb with hb | hb
    · exact ih b hb
    · rw [hb]; exact byt_bd d k

/- SimBase -/

/-- the place of the slot into which a thing was laid -/
def plc (x : RThing) : Nat := 16 * x.tenant.toNat + x.slot.toNat

/-- what a living thing says is what lies in its slot -/
structure Mate (R : RH) (M : Mach) (i : Nat) : Prop where
  full : (M.s (plc (R.T i))).full = true
  handle : (R.T i).handle = M.handle (plc (R.T i))
  first : (R.T i).first = (M.s (plc (R.T i))).first
  size : (R.T i).size = (M.s (plc (R.T i))).len
  rights : (R.T i).rights = (M.s (plc (R.T i))).rights
  frm : ((R.T i).frm = -1 ∧ (M.s (plc (R.T i))).frm = -1) ∨ ∃ j, j < R.nT ∧ (R.T i).frm = (j : Int) ∧ (R.T j).dead = false ∧ (M.s (plc (R.T i))).frm = (plc (R.T j) : Int)
  root : ∃ j, j < R.nT ∧ (R.T j).dead = false ∧ (R.T j).frm = -1 ∧ (R.T j).obj = (R.T i).obj ∧ (M.s (plc (R.T i))).root = (plc (R.T j) : Int)
  obj : (R.O (R.T i).obj.toNat).gone = false
  bytes : (R.T i).frm = -1 → (M.s (plc (R.T i))).bytes = (R.O (R.T i).obj.toNat).bytes ∧ (R.O (R.T i).obj.toNat).owner = (R.T i).tenant

structure Sim (R : RH) (M : Mach) : Prop where
  nt : R.nt = M.nt
  ns : R.ns = M.ns
  nc : R.nc = M.nc
  inv : M.Inv
  rinv : R.Inv
  spot : ∀ i, i < R.nT → ∃ t s : Nat, (R.T i).tenant = (t : Int) ∧ (R.T i).slot = (s : Int) ∧ t < M.nt ∧ s < M.ns
  uses : ∀ p, p < 64 → (M.s p).uses = sumN (fun i => if plc (R.T i) = p then 1 else 0) R.nT
  mate : ∀ i, i < R.nT → (R.T i).dead = false → Mate R M i
  full : ∀ p, (M.s p).full = true → ∃ i, i < R.nT ∧ (R.T i).dead = false ∧ plc (R.T i) = p
  uniq : ∀ i j, i < R.nT → j < R.nT → (R.T i).dead = false → (R.T j).dead = false → plc (R.T i) = plc (R.T j) → i = j
  one : ∀ i j, i < R.nT → j < R.nT → (R.T i).dead = false → (R.T j).dead = false → (R.T i).frm = -1 → (R.T j).frm = -1 → (R.T i).obj = (R.T j).obj → i = j
  chunks : ∀ t : Nat, t < M.nt → M.taken t = R.chunks (t : Int)
  tot : R.nT = sumN (fun p => (M.s p).uses) 64
  nO : R.nO ≤ R.nT

theorem sumN_zero {f : Nat → Nat} {n : Nat} (h : ∀ k, k < n → f k = 0) : sumN f n = 0 := by
  induction n with
  | zero => rfl
  | succ n ih => simp [sumN, ih (fun k hk => h k (by omega)), h n (by omega)]
theorem sumN_single {f : Nat → Nat} {n i : Nat} (hi : i < n) (h1 : f i = 1) (h : ∀ k, k < n → k ≠ i → f k = 0) : sumN f n = 1 := by
  have := sumN_upd (f := fun _ => 0) (g := f) n hi (fun k hk hne => h k hk hne)
  rw [sumN_zero (f := fun _ => 0) (fun _ _ => rfl), h1] at this
  omega
theorem sumN_add (f g : Nat → Nat) (n : Nat) : sumN (fun k => f k + g k) n = sumN f n + sumN g n := by
  induction n with
  | zero => rfl
  | succ n ih => simp only [sumN, ih]; omega
theorem sumN_swap (f : Nat → Nat → Nat) (n m : Nat) : sumN (fun i => sumN (fun s => f i s) m) n = sumN (fun s => sumN (fun i => f i s) n) m := by
  induction n with
  | zero => simp only [sumN]; exact (sumN_zero (fun _ _ => rfl)).symm
  | succ n ih =>
    simp only [sumN]
    rw [ih, ← sumN_add]
theorem firstN_congr {f g : Nat → Bool} {n : Nat} (h : ∀ k, k < n → f k = g k) : firstN f n = firstN g n := by
  induction n with
  | zero => rfl
  | succ n ih => simp [firstN, ih (fun k hk => h k (by omega)), h n (by omega)]

theorem Sim.place {R : RH} {M : Mach} (S : Sim R M) {i : Nat} (hi : i < R.nT) : ∃ t s : Nat, (R.T i).tenant = (t : Int) ∧ (R.T i).slot = (s : Int) ∧ t < M.nt ∧ s < M.ns ∧ plc (R.T i) = 16 * t + s ∧ t < 4 ∧ s < 16 ∧ plc (R.T i) < 64 := by
  obtain ⟨t, s, h1, h2, h3, h4⟩ := S.spot i hi
  have := S.inv.ok.nt
  have := S.inv.ok.ns
  have e : plc (R.T i) = 16 * t + s := by unfold plc; rw [h1, h2]; rfl
  exact ⟨t, s, h1, h2, h3, h4, e, by omega, by omega, by omega⟩
theorem Sim.here {R : RH} {M : Mach} (S : Sim R M) {i t s : Nat} (hi : i < R.nT) (hs : s < 16) : (R.T i).here (t : Int) (s : Int) = decide (plc (R.T i) = 16 * t + s) := by
  obtain ⟨a, b, h1, h2, _, _, h3, _, h4, _⟩ := S.place hi
  unfold RThing.here
  rw [h1, h2, h3]
  by_cases e : a = t ∧ b = s
  · obtain ⟨rfl, rfl⟩ := e; simp
  · have e1 : ¬ (16 * a + b = 16 * t + s) := by omega
    rw [decide_eq_false e1]
    simp
    omega
theorem Sim.count {R : RH} {M : Mach} (S : Sim R M) {t s : Nat} (ht : t < 4) (hs : s < 16) : R.count (t : Int) (s : Int) = (M.s (16 * t + s)).uses := by
  rw [S.uses _ (by omega)]
  unfold RH.count
  refine sumN_congr _ (fun i hi => ?_)
  rw [S.here hi hs]
  simp
theorem Sim.holds {R : RH} {M : Mach} (S : Sim R M) {t s : Nat} (hs : s < 16) : R.holds (t : Int) (s : Int) = (M.s (16 * t + s)).full := by
  unfold RH.holds
  cases hf : (M.s (16 * t + s)).full with
  | true =>
    obtain ⟨i, h1, h2, h3⟩ := S.full _ hf
    refine anyN_true.2 ⟨i, h1, ?_⟩
    rw [S.here h1 hs, h3, h2]
    simp
  | false =>
    refine anyN_false.2 (fun i hi => ?_)
    rw [S.here hi hs]
    cases hd : (R.T i).dead with
    | true => simp
    | false =>
      have := (S.mate i hi hd).full
      have : plc (R.T i) ≠ 16 * t + s := fun e => by rw [e, hf] at this; cases this
      simp [this]
theorem Sim.next {R : RH} {M : Mach} (S : Sim R M) {t : Nat} (ht : t < M.nt) : R.next (t : Int) = M.next t := by
  have h1 := S.inv.ok.nt
  have h2 := S.inv.ok.ns
  unfold RH.next Mach.next
  rw [S.ns]
  refine firstN_congr (fun s hs => ?_)
  rw [S.holds (by omega), S.count (by omega) (by omega)]
theorem Sim.live {R : RH} {M : Mach} (S : Sim R M) {t : Nat} (ht : t < M.nt) : R.live (t : Int) = M.used t := by
  have h1 := S.inv.ok.nt
  have h2 := S.inv.ok.ns
  have a : R.live (t : Int) = sumN (fun i => sumN (fun s => if plc (R.T i) = 16 * t + s ∧ (R.T i).dead = false then 1 else 0) M.ns) R.nT := by
    unfold RH.live
    refine sumN_congr _ (fun i hi => ?_)
    obtain ⟨a, b, e1, e2, e3, e4, e5, _⟩ := S.place hi
    by_cases hc : a = t ∧ (R.T i).dead = false
    · obtain ⟨rfl, hd⟩ := hc
      rw [sumN_single (i := b) e4 (by rw [e5, hd]; simp) (fun k _ hne => by rw [e5]; simp; omega), e1, hd]
      simp
    · rw [sumN_zero (fun k hk => by rw [e5]; simp only [ite_eq_right_iff]; rintro ⟨h3, h4⟩; exact absurd ⟨by omega, h4⟩ hc), e1]
      simp only [Bool.and_eq_true, ite_eq_right_iff]
      rintro ⟨h3, h4⟩
      refine absurd ⟨?_, by simpa using h4⟩ hc
      have : (a : Int) = (t : Int) := by simpa using h3
      omega
  rw [a, sumN_swap]
  unfold Mach.used
  refine sumN_congr _ (fun s hs => ?_)
  cases hf : (M.s (16 * t + s)).full with
  | true =>
    obtain ⟨i, g1, g2, g3⟩ := S.full _ hf
    rw [sumN_single (i := i) g1 (by rw [g3, g2]; simp) (fun k hk hne => by
      simp only [ite_eq_right_iff]
      rintro ⟨h3, h4⟩
      exact absurd (S.uniq k i hk g1 h4 g2 (h3.trans g3.symm)) hne)]
    rfl
  | false =>
    rw [sumN_zero (fun k hk => by
      simp only [ite_eq_right_iff]
      rintro ⟨h3, h4⟩
      have := (S.mate k hk h4).full
      rw [h3, hf] at this
      cases this)]
    rfl

theorem Sim.handle_slot {R : RH} {M : Mach} (S : Sim R M) {i : Nat} (hi : i < R.nT) (hd : (R.T i).dead = false) : ∃ t s : Nat, (R.T i).tenant = (t : Int) ∧ plc (R.T i) = 16 * t + s ∧ t < M.nt ∧ s < M.ns ∧ (R.T i).handle % 16 = (s : Int) := by
  obtain ⟨a, b, e1, e2, e3, e4, e5, _, e6, _⟩ := S.place hi
  refine ⟨a, b, e1, e5, e3, e4, ?_⟩
  rw [(S.mate i hi hd).handle, e5]
  unfold Mach.handle
  omega
theorem Sim.find_some {R : RH} {M : Mach} (S : Sim R M) {t n : Nat} {h : Int} (hf : M.find t h = some n) : ∃ i, R.held (t : Int) h = some i ∧ i < R.nT ∧ (R.T i).dead = false ∧ plc (R.T i) = 16 * t + n ∧ n < M.ns := by
  rcases firstN_spec (fun n => (M.s (16 * t + n)).full && M.handle (16 * t + n) == h) M.ns with ⟨h1, _⟩ | ⟨k, h1, h2, h3, _⟩
  · rw [show M.find t h = none from h1] at hf; cases hf
  · rw [show M.find t h = some k from h1] at hf
    injection hf with e
    subst e
    simp only [Bool.and_eq_true, beq_iff_eq] at h3
    obtain ⟨i, g1, g2, g3⟩ := S.full _ h3.1
    have hh := (S.mate i g1 g2).handle
    obtain ⟨a, b, e1, e2, e3, e4, e5⟩ := S.handle_slot g1 g2
    have := S.inv.ok.ns
    have hab : a = t ∧ b = k := by omega
    refine ⟨i, ?_, g1, g2, g3, h2⟩
    have hi : ((R.T i).tenant == (t : Int) && (R.T i).handle == h && !(R.T i).dead) = true := by
      rw [e1, hab.1, hh, g3, h3.2, g2]; simp
    rcases firstN_spec (fun i => (R.T i).tenant == (t : Int) && (R.T i).handle == h && !(R.T i).dead) R.nT with ⟨_, k2⟩ | ⟨j, k1, k2, k3, k4⟩
    · rw [k2 i g1] at hi; cases hi
    · simp only [Bool.and_eq_true, beq_iff_eq, Bool.not_eq_true'] at k3
      obtain ⟨a2, b2, f1, f2, f3, f4, f5⟩ := S.handle_slot k2 k3.2
      have : j = i := S.uniq j i k2 g1 k3.2 g2 (by
        rw [g3, f2]
        have q1 : (a2 : Int) = (t : Int) := by rw [← f1]; exact k3.1.1
        have q2 : (R.T i).handle = h := by rw [hh, g3]; exact h3.2
        rw [k3.1.2] at f5
        rw [q2] at e5
        omega)
      rw [← this]
      exact k1
theorem Sim.find_none {R : RH} {M : Mach} (S : Sim R M) {t : Nat} {h : Int} (hf : M.find t h = none) : R.held (t : Int) h = none := by
  rcases firstN_spec (fun n => (M.s (16 * t + n)).full && M.handle (16 * t + n) == h) M.ns with ⟨h1, h2⟩ | ⟨k, h1, _⟩
  · refine firstN_none (fun i hi => ?_)
    cases hd : (R.T i).dead with
    | true => simp
    | false =>
      obtain ⟨a, b, e1, e2, e3, e4, e5⟩ := S.handle_slot hi hd
      have m := S.mate i hi hd
      have := h2 b e4
      by_cases ht : a = t
      · subst ht
        have hh := m.handle
        have hfu := m.full
        rw [e2] at hh hfu
        rw [hfu] at this
        simp only [Bool.true_and, beq_eq_false_iff_ne] at this
        rw [hh]
        simp [this]
      · rw [e1]
        have : ((a : Int) == (t : Int)) = false := by simp; omega
        rw [this]
        rfl
  · rw [show M.find t h = some k from h1] at hf; cases hf

/- SimLaid -/

theorem sim_push {R : RH} {M : Mach} (S : Sim R M) {t n : Nat} (ht : t < M.nt) (hn : n < M.ns) (he : (M.s (16 * t + n)).full = false) (x : RThing)
    (x1 : x.tenant = (t : Int)) (x2 : x.slot = (n : Int)) (x4 : x.dead = false)
    (R' : RH) (r1 : R'.nt = R.nt) (r2 : R'.ns = R.ns) (r3 : R'.nc = R.nc) (r4 : R'.nT = R.nT + 1) (r5 : R'.T = fun i => if i = R.nT then x else R.T i) (r7 : ∀ k, k < R.nO → R'.O k = R.O k)
    (rinv : R'.Inv) (y : HSlot) (y1 : y.uses = (M.s (16 * t + n)).uses + 1) (inv : (M.set (16 * t + n) y).Inv)
    (mate : Mate R' (M.set (16 * t + n) y) R.nT) (one : x.frm = -1 → ∀ i, i < R.nT → (R.T i).dead = false → (R.T i).frm = -1 → (R.T i).obj ≠ x.obj)
    (chunks : ∀ u : Nat, u < M.nt → (M.set (16 * t + n) y).taken u = R'.chunks (u : Int)) (nO : R'.nO ≤ R.nT + 1) : Sim R' (M.set (16 * t + n) y) := by
  obtain ⟨hp, hp1, hp2⟩ := place_lt S.inv ht hn
  obtain ⟨p, hpe⟩ : ∃ p, p = 16 * t + n := ⟨_, rfl⟩
  have hpx : plc x = p := by unfold plc; rw [x1, x2, hpe]; rfl
  rw [← hpe] at he y1 inv mate chunks hp hp1 hp2 ⊢
  have old : ∀ i, i < R.nT → R'.T i = R.T i := fun i hi => by rw [r5]; exact if_neg (by omega)
  have new : R'.T R.nT = x := by rw [r5]; exact if_pos rfl
  have lt : ∀ i, i < R'.nT → i < R.nT ∨ i = R.nT := fun i hi => by omega
  have ne : ∀ i, i < R.nT → (R.T i).dead = false → plc (R.T i) ≠ p := fun i hi hd e => by
    have := (S.mate i hi hd).full
    rw [e, he] at this
    cases this
  have slot : ∀ q, q ≠ p → (M.set p y).s q = M.s q := fun q hq => Mach.set_other _ _ hq
  refine { nt := r1.trans S.nt, ns := r2.trans S.ns, nc := r3.trans S.nc, inv := inv, rinv := rinv, spot := fun i hi => ?_, uses := fun q hq => ?_, mate := fun i hi hd => ?_, full := fun q hq => ?_, uniq := fun i j hi hj hd hd2 e => ?_, one := fun i j hi hj hd hd2 hf hf2 e => ?_, chunks := chunks, tot := ?_, nO := by rw [r4]; exact nO }
  · rcases lt i hi with h | h
    · rw [old i h]; exact S.spot i h
    · rw [h, new]; exact ⟨t, n, x1, x2, ht, hn⟩
  · rw [r4]
    simp only [sumN]
    have : sumN (fun i => if plc (R'.T i) = q then 1 else 0) R.nT = sumN (fun i => if plc (R.T i) = q then 1 else 0) R.nT := sumN_congr _ (fun i hi => by rw [old i hi])
    rw [this, ← S.uses q hq, new, hpx]
    by_cases e : q = p
    · subst e; rw [Mach.set_same, y1]; simp
    · rw [slot q e, if_neg (fun e2 => e e2.symm)]; rfl
  · rcases lt i hi with h | h
    · have hd' : (R.T i).dead = false := by rw [old i h] at hd; exact hd
      have m := S.mate i h hd'
      have hne := ne i h hd'
      obtain ⟨k, hk, hkl⟩ := S.rinv.obj i h
      have hO : R'.O (R.T i).obj.toNat = R.O (R.T i).obj.toNat := r7 _ (by rw [hk]; exact hkl)
      refine ⟨?_, ?_, ?_, ?_, ?_, ?_, ?_, ?_, ?_⟩ <;> rw [old i h]
      · rw [slot _ hne]; exact m.full
      · unfold Mach.handle; rw [slot _ hne]; exact m.handle
      · rw [slot _ hne]; exact m.first
      · rw [slot _ hne]; exact m.size
      · rw [slot _ hne]; exact m.rights
      · rw [slot _ hne]
        rcases m.frm with h1 | ⟨j, j1, j2, j3, j4⟩
        · exact Or.inl h1
        · exact Or.inr ⟨j, by omega, j2, by rw [old j j1]; exact j3, by rw [old j j1]; exact j4⟩
      · rw [slot _ hne]
        obtain ⟨j, j1, j2, j3, j4, j5⟩ := m.root
        exact ⟨j, by omega, by rw [old j j1]; exact j2, by rw [old j j1]; exact j3, by rw [old j j1]; exact j4, by rw [old j j1]; exact j5⟩
      · rw [hO]; exact m.obj
      · rw [hO, slot _ hne]; exact m.bytes
    · rw [h]; exact mate
  · by_cases e : q = p
    · exact ⟨R.nT, by omega, by rw [new]; exact x4, by rw [new, hpx, e]⟩
    · rw [slot q e] at hq
      obtain ⟨i, h1, h2, h3⟩ := S.full q hq
      exact ⟨i, by omega, by rw [old i h1]; exact h2, by rw [old i h1]; exact h3⟩
  · rcases lt i hi with h | h <;> rcases lt j hj with h2 | h2
    · rw [old i h] at hd e; rw [old j h2] at hd2 e; exact S.uniq i j h h2 hd hd2 e
    · rw [old i h] at hd e; rw [h2, new, hpx] at e; exact absurd e (ne i h hd)
    · rw [old j h2] at hd2 e; rw [h, new, hpx] at e; exact absurd e.symm (ne j h2 hd2)
    · omega
  · rcases lt i hi with h | h <;> rcases lt j hj with h2 | h2
    · rw [old i h] at hd hf e; rw [old j h2] at hd2 hf2 e; exact S.one i j h h2 hd hd2 hf hf2 e
    · rw [old i h] at hd hf e; rw [h2, new] at e hf2; exact absurd e (one hf2 i h hd hf)
    · rw [old j h2] at hd2 hf2 e; rw [h, new] at e hf; exact absurd e.symm (one hf j h2 hd2 hf2)
    · omega
  · rw [r4]
    have := sumN_upd (f := fun q => (M.s q).uses) (g := fun q => ((M.set p y).s q).uses) 64 hp (fun k _ hne => by show ((M.set p y).s k).uses = _; rw [slot k hne])
    have e1 : ((M.set p y).s p).uses = (M.s p).uses + 1 := by rw [Mach.set_same]; exact y1
    have e2 : sumN (fun q => ((M.set p y).s q).uses) 64 + (M.s p).uses = sumN (fun q => (M.s q).uses) 64 + ((M.set p y).s p).uses := this
    rw [e1, ← S.tot] at e2
    omega

/-- the slots that a house has room for: not all things were laid -/
theorem Sim.room {R : RH} {M : Mach} (S : Sim R M) {p : Nat} (hp : p < 64) (hu : (M.s p).uses ≤ 4095) : R.nT < 262144 := by
  rw [S.tot]
  have h1 := sumN_upd (f := fun q => (M.s q).uses) (g := fun q => if q = p then 4096 else (M.s q).uses) 64 hp (fun k _ hne => by show (if k = p then 4096 else (M.s k).uses) = _; rw [if_neg hne])
  have h2 := sumN_le (f := fun q => if q = p then 4096 else (M.s q).uses) (c := 4096) 64 (fun k _ => by
    show (if k = p then 4096 else (M.s k).uses) ≤ 4096
    split
    · omega
    · exact S.inv.ok.uses k)
  have h3 : sumN (fun q => if q = p then 4096 else (M.s q).uses) 64 + (M.s p).uses = sumN (fun q => (M.s q).uses) 64 + (if p = p then 4096 else (M.s p).uses) := h1
  rw [if_pos rfl] at h3
  omega

theorem rinv_push {R : RH} (inv : R.Inv) (hT : R.nT < 262144) {x : RThing} (h1 : -1 ≤ x.frm ∧ x.frm < (R.nT : Int)) (h2 : ∃ k : Nat, x.obj = (k : Int) ∧ k < R.nO) (h3 : 0 ≤ x.first ∧ 0 ≤ x.size ∧ x.first + x.size ≤ ((R.O x.obj.toNat).bytes.length : Int)) (h4 : 0 ≤ x.rights ∧ x.rights ≤ 7) : (R.push x).Inv := by
  have old : ∀ i, i < R.nT → (R.push x).T i = R.T i := fun i hi => if_neg (by omega)
  have new : (R.push x).T R.nT = x := if_pos rfl
  have lt : ∀ i, i < R.nT + 1 → i < R.nT ∨ i = R.nT := fun i hi => by omega
  refine ⟨⟨inv.ok.nt, inv.ok.ns, inv.ok.nc, inv.ok.nO, hT, inv.ok.bytes⟩, fun i hi => ?_, fun i hi => ?_, fun i hi => ?_, fun i hi => ?_, inv.bytes⟩
  all_goals rcases lt i hi with h | h
  · rw [old i h]; exact inv.frm i h
  · rw [h, new]; exact h1
  · rw [old i h]; exact inv.obj i h
  · rw [h, new]; exact h2
  · rw [old i h]; exact inv.part i h
  · rw [h, new]; exact h3
  · rw [old i h]; exact inv.rights i h
  · rw [h, new]; exact h4

/-- something that comes from what thing i holds is laid into a tenant's next slot -/
theorem sim_down {R : RH} {M : Mach} (S : Sim R M) {t n i : Nat} (ht : t < M.nt) (hn : M.next t = some n) (hi : i < R.nT) (hd : (R.T i).dead = false) {a l m : Int}
    (h1 : (R.T i).first ≤ a) (h2 : a + l ≤ (R.T i).first + (R.T i).size) (h3 : 0 ≤ l) (h4 : 0 ≤ m ∧ m ≤ 7) :
    Sim (R.laid (t : Int) (i : Int) (R.T i).obj a l m) (M.set (16 * t + n) ((M.s (16 * t + n)).laid (plc (R.T i) : Int) (M.s (plc (R.T i))).root a l m)) ∧
      R.laidE (t : Int) = 0 ∧ R.laidS (t : Int) = twoW (16 * ((M.s (16 * t + n)).uses : Int) + (n : Int)) := by
  have hN : R.next (t : Int) = some n := (S.next ht).trans hn
  obtain ⟨hlt, hemp, huse⟩ : n < M.ns ∧ (M.s (16 * t + n)).full = false ∧ (M.s (16 * t + n)).uses ≤ 4095 := by
    rcases firstN_spec (fun n => !(M.s (16 * t + n)).full && decide ((M.s (16 * t + n)).uses ≤ 4095)) M.ns with ⟨h5, _⟩ | ⟨k, h5, h6, h7, _⟩
    · rw [show M.next t = none from h5] at hn; cases hn
    · rw [show M.next t = some k from h5] at hn
      injection hn with e
      subst e
      simp at h7
      exact ⟨h6, h7.1, h7.2⟩
  obtain ⟨hp, hp1, hp2⟩ := place_lt S.inv ht hlt
  have hct : R.count (t : Int) (n : Int) = (M.s (16 * t + n)).uses := S.count (by have := S.inv.ok.nt; omega) (by have := S.inv.ok.ns; omega)
  have eL : R.laid (t : Int) (i : Int) (R.T i).obj a l m = R.push ⟨(t : Int), (n : Int), 16 * ((M.s (16 * t + n)).uses : Int) + (n : Int), (i : Int), (R.T i).obj, a, l, m, false⟩ := by
    unfold RH.laid; rw [hN, ← hct]
  have eE : R.laidE (t : Int) = 0 := by unfold RH.laidE; rw [hN]
  have eS : R.laidS (t : Int) = twoW (16 * ((M.s (16 * t + n)).uses : Int) + (n : Int)) := by unfold RH.laidS; rw [hN, ← hct]
  refine ⟨?_, eE, eS⟩
  rw [eL]
  have mi := S.mate i hi hd
  obtain ⟨k, hk, hkl⟩ := S.rinv.obj i hi
  obtain ⟨p1, p2, p3⟩ := S.rinv.part i hi
  have inv' := inv_lay S.inv ht hlt hemp huse mi.full (a := a) (l := l) (m := m) (by rw [← mi.first]; exact h1) (by rw [← mi.first, ← mi.size]; exact h2) h3 h4
  have rinv' : (R.push ⟨(t : Int), (n : Int), 16 * ((M.s (16 * t + n)).uses : Int) + (n : Int), (i : Int), (R.T i).obj, a, l, m, false⟩).Inv :=
    rinv_push S.rinv (S.room hp huse) ⟨by show -1 ≤ (i : Int); omega, by show (i : Int) < _; omega⟩ ⟨k, hk, hkl⟩ ⟨by show 0 ≤ a; omega, h3, by show a + l ≤ ((R.O (R.T i).obj.toNat).bytes.length : Int); omega⟩ h4
  have hbe := S.inv.bytes_empty hemp
  have hne : plc (R.T i) ≠ 16 * t + n := fun e => by have := mi.full; rw [e, hemp] at this; cases this
  refine sim_push S ht hlt hemp ⟨(t : Int), (n : Int), 16 * ((M.s (16 * t + n)).uses : Int) + (n : Int), (i : Int), (R.T i).obj, a, l, m, false⟩ rfl rfl rfl (R.push ⟨(t : Int), (n : Int), 16 * ((M.s (16 * t + n)).uses : Int) + (n : Int), (i : Int), (R.T i).obj, a, l, m, false⟩) rfl rfl rfl rfl rfl (fun _ _ => rfl) rinv' _ rfl inv' ?_ (fun h => ?_) (fun u hu => ?_) (Nat.le_trans S.nO (Nat.le_succ _))
  · have new : (R.push ⟨(t : Int), (n : Int), 16 * ((M.s (16 * t + n)).uses : Int) + (n : Int), (i : Int), (R.T i).obj, a, l, m, false⟩).T R.nT = ⟨(t : Int), (n : Int), 16 * ((M.s (16 * t + n)).uses : Int) + (n : Int), (i : Int), (R.T i).obj, a, l, m, false⟩ := if_pos rfl
    have old : ∀ j, j < R.nT → (R.push ⟨(t : Int), (n : Int), 16 * ((M.s (16 * t + n)).uses : Int) + (n : Int), (i : Int), (R.T i).obj, a, l, m, false⟩).T j = R.T j := fun j hj => if_neg (by omega)
    have hpl : plc ⟨(t : Int), (n : Int), 16 * ((M.s (16 * t + n)).uses : Int) + (n : Int), (i : Int), (R.T i).obj, a, l, m, false⟩ = 16 * t + n := rfl
    refine ⟨?_, ?_, ?_, ?_, ?_, ?_, ?_, ?_, ?_⟩ <;> rw [new] <;> try rw [hpl]
    · rw [Mach.set_same]; rfl
    · unfold Mach.handle; rw [Mach.set_same]; show 16 * ((M.s (16 * t + n)).uses : Int) + (n : Int) = 16 * ((((M.s (16 * t + n)).uses + 1 : Nat) : Int) - 1) + ((16 * t + n : Nat) : Int) % 16; omega
    · rw [Mach.set_same]; rfl
    · rw [Mach.set_same]; rfl
    · rw [Mach.set_same]; rfl
    · rw [Mach.set_same]
      exact Or.inr ⟨i, Nat.lt_succ_of_lt hi, rfl, by rw [old i hi]; exact hd, by rw [old i hi]; rfl⟩
    · rw [Mach.set_same]
      obtain ⟨j, j1, j2, j3, j4, j5⟩ := mi.root
      exact ⟨j, Nat.lt_succ_of_lt j1, by rw [old j j1]; exact j2, by rw [old j j1]; exact j3, by rw [old j j1]; exact j4, by rw [old j j1]; exact j5⟩
    · exact mi.obj
    · intro h; have h : (i : Int) = -1 := h; omega
  · have h : (i : Int) = -1 := h
    omega
  · have e1 : (M.set (16 * t + n) ((M.s (16 * t + n)).laid (plc (R.T i) : Int) (M.s (plc (R.T i))).root a l m)).taken u = M.taken u := by
      refine sumN_congr _ (fun s hs => ?_)
      rcases Mach.set_cases (M := M) (p := 16 * t + n) (x := (M.s (16 * t + n)).laid (plc (R.T i) : Int) (M.s (plc (R.T i))).root a l m) (16 * u + s) with ⟨e, hs⟩ | ⟨e, hs⟩
      · rw [hs, e]; rfl
      · rw [hs]
    rw [e1, S.chunks u hu]
    rfl

/-- a tenant's next slot that there is none: nothing is laid -/
theorem sim_full {R : RH} {M : Mach} (S : Sim R M) {t : Nat} (ht : t < M.nt) (hn : M.next t = none) (f o a l m : Int) :
    R.laid (t : Int) f o a l m = R ∧ R.laidE (t : Int) = 8 ∧ R.laidS (t : Int) = nilS := by
  have hN : R.next (t : Int) = none := (S.next ht).trans hn
  refine ⟨?_, ?_, ?_⟩
  · unfold RH.laid; rw [hN]
  · unfold RH.laidE; rw [hN]
  · unfold RH.laidS; rw [hN]; rfl

/-- Alloc -/
theorem sim_alloc {R : RH} {M : Mach} (S : Sim R M) {t : Nat} (ht : t < M.nt) (l : Int) : Sim (R.alloc (t : Int) l) (M.alloc t l).2.2 ∧ R.allocE (t : Int) l = (M.alloc t l).1 ∧ R.allocS (t : Int) l = (M.alloc t l).2.1 := by
  by_cases h1 : 1 ≤ l ∧ l ≤ 256
  · have n1 : ¬ ¬ (1 ≤ l ∧ l ≤ 256) := fun h => h h1
    by_cases h2 : M.nc < M.taken t + chunksN l.toNat
    · have h2' : R.nc < R.chunks (t : Int) + chunksN l.toNat := by rw [S.nc, ← S.chunks t ht]; exact h2
      have e : M.alloc t l = (7, nilS, M) := by unfold Mach.alloc; rw [if_neg n1, if_pos h2]
      rw [e]
      refine ⟨?_, ?_, ?_⟩
      · unfold RH.alloc; rw [if_neg n1, if_pos h2']; exact S
      · unfold RH.allocE; rw [if_neg n1, if_pos h2']
      · unfold RH.allocS; rw [if_neg n1, if_pos h2']; rfl
    · have h2' : ¬ R.nc < R.chunks (t : Int) + chunksN l.toNat := by rw [S.nc, ← S.chunks t ht]; exact h2
      cases hn : M.next t with
      | none =>
        have hN : R.next (t : Int) = none := (S.next ht).trans hn
        obtain ⟨_, f2, f3⟩ := sim_full S ht hn 0 0 0 0 0
        have e : M.alloc t l = (8, nilS, M) := by unfold Mach.alloc; rw [if_neg n1, if_neg h2, hn]
        rw [e]
        refine ⟨?_, ?_, ?_⟩
        · unfold RH.alloc; rw [if_neg n1, if_neg h2', hN]; exact S
        · unfold RH.allocE; rw [if_neg n1, if_neg h2', f2]
        · unfold RH.allocS; rw [if_neg n1, if_neg h2', f3]
      | some n =>
        have hN : R.next (t : Int) = some n := (S.next ht).trans hn
        obtain ⟨hlt, hemp, huse⟩ : n < M.ns ∧ (M.s (16 * t + n)).full = false ∧ (M.s (16 * t + n)).uses ≤ 4095 := by
          rcases firstN_spec (fun n => !(M.s (16 * t + n)).full && decide ((M.s (16 * t + n)).uses ≤ 4095)) M.ns with ⟨h5, _⟩ | ⟨k, h5, h6, h7, _⟩
          · rw [show M.next t = none from h5] at hn; cases hn
          · rw [show M.next t = some k from h5] at hn
            injection hn with e
            subst e
            simp at h7
            exact ⟨h6, h7.1, h7.2⟩
        obtain ⟨hp, hp1, hp2⟩ := place_lt S.inv ht hlt
        have hct : R.count (t : Int) (n : Int) = (M.s (16 * t + n)).uses := S.count (by have := S.inv.ok.nt; omega) (by have := S.inv.ok.ns; omega)
        have e : M.alloc t l = (0, twoW (16 * ((M.s (16 * t + n)).uses : Int) + (n : Int)), M.set (16 * t + n) (HSlot.new (M.s (16 * t + n)).uses (16 * t + n) l)) := by unfold Mach.alloc; rw [if_neg n1, if_neg h2, hn]
        rw [e]
        obtain ⟨x, hx⟩ : ∃ x : RThing, x = ⟨(t : Int), (n : Int), 16 * ((M.s (16 * t + n)).uses : Int) + (n : Int), -1, (R.nO : Int), 0, l, 7, false⟩ := ⟨_, rfl⟩
        obtain ⟨ob, hob⟩ : ∃ ob : RObj, ob = ⟨(t : Int), List.replicate l.toNat 0, false⟩ := ⟨_, rfl⟩
        have eA : R.alloc (t : Int) l = (R.push x).pushO ob := by
          unfold RH.alloc
          rw [if_neg n1, if_neg h2', hN]
          show (R.laid (t : Int) (-1) (R.nO : Int) 0 l 7).pushO _ = _
          have : R.laid (t : Int) (-1) (R.nO : Int) 0 l 7 = R.push x := by unfold RH.laid; rw [hN, hx, ← hct]
          rw [this, hob]
        refine ⟨?_, ?_, ?_⟩
        · rw [eA]
          have oldO : ∀ k, k < R.nO → ((R.push x).pushO ob).O k = R.O k := fun k hk => if_neg (by show k ≠ R.nO; omega)
          have newO : ((R.push x).pushO ob).O R.nO = ob := if_pos rfl
          have oldT : ∀ j, j < R.nT → ((R.push x).pushO ob).T j = R.T j := fun j hj => if_neg (by omega)
          have newT : ((R.push x).pushO ob).T R.nT = x := if_pos rfl
          have hbl : ob.bytes.length = l.toNat := by rw [hob]; exact List.length_replicate
          have hT := S.room hp huse
          have hO := S.nO
          have rinv' : ((R.push x).pushO ob).Inv := by
            have lt : ∀ i, i < R.nT + 1 → i < R.nT ∨ i = R.nT := fun i hi => by omega
            refine ⟨⟨S.rinv.ok.nt, S.rinv.ok.ns, S.rinv.ok.nc, ?_, hT, fun i => ?_⟩, fun i hi => ?_, fun i hi => ?_, fun i hi => ?_, fun i hi => ?_, fun k hk => ?_⟩
            · show R.nO + 1 ≤ 262144; omega
            · show (if i = R.nO then ob else R.O i).bytes.length ≤ 256
              by_cases ei : i = R.nO
              · rw [if_pos ei, hbl]; omega
              · rw [if_neg ei]; exact S.rinv.ok.bytes i
            · rcases lt i hi with h | h
              · rw [oldT i h]; exact S.rinv.frm i h
              · rw [h, newT, hx]; exact ⟨Int.le_refl _, by show (-1 : Int) < _; omega⟩
            · rcases lt i hi with h | h
              · obtain ⟨k, g1, g2⟩ := S.rinv.obj i h
                rw [oldT i h]; exact ⟨k, g1, Nat.lt_succ_of_lt g2⟩
              · rw [h, newT, hx]; exact ⟨R.nO, rfl, Nat.lt_succ_self _⟩
            · rcases lt i hi with h | h
              · obtain ⟨k, g1, g2⟩ := S.rinv.obj i h
                rw [oldT i h, oldO _ (by rw [g1]; exact g2)]; exact S.rinv.part i h
              · rw [h, newT]
                have e9 : x.obj.toNat = R.nO := by rw [hx]; rfl
                rw [e9, newO, hbl, hx]
                refine ⟨Int.le_refl _, ?_, ?_⟩
                · show 0 ≤ l; omega
                · show 0 + l ≤ (l.toNat : Int); omega
            · rcases lt i hi with h | h
              · rw [oldT i h]; exact S.rinv.rights i h
              · rw [h, newT, hx]; show (0 : Int) ≤ 7 ∧ (7 : Int) ≤ 7; omega
            · have hk : k < R.nO + 1 := hk
              by_cases ek : k = R.nO
              · rw [ek, newO]
                intro hh
                rw [hh] at hbl
                simp at hbl
                omega
              · rw [oldO k (by omega)]; exact S.rinv.bytes k (by omega)
          refine sim_push S ht hlt hemp x (by rw [hx]) (by rw [hx]) (by rw [hx]) ((R.push x).pushO ob) rfl rfl rfl rfl rfl oldO rinv' _ rfl (inv_alloc S.inv ht hlt hemp huse h1) ?_ (fun _ i hi hd hf he => ?_) (fun u hu => ?_) ?_
          · have hpl : plc x = 16 * t + n := by rw [hx]; rfl
            have e9 : x.obj.toNat = R.nO := by rw [hx]; rfl
            refine ⟨?_, ?_, ?_, ?_, ?_, ?_, ?_, ?_, ?_⟩ <;> rw [newT]
            · rw [hpl, Mach.set_same]; rfl
            · rw [hpl]; unfold Mach.handle; rw [Mach.set_same, hx]; show 16 * ((M.s (16 * t + n)).uses : Int) + (n : Int) = 16 * ((((M.s (16 * t + n)).uses + 1 : Nat) : Int) - 1) + ((16 * t + n : Nat) : Int) % 16; omega
            · rw [hpl, Mach.set_same, hx]; rfl
            · rw [hpl, Mach.set_same, hx]; rfl
            · rw [hpl, Mach.set_same, hx]; rfl
            · rw [hpl, Mach.set_same, hx]; exact Or.inl ⟨rfl, rfl⟩
            · refine ⟨R.nT, Nat.lt_succ_self _, ?_, ?_, ?_, ?_⟩
              · rw [newT, hx]
              · rw [newT, hx]
              · rw [newT]
              · rw [newT, hpl, Mach.set_same]; rfl
            · rw [e9, newO, hob]
            · intro _
              rw [e9, newO, hpl, Mach.set_same, hob, hx]
              exact ⟨rfl, rfl⟩
          · obtain ⟨k, g1, g2⟩ := S.rinv.obj i hi
            rw [g1, hx] at he
            have he : (k : Int) = (R.nO : Int) := he
            omega
          · have eR : ((R.push x).pushO ob).chunks (u : Int) = R.chunks (u : Int) + (if u = t then chunksN l.toNat else 0) := by
              show sumN _ (R.nO + 1) = _
              simp only [sumN]
              rw [newO]
              have : sumN (fun i => if (((R.push x).pushO ob).O i).owner == (u : Int) && !(((R.push x).pushO ob).O i).gone then chunksN (((R.push x).pushO ob).O i).bytes.length else 0) R.nO = R.chunks (u : Int) := sumN_congr _ (fun i hi => by rw [oldO i hi])
              rw [this, hbl, hob]
              by_cases eu : u = t
              · rw [if_pos eu, eu]; simp
              · rw [if_neg eu]
                have : ((t : Int) == (u : Int)) = false := by simp; omega
                rw [this]; simp
            rw [eR, ← S.chunks u hu]
            by_cases eu : u = t
            · rw [if_pos eu, eu]
              have := sumN_upd (f := fun s => chunksN (M.s (16 * t + s)).bytes.length) (g := fun s => chunksN ((M.set (16 * t + n) (HSlot.new (M.s (16 * t + n)).uses (16 * t + n) l)).s (16 * t + s)).bytes.length) M.ns hlt (fun s _ hne => by
                show chunksN ((M.set (16 * t + n) _).s (16 * t + s)).bytes.length = _
                rw [Mach.set_other _ _ (by omega)])
              have e3 : (M.set (16 * t + n) (HSlot.new (M.s (16 * t + n)).uses (16 * t + n) l)).taken t + chunksN (M.s (16 * t + n)).bytes.length = M.taken t + chunksN ((M.set (16 * t + n) (HSlot.new (M.s (16 * t + n)).uses (16 * t + n) l)).s (16 * t + n)).bytes.length := this
              rw [Mach.set_same, S.inv.bytes_empty hemp] at e3
              have e4 : (HSlot.new (M.s (16 * t + n)).uses (16 * t + n) l).bytes.length = l.toNat := List.length_replicate
              rw [e4] at e3
              have e5 : chunksN ([] : List Int).length = 0 := rfl
              rw [e5] at e3
              omega
            · rw [if_neg eu, Nat.add_zero]
              refine sumN_congr _ (fun s hs => ?_)
              have hs : s < M.ns := hs
              have := S.inv.ok.ns
              rw [Mach.set_other _ _ (by omega)]
          · show R.nO + 1 ≤ R.nT + 1; omega
        · unfold RH.allocE; rw [if_neg n1, if_neg h2']; unfold RH.laidE; rw [hN]
        · unfold RH.allocS; rw [if_neg n1, if_neg h2']; unfold RH.laidS; rw [hN, ← hct]
  · have n1 : ¬ (1 ≤ l ∧ l ≤ 256) := h1
    have e : M.alloc t l = (6, nilS, M) := by unfold Mach.alloc; rw [if_pos n1]
    rw [e]
    refine ⟨?_, ?_, ?_⟩
    · unfold RH.alloc; rw [if_pos n1]; exact S
    · unfold RH.allocE; rw [if_pos n1]
    · unfold RH.allocS; rw [if_pos n1]; rfl

/- SimGone -/

/-- is thing i below thing n, by the document's list? -/
def bel (R : RH) (n i : Nat) : Bool := (clr R n (i + 1)).2 i
theorem clr_stable {R : RH} {n k i : Nat} (h : i < k) : (clr R n k).2 i = bel R n i := by
  induction k with
  | zero => omega
  | succ k ih =>
    by_cases e : i = k
    · subst e; rfl
    · have h1 := ih (by omega)
      by_cases hc : n < k ∧ ((R.T k).frm = (n : Int) ∨ (0 ≤ (R.T k).frm ∧ (clr R n k).2 (R.T k).frm.toNat = true))
      · rw [clr_yes hc.1 hc.2]
        show (if i = k then true else (clr R n k).2 i) = _
        rw [if_neg e]
        exact h1
      · rw [clr, if_neg hc]
        exact h1
theorem bel_iff {R : RH} {n i : Nat} (hf : (R.T i).frm < (i : Int)) : bel R n i = true ↔ n < i ∧ ((R.T i).frm = (n : Int) ∨ (0 ≤ (R.T i).frm ∧ bel R n (R.T i).frm.toNat = true)) := by
  have st : 0 ≤ (R.T i).frm → (clr R n i).2 (R.T i).frm.toNat = bel R n (R.T i).frm.toNat := fun h => clr_stable (by omega)
  unfold bel
  by_cases hc : n < i ∧ ((R.T i).frm = (n : Int) ∨ (0 ≤ (R.T i).frm ∧ (clr R n i).2 (R.T i).frm.toNat = true))
  · rw [clr_yes hc.1 hc.2]
    show (if i = i then true else _) = true ↔ _
    rw [if_pos rfl]
    refine ⟨fun _ => ⟨hc.1, ?_⟩, fun _ => rfl⟩
    rcases hc.2 with h | ⟨h, h2⟩
    · exact Or.inl h
    · exact Or.inr ⟨h, by rw [st h] at h2; exact h2⟩
  · rw [clr, if_neg hc]
    rw [(clr_T R n i).2 i (Nat.le_refl _)]
    refine ⟨fun h => (by cases h), fun ⟨h1, h2⟩ => absurd ⟨h1, ?_⟩ hc⟩
    rcases h2 with h | ⟨h, h2⟩
    · exact Or.inl h
    · exact Or.inr ⟨h, by rw [st h]; exact h2⟩

/-- what is below by the list is below by the slots -/
theorem Sim.below {R : RH} {M : Mach} (S : Sim R M) {n : Nat} (hn : n < R.nT) (hd : (R.T n).dead = false) : ∀ i, i < R.nT → (R.T i).dead = false → (bel R n i = true ↔ Under M (plc (R.T n)) (plc (R.T i))) := by
  intro i
  induction i using Nat.strongRecOn with
  | ind i ih =>
    intro hi hdi
    have m := S.mate i hi hdi
    have hf := (S.rinv.frm i hi).2
    have hlt := S.inv.lt m.full
    rw [bel_iff hf]
    constructor
    · rintro ⟨h1, h2⟩
      rcases m.frm with ⟨g1, _⟩ | ⟨j, j1, j2, j3, j4⟩
      · rcases h2 with h2 | ⟨h2, _⟩ <;> omega
      · rcases h2 with h2 | ⟨h2, h3⟩
        · have : j = n := by omega
          subst this
          exact .child hlt m.full j4
        · have : (R.T i).frm.toNat = j := by omega
          rw [this] at h3
          exact .deep hlt m.full j4 ((ih j (by omega) j1 j3).1 h3)
    · intro hu
      rcases m.frm with ⟨g1, g2⟩ | ⟨j, j1, j2, j3, j4⟩
      · exact absurd g2 hu.not_root
      · have hji : j < i := by omega
        cases hu with
        | child _ _ hp =>
          have : plc (R.T j) = plc (R.T n) := by rw [j4] at hp; omega
          have e := S.uniq j n j1 hn j3 hd this
          subst e
          exact ⟨hji, Or.inl j2⟩
        | @deep _ y _ _ hp hy =>
          have : plc (R.T j) = y := by rw [j4] at hp; omega
          subst this
          have h3 := (ih j hji j1 j3).2 hy
          have h4 := (bel_iff (S.rinv.frm j j1).2).1 h3
          exact ⟨by omega, Or.inr ⟨by omega, by rw [j2]; exact h3⟩⟩

theorem die_dead {x : RThing} {b : Bool} : (x.die b).dead = false ↔ x.dead = false ∧ b = false := by
  show (x.dead || b) = false ↔ _
  cases x.dead <;> cases b <;> simp

/-- things end, with all below them -/
theorem sim_gone {R R' : RH} {M M' : Mach} {D : Nat → Prop} {b : Nat → Bool} (S : Sim R M) (G : Gone D M M')
    (r1 : R'.nt = R.nt) (r2 : R'.ns = R.ns) (r3 : R'.nc = R.nc) (r4 : R'.nT = R.nT) (r5 : ∀ i, i < R.nT → R'.T i = (R.T i).die (b i)) (r6 : R'.nO = R.nO)
    (r7 : ∀ k, (R'.O k).bytes = (R.O k).bytes ∧ (R'.O k).owner = (R.O k).owner) (r8 : ∀ i, i < R.nT → (R.T i).dead = false → ¬ D (plc (R.T i)) → (R'.O (R.T i).obj.toNat).gone = false)
    (hb : ∀ i, i < R.nT → (R.T i).dead = false → (b i = true ↔ D (plc (R.T i)))) (hD : ∀ x y : Nat, (M.s x).full = true → (M.s x).frm = (y : Int) → D y → D x) (hR : ∀ x r : Nat, (M.s x).full = true → (M.s x).root = (r : Int) → D r → D x)
    (chunks : ∀ u : Nat, u < M.nt → M'.taken u = R'.chunks (u : Int)) : Sim R' M' := by
  have pl : ∀ i, i < R.nT → plc (R'.T i) = plc (R.T i) := fun i hi => by rw [r5 i hi]; rfl
  have live : ∀ i, i < R.nT → (R'.T i).dead = false → (R.T i).dead = false ∧ ¬ D (plc (R.T i)) := fun i hi hd => by
    rw [r5 i hi, die_dead] at hd
    exact ⟨hd.1, fun hD => by rw [(hb i hi hd.1).2 hD] at hd; cases hd.2⟩
  have live2 : ∀ i, i < R.nT → (R.T i).dead = false → ¬ D (plc (R.T i)) → (R'.T i).dead = false := fun i hi hd hn => by
    rw [r5 i hi, die_dead]
    refine ⟨hd, ?_⟩
    cases hbi : b i with
    | false => rfl
    | true => exact absurd ((hb i hi hd).1 hbi) hn
  have hin : M'.Inv := inv_gone S.inv G hD hR
  refine { nt := (r1.trans S.nt).trans G.nt.symm, ns := (r2.trans S.ns).trans G.ns.symm, nc := (r3.trans S.nc).trans G.nc.symm, inv := hin, rinv := ?_, spot := fun i hi => ?_, uses := fun q hq => ?_, mate := fun i hi hd => ?_, full := fun q hq => ?_, uniq := fun i j hi hj hd hd2 e => ?_, one := fun i j hi hj hd hd2 hf hf2 e => ?_, chunks := fun u hu => chunks u (G.nt ▸ hu), tot := ?_, nO := by rw [r6, r4]; exact S.nO }
  · have iv := S.rinv
    refine ⟨⟨r1 ▸ iv.ok.nt, r2 ▸ iv.ok.ns, r3 ▸ iv.ok.nc, r6 ▸ iv.ok.nO, r4 ▸ iv.ok.nT, fun k => by rw [(r7 k).1]; exact iv.ok.bytes k⟩, fun i hi => ?_, fun i hi => ?_, fun i hi => ?_, fun i hi => ?_, fun k hk => ?_⟩
    · rw [r4] at hi; rw [r5 i hi]; exact iv.frm i hi
    · rw [r4] at hi; rw [r5 i hi, r6]; exact iv.obj i hi
    · rw [r4] at hi; rw [r5 i hi, (r7 _).1]; exact iv.part i hi
    · rw [r4] at hi; rw [r5 i hi]; exact iv.rights i hi
    · rw [r6] at hk; rw [(r7 k).1]; exact iv.bytes k hk
  · rw [r4] at hi
    obtain ⟨t, s, h1, h2, h3, h4⟩ := S.spot i hi
    rw [r5 i hi]
    exact ⟨t, s, h1, h2, by rw [G.nt]; exact h3, by rw [G.ns]; exact h4⟩
  · rw [r4]
    have e1 : (M'.s q).uses = (M.s q).uses := by
      by_cases hd : D q
      · rw [G.out q hd]; rfl
      · rw [G.same q hd]
    rw [e1, S.uses q hq]
    exact sumN_congr _ (fun i hi => by rw [pl i hi])
  · rw [r4] at hi
    obtain ⟨hd1, hnD⟩ := live i hi hd
    have m := S.mate i hi hd1
    have sm := G.same _ hnD
    refine ⟨?_, ?_, ?_, ?_, ?_, ?_, ?_, ?_, ?_⟩ <;> try rw [pl i hi]
    · rw [sm]; exact m.full
    · rw [r5 i hi]; unfold Mach.handle; rw [sm]; exact m.handle
    · rw [r5 i hi, sm]; exact m.first
    · rw [r5 i hi, sm]; exact m.size
    · rw [r5 i hi, sm]; exact m.rights
    · rw [r5 i hi, sm]
      rcases m.frm with h1 | ⟨j, j1, j2, j3, j4⟩
      · exact Or.inl h1
      · exact Or.inr ⟨j, by rw [r4]; exact j1, j2, live2 j j1 j3 (fun hDj => hnD (hD _ _ m.full j4 hDj)), by rw [pl j j1]; exact j4⟩
    · rw [r5 i hi, sm]
      obtain ⟨j, j1, j2, j3, j4, j5⟩ := m.root
      exact ⟨j, by rw [r4]; exact j1, live2 j j1 j2 (fun hDj => hnD (hR _ _ m.full j5 hDj)), by rw [r5 j j1]; exact j3, by rw [r5 j j1]; exact j4, by rw [pl j j1]; exact j5⟩
    · rw [r5 i hi]; exact r8 i hi hd1 hnD
    · rw [r5 i hi, sm, (r7 _).1, (r7 _).2]; exact m.bytes
  · have hnD : ¬ D q := fun h => by rw [G.out q h] at hq; cases hq
    rw [G.same q hnD] at hq
    obtain ⟨i, h1, h2, h3⟩ := S.full q hq
    exact ⟨i, by rw [r4]; exact h1, live2 i h1 h2 (by rw [h3]; exact hnD), by rw [pl i h1]; exact h3⟩
  · rw [r4] at hi hj
    rw [pl i hi, pl j hj] at e
    exact S.uniq i j hi hj (live i hi hd).1 (live j hj hd2).1 e
  · rw [r4] at hi hj
    rw [r5 i hi] at hf e
    rw [r5 j hj] at hf2 e
    exact S.one i j hi hj (live i hi hd).1 (live j hj hd2).1 hf hf2 e
  · rw [r4, S.tot]
    exact sumN_congr _ (fun q _ => by
      by_cases hd : D q
      · rw [G.out q hd]; rfl
      · rw [G.same q hd])

/-- what the clearing makes of the things -/
theorem clr_all (R : RH) (n : Nat) : (clr R n R.nT).1.nt = R.nt ∧ (clr R n R.nT).1.ns = R.ns ∧ (clr R n R.nT).1.nc = R.nc ∧ (clr R n R.nT).1.nT = R.nT ∧ (clr R n R.nT).1.nO = R.nO ∧ (clr R n R.nT).1.O = R.O ∧ ∀ i, i < R.nT → (clr R n R.nT).1.T i = (R.T i).die (bel R n i) := by
  have e := (clr_T R n R.nT).1
  refine ⟨by rw [e], by rw [e], by rw [e], by rw [e], by rw [e], by rw [e], fun i hi => ?_⟩
  have e1 : (clr R n R.nT).1.T i = (R.T i).die ((clr R n R.nT).2 i) := by rw [e]
  rw [e1, clr_stable hi]

/-- chunks are those of roots -/
theorem taken_gone {M M' : Mach} {D : Nat → Prop} (G : Gone D M M') {u : Nat} (h : ∀ s, s < M.ns → D (16 * u + s) → (M.s (16 * u + s)).bytes = []) : M'.taken u = M.taken u := by
  unfold Mach.taken
  rw [G.ns]
  refine sumN_congr _ (fun s hs => ?_)
  by_cases hd : D (16 * u + s)
  · rw [G.out _ hd, h s hs hd]; rfl
  · rw [G.same _ hd]

/-- Revoke -/
theorem sim_revoke {R : RH} {M M' : Mach} (S : Sim R M) {n : Nat} (hn : n < R.nT) (hd : (R.T n).dead = false) (G : Gone (Under M (plc (R.T n))) M M') : Sim (clr R n R.nT).1 M' := by
  obtain ⟨c1, c2, c3, c4, c5, c6, c7⟩ := clr_all R n
  refine sim_gone (b := bel R n) S G c1 c2 c3 c4 c7 c5 (fun k => by rw [c6]; exact ⟨rfl, rfl⟩) (fun i hi hdi _ => by rw [c6]; exact (S.mate i hi hdi).obj) (S.below hn hd) (fun x y hx hf hy => .deep (S.inv.lt hx) hx hf hy) (fun x r hx hr hu => ?_) (fun u hu => ?_)
  · obtain ⟨r2, g1, _, _, g4, _⟩ := S.inv.top x hx
    have : r2 = r := by rw [hr] at g1; omega
    subst this
    exact absurd g4 hu.not_root
  · rw [taken_gone G (fun s _ hu => S.inv.bytes_of hu.not_root), S.chunks u hu]
    unfold RH.chunks
    rw [c5, c6]

/-- Drop: what is no root -/
theorem sim_drop {R : RH} {M M' : Mach} (S : Sim R M) {n : Nat} (hn : n < R.nT) (hd : (R.T n).dead = false) (hroot : (R.T n).frm ≠ -1) (G : Gone (fun x => x = plc (R.T n) ∨ Under M (plc (R.T n)) x) M M') : Sim (R.left n 8) M' := by
  obtain ⟨c1, c2, c3, c4, c5, c6, c7⟩ := clr_all R n
  have e : R.left n 8 = (clr R n R.nT).1.kill n := by unfold RH.left; rw [if_neg (by decide)]
  have m := S.mate n hn hd
  have hmr : (M.s (plc (R.T n))).frm ≠ -1 := by
    rcases m.frm with ⟨g1, _⟩ | ⟨j, _, _, _, j4⟩
    · exact absurd g1 hroot
    · rw [j4]; omega
  rw [e]
  refine sim_gone (b := fun i => bel R n i || decide (i = n)) S G c1 c2 c3 c4 (fun i hi => ?_) c5 (fun k => by show ((clr R n R.nT).1.O k).bytes = _ ∧ ((clr R n R.nT).1.O k).owner = _; rw [c6]; exact ⟨rfl, rfl⟩) (fun i hi hdi _ => by show ((clr R n R.nT).1.O _).gone = false; rw [c6]; exact (S.mate i hi hdi).obj) (fun i hi hdi => ?_) (fun x y hx hf hy => ?_) (fun x r hx hr hu => ?_) (fun u hu => ?_)
  · show (if i = n then ((clr R n R.nT).1.T n).die true else (clr R n R.nT).1.T i) = _
    by_cases ei : i = n
    · subst ei; rw [if_pos rfl, c7 i hi]; simp [RThing.die]
    · rw [if_neg ei, c7 i hi]; simp [ei]
  · simp only [Bool.or_eq_true, decide_eq_true_eq]
    rw [S.below hn hd i hi hdi]
    constructor
    · rintro (h | h)
      · exact Or.inr h
      · exact Or.inl (by rw [h])
    · rintro (h | h)
      · exact Or.inr (S.uniq i n hi hn hdi hd h)
      · exact Or.inl h
  · rcases hy with rfl | hy
    · exact Or.inr (.child (S.inv.lt hx) hx hf)
    · exact Or.inr (.deep (S.inv.lt hx) hx hf hy)
  · rcases hu with rfl | hu
    · exact S.inv.root_under hx hr
    · obtain ⟨r2, g1, _, _, g4, _⟩ := S.inv.top x hx
      have : r2 = r := by rw [hr] at g1; omega
      subst this
      exact absurd g4 hu.not_root
  · rw [taken_gone G (fun s _ hu => ?_), S.chunks u hu]
    · show _ = (clr R n R.nT).1.chunks (u : Int)
      unfold RH.chunks
      rw [c5, c6]
    · rcases hu with hu | hu
      · rw [hu]; exact S.inv.bytes_of hmr
      · exact S.inv.bytes_of hu.not_root

/-- Free: a root -/
theorem sim_free {R : RH} {M M' : Mach} (S : Sim R M) {n : Nat} (hn : n < R.nT) (hd : (R.T n).dead = false) (hroot : (R.T n).frm = -1) (G : Gone (fun x => x = plc (R.T n) ∨ Under M (plc (R.T n)) x) M M') : Sim (R.left n 2) M' := by
  obtain ⟨c1, c2, c3, c4, c5, c6, c7⟩ := clr_all R n
  have e : R.left n 2 = ((clr R n R.nT).1.kill n).lose (R.T n).obj.toNat := by unfold RH.left; rw [if_pos rfl]
  have m := S.mate n hn hd
  obtain ⟨k, hk, hkl⟩ := S.rinv.obj n hn
  obtain ⟨t0, s0, p1, p2, p3, p4, p5, p6, p7, p8⟩ := S.place hn
  obtain ⟨mb, mo⟩ := m.bytes hroot
  have mg := m.obj
  rw [e]
  have ek : (R.T n).obj.toNat = k := by rw [hk]; rfl
  rw [ek] at mb mo mg ⊢
  have eO : ∀ j, (((clr R n R.nT).1.kill n).lose k).O j = if j = k then (R.O k).lost else R.O j := fun j => by
    show (if j = k then ((clr R n R.nT).1.O k).lost else (clr R n R.nT).1.O j) = _
    rw [c6]
  refine sim_gone (b := fun i => bel R n i || decide (i = n)) S G c1 c2 c3 c4 (fun i hi => ?_) c5 (fun j => ?_) (fun i hi hdi hnD => ?_) (fun i hi hdi => ?_) (fun x y hx hf hy => ?_) (fun x r hx hr hu => ?_) (fun u hu => ?_)
  · show (if i = n then ((clr R n R.nT).1.T n).die true else (clr R n R.nT).1.T i) = _
    by_cases ei : i = n
    · subst ei; rw [if_pos rfl, c7 i hi]; simp [RThing.die]
    · rw [if_neg ei, c7 i hi]; simp [ei]
  · rw [eO]
    by_cases ej : j = k
    · rw [if_pos ej, ej]; exact ⟨rfl, rfl⟩
    · rw [if_neg ej]; exact ⟨rfl, rfl⟩
  · have mi := S.mate i hi hdi
    obtain ⟨ki, hki, hkil⟩ := S.rinv.obj i hi
    rw [hki, eO]
    have : ki ≠ k := fun e2 => by
      obtain ⟨j, j1, j2, j3, j4, j5⟩ := mi.root
      have : j = n := S.one j n j1 hn j2 hd j3 hroot (by rw [j4, hki, hk, e2])
      subst this
      rcases S.inv.root_under mi.full j5 with h | h
      · exact hnD (Or.inl h)
      · exact hnD (Or.inr h)
    show (if ki = k then _ else R.O ki).gone = false
    rw [if_neg this]
    have := mi.obj
    rw [hki] at this
    exact this
  · simp only [Bool.or_eq_true, decide_eq_true_eq]
    rw [S.below hn hd i hi hdi]
    constructor
    · rintro (h | h)
      · exact Or.inr h
      · exact Or.inl (by rw [h])
    · rintro (h | h)
      · exact Or.inr (S.uniq i n hi hn hdi hd h)
      · exact Or.inl h
  · rcases hy with rfl | hy
    · exact Or.inr (.child (S.inv.lt hx) hx hf)
    · exact Or.inr (.deep (S.inv.lt hx) hx hf hy)
  · rcases hu with rfl | hu
    · exact S.inv.root_under hx hr
    · obtain ⟨r2, g1, _, _, g4, _⟩ := S.inv.top x hx
      have : r2 = r := by rw [hr] at g1; omega
      subst this
      exact absurd g4 hu.not_root
  · have eR : (((clr R n R.nT).1.kill n).lose k).chunks (u : Int) + (if u = t0 then chunksN (R.O k).bytes.length else 0) = R.chunks (u : Int) := by
      have := sumN_upd (f := fun i => if (R.O i).owner == (u : Int) && !(R.O i).gone then chunksN (R.O i).bytes.length else 0) (g := fun i => if ((((clr R n R.nT).1.kill n).lose k).O i).owner == (u : Int) && !((((clr R n R.nT).1.kill n).lose k).O i).gone then chunksN ((((clr R n R.nT).1.kill n).lose k).O i).bytes.length else 0) R.nO hkl (fun j _ hne => by
        show (if ((((clr R n R.nT).1.kill n).lose k).O j).owner == (u : Int) && _ then _ else 0) = _
        rw [eO, if_neg hne])
      have e1 : (((clr R n R.nT).1.kill n).lose k).chunks (u : Int) + (if (R.O k).owner == (u : Int) && !(R.O k).gone then chunksN (R.O k).bytes.length else 0) = R.chunks (u : Int) + (if ((((clr R n R.nT).1.kill n).lose k).O k).owner == (u : Int) && !((((clr R n R.nT).1.kill n).lose k).O k).gone then chunksN ((((clr R n R.nT).1.kill n).lose k).O k).bytes.length else 0) := by
        have e9 : (((clr R n R.nT).1.kill n).lose k).nO = R.nO := c5
        unfold RH.chunks
        rw [e9]
        exact this
      rw [eO, if_pos rfl, mg, mo, p1] at e1
      have e2 : (R.O k).lost.gone = true := rfl
      rw [e2] at e1
      simp only [Bool.not_true, Bool.and_false, Bool.not_false, Bool.and_true] at e1
      by_cases eu : u = t0
      · rw [if_pos eu]
        rw [eu] at e1 ⊢
        simpa using e1
      · rw [if_neg eu]
        have : ((t0 : Int) == (u : Int)) = false := by simp; omega
        rw [this] at e1
        simpa using e1
    have eM : M'.taken u + (if u = t0 then chunksN (R.O k).bytes.length else 0) = M.taken u := by
      by_cases eu : u = t0
      · rw [if_pos eu, eu]
        have := sumN_upd (f := fun s => chunksN (M.s (16 * t0 + s)).bytes.length) (g := fun s => chunksN (M'.s (16 * t0 + s)).bytes.length) M.ns p4 (fun s hs hne => by
          show chunksN (M'.s (16 * t0 + s)).bytes.length = _
          by_cases hD : (16 * t0 + s = plc (R.T n) ∨ Under M (plc (R.T n)) (16 * t0 + s))
          · rw [G.out _ hD]
            rcases hD with hD | hD
            · omega
            · rw [S.inv.bytes_of hD.not_root]; rfl
          · rw [G.same _ hD])
        have e1 : M'.taken t0 + chunksN (M.s (16 * t0 + s0)).bytes.length = M.taken t0 + chunksN (M'.s (16 * t0 + s0)).bytes.length := by
          unfold Mach.taken
          rw [G.ns]
          exact this
        rw [G.out (16 * t0 + s0) (Or.inl p5.symm), ← p5, mb] at e1
        have e2 : chunksN (HSlot.none (M.s (plc (R.T n))).uses).bytes.length = 0 := by simp [HSlot.none, chunksN]
        rw [e2] at e1
        omega
      · rw [if_neg eu, Nat.add_zero]
        refine taken_gone G (fun s hs hD => ?_)
        rcases hD with hD | hD
        · have := S.inv.ok.ns
          omega
        · exact S.inv.bytes_of hD.not_root
    have := S.chunks u hu
    omega

/-- Write -/
theorem sim_write {R : RH} {M : Mach} (S : Sim R M) {n : Nat} (hn : n < R.nT) (hd : (R.T n).dead = false) {bs : List Int} (hlen : bs.length = (R.O (R.T n).obj.toNat).bytes.length) (hb : ∀ b ∈ bs, 0 ≤ b ∧ b ≤ 255) :
    Sim (R.turn (R.T n).obj.toNat bs) (M.set (M.s (plc (R.T n))).root.toNat ((M.s (M.s (plc (R.T n))).root.toNat).withBytes bs)) ∧ (M.s (M.s (plc (R.T n))).root.toNat).bytes = (R.O (R.T n).obj.toNat).bytes := by
  have m := S.mate n hn hd
  obtain ⟨j, j1, j2, j3, j4, j5⟩ := m.root
  have mj := S.mate j j1 j2
  obtain ⟨mb, _⟩ := mj.bytes j3
  obtain ⟨k, hk, hkl⟩ := S.rinv.obj n hn
  have er : (M.s (plc (R.T n))).root.toNat = plc (R.T j) := by rw [j5]; rfl
  have ek : (R.T n).obj.toNat = k := by rw [hk]; rfl
  rw [er]
  rw [j4, ek] at mb
  rw [ek] at hlen ⊢
  have hlen2 : bs.length = (M.s (plc (R.T j))).bytes.length := by rw [mb]; exact hlen
  refine ⟨?_, mb⟩
  obtain ⟨r, hr⟩ : ∃ r, r = plc (R.T j) := ⟨_, rfl⟩
  rw [← hr] at mb hlen2 ⊢
  have same : ∀ q, (M.set r ((M.s r).withBytes bs)).s q = (M.s q).withBytes (if q = r then bs else (M.s q).bytes) := fun q => by
    rcases Mach.set_cases (M := M) (p := r) (x := (M.s r).withBytes bs) q with ⟨e, hs⟩ | ⟨e, hs⟩
    · rw [hs, if_pos e, e]
    · rw [hs, if_neg e]; rfl
  have eO : ∀ i, (R.turn k bs).O i = if i = k then (R.O k).turn bs else R.O i := fun i => rfl
  have eg : ∀ i, ((R.turn k bs).O i).gone = (R.O i).gone ∧ ((R.turn k bs).O i).owner = (R.O i).owner ∧ ((R.turn k bs).O i).bytes.length = (R.O i).bytes.length := fun i => by
    rw [eO]
    by_cases e : i = k
    · rw [if_pos e, e]; exact ⟨rfl, rfl, hlen⟩
    · rw [if_neg e]; exact ⟨rfl, rfl, rfl⟩
  have iv := S.rinv
  refine { nt := S.nt, ns := S.ns, nc := S.nc, inv := inv_turn S.inv hlen2 hb, rinv := ⟨⟨iv.ok.nt, iv.ok.ns, iv.ok.nc, iv.ok.nO, iv.ok.nT, fun i => by rw [(eg i).2.2]; exact iv.ok.bytes i⟩, iv.frm, iv.obj, fun i hi => ?_, iv.rights, fun i hi => ?_⟩, spot := S.spot, uses := fun q hq => ?_, mate := fun i hi hdi => ?_, full := fun q hq => ?_, uniq := S.uniq, one := S.one, chunks := fun u hu => ?_, tot := ?_, nO := S.nO }
  · rw [(eg _).2.2]; exact iv.part i hi
  · intro hh
    have := (eg i).2.2
    rw [hh] at this
    exact iv.bytes i hi (List.eq_nil_of_length_eq_zero this.symm)
  · rw [same]; exact S.uses q hq
  · have mi := S.mate i hi hdi
    refine ⟨?_, ?_, ?_, ?_, ?_, ?_, ?_, ?_, ?_⟩
    · rw [same]; exact mi.full
    · unfold Mach.handle; rw [same]; exact mi.handle
    · rw [same]; exact mi.first
    · rw [same]; exact mi.size
    · rw [same]; exact mi.rights
    · rw [same]; exact mi.frm
    · rw [same]; exact mi.root
    · rw [(eg _).1]; exact mi.obj
    · intro hf
      obtain ⟨b1, b2⟩ := mi.bytes hf
      rw [(eg _).2.1]
      refine ⟨?_, b2⟩
      rw [same, eO]
      show (if plc (R.T i) = r then bs else (M.s (plc (R.T i))).bytes) = (if (R.T i).obj.toNat = k then (R.O k).turn bs else R.O (R.T i).obj.toNat).bytes
      obtain ⟨ki, hki, hkil⟩ := S.rinv.obj i hi
      by_cases e : plc (R.T i) = r
      · have : i = j := S.uniq i j hi j1 hdi j2 (e.trans hr)
        subst this
        rw [if_pos e, j4, ek, if_pos rfl]
        rfl
      · have hne : ¬ (R.T i).obj.toNat = k := by
          intro e2
          refine e ?_
          have : i = j := S.one i j hi j1 hdi j2 hf j3 (by rw [j4, hk, hki]; rw [hki] at e2; have e2 : ki = k := e2; rw [e2])
          rw [this, hr]
        rw [if_neg e, if_neg hne, b1]
  · rw [same] at hq; exact S.full q hq
  · have e1 : (M.set r ((M.s r).withBytes bs)).taken u = M.taken u := by
      refine sumN_congr _ (fun s _ => ?_)
      rw [same]
      show chunksN (if 16 * u + s = r then bs else (M.s (16 * u + s)).bytes).length = _
      by_cases e : 16 * u + s = r
      · rw [if_pos e, hlen2, e]
      · rw [if_neg e]
    have e2 : (R.turn k bs).chunks (u : Int) = R.chunks (u : Int) := by
      refine sumN_congr _ (fun i _ => ?_)
      rw [(eg i).1, (eg i).2.1, (eg i).2.2]
    rw [e1, e2]
    exact S.chunks u hu
  · have : sumN (fun p => ((M.set r ((M.s r).withBytes bs)).s p).uses) 64 = sumN (fun p => (M.s p).uses) 64 := sumN_congr _ (fun q _ => by rw [same]; rfl)
    rw [this]
    exact S.tot

/- StepDef -/

/-- Derive (P11), Grant (P12) -/
def Mach.layE (M : Mach) (t : Nat) : Int := match M.next t with
  | some _ => 0
  | none => 8
def Mach.layS (M : Mach) (t : Nat) : ByteArray := match M.next t with
  | some n => twoW (16 * ((M.s (16 * t + n)).uses : Int) + (n : Int))
  | none => nilS
def Mach.lay (M : Mach) (t p : Nat) (a l m : Int) : Mach := match M.next t with
  | some n => M.set (16 * t + n) ((M.s (16 * t + n)).laid (p : Int) (M.s p).root a l m)
  | none => M

/-- a request of what lies at place p: its error, what the reply has more, the house behind it -/
def StepP (M : Mach) (t p : Nat) (op o l r to : Int) (d : ByteArray) (e : Int) (m : ByteArray) (M' : Mach) : Prop :=
  (op = 2 ∧ (((M.s p).frm ≠ -1 ∧ e = 9 ∧ m = nilS ∧ M' = M) ∨ ((M.s p).frm = -1 ∧ e = 0 ∧ m = nilS ∧ Gone (fun x => x = p ∨ Under M p x) M M'))) ∨
  (op = 3 ∧ e = (M.read p o l).1 ∧ m = (M.read p o l).2 ∧ M' = M) ∨
  (op = 4 ∧ e = M.writeE p o d ∧ m = nilS ∧ M' = M.write p o d) ∨
  (op = 5 ∧ ((¬ shareB (M.s p).rights r = true ∧ e = 5 ∧ m = nilS ∧ M' = M) ∨ (shareB (M.s p).rights r = true ∧ (M.s p).len < o + l ∧ e = 6 ∧ m = nilS ∧ M' = M) ∨
    (shareB (M.s p).rights r = true ∧ ¬ (M.s p).len < o + l ∧ e = M.layE t ∧ m = M.layS t ∧ M' = M.lay t p ((M.s p).first + o) l r))) ∨
  (op = 6 ∧ ((¬ (M.s p).rights / 4 = 1 ∧ e = 5 ∧ m = nilS ∧ M' = M) ∨ ((M.s p).rights / 4 = 1 ∧ (M.nt : Int) ≤ to ∧ e = 3 ∧ m = nilS ∧ M' = M) ∨
    ((M.s p).rights / 4 = 1 ∧ ¬ (M.nt : Int) ≤ to ∧ e = M.layE to.toNat ∧ m = M.layS to.toNat ∧ M' = M.lay to.toNat p (M.s p).first (M.s p).len (M.s p).rights))) ∨
  (op = 7 ∧ e = 0 ∧ m = nilS ∧ Gone (Under M p) M M') ∨
  (op = 8 ∧ (((M.s p).frm = -1 ∧ e = 9 ∧ m = nilS ∧ M' = M) ∨ ((M.s p).frm ≠ -1 ∧ e = 0 ∧ m = nilS ∧ Gone (fun x => x = p ∨ Under M p x) M M'))) ∨
  (op = 9 ∧ e = 0 ∧ m = M.info p ∧ M' = M)

def StepQ (M : Mach) (t : Nat) (op h o l r to : Int) (d : ByteArray) (e : Int) (m : ByteArray) (M' : Mach) : Prop :=
  (op = 1 ∧ e = (M.alloc t l).1 ∧ m = (M.alloc t l).2.1 ∧ M' = (M.alloc t l).2.2) ∨
  (op ≠ 1 ∧ M.find t h = none ∧ e = 4 ∧ m = nilS ∧ M' = M) ∨
  (op ≠ 1 ∧ ∃ n, M.find t h = some n ∧ StepP M t (16 * t + n) op o l r to d e m M')

/-- the same of bytes -/
def StepS (M : Mach) (t : Nat) (s : ByteArray) (e : Int) (m : ByteArray) (M' : Mach) : Prop :=
  (decV s = noV ∧ e = 1 ∧ m = nilS ∧ M' = M) ∨
  (∃ (op h o l r to : Int) (d : ByteArray), decV s = yesV op h o l r to d ∧ StepQ M t op h o l r to d e m M')

theorem Gone.det {D : Nat → Prop} {M A B : Mach} (h : Gone D M A) (k : Gone D M B) : A = B := by
  cases A with
  | mk a1 a2 a3 a4 =>
    cases B with
    | mk b1 b2 b3 b4 =>
      have e1 : a1 = b1 := h.nt.trans k.nt.symm
      have e2 : a2 = b2 := h.ns.trans k.ns.symm
      have e3 : a3 = b3 := h.nc.trans k.nc.symm
      have e4 : a4 = b4 := funext fun x => by
        rcases Classical.em (D x) with hd | hd
        · exact (h.out x hd).trans (k.out x hd).symm
        · exact (h.same x hd).trans (k.same x hd).symm
      rw [e1, e2, e3, e4]
theorem Gone.ex (D : Nat → Prop) (M : Mach) : ∃ M', Gone D M M' := by
  refine ⟨⟨M.nt, M.ns, M.nc, fun x => @ite _ (D x) (Classical.propDecidable _) (HSlot.none (M.s x).uses) (M.s x)⟩, rfl, rfl, rfl, fun x hx => ?_, fun x hx => ?_⟩
  · exact @if_pos _ (Classical.propDecidable _) hx _ _ _
  · exact @if_neg _ (Classical.propDecidable _) hx _ _ _

theorem StepP.det {M : Mach} {t p : Nat} {op o l r to : Int} {d : ByteArray} {e e2 : Int} {m m2 : ByteArray} {A B : Mach} (h : StepP M t p op o l r to d e m A) (k : StepP M t p op o l r to d e2 m2 B) : e = e2 ∧ m = m2 ∧ A = B := by
  rcases h with ⟨rfl, h⟩ | ⟨rfl, h⟩ | ⟨rfl, h⟩ | ⟨rfl, h⟩ | ⟨rfl, h⟩ | ⟨rfl, h⟩ | ⟨rfl, h⟩ | ⟨rfl, h⟩ <;>
  rcases k with ⟨k0, k⟩ | ⟨k0, k⟩ | ⟨k0, k⟩ | ⟨k0, k⟩ | ⟨k0, k⟩ | ⟨k0, k⟩ | ⟨k0, k⟩ | ⟨k0, k⟩ <;> (try (exfalso; omega)) <;> clear k0
  · rcases h with ⟨h1, h2, h3, h4⟩ | ⟨h1, h2, h3, h4⟩ <;> rcases k with ⟨k1, k2, k3, k4⟩ | ⟨k1, k2, k3, k4⟩
    · exact ⟨h2.trans k2.symm, h3.trans k3.symm, h4.trans k4.symm⟩
    · exact absurd k1 h1
    · exact absurd h1 k1
    · exact ⟨h2.trans k2.symm, h3.trans k3.symm, h4.det k4⟩
  · exact ⟨h.1.trans k.1.symm, h.2.1.trans k.2.1.symm, h.2.2.trans k.2.2.symm⟩
  · exact ⟨h.1.trans k.1.symm, h.2.1.trans k.2.1.symm, h.2.2.trans k.2.2.symm⟩
  · rcases h with ⟨h1, h2, h3, h4⟩ | ⟨h1, h0, h2, h3, h4⟩ | ⟨h1, h0, h2, h3, h4⟩ <;> rcases k with ⟨k1, k2, k3, k4⟩ | ⟨k1, k0, k2, k3, k4⟩ | ⟨k1, k0, k2, k3, k4⟩ <;>
    first
    | exact ⟨h2.trans k2.symm, h3.trans k3.symm, h4.trans k4.symm⟩
    | exact absurd k1 h1
    | exact absurd h1 k1
    | exact absurd h0 k0
    | exact absurd k0 h0
  · rcases h with ⟨h1, h2, h3, h4⟩ | ⟨h1, h0, h2, h3, h4⟩ | ⟨h1, h0, h2, h3, h4⟩ <;> rcases k with ⟨k1, k2, k3, k4⟩ | ⟨k1, k0, k2, k3, k4⟩ | ⟨k1, k0, k2, k3, k4⟩ <;>
    first
    | exact ⟨h2.trans k2.symm, h3.trans k3.symm, h4.trans k4.symm⟩
    | exact absurd k1 h1
    | exact absurd h1 k1
    | exact absurd h0 k0
    | exact absurd k0 h0
  · exact ⟨h.1.trans k.1.symm, h.2.1.trans k.2.1.symm, h.2.2.det k.2.2⟩
  · rcases h with ⟨h1, h2, h3, h4⟩ | ⟨h1, h2, h3, h4⟩ <;> rcases k with ⟨k1, k2, k3, k4⟩ | ⟨k1, k2, k3, k4⟩
    · exact ⟨h2.trans k2.symm, h3.trans k3.symm, h4.trans k4.symm⟩
    · exact absurd h1 k1
    · exact absurd k1 h1
    · exact ⟨h2.trans k2.symm, h3.trans k3.symm, h4.det k4⟩
  · exact ⟨h.1.trans k.1.symm, h.2.1.trans k.2.1.symm, h.2.2.trans k.2.2.symm⟩

theorem StepQ.det {M : Mach} {t : Nat} {op h o l r to : Int} {d : ByteArray} {e e2 : Int} {m m2 : ByteArray} {A B : Mach} (a : StepQ M t op h o l r to d e m A) (b : StepQ M t op h o l r to d e2 m2 B) : e = e2 ∧ m = m2 ∧ A = B := by
  rcases a with ⟨a0, a1, a2, a3⟩ | ⟨a0, a1, a2, a3, a4⟩ | ⟨a0, n, a1, a2⟩ <;> rcases b with ⟨b0, b1, b2, b3⟩ | ⟨b0, b1, b2, b3, b4⟩ | ⟨b0, n2, b1, b2⟩ <;>
  first
  | exact ⟨a1.trans b1.symm, a2.trans b2.symm, a3.trans b3.symm⟩
  | exact ⟨a2.trans b2.symm, a3.trans b3.symm, a4.trans b4.symm⟩
  | exact absurd a0 b0
  | exact absurd b0 a0
  | (rw [a1] at b1; cases b1; done)
  | (rw [a1] at b1; injection b1 with e; subst e; exact a2.det b2)

theorem yesV_inj {op h o l r t op2 h2 o2 l2 r2 t2 : Int} {d d2 : ByteArray} (e : yesV op h o l r t d = yesV op2 h2 o2 l2 r2 t2 d2) : op = op2 ∧ h = h2 ∧ o = o2 ∧ l = l2 ∧ r = r2 ∧ t = t2 ∧ d = d2 := by
  simp [yesV] at e
  exact ⟨e.1, e.2.1, e.2.2.1, e.2.2.2.1, e.2.2.2.2.1, e.2.2.2.2.2.1, e.2.2.2.2.2.2⟩
theorem noV_ne {op h o l r t : Int} {d : ByteArray} : noV ≠ yesV op h o l r t d := by simp [noV, yesV]
theorem StepS.det {M : Mach} {t : Nat} {s : ByteArray} {e e2 : Int} {m m2 : ByteArray} {A B : Mach} (a : StepS M t s e m A) (b : StepS M t s e2 m2 B) : e = e2 ∧ m = m2 ∧ A = B := by
  rcases a with ⟨a0, a1, a2, a3⟩ | ⟨op, h, o, l, r, to, d, a0, a1⟩ <;> rcases b with ⟨b0, b1, b2, b3⟩ | ⟨op2, h2, o2, l2, r2, to2, d2, b0, b1⟩
  · exact ⟨a1.trans b1.symm, a2.trans b2.symm, a3.trans b3.symm⟩
  · exact absurd (a0.symm.trans b0) noV_ne
  · exact absurd (b0.symm.trans a0) noV_ne
  · obtain ⟨rfl, rfl, rfl, rfl, rfl, rfl, rfl⟩ := yesV_inj (a0.symm.trans b0)
    exact a1.det b1

/-- an error is 0, 1 or 3 to 9, and with one nothing is said more, and nothing is changed -/
theorem StepP.err {M : Mach} {t p : Nat} {op o l r to : Int} {d : ByteArray} {e : Int} {m : ByteArray} {A : Mach} (h : StepP M t p op o l r to d e m A) : 0 ≤ e ∧ e ≤ 9 ∧ (e ≠ 0 → m = nilS ∧ A = M) := by
  have hR : ∀ q : Int × ByteArray, q = M.read p o l → 0 ≤ q.1 ∧ q.1 ≤ 9 ∧ (q.1 ≠ 0 → q.2 = nilS) := by
    intro q hq
    unfold Mach.read at hq
    split at hq
    · rw [hq]; exact ⟨by decide, by decide, fun _ => rfl⟩
    · split at hq
      · rw [hq]; exact ⟨by decide, by decide, fun _ => rfl⟩
      · rw [hq]; exact ⟨by simp, by simp, fun h => absurd rfl h⟩
  have hL : ∀ (u : Nat) (a l m : Int), 0 ≤ M.layE u ∧ M.layE u ≤ 9 ∧ (M.layE u ≠ 0 → M.layS u = nilS ∧ M.lay u p a l m = M) := by
    intro u a l m
    unfold Mach.layE Mach.layS Mach.lay
    split
    · exact ⟨by decide, by decide, fun h => absurd rfl h⟩
    · exact ⟨by decide, by decide, fun _ => ⟨rfl, rfl⟩⟩
  rcases h with ⟨_, h⟩ | ⟨_, h⟩ | ⟨_, h⟩ | ⟨_, h⟩ | ⟨_, h⟩ | ⟨_, h⟩ | ⟨_, h⟩ | ⟨_, h⟩
  · rcases h with ⟨_, rfl, rfl, rfl⟩ | ⟨_, rfl, _, _⟩
    · exact ⟨by decide, by decide, fun _ => ⟨rfl, rfl⟩⟩
    · exact ⟨by decide, by decide, fun h => absurd rfl h⟩
  · obtain ⟨rfl, rfl, rfl⟩ := h
    obtain ⟨h1, h2, h3⟩ := hR _ rfl
    exact ⟨h1, h2, fun h => ⟨h3 h, rfl⟩⟩
  · obtain ⟨rfl, rfl, rfl⟩ := h
    refine ⟨?_, ?_, fun h => ⟨rfl, ?_⟩⟩
    · unfold Mach.writeE; split; decide; split <;> decide
    · unfold Mach.writeE; split; decide; split <;> decide
    · unfold Mach.write; rw [if_neg h]
  · rcases h with ⟨_, rfl, rfl, rfl⟩ | ⟨_, _, rfl, rfl, rfl⟩ | ⟨_, _, rfl, rfl, rfl⟩
    · exact ⟨by decide, by decide, fun _ => ⟨rfl, rfl⟩⟩
    · exact ⟨by decide, by decide, fun _ => ⟨rfl, rfl⟩⟩
    · exact hL _ _ _ _
  · rcases h with ⟨_, rfl, rfl, rfl⟩ | ⟨_, _, rfl, rfl, rfl⟩ | ⟨_, _, rfl, rfl, rfl⟩
    · exact ⟨by decide, by decide, fun _ => ⟨rfl, rfl⟩⟩
    · exact ⟨by decide, by decide, fun _ => ⟨rfl, rfl⟩⟩
    · exact hL _ _ _ _
  · obtain ⟨rfl, _, _⟩ := h; exact ⟨by decide, by decide, fun h => absurd rfl h⟩
  · rcases h with ⟨_, rfl, rfl, rfl⟩ | ⟨_, rfl, _, _⟩
    · exact ⟨by decide, by decide, fun _ => ⟨rfl, rfl⟩⟩
    · exact ⟨by decide, by decide, fun h => absurd rfl h⟩
  · obtain ⟨rfl, _, _⟩ := h; exact ⟨by decide, by decide, fun h => absurd rfl h⟩
theorem StepS.err {M : Mach} {t : Nat} {s : ByteArray} {e : Int} {m : ByteArray} {A : Mach} (h : StepS M t s e m A) : 0 ≤ e ∧ e ≤ 9 ∧ (e ≠ 0 → m = nilS ∧ A = M) := by
  rcases h with ⟨_, rfl, rfl, rfl⟩ | ⟨op, h, o, l, r, to, d, _, a1⟩
  · exact ⟨by decide, by decide, fun _ => ⟨rfl, rfl⟩⟩
  · rcases a1 with ⟨_, rfl, rfl, rfl⟩ | ⟨_, _, rfl, rfl, rfl⟩ | ⟨_, n, _, a2⟩
    · unfold Mach.alloc
      split
      · exact ⟨by simp, by simp, fun _ => ⟨rfl, rfl⟩⟩
      · split
        · exact ⟨by simp, by simp, fun _ => ⟨rfl, rfl⟩⟩
        · split
          · exact ⟨by simp, by simp, fun _ => ⟨rfl, rfl⟩⟩
          · exact ⟨by simp, by simp, fun h => absurd rfl h⟩
    · exact ⟨by decide, by decide, fun _ => ⟨rfl, rfl⟩⟩
    · exact a2.err

/-- bytes are a request, or none -/
theorem dec_cases (s : ByteArray) : decV s = noV ∨ ∃ (op h o l r t : Int) (d : ByteArray), decV s = yesV op h o l r t d ∧ okB op h o l r t d.size = true ∧ bodyS op h o l r t d = s := by
  have key : ∀ (op h o l r t : Int) (d : ByteArray), rdV s op h o l r t d = decV s → decV s = noV ∨ ∃ (op h o l r t : Int) (d : ByteArray), decV s = yesV op h o l r t d ∧ okB op h o l r t d.size = true ∧ bodyS op h o l r t d = s := by
    intro op h o l r t d e
    by_cases hc : okB op h o l r t d.size = true ∧ bodyS op h o l r t d = s
    · exact Or.inr ⟨op, h, o, l, r, t, d, by rw [← e]; exact rdV_pos hc.1 hc.2, hc.1, hc.2⟩
    · exact Or.inl (by rw [← e]; exact rdV_neg (fun h1 h2 => hc ⟨h1, h2⟩))
  obtain ⟨op, hop⟩ : ∃ op, byt s 0 = op := ⟨_, rfl⟩
  by_cases h1 : op = 1
  · subst h1; exact key _ _ _ _ _ _ _ (agree_1 s hop)
  · by_cases h3 : op = 3
    · subst h3; exact key _ _ _ _ _ _ _ (agree_3 s hop)
    · by_cases h4 : op = 4
      · subst h4; exact key _ _ _ _ _ _ _ (agree_4 s _ hop rfl)
      · by_cases h5 : op = 5
        · subst h5; exact key _ _ _ _ _ _ _ (agree_5 s hop)
        · by_cases h6 : op = 6
          · subst h6; exact key _ _ _ _ _ _ _ (agree_6 s hop)
          · exact key _ _ _ _ _ _ _ (agree_other s op hop h1 h3 h4 h5 h6)

/- HouseShare -/

/-- the rights of a share, bit by bit: of every number of one byte and every rights -/
def shareAll : Bool := (List.range 256).all fun r => (List.range 8).all fun m =>
  if shareB (m : Int) (r : Int) then bits BinOp.and IntKind.i64 (r : Int) (m : Int) == (r : Int) && bits BinOp.and IntKind.i64 (m : Int) 4 == 4
  else bits BinOp.and IntKind.i64 (m : Int) 4 == 0 || (bits BinOp.and IntKind.i64 (m : Int) 4 == 4 && !(bits BinOp.and IntKind.i64 (r : Int) (m : Int) == (r : Int)))
theorem shareAll_true : shareAll = true := by kernel_rfl
theorem share_one (r m : Nat) (hr : r ≤ 255) (hm : m ≤ 7) :
    (if shareB (m : Int) (r : Int) then bits BinOp.and IntKind.i64 (r : Int) (m : Int) == (r : Int) && bits BinOp.and IntKind.i64 (m : Int) 4 == 4
  else bits BinOp.and IntKind.i64 (m : Int) 4 == 0 || (bits BinOp.and IntKind.i64 (m : Int) 4 == 4 && !(bits BinOp.and IntKind.i64 (r : Int) (m : Int) == (r : Int)))) = true := by
  have h1 := List.all_eq_true.mp shareAll_true r (List.mem_range.mpr (by omega))
  exact List.all_eq_true.mp h1 m (List.mem_range.mpr (by omega))
theorem share_yes {r m : Nat} (hr : r ≤ 255) (hm : m ≤ 7) (h : shareB (m : Int) (r : Int) = true) : bits BinOp.and IntKind.i64 (r : Int) (m : Int) = (r : Int) ∧ bits BinOp.and IntKind.i64 (m : Int) 4 = 4 := by
  have := share_one r m hr hm
  rw [h, if_pos rfl, Bool.and_eq_true, beq_iff_eq, beq_iff_eq] at this
  exact this
theorem share_no {r m : Nat} (hr : r ≤ 255) (hm : m ≤ 7) (h : ¬ shareB (m : Int) (r : Int) = true) : bits BinOp.and IntKind.i64 (m : Int) 4 = 0 ∨ (bits BinOp.and IntKind.i64 (m : Int) 4 = 4 ∧ (bits BinOp.and IntKind.i64 (r : Int) (m : Int) == (r : Int)) = false) := by
  have := share_one r m hr hm
  rw [if_neg h, Bool.or_eq_true, Bool.and_eq_true, beq_iff_eq, beq_iff_eq] at this
  rcases this with h1 | ⟨h1, h2⟩
  · exact Or.inl h1
  · exact Or.inr ⟨h1, by simpa using h2⟩

/-- what Derive answers and makes -/
def DeriveP (M : Mach) (t p : Nat) (o l r : Int) (e : Int) (m : ByteArray) (M' : Mach) : Prop :=
  (¬ shareB (M.s p).rights r = true ∧ e = 5 ∧ m = nilS ∧ M' = M) ∨ (shareB (M.s p).rights r = true ∧ (M.s p).len < o + l ∧ e = 6 ∧ m = nilS ∧ M' = M) ∨
    (shareB (M.s p).rights r = true ∧ ¬ (M.s p).len < o + l ∧ e = M.layE t ∧ m = M.layS t ∧ M' = M.lay t p ((M.s p).first + o) l r)

theorem laid_ok {M : Mach} (ok : M.Ok) {p : Nat} (hu : (M.s p).uses ≤ 4095) (a r f l m : Int) : (M.set p ((M.s p).laid a r f l m)).Ok := by
  refine ⟨ok.nt, ok.ns, ok.nc, fun q => ?_, fun q => ?_⟩
  · by_cases hq : q = p
    · subst hq; rw [Mach.set_same]; simp [HSlot.laid]; omega
    · rw [Mach.set_other _ _ hq]; exact ok.uses q
  · by_cases hq : q = p
    · subst hq; rw [Mach.set_same]; exact ok.bytes q
    · rw [Mach.set_other _ _ hq]; exact ok.bytes q
theorem laid_bytes (M : Mach) (p : Nat) (a r f l m : Int) (q : Nat) : ((M.set p ((M.s p).laid a r f l m)).s q).bytes = (M.s q).bytes := by
  by_cases hq : q = p
  · subst hq; rw [Mach.set_same]; rfl
  · rw [Mach.set_other _ _ hq]
theorem laid_handle (M : Mach) (t i : Nat) (hi : i < 16) (a r f l m : Int) : (M.set (16 * t + i) ((M.s (16 * t + i)).laid a r f l m)).handle (16 * t + i) = 16 * ((M.s (16 * t + i)).uses : Int) + (i : Int) := by
  unfold Mach.handle
  rw [Mach.set_same]
  simp only [HSlot.laid]
  omega

/-- what give answers and makes: a holding laid into a tenant's next slot -/
def GiveP (M : Mach) (t : Nat) (a r f l m : Int) (e : Int) (s : ByteArray) (M' : Mach) : Prop :=
  (M.next t = none ∧ e = 8 ∧ s = nilS ∧ M' = M) ∨
    ∃ i, M.next t = some i ∧ e = 0 ∧ s = twoW (16 * ((M.s (16 * t + i)).uses : Int) + (i : Int)) ∧ M' = M.set (16 * t + i) ((M.s (16 * t + i)).laid a r f l m)
theorem GiveP.lay {M : Mach} {t p : Nat} {f l m : Int} {e : Int} {s : ByteArray} {M' : Mach} (h : GiveP M t (p : Int) (M.s p).root f l m e s M') : e = M.layE t ∧ s = M.layS t ∧ M' = M.lay t p f l m := by
  unfold Mach.layE Mach.layS Mach.lay
  rcases h with ⟨h1, h2, h3, h4⟩ | ⟨i, h1, h2, h3, h4⟩
  · rw [h1]; exact ⟨h2, h3, h4⟩
  · rw [h1]; exact ⟨h2, h3, h4⟩

set_option maxHeartbeats 1600000 in
theorem give_any {g : Nat} {M : Mach} {bl : Nat → Nat} {w : World} (t : Nat) (a r f l m : Int) (h : HAt w g M bl) (ok : M.Ok) (ht : t < 4) :
    Calls Try.prog 95 #[.pointer (some ⟨g, 0, none⟩), .int .i64 (t : Int), .agg #[.int .i64 a, .int .i64 r, .int .i64 f, .int .i64 l, .int .i64 m]] w fun e w' =>
      ∃ (er : Int) (s : ByteArray) (M' : Mach), e = .returned (.tuple #[.string s, .int .i64 er]) ∧ GiveP M t a r f l m er s M' ∧ HAt w' g M' bl ∧ Frm (· = g) w w' ∧ ∀ q, (M'.s q).bytes = (M.s q).bytes := by
  have hns := ok.ns
  have hg := h.lt
  have HH : Hid (HAt w g M bl ∧ M.Ok) := ⟨h, ok⟩
  have HV : Hid (HAt (w.alloc (.cells #[.int .i64 a, .int .i64 r, .int .i64 f, .int .i64 l, .int .i64 m] 110)) g M bl) := h.below ((Below.refl _ _).alloc (Nat.le_refl _) _)
  clear h ok
  rcases firstN_spec (fun n => !(M.s (16 * t + n)).full && decide ((M.s (16 * t + n)).uses ≤ 4095)) M.ns with ⟨hn1, hn2⟩ | ⟨i, hn1, hn2, hn3, hn4⟩
  · have hn1 : M.next t = none := hn1
    have HA : Hid (GiveP M t a r f l m 8 nilS M) := Or.inl ⟨hn1, rfl, rfl, rfl⟩
    have hV : nextV M t = .tuple #[.int .i64 0, .bool false] := by unfold nextV; rw [hn1]
    clear hn1 hn2
    go_enter Try.func95, Try.ntmps95
    go_wp2_with fail
    refine (next_any t HV.out HH.out.2 ht).mono ?_
    rintro e w1 ⟨rfl, rfl⟩
    rw [hV]
    go_wp2_with fail
    go_ret2
    exact ⟨8, nilS, M, rfl, HA.out, HV.out, Frm.alloc _ _ _, fun _ => rfl⟩
  · have hn1 : M.next t = some i := hn1
    have hp2 : 16 * t + i < 64 := by omega
    have hun : Hid ((M.s (16 * t + i)).uses ≤ 4095) := by
      show _ ≤ _
      simp at hn3
      exact hn3.2
    have hi16 : i < 16 := by omega
    have HA : Hid (GiveP M t a r f l m 0 (twoW (16 * ((M.s (16 * t + i)).uses : Int) + (i : Int))) (M.set (16 * t + i) ((M.s (16 * t + i)).laid a r f l m))) := Or.inr ⟨i, hn1, rfl, rfl, rfl⟩
    have HL : Hid ((M.set (16 * t + i) ((M.s (16 * t + i)).laid a r f l m)).handle (16 * t + i) = 16 * ((M.s (16 * t + i)).uses : Int) + (i : Int)) := laid_handle M t i hi16 _ _ _ _ _
    have hV : nextV M t = .tuple #[.int .i64 ((16 * t + i : Nat) : Int), .bool true] := by unfold nextV; rw [hn1]
    clear hn1 hn3 hn4
    generalize hpp : 16 * t + i = p2 at *
    go_enter Try.func95, Try.ntmps95
    go_wp2_with fail
    refine (next_any t HV.out HH.out.2 ht).mono ?_
    rintro e w1 ⟨rfl, rfl⟩
    rw [hV]
    clear hV
    go_wp2_with fail
    refine (lay_any p2 _ _ _ _ _ HV.out HH.out.2 hp2).mono ?_
    rintro e w2 ⟨rfl, hM2, hF2⟩
    have HY : Hid (HAt w2 g (M.set p2 ((M.s p2).laid a r f l m)) bl ∧ Frm (· = g) w w2) := ⟨hM2, (Frm.alloc (· = g) w _).trans hF2 (fun _ _ h => h)⟩
    have hok3 : Hid ((M.set p2 ((M.s p2).laid a r f l m)).Ok) := laid_ok HH.out.2 hun.out _ _ _ _ _
    clear hM2 hF2
    go_wp2_with fail
    refine (handleAt_any p2 HY.out.1 hok3.out hp2).mono ?_
    rintro e w3 ⟨rfl, rfl⟩
    go_wp2_with fail
    refine (twoBytes_any _ _).mono ?_
    rintro e w4 ⟨rfl, hb4⟩
    have HQ : Hid (Below w3.heap.size w3 w4) := hb4
    clear hb4
    go_wp2_with fail
    go_ret2
    refine ⟨0, _, _, ?_, HA.out, HY.out.1.below HQ.out, HY.out.2.trans (Frm.ofBelow (F := fun _ => False) HQ.out) (fun _ _ h => h.elim), fun q => laid_bytes _ _ _ _ _ _ _ _⟩
    rw [HL.out]
    rfl

set_option maxHeartbeats 1600000 in
theorem derive_any {g : Nat} {M : Mach} {bl : Nat → Nat} {w : World} (t p o l r : Nat) (h : HAt w g M bl) (inv : M.Inv) (ht : t < 4) (hp : p < 64) (hfull : (M.s p).full = true) (ho : o ≤ 65535) (hl : l ≤ 65535) (hr : r ≤ 255) :
    Calls Try.prog 79 #[.pointer (some ⟨g, 0, none⟩), .int .i64 (t : Int), .int .i64 (p : Int), .int .i64 (o : Int), .int .i64 (l : Int), .int .i64 (r : Int)] w fun e w' =>
      ∃ (er : Int) (m : ByteArray) (M' : Mach), e = .returned (.tuple #[.string m, .int .i64 er]) ∧ DeriveP M t p o l r er m M' ∧ HAt w' g M' bl ∧ Frm (· = g) w w' ∧ ∀ q, (M'.s q).bytes = (M.s q).bytes := by
  obtain ⟨m, hm⟩ : ∃ m : Nat, (M.s p).rights = (m : Int) := ⟨(M.s p).rights.toNat, by have := inv.rights p; omega⟩
  have hm7 : m ≤ 7 := by have := inv.rights p; omega
  obtain ⟨q, e1, e2, e3, e4, e5, e6, e7⟩ := inv.top p hfull
  have hby := inv.ok.bytes q
  obtain ⟨f, hf⟩ : ∃ f : Nat, (M.s p).first = (f : Int) := ⟨(M.s p).first.toNat, by omega⟩
  obtain ⟨z, hz⟩ : ∃ z : Nat, (M.s p).len = (z : Int) := ⟨(M.s p).len.toNat, by omega⟩
  have hfz : f + z ≤ 256 := by omega
  have c2 := h.frm p hp
  have c3 := h.root p hp
  have c4 := h.first p hp
  have c5 := h.len p hp
  have c6 := h.rights p hp
  have hns := inv.ok.ns
  rw [hm] at c6
  rw [hf] at c4
  rw [hz] at c5
  have hg := h.lt
  have HH : Hid (HAt w g M bl ∧ M.Ok ∧ (M.s p).rights = (m : Int) ∧ (M.s p).first = (f : Int) ∧ (M.s p).len = (z : Int)) := ⟨h, inv.ok, hm, hf, hz⟩
  clear h inv e1 e2 e3 e4 e5 e6 e7 hby hm hf hz
  by_cases h1 : shareB (m : Int) (r : Int) = true
  · obtain ⟨a1, a2⟩ := share_yes hr hm7 h1
    have HS : Hid (shareB (M.s p).rights r = true) := by show _ = _; rw [HH.out.2.2.1]; exact h1
    clear h1
    by_cases h5 : (z : Int) < (o : Int) + (l : Int)
    · have HA : Hid (DeriveP M t p o l r 6 nilS M) := Or.inr (Or.inl ⟨HS.out, by rw [HH.out.2.2.2.2]; exact h5, rfl, rfl, rfl⟩)
      go_enter Try.func79, Try.ntmps79
      go_wp2
      go_ret2
      exact ⟨6, nilS, M, rfl, HA.out, HH.out.1.below ((Below.refl _ _).alloc (Nat.le_refl _) _), Frm.alloc _ _ _, fun _ => rfl⟩
    · have HA : Hid (∀ er m' M', GiveP M t (p : Int) (M.s p).root ((f : Int) + (o : Int)) (l : Int) (r : Int) er m' M' → DeriveP M t p o l r er m' M') := fun er m' M' hG => by
        have hG := hG.lay
        rw [← HH.out.2.2.2.1] at hG
        exact Or.inr (Or.inr ⟨HS.out, by rw [HH.out.2.2.2.2]; exact h5, hG⟩)
      go_enter Try.func79, Try.ntmps79
      go_wp2_with fail
      refine (give_any t _ _ _ _ _ (HH.out.1.below ((Below.refl _ _).alloc (Nat.le_refl _) _)) HH.out.2.1 ht).mono ?_
      rintro e w1 ⟨er, s, M', rfl, hG, hM, hF, hJ⟩
      have HR : Hid (GiveP M t (p : Int) (M.s p).root ((f : Int) + (o : Int)) (l : Int) (r : Int) er s M' ∧ HAt w1 g M' bl ∧ Frm (· = g) w w1 ∧ ∀ q, (M'.s q).bytes = (M.s q).bytes) := ⟨hG, hM, (Frm.alloc (· = g) w _).trans hF (fun _ _ h => h), hJ⟩
      clear hG hM hF hJ
      go_wp2_with fail
      go_ret2
      exact ⟨er, s, M', rfl, HA.out _ _ _ HR.out.1, HR.out.2⟩
  · have HA : Hid (DeriveP M t p o l r 5 nilS M) := Or.inl ⟨by rw [HH.out.2.2.1]; exact h1, rfl, rfl, rfl⟩
    rcases share_no hr hm7 h1 with a1 | ⟨a1, a2⟩
    · clear h1
      go_enter Try.func79, Try.ntmps79
      go_wp2
      go_ret2
      exact ⟨5, nilS, M, rfl, HA.out, HH.out.1.below ((Below.refl _ _).alloc (Nat.le_refl _) _), Frm.alloc _ _ _, fun _ => rfl⟩
    · clear h1
      go_enter Try.func79, Try.ntmps79
      go_wp2
      go_ret2
      exact ⟨5, nilS, M, rfl, HA.out, HH.out.1.below ((Below.refl _ _).alloc (Nat.le_refl _) _), Frm.alloc _ _ _, fun _ => rfl⟩

/-- what Grant answers and makes -/
def GrantP (M : Mach) (p : Nat) (to : Int) (e : Int) (m : ByteArray) (M' : Mach) : Prop :=
  (¬ (M.s p).rights / 4 = 1 ∧ e = 5 ∧ m = nilS ∧ M' = M) ∨ ((M.s p).rights / 4 = 1 ∧ (M.nt : Int) ≤ to ∧ e = 3 ∧ m = nilS ∧ M' = M) ∨
    ((M.s p).rights / 4 = 1 ∧ ¬ (M.nt : Int) ≤ to ∧ e = M.layE to.toNat ∧ m = M.layS to.toNat ∧ M' = M.lay to.toNat p (M.s p).first (M.s p).len (M.s p).rights)

theorem four_no {m : Nat} (hm : m ≤ 7) (h : ¬ (m : Int) / 4 = 1) : bits BinOp.and IntKind.i64 (m : Int) 4 = 0 := by
  have : m ≤ 3 := by omega
  obtain rfl | rfl | rfl | rfl : m = 0 ∨ m = 1 ∨ m = 2 ∨ m = 3 := by omega
  all_goals decide
theorem four_yes {m : Nat} (hm : m ≤ 7) (h : (m : Int) / 4 = 1) : bits BinOp.and IntKind.i64 (m : Int) 4 = 4 := by
  obtain rfl | rfl | rfl | rfl : m = 4 ∨ m = 5 ∨ m = 6 ∨ m = 7 := by omega
  all_goals decide

set_option maxHeartbeats 1600000 in
theorem grant_any {g : Nat} {M : Mach} {bl : Nat → Nat} {w : World} (p to : Nat) (h : HAt w g M bl) (inv : M.Inv) (hp : p < 64) :
    Calls Try.prog 80 #[.pointer (some ⟨g, 0, none⟩), .int .i64 (to : Int), .int .i64 (p : Int)] w fun e w' =>
      ∃ (er : Int) (m : ByteArray) (M' : Mach), e = .returned (.tuple #[.string m, .int .i64 er]) ∧ GrantP M p to er m M' ∧ HAt w' g M' bl ∧ Frm (· = g) w w' ∧ ∀ q, (M'.s q).bytes = (M.s q).bytes := by
  obtain ⟨m, hm⟩ : ∃ m : Nat, (M.s p).rights = (m : Int) := ⟨(M.s p).rights.toNat, by have := inv.rights p; omega⟩
  have hm7 : m ≤ 7 := by have := inv.rights p; omega
  have hnt := inv.ok.nt
  have c2 := h.frm p hp
  have c3 := h.root p hp
  have c4 := h.first p hp
  have c5 := h.len p hp
  have c6 := h.rights p hp
  rw [hm] at c6
  have hg := h.lt
  have HH : Hid (HAt w g M bl ∧ M.Ok ∧ (M.s p).rights = (m : Int)) := ⟨h, inv.ok, hm⟩
  clear h inv hm
  by_cases h1 : (m : Int) / 4 = 1
  · have a1 := four_yes hm7 h1
    have HS : Hid ((M.s p).rights / 4 = 1) := by show _ = _; rw [HH.out.2.2]; exact h1
    clear h1
    by_cases h5 : (M.nt : Int) ≤ (to : Int)
    · have HA : Hid (GrantP M p to 3 nilS M) := Or.inr (Or.inl ⟨HS.out, h5, rfl, rfl, rfl⟩)
      have hb : hasB M.nt (to : Int) = false := by simp [hasB]; omega
      clear h5
      go_enter Try.func80, Try.ntmps80
      go_wp2_with fail
      refine (has_any (to : Int) (HH.out.1.below ((Below.refl _ _).alloc (Nat.le_refl _) _))).mono ?_
      rintro e w1 ⟨rfl, rfl⟩
      rw [hb]
      go_wp2_with fail
      go_ret2
      exact ⟨3, nilS, M, rfl, HA.out, HH.out.1.below ((Below.refl _ _).alloc (Nat.le_refl _) _), Frm.alloc _ _ _, fun _ => rfl⟩
    · have HA : Hid (∀ er m' M', GiveP M to (p : Int) (M.s p).root (M.s p).first (M.s p).len (M.s p).rights er m' M' → GrantP M p to er m' M') := fun er m' M' hG => Or.inr (Or.inr ⟨HS.out, h5, hG.lay⟩)
      have hb : hasB M.nt (to : Int) = true := by simp [hasB]; omega
      have ht : to < 4 := by omega
      go_enter Try.func80, Try.ntmps80
      go_wp2_with fail
      refine (has_any (to : Int) (HH.out.1.below ((Below.refl _ _).alloc (Nat.le_refl _) _))).mono ?_
      rintro e w1 ⟨rfl, rfl⟩
      rw [hb]
      go_wp2_with fail
      rw [← HH.out.2.2]
      refine (give_any to _ _ _ _ _ (HH.out.1.below ((Below.refl _ _).alloc (Nat.le_refl _) _)) HH.out.2.1 ht).mono ?_
      rintro e w1 ⟨er, s, M', rfl, hG, hM, hF, hJ⟩
      have HR : Hid (GiveP M to (p : Int) (M.s p).root (M.s p).first (M.s p).len (M.s p).rights er s M' ∧ HAt w1 g M' bl ∧ Frm (· = g) w w1 ∧ ∀ q, (M'.s q).bytes = (M.s q).bytes) := ⟨hG, hM, (Frm.alloc (· = g) w _).trans hF (fun _ _ h => h), hJ⟩
      clear hG hM hF hJ
      go_wp2_with fail
      go_ret2
      exact ⟨er, s, M', rfl, HA.out _ _ _ HR.out.1, HR.out.2⟩
  · have HA : Hid (GrantP M p to 5 nilS M) := Or.inl ⟨by rw [HH.out.2.2]; exact h1, rfl, rfl, rfl⟩
    have a1 := four_no hm7 h1
    clear h1
    go_enter Try.func80, Try.ntmps80
    go_wp2
    go_ret2
    exact ⟨5, nilS, M, rfl, HA.out, HH.out.1.below ((Below.refl _ _).alloc (Nat.le_refl _) _), Frm.alloc _ _ _, fun _ => rfl⟩

set_option maxHeartbeats 400000 in
theorem drop_any {g : Nat} {M : Mach} {bl : Nat → Nat} {w : World} (p : Nat) (h : HAt w g M bl) (hp : p < 64) (hfull : (M.s p).full = true) :
    Calls Try.prog 82 #[.pointer (some ⟨g, 0, none⟩), .int .i64 (p : Int)] w fun e w' =>
      ((M.s p).frm = -1 ∧ e = .returned (.int .i64 9) ∧ w' = w) ∨
      ((M.s p).frm ≠ -1 ∧ e = .returned (.int .i64 0) ∧ ∃ M', HAt w' g M' bl ∧ Gone (fun x => x = p ∨ Under M p x) M M' ∧ Frm (· = g) w w') := by
  have cf := h.frm p hp
  have HH : Hid (HAt w g M bl) := h
  clear h
  by_cases he : (M.s p).frm = -1
  · rw [he] at cf
    go_enter Try.func82, Try.ntmps82
    go_wp2
    go_ret
    exact Or.inl ⟨he, rfl, rfl⟩
  · have he2 : ((M.s p).frm == -1) = false := by simp [he]
    go_enter Try.func82, Try.ntmps82
    go_wp2_with fail
    refine (empty_any p HH.out hp hfull).mono ?_
    rintro e w1 ⟨rfl, M', hM, hG, hF⟩
    have HX : Hid (∃ M', HAt w1 g M' bl ∧ Gone (fun x => x = p ∨ Under M p x) M M' ∧ Frm (· = g) w w1) := ⟨M', hM, hG, hF⟩
    clear hM hG hF
    go_wp2
    go_ret
    exact Or.inr ⟨he, rfl, HX.out⟩

/- HouseAsk -/

/-- the landed house behind a step: what it answers, how it lies, what was turned -/
def HPost (M : Mach) (bl : Nat → Nat) (g t : Nat) (w : World) (s : ByteArray) (w' : World) (e : Int) (m : ByteArray) : Prop :=
  ∃ M' bl', StepS M t s e m M' ∧ HAt w' g M' bl' ∧ Frm (HFoot g M bl) w w' ∧ ∀ k, HFoot g M' bl' k → HFoot g M bl k ∨ w.heap.size ≤ k

theorem ok_bd {op h o l r t : Int} {n : Nat} (hok : okB op h o l r t n = true) : (0 ≤ h ∧ h ≤ 65535) ∧ (0 ≤ o ∧ o ≤ 65535) ∧ (0 ≤ l ∧ l ≤ 65535) ∧ (0 ≤ r ∧ r ≤ 255) ∧ (0 ≤ t ∧ t ≤ 255) ∧ n ≤ 64 := by
  rcases knw_cases (ok_known hok) with rfl | rfl | rfl | rfl | rfl | rfl | rfl | rfl | rfl <;>
  · simp [okB, wd, bt, zr] at hok
    omega

theorem foot_same {g : Nat} {M : Mach} {bl : Nat → Nat} {w : World} : ∀ k, HFoot g M bl k → HFoot g M bl k ∨ w.heap.size ≤ k := fun _ h => Or.inl h
theorem foot_gone {g : Nat} {M M' : Mach} {bl : Nat → Nat} {w : World} {D : Nat → Prop} (G : Gone D M M') : ∀ k, HFoot g M' bl k → HFoot g M bl k ∨ w.heap.size ≤ k := by
  rintro k (h | ⟨p, hp, hb, rfl⟩)
  · exact Or.inl (Or.inl h)
  · refine Or.inl (Or.inr ⟨p, hp, ?_, rfl⟩)
    intro e
    rcases Classical.em (D p) with hd | hd
    · rw [G.out p hd] at hb; exact hb rfl
    · rw [G.same p hd] at hb; exact hb e
theorem foot_write {g : Nat} {M : Mach} {bl : Nat → Nat} {w : World} (inv : M.Inv) {p : Nat} {o : Int} {d : ByteArray} (hf : (M.s p).full = true) : ∀ k, HFoot g (M.write p o d) bl k → HFoot g M bl k ∨ w.heap.size ≤ k := by
  intro k
  unfold Mach.write
  split
  · obtain ⟨r, e1, e2, e3, e4, _⟩ := inv.top p hf
    have er : (M.s p).root.toNat = r := by rw [e1]; rfl
    rw [er]
    rintro (h | ⟨q, hq, hb, rfl⟩)
    · exact Or.inl (Or.inl h)
    · refine Or.inl (Or.inr ⟨q, hq, ?_, rfl⟩)
      by_cases e : q = r
      · rw [e]; exact inv.root_bytes e3 e4
      · rw [Mach.set_other _ _ e] at hb; exact hb
  · exact Or.inl
theorem foot_laid {g : Nat} {M M' : Mach} {bl : Nat → Nat} {w : World} (h : ∀ q, (M'.s q).bytes = (M.s q).bytes) : ∀ k, HFoot g M' bl k → HFoot g M bl k ∨ w.heap.size ≤ k := by
  rintro k (hk | ⟨p, hp, hb, rfl⟩)
  · exact Or.inl (Or.inl hk)
  · exact Or.inl (Or.inr ⟨p, hp, by rw [← h]; exact hb, rfl⟩)
theorem foot_alloc {g : Nat} {M M' : Mach} {bl bl' : Nat → Nat} {w : World} (h : ∀ q, (M'.s q).bytes ≠ [] → ((M.s q).bytes ≠ [] ∧ bl' q = bl q) ∨ w.heap.size ≤ bl' q) : ∀ k, HFoot g M' bl' k → HFoot g M bl k ∨ w.heap.size ≤ k := by
  rintro k (e | ⟨p, hp, hb, rfl⟩)
  · exact Or.inl (Or.inl e)
  · rcases h p hb with ⟨h1, h2⟩ | h1
    · exact Or.inl (Or.inr ⟨p, hp, h1, h2⟩)
    · exact Or.inr h1

theorem find_lt {M : Mach} {t n : Nat} {h : Int} (hf : M.find t h = some n) : n < M.ns ∧ (M.s (16 * t + n)).full = true := by
  rcases firstN_spec (fun n => (M.s (16 * t + n)).full && M.handle (16 * t + n) == h) M.ns with ⟨h1, _⟩ | ⟨k, h1, h2, h3, _⟩
  · rw [show M.find t h = none from h1] at hf; cases hf
  · rw [show M.find t h = some k from h1] at hf
    injection hf with e
    subst e
    simp only [Bool.and_eq_true] at h3
    exact ⟨h2, h3.1⟩

set_option maxHeartbeats 1600000 in
set_option maxRecDepth 100000 in
theorem serve_no {g : Nat} {M : Mach} {bl : Nat → Nat} {w : World} (t : Nat) (s : ByteArray) (h : HAt w g M bl) (hs : s.size ≤ 140737488355328) (hd : decV s = noV) :
    Calls Try.prog 64 #[.pointer (some ⟨g, 0, none⟩), .int .i64 (t : Int), .string s] w fun e w' => e = .returned (.tuple #[.string nilS, .int .i64 1]) ∧ HPost M bl g t w s w' 1 nilS := by
  have HH : Hid (HAt w g M bl) := h
  clear h
  go_enter Try.func64, Try.ntmps64
  go_wp2_with fail
  refine (dec_any s w hs).mono ?_
  rintro e w1 ⟨rfl, hb⟩
  rw [hd, show noV = .tuple #[.agg #[.int .i64 0, .int .i64 0, .int .i64 0, .int .i64 0, .int .i64 0, .int .i64 0, .string ⟨#[]⟩], .int .i64 1] from rfl]
  have HB : Hid (Below w.heap.size w w1 ∧ decV s = noV) := ⟨hb, hd⟩
  clear hb hd
  go_wp2
  go_ret2
  have hb2 : Below w.heap.size w (w1.alloc (.cells #[.int .i64 0, .int .i64 0, .int .i64 0, .int .i64 0, .int .i64 0, .int .i64 0, .string ⟨#[]⟩] 23)) := HB.out.1.alloc HB.out.1.size _
  exact ⟨rfl, M, bl, Or.inl ⟨HB.out.2, rfl, rfl, rfl⟩, HH.out.below hb2, Frm.ofBelow hb2, foot_same⟩

set_option maxHeartbeats 3200000 in
set_option maxRecDepth 100000 in
theorem serve_yes {g : Nat} {M : Mach} {bl : Nat → Nat} {w : World} (t : Nat) (s : ByteArray) (h : HAt w g M bl) (inv : M.Inv) (ht : t < M.nt) (hs : s.size ≤ 140737488355328) {op x o l r to : Int} {d : ByteArray} (hd : decV s = yesV op x o l r to d) (hok : okB op x o l r to d.size = true) :
    Calls Try.prog 64 #[.pointer (some ⟨g, 0, none⟩), .int .i64 (t : Int), .string s] w fun e w' => ∃ (er : Int) (m : ByteArray), e = .returned (.tuple #[.string m, .int .i64 er]) ∧ HPost M bl g t w s w' er m := by
  have hkn := ok_known hok
  obtain ⟨⟨b1, b2⟩, ⟨b3, b4⟩, ⟨b5, b6⟩, ⟨b7, b8⟩, ⟨b9, _⟩, b11⟩ := ok_bd hok
  have ht4 : t < 4 := by have := inv.ok.nt; omega
  have hns := inv.ok.ns
  have hg := h.lt
  obtain ⟨o', rfl⟩ : ∃ o' : Nat, o = (o' : Int) := ⟨o.toNat, by omega⟩
  obtain ⟨l', rfl⟩ : ∃ l' : Nat, l = (l' : Int) := ⟨l.toNat, by omega⟩
  obtain ⟨r', rfl⟩ : ∃ r' : Nat, r = (r' : Int) := ⟨r.toNat, by omega⟩
  have HH : Hid (HAt w g M bl ∧ M.Inv ∧ decV s = yesV op x o' l' r' to d) := ⟨h, inv, hd⟩
  clear h inv hok
  go_enter Try.func64, Try.ntmps64
  go_wp2_with fail
  refine (dec_any s w hs).mono ?_
  rintro e w1 ⟨rfl, hb⟩
  rw [hd, show yesV op x o' l' r' to d = .tuple #[.agg #[.int .i64 op, .int .i64 x, .int .i64 (o' : Int), .int .i64 (l' : Int), .int .i64 (r' : Int), .int .i64 to, .string d], .int .i64 0] from rfl]
  obtain ⟨W, hW⟩ : ∃ W, W = w1.alloc (.cells #[.int .i64 op, .int .i64 x, .int .i64 (o' : Int), .int .i64 (l' : Int), .int .i64 (r' : Int), .int .i64 to, .string d] 23) := ⟨_, rfl⟩
  have hWb : Below w.heap.size w W := hW ▸ hb.alloc hb.size _
  have HX : Hid (HAt W g M bl ∧ Below w.heap.size w W) := ⟨HH.out.1.below hWb, hWb⟩
  have HW : Hid (W = w1.alloc (.cells #[.int .i64 op, .int .i64 x, .int .i64 (o' : Int), .int .i64 (l' : Int), .int .i64 (r' : Int), .int .i64 to, .string d] 23)) := hW
  have stp : Hid (∀ er m M', StepQ M t op x o' l' r' to d er m M' → StepS M t s er m M') := fun er m M' h => Or.inr ⟨op, x, o', l', r', to, d, HH.out.2.2, h⟩
  clear hb hd hWb hW
  by_cases h1 : op = 1
  · subst h1
    go_wp2_with fail
    rw [← HW.out]
    refine (alloc_any t l' HX.out.1 HH.out.2.1.ok ht4 (by omega)).mono ?_
    rintro e w2 ⟨rfl, bl', hM, hF, hJ⟩
    have HY : Hid (HAt w2 g (M.alloc t l').2.2 bl' ∧ Frm (· = g) W w2 ∧ ∀ q, ((M.alloc t l').2.2.s q).bytes ≠ [] → ((M.s q).bytes ≠ [] ∧ bl' q = bl q) ∨ W.heap.size ≤ bl' q) := ⟨hM, hF, hJ⟩
    clear hM hF hJ
    go_wp2
    go_ret2
    exact ⟨(M.alloc t l').1, (M.alloc t l').2.1, rfl, _, bl', stp.out _ _ _ (Or.inl ⟨rfl, rfl, rfl, rfl⟩), HY.out.1, (Frm.ofBelow (F := HFoot g M bl) HX.out.2).trans HY.out.2.1 (fun k _ hk => Or.inl hk), foot_alloc (fun q hq => (HY.out.2.2 q hq).imp id (fun h => Nat.le_trans HX.out.2.size h))⟩
  · have h1b : (op == 1) = false := by simp [h1]
    have n0 : W.cell? ⟨w1.heap.size, 0, none⟩ = some (.int .i64 op) := HW.out ▸ rowCell (newRowAt _ _) 0
    have n2 : W.cell? ⟨w1.heap.size, 2, none⟩ = some (.int .i64 (o' : Int)) := HW.out ▸ rowCell (newRowAt _ _) 2
    have n3 : W.cell? ⟨w1.heap.size, 3, none⟩ = some (.int .i64 (l' : Int)) := HW.out ▸ rowCell (newRowAt _ _) 3
    have n4 : W.cell? ⟨w1.heap.size, 4, none⟩ = some (.int .i64 (r' : Int)) := HW.out ▸ rowCell (newRowAt _ _) 4
    have n6 : W.cell? ⟨w1.heap.size, 6, none⟩ = some (.string d) := HW.out ▸ rowCell (newRowAt _ _) 6
    go_wp2_with fail
    rw [← HW.out]
    refine (find_any t x HX.out.1 HH.out.2.1.ok ht4).mono ?_
    rintro e w2 ⟨rfl, hw2⟩
    have H1 : Hid (op ≠ 1) := h1
    cases hf : M.find t x with
    | none =>
      have hV : findV M t x = .tuple #[.int .i64 0, .bool false] := by unfold findV; rw [hf]
      rw [hV]
      subst hw2
      have HF : Hid (M.find t x = none) := hf
      clear hf h1 hV
      go_wp2
      go_ret2
      exact ⟨4, nilS, rfl, M, bl, stp.out _ _ _ (Or.inr (Or.inl ⟨H1.out, HF.out, rfl, rfl, rfl⟩)), HX.out.1, Frm.ofBelow HX.out.2, foot_same⟩
    | some n =>
      have hV : findV M t x = .tuple #[.int .i64 ((16 * t + n : Nat) : Int), .bool true] := by unfold findV; rw [hf]
      obtain ⟨hn, hfull⟩ := find_lt hf
      have hp : 16 * t + n < 64 := by omega
      rw [hV]
      subst hw2
      have HS : Hid (∀ er m M', StepP M t (16 * t + n) op o' l' r' to d er m M' → StepS M t s er m M') := fun er m M' h => stp.out _ _ _ (Or.inr (Or.inr ⟨H1.out, n, hf, h⟩))
      clear hf hV stp
      generalize hpe : 16 * t + n = p at *
      rcases knw_cases hkn with e1 | e1 | e1 | e1 | e1 | e1 | e1 | e1 | e1
      · exact absurd e1 h1
      · subst e1
        go_wp2_with fail
        refine (free_any p HX.out.1 hp hfull).mono ?_
        rintro e w3 (⟨hr, rfl, rfl⟩ | ⟨hr, rfl, M', hM, hG, hF⟩)
        · have HR : Hid ((M.s p).frm ≠ -1) := hr
          clear hr
          go_wp2
          go_ret2
          exact ⟨9, nilS, rfl, M, bl, HS.out _ _ _ (Or.inl ⟨rfl, Or.inl ⟨HR.out, rfl, rfl, rfl⟩⟩), HX.out.1, Frm.ofBelow HX.out.2, foot_same⟩
        · have HR : Hid ((M.s p).frm = -1 ∧ HAt w3 g M' bl ∧ Gone (fun x => x = p ∨ Under M p x) M M' ∧ Frm (· = g) w2 w3) := ⟨hr, hM, hG, hF⟩
          clear hr hM hG hF
          go_wp2
          go_ret2
          exact ⟨0, nilS, rfl, M', bl, HS.out _ _ _ (Or.inl ⟨rfl, Or.inr ⟨HR.out.1, rfl, rfl, HR.out.2.2.1⟩⟩), HR.out.2.1, (Frm.ofBelow (F := HFoot g M bl) HX.out.2).trans HR.out.2.2.2 (fun k _ hk => Or.inl hk), foot_gone HR.out.2.2.1⟩
      · subst e1
        go_wp2_with fail
        refine (read_any p o' l' HX.out.1 HH.out.2.1 hp hfull (by omega) (by omega)).mono ?_
        rintro e w3 ⟨rfl, hb3⟩
        have HB : Hid (Below w.heap.size w w3 ∧ HAt w3 g M bl) := ⟨HX.out.2.trans (hb3.mono HX.out.2.size), HX.out.1.below hb3⟩
        clear hb3
        go_wp2
        go_ret2
        exact ⟨(M.read p o' l').1, (M.read p o' l').2, rfl, M, bl, HS.out _ _ _ (Or.inr (Or.inl ⟨rfl, rfl, rfl, rfl⟩)), HB.out.2, Frm.ofBelow HB.out.1, foot_same⟩
      · subst e1
        go_wp2_with fail
        refine (write_any p o' d HX.out.1 HH.out.2.1 hp hfull (by omega) b11).mono ?_
        rintro e w3 ⟨rfl, hM, hF⟩
        have HR : Hid (HAt w3 g (M.write p o' d) bl ∧ Frm (HFoot g M bl) w2 w3) := ⟨hM, hF⟩
        clear hM hF
        go_wp2
        go_ret2
        exact ⟨M.writeE p o' d, nilS, rfl, M.write p o' d, bl, HS.out _ _ _ (Or.inr (Or.inr (Or.inl ⟨rfl, rfl, rfl, rfl⟩))), HR.out.1, (Frm.ofBelow (F := HFoot g M bl) HX.out.2).trans HR.out.2 (fun k _ hk => hk), foot_write HH.out.2.1 hfull⟩
      · subst e1
        go_wp2_with fail
        refine (derive_any t p o' l' r' HX.out.1 HH.out.2.1 ht4 hp hfull (by omega) (by omega) (by omega)).mono ?_
        rintro e w3 ⟨er, m, M', rfl, hD, hM, hF, hJ⟩
        have HR : Hid (DeriveP M t p o' l' r' er m M' ∧ HAt w3 g M' bl ∧ Frm (· = g) w2 w3 ∧ ∀ q, (M'.s q).bytes = (M.s q).bytes) := ⟨hD, hM, hF, hJ⟩
        clear hD hM hF hJ
        go_wp2
        go_ret2
        exact ⟨er, m, rfl, M', bl, HS.out _ _ _ (Or.inr (Or.inr (Or.inr (Or.inl ⟨rfl, HR.out.1⟩)))), HR.out.2.1, (Frm.ofBelow (F := HFoot g M bl) HX.out.2).trans HR.out.2.2.1 (fun k _ hk => Or.inl hk), foot_laid HR.out.2.2.2⟩
      · subst e1
        have hto : 0 ≤ to := by omega
        obtain ⟨to', rfl⟩ : ∃ to' : Nat, to = (to' : Int) := ⟨to.toNat, by omega⟩
        have n5 : w2.cell? ⟨w1.heap.size, 5, none⟩ = some (.int .i64 (to' : Int)) := HW.out ▸ rowCell (newRowAt _ _) 5
        go_wp2_with fail
        refine (grant_any p to' HX.out.1 HH.out.2.1 hp).mono ?_
        rintro e w3 ⟨er, m, M', rfl, hD, hM, hF, hJ⟩
        have HR : Hid (GrantP M p to' er m M' ∧ HAt w3 g M' bl ∧ Frm (· = g) w2 w3 ∧ ∀ q, (M'.s q).bytes = (M.s q).bytes) := ⟨hD, hM, hF, hJ⟩
        clear hD hM hF hJ
        go_wp2
        go_ret2
        exact ⟨er, m, rfl, M', bl, HS.out _ _ _ (Or.inr (Or.inr (Or.inr (Or.inr (Or.inl ⟨rfl, HR.out.1⟩))))), HR.out.2.1, (Frm.ofBelow (F := HFoot g M bl) HX.out.2).trans HR.out.2.2.1 (fun k _ hk => Or.inl hk), foot_laid HR.out.2.2.2⟩
      · subst e1
        go_wp2_with fail
        refine (emptyBelow_any p HX.out.1 hp).mono ?_
        rintro e w3 ⟨rfl, M', hM, hG, hF⟩
        have HR : Hid (HAt w3 g M' bl ∧ Gone (Under M p) M M' ∧ Frm (· = g) w2 w3) := ⟨hM, hG, hF⟩
        clear hM hG hF
        go_wp2
        go_ret2
        exact ⟨0, nilS, rfl, M', bl, HS.out _ _ _ (Or.inr (Or.inr (Or.inr (Or.inr (Or.inr (Or.inl ⟨rfl, rfl, rfl, HR.out.2.1⟩)))))), HR.out.1, (Frm.ofBelow (F := HFoot g M bl) HX.out.2).trans HR.out.2.2 (fun k _ hk => Or.inl hk), foot_gone HR.out.2.1⟩
      · subst e1
        go_wp2_with fail
        refine (drop_any p HX.out.1 hp hfull).mono ?_
        rintro e w3 (⟨hr, rfl, rfl⟩ | ⟨hr, rfl, M', hM, hG, hF⟩)
        · have HR : Hid ((M.s p).frm = -1) := hr
          clear hr
          go_wp2
          go_ret2
          exact ⟨9, nilS, rfl, M, bl, HS.out _ _ _ (Or.inr (Or.inr (Or.inr (Or.inr (Or.inr (Or.inr (Or.inl ⟨rfl, Or.inl ⟨HR.out, rfl, rfl, rfl⟩⟩))))))), HX.out.1, Frm.ofBelow HX.out.2, foot_same⟩
        · have HR : Hid ((M.s p).frm ≠ -1 ∧ HAt w3 g M' bl ∧ Gone (fun x => x = p ∨ Under M p x) M M' ∧ Frm (· = g) w2 w3) := ⟨hr, hM, hG, hF⟩
          clear hr hM hG hF
          go_wp2
          go_ret2
          exact ⟨0, nilS, rfl, M', bl, HS.out _ _ _ (Or.inr (Or.inr (Or.inr (Or.inr (Or.inr (Or.inr (Or.inl ⟨rfl, Or.inr ⟨HR.out.1, rfl, rfl, HR.out.2.2.1⟩⟩))))))), HR.out.2.1, (Frm.ofBelow (F := HFoot g M bl) HX.out.2).trans HR.out.2.2.2 (fun k _ hk => Or.inl hk), foot_gone HR.out.2.2.1⟩
      · subst e1
        go_wp2_with fail
        refine (info_any p HX.out.1 hp).mono ?_
        rintro e w3 ⟨rfl, hb3⟩
        have HB : Hid (Below w.heap.size w w3 ∧ HAt w3 g M bl) := ⟨HX.out.2.trans (hb3.mono HX.out.2.size), HX.out.1.below hb3⟩
        clear hb3
        go_wp2
        go_ret2
        exact ⟨0, M.info p, rfl, M, bl, HS.out _ _ _ (Or.inr (Or.inr (Or.inr (Or.inr (Or.inr (Or.inr (Or.inr ⟨rfl, rfl, rfl, rfl⟩))))))), HB.out.2, Frm.ofBelow HB.out.1, foot_same⟩

theorem oneC_size (n : Int) : (oneC n).size = 1 := strOfNums_size _
/-- more than this a reply never has behind its first byte -/
theorem info_size (M : Mach) (p : Nat) : (M.info p).size ≤ 300 := by
  unfold Mach.info
  rw [ByteArray.size_append, twoW_size, oneC_size]
  omega
theorem StepS.size {M : Mach} {t : Nat} {s : ByteArray} {e : Int} {m : ByteArray} {A : Mach} (h : StepS M t s e m A) : m.size ≤ 300 := by
  have hn : nilS.size ≤ 300 := by decide
  have ht : ∀ x : Int, (twoW x).size ≤ 300 := fun x => by rw [twoW_size]; omega
  have hl : ∀ u, (M.layS u).size ≤ 300 := fun u => by
    unfold Mach.layS
    split
    · exact ht _
    · exact hn
  rcases h with ⟨_, _, rfl, _⟩ | ⟨op, h, o, l, r, to, d, _, a1⟩
  · exact hn
  · rcases a1 with ⟨_, _, rfl, _⟩ | ⟨_, _, _, rfl, _⟩ | ⟨_, n, _, a2⟩
    · unfold Mach.alloc
      split
      · exact hn
      · split
        · exact hn
        · split
          · exact hn
          · exact ht _
    · exact hn
    · rcases a2 with ⟨_, h⟩ | ⟨_, h⟩ | ⟨_, h⟩ | ⟨_, h⟩ | ⟨_, h⟩ | ⟨_, h⟩ | ⟨_, h⟩ | ⟨_, h⟩
      · rcases h with ⟨_, _, rfl, _⟩ | ⟨_, _, rfl, _⟩ <;> exact hn
      · rw [h.2.1]
        unfold Mach.read
        split
        · exact hn
        · split
          · exact hn
          · rename_i h6
            show (strOfNums _).size ≤ 300
            rw [strOfNums_size]
            unfold Mach.part
            simp only [List.length_take]
            omega
      · rw [h.2.1]; exact hn
      · rcases h with ⟨_, _, rfl, _⟩ | ⟨_, _, _, rfl, _⟩ | ⟨_, _, _, rfl, _⟩
        · exact hn
        · exact hn
        · exact hl _
      · rcases h with ⟨_, _, rfl, _⟩ | ⟨_, _, _, rfl, _⟩ | ⟨_, _, _, rfl, _⟩
        · exact hn
        · exact hn
        · exact hl _
      · rw [h.2.1]; exact hn
      · rcases h with ⟨_, _, rfl, _⟩ | ⟨_, _, rfl, _⟩ <;> exact hn
      · rw [h.2.1]; exact info_size _ _

set_option maxHeartbeats 1600000 in
set_option maxRecDepth 100000 in
/-- Ask of the landed house, where serve does as the document says -/
theorem ask_of {g : Nat} {M : Mach} {bl : Nat → Nat} {w : World} (t : Int) (s : ByteArray) (h : HAt w g M bl) (ht : hasB M.nt t = true)
    (hserve : Calls Try.prog 64 #[.pointer (some ⟨g, 0, none⟩), .int .i64 t, .string s] w fun e w' => ∃ (er : Int) (m : ByteArray), e = .returned (.tuple #[.string m, .int .i64 er]) ∧ HPost M bl g t.toNat w s w' er m) :
    Calls Try.prog 44 #[.pointer (some ⟨g, 0, none⟩), .int .i64 t, .string s] w fun e w' => ∃ (er : Int) (m : ByteArray), e = .returned (.tuple #[.string (oneC er ++ m), .int .i64 0]) ∧ HPost M bl g t.toNat w s w' er m := by
  have HH : Hid (HAt w g M bl) := h
  have HS : Hid (Calls Try.prog 64 #[.pointer (some ⟨g, 0, none⟩), .int .i64 t, .string s] w fun e w' => ∃ (er : Int) (m : ByteArray), e = .returned (.tuple #[.string m, .int .i64 er]) ∧ HPost M bl g t.toNat w s w' er m) := hserve
  clear h hserve
  go_enter Try.func44, Try.ntmps44
  go_wp2_with fail
  refine (has_any t HH.out).mono ?_
  rintro e w1 ⟨rfl, rfl⟩
  rw [ht]
  go_wp2_with fail
  refine HS.out.mono ?_
  rintro e w2 ⟨er, m, rfl, hp⟩
  have hms : m.size ≤ 300 := by obtain ⟨_, _, h1, _⟩ := hp; exact h1.size
  have s0 := oneC_size
  have HP : Hid (HPost M bl g t.toNat w1 s w2 er m) := hp
  clear hp HS
  go_wp2_with fail
  refine (oneByte_any er w2).mono ?_
  rintro e w3 ⟨rfl, hb3⟩
  have HB : Hid (Below w2.heap.size w2 w3) := hb3
  clear hb3
  go_wp2
  go_ret2
  obtain ⟨M', bl', q1, q2, q3, q4⟩ := HP.out
  exact ⟨er, m, rfl, M', bl', q1, q2.below HB.out, q3.trans (Frm.ofBelow (F := fun _ => False) HB.out) (fun _ _ h => h.elim), q4⟩

set_option maxHeartbeats 400000 in
theorem ask_none {g : Nat} {M : Mach} {bl : Nat → Nat} {w : World} (t : Int) (s : ByteArray) (h : HAt w g M bl) (ht : hasB M.nt t = false) :
    Calls Try.prog 44 #[.pointer (some ⟨g, 0, none⟩), .int .i64 t, .string s] w fun e w' => e = .returned (.tuple #[.string ⟨#[]⟩, .int .i64 3]) ∧ w' = w := by
  have HH : Hid (HAt w g M bl) := h
  clear h
  go_enter Try.func44, Try.ntmps44
  go_wp2_with fail
  refine (has_any t HH.out).mono ?_
  rintro e w1 ⟨rfl, rfl⟩
  rw [ht]
  go_wp2
  go_ret2
  exact ⟨rfl, rfl⟩

/-- Ask of the landed house: bytes that are no request, and all requests -/
theorem ask_any {g : Nat} {M : Mach} {bl : Nat → Nat} {w : World} (t : Int) (s : ByteArray) (h : HAt w g M bl) (inv : M.Inv) (hs : s.size ≤ 140737488355328) (ht : hasB M.nt t = true) :
    Calls Try.prog 44 #[.pointer (some ⟨g, 0, none⟩), .int .i64 t, .string s] w fun e w' => ∃ (er : Int) (m : ByteArray), e = .returned (.tuple #[.string (oneC er ++ m), .int .i64 0]) ∧ HPost M bl g t.toNat w s w' er m := by
  obtain ⟨n, rfl⟩ : ∃ n : Nat, t = (n : Int) := ⟨t.toNat, by simp [hasB] at ht; omega⟩
  have hn : n < M.nt := by simp [hasB] at ht; omega
  refine ask_of (n : Int) s h ht ?_
  rcases dec_cases s with hd | ⟨op, x, o, l, r, to, d, hd, hok, _⟩
  · exact (serve_no n s h hs hd).mono fun e w' ⟨h1, h2⟩ => ⟨1, nilS, h1, h2⟩
  · exact serve_yes n s h inv hn hs hd hok

end Go.Proofs.Ytkjjamigaamllaa
