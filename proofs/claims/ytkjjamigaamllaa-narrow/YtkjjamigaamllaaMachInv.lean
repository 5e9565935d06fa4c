/-
  What is true of every house stays true: a thing laid, slots emptied, bytes written. No program is named here.
-/
import Derived.Test.YtkjjamigaamllaaHouseSpec
namespace Go.Proofs.Ytkjjamigaamllaa
open Go.RowKit

theorem Mach.set_cases {M : Mach} {p : Nat} {x : HSlot} (q : Nat) : (q = p ∧ (M.set p x).s q = x) ∨ (q ≠ p ∧ (M.set p x).s q = M.s q) := by
  by_cases e : q = p
  · exact Or.inl ⟨e, by subst e; exact Mach.set_same _ _ _⟩
  · exact Or.inr ⟨e, Mach.set_other _ _ e⟩

theorem inv_new {t s c : Nat} (ht : 1 ≤ t ∧ t ≤ 4) (hs : 1 ≤ s ∧ s ≤ 16) (hc : 1 ≤ c ∧ c ≤ 32) : (Mach.mk t s c (fun _ => HSlot.none 0)).Inv :=
  { ok := ⟨ht.2, hs.2, hc.2, fun _ => by simp [HSlot.none], fun _ => by simp [HSlot.none]⟩
    nt1 := ht.1
    ns1 := hs.1
    nc1 := hc.1
    mine := fun p h => by simp [HSlot.none] at h
    used := fun p h => by simp [HSlot.none] at h
    bare := fun p _ => rfl
    root := fun p h => by simp [HSlot.none] at h
    down := fun p h => by simp [HSlot.none] at h
    top := fun p h => by simp [HSlot.none] at h
    rights := fun p => by simp [HSlot.none]
    byte := fun p b h => by simp [HSlot.none] at h
    rank := ⟨fun _ => 0, fun p q h => by simp [HSlot.none] at h⟩ }

/-- the place of a tenant's slot -/
theorem place_lt {M : Mach} (inv : M.Inv) {t n : Nat} (ht : t < M.nt) (hn : n < M.ns) : 16 * t + n < 64 ∧ (16 * t + n) / 16 = t ∧ (16 * t + n) % 16 = n := by
  have := inv.ok.nt
  have := inv.ok.ns
  omega
theorem Mach.Inv.lt {M : Mach} (inv : M.Inv) {p : Nat} (h : (M.s p).full = true) : p < 64 := by
  obtain ⟨h1, h2⟩ := inv.mine p h
  have := inv.ok.nt
  have := inv.ok.ns
  omega
theorem Mach.Inv.bytes_of {M : Mach} (inv : M.Inv) {p : Nat} (h : (M.s p).frm ≠ -1) : (M.s p).bytes = [] := by
  cases hf : (M.s p).full with
  | false => rw [inv.bare p hf]; rfl
  | true => obtain ⟨_, _, _, _, _, _, _, _, hb⟩ := inv.down p hf h; exact hb
theorem Mach.Inv.bytes_empty {M : Mach} (inv : M.Inv) {p : Nat} (h : (M.s p).full = false) : (M.s p).bytes = [] := by rw [inv.bare p h]; rfl

/-- something that comes from a slot is laid into an empty one -/
theorem inv_lay {M : Mach} (inv : M.Inv) {t n : Nat} (ht : t < M.nt) (hn : n < M.ns) (he : (M.s (16 * t + n)).full = false) (hu : (M.s (16 * t + n)).uses ≤ 4095)
    {q : Nat} (hq : (M.s q).full = true) {a l m : Int} (h1 : (M.s q).first ≤ a) (h2 : a + l ≤ (M.s q).first + (M.s q).len) (h3 : 0 ≤ l) (h4 : 0 ≤ m ∧ m ≤ 7) :
    (M.set (16 * t + n) ((M.s (16 * t + n)).laid (q : Int) (M.s q).root a l m)).Inv := by
  obtain ⟨hp, hp1, hp2⟩ := place_lt inv ht hn
  obtain ⟨p, hpe⟩ : ∃ p, p = 16 * t + n := ⟨_, rfl⟩
  rw [← hpe] at he hu hp hp1 hp2 ⊢
  have hq64 := inv.lt hq
  have hne : ∀ r, (M.s r).full = true → r ≠ p := fun r hr e => by rw [e, he] at hr; cases hr
  have hb := inv.bytes_empty he
  obtain ⟨rk, hrk⟩ := inv.rank
  refine { ok := ⟨inv.ok.nt, inv.ok.ns, inv.ok.nc, fun r => ?_, fun r => ?_⟩, nt1 := inv.nt1, ns1 := inv.ns1, nc1 := inv.nc1, mine := fun r h => ?_, used := fun r h => ?_, bare := fun r h => ?_, root := fun r h hf => ?_, down := fun r h hf => ?_, top := fun r h => ?_, rights := fun r => ?_, byte := fun r => ?_, rank := ⟨fun r => if r = p then rk q + 1 else rk r, fun r s h hf => ?_⟩ }
  all_goals rcases Mach.set_cases (M := M) (p := p) (x := (M.s p).laid (q : Int) (M.s q).root a l m) r with ⟨e, hs⟩ | ⟨e, hs⟩
  · rw [hs]; show (M.s p).uses + 1 ≤ 4096; omega
  · rw [hs]; exact inv.ok.uses r
  · rw [hs]; show (M.s p).bytes.length ≤ 256; rw [hb]; simp
  · rw [hs]; exact inv.ok.bytes r
  · subst e; exact ⟨by rw [hp1]; exact ht, by rw [hp2]; exact hn⟩
  · rw [hs] at h; exact inv.mine r h
  · rw [hs]; show 1 ≤ (M.s p).uses + 1; omega
  · rw [hs] at h ⊢; exact inv.used r h
  · rw [hs] at h; cases h
  · rw [hs] at h ⊢; exact inv.bare r h
  · rw [hs] at hf
    have : (q : Int) = -1 := hf
    omega
  · rw [hs] at h hf ⊢; exact inv.root r h hf
  · refine ⟨q, by rw [hs]; rfl, hq64, ?_⟩
    rw [Mach.set_other _ _ (hne q hq), hs]
    exact ⟨hq, rfl, h1, h2, h3, hb⟩
  · rw [hs] at h hf
    obtain ⟨s, g1, g2, g3, g4⟩ := inv.down r h hf
    refine ⟨s, by rw [hs]; exact g1, g2, ?_⟩
    rw [Mach.set_other _ _ (hne s g3), hs]
    exact ⟨g3, g4⟩
  · obtain ⟨s, g1, g2, g3, g4, g5, g6, g7⟩ := inv.top q hq
    refine ⟨s, by rw [hs]; exact g1, g2, ?_⟩
    rw [Mach.set_other _ _ (hne s g3), hs]
    refine ⟨g3, g4, ?_, h3, ?_⟩
    · show 0 ≤ a; omega
    · show a + l ≤ _; omega
  · rw [hs] at h
    obtain ⟨s, g1, g2, g3, g4⟩ := inv.top r h
    refine ⟨s, by rw [hs]; exact g1, g2, ?_⟩
    rw [Mach.set_other _ _ (hne s g3), hs]
    exact ⟨g3, g4⟩
  · rw [hs]; exact h4
  · rw [hs]; exact inv.rights r
  · rw [hs]; show ∀ b ∈ (M.s p).bytes, _; rw [hb]; intro b hb2; cases hb2
  · rw [hs]; exact inv.byte r
  · rw [hs] at hf
    have hf : (q : Int) = (s : Int) := hf
    obtain rfl : q = s := by omega
    show (if q = p then rk q + 1 else rk q) < (if r = p then rk q + 1 else rk r)
    rw [if_pos e, if_neg (hne q hq)]
    omega
  · rw [hs] at h hf
    show (if s = p then rk q + 1 else rk s) < (if r = p then rk q + 1 else rk r)
    have hs1 : (M.s r).frm ≠ -1 := by rw [hf]; omega
    obtain ⟨s2, g1, g2, g3, _⟩ := inv.down r h hs1
    have : s2 = s := by rw [hf] at g1; omega
    subst this
    rw [if_neg e, if_neg (hne s2 g3)]
    exact hrk r s2 h hf

/-- a root is laid into an empty slot -/
theorem inv_alloc {M : Mach} (inv : M.Inv) {t n : Nat} (ht : t < M.nt) (hn : n < M.ns) (he : (M.s (16 * t + n)).full = false) (hu : (M.s (16 * t + n)).uses ≤ 4095) {l : Int} (hl : 1 ≤ l ∧ l ≤ 256) :
    (M.set (16 * t + n) (HSlot.new (M.s (16 * t + n)).uses (16 * t + n) l)).Inv := by
  obtain ⟨hp, hp1, hp2⟩ := place_lt inv ht hn
  obtain ⟨p, hpe⟩ : ∃ p, p = 16 * t + n := ⟨_, rfl⟩
  rw [← hpe] at he hu hp hp1 hp2 ⊢
  have hne : ∀ r, (M.s r).full = true → r ≠ p := fun r hr e => by rw [e, he] at hr; cases hr
  have hlen : (List.replicate l.toNat (0 : Int)).length = l.toNat := List.length_replicate
  obtain ⟨rk, hrk⟩ := inv.rank
  refine { ok := ⟨inv.ok.nt, inv.ok.ns, inv.ok.nc, fun r => ?_, fun r => ?_⟩, nt1 := inv.nt1, ns1 := inv.ns1, nc1 := inv.nc1, mine := fun r h => ?_, used := fun r h => ?_, bare := fun r h => ?_, root := fun r h hf => ?_, down := fun r h hf => ?_, top := fun r h => ?_, rights := fun r => ?_, byte := fun r => ?_, rank := ⟨rk, fun r s h hf => ?_⟩ }
  all_goals rcases Mach.set_cases (M := M) (p := p) (x := HSlot.new (M.s p).uses p l) r with ⟨e, hs⟩ | ⟨e, hs⟩
  · rw [hs]; show (M.s p).uses + 1 ≤ 4096; omega
  · rw [hs]; exact inv.ok.uses r
  · rw [hs]; show (List.replicate l.toNat (0 : Int)).length ≤ 256; rw [hlen]; omega
  · rw [hs]; exact inv.ok.bytes r
  · subst e; exact ⟨by rw [hp1]; exact ht, by rw [hp2]; exact hn⟩
  · rw [hs] at h; exact inv.mine r h
  · rw [hs]; show 1 ≤ (M.s p).uses + 1; omega
  · rw [hs] at h ⊢; exact inv.used r h
  · rw [hs] at h; cases h
  · rw [hs] at h ⊢; exact inv.bare r h
  · rw [hs, e]
    refine ⟨rfl, rfl, hl.1, ?_, rfl⟩
    show l = ((List.replicate l.toNat (0 : Int)).length : Int)
    rw [hlen]
    omega
  · rw [hs] at h hf ⊢; exact inv.root r h hf
  · rw [hs] at hf; exact absurd rfl hf
  · rw [hs] at h hf
    obtain ⟨s, g1, g2, g3, g4⟩ := inv.down r h hf
    refine ⟨s, by rw [hs]; exact g1, g2, ?_⟩
    rw [Mach.set_other _ _ (hne s g3), hs]
    exact ⟨g3, g4⟩
  · refine ⟨p, by rw [hs]; rfl, hp, ?_⟩
    rw [Mach.set_same, hs]
    refine ⟨rfl, rfl, Int.le_refl _, ?_, ?_⟩
    · show 0 ≤ l; omega
    · show 0 + l ≤ ((List.replicate l.toNat (0 : Int)).length : Int)
      rw [hlen]
      omega
  · rw [hs] at h
    obtain ⟨s, g1, g2, g3, g4⟩ := inv.top r h
    refine ⟨s, by rw [hs]; exact g1, g2, ?_⟩
    rw [Mach.set_other _ _ (hne s g3), hs]
    exact ⟨g3, g4⟩
  · rw [hs]; show (0 : Int) ≤ 7 ∧ (7 : Int) ≤ 7; omega
  · rw [hs]; exact inv.rights r
  · rw [hs]
    intro b hb
    have : b = 0 := (List.mem_replicate.1 hb).2
    omega
  · rw [hs]; exact inv.byte r
  · rw [hs] at hf
    have hf : (-1 : Int) = (s : Int) := hf
    omega
  · rw [hs] at h hf
    exact hrk r s h hf

/-- slots are emptied with all below them -/
theorem inv_gone {M M' : Mach} {D : Nat → Prop} (inv : M.Inv) (h : Gone D M M') (hD : ∀ x y : Nat, (M.s x).full = true → (M.s x).frm = (y : Int) → D y → D x) (hR : ∀ x r : Nat, (M.s x).full = true → (M.s x).root = (r : Int) → D r → D x) : M'.Inv := by
  have full : ∀ x, (M'.s x).full = true → ¬ D x ∧ M'.s x = M.s x := fun x hx => by
    by_cases hd : D x
    · rw [h.out x hd] at hx; cases hx
    · exact ⟨hd, h.same x hd⟩
  obtain ⟨rk, hrk⟩ := inv.rank
  refine { ok := h.ok inv.ok, nt1 := h.nt ▸ inv.nt1, ns1 := h.ns ▸ inv.ns1, nc1 := h.nc ▸ inv.nc1, mine := fun r hf => ?_, used := fun r hf => ?_, bare := fun r hf => ?_, root := fun r hf h1 => ?_, down := fun r hf h1 => ?_, top := fun r hf => ?_, rights := fun r => ?_, byte := fun r => ?_, rank := ⟨rk, fun r s hf h1 => ?_⟩ }
  · obtain ⟨_, e⟩ := full r hf
    rw [e] at hf
    rw [h.nt, h.ns]
    exact inv.mine r hf
  · obtain ⟨_, e⟩ := full r hf
    rw [e] at hf ⊢
    exact inv.used r hf
  · by_cases hd : D r
    · rw [h.out r hd]; rfl
    · rw [h.same r hd] at hf ⊢; exact inv.bare r hf
  · obtain ⟨_, e⟩ := full r hf
    rw [e] at hf h1 ⊢
    exact inv.root r hf h1
  · obtain ⟨hd, e⟩ := full r hf
    rw [e] at hf h1 ⊢
    obtain ⟨s, g1, g2, g3, g4⟩ := inv.down r hf h1
    have hs : ¬ D s := fun hs => hd (hD r s hf g1 hs)
    exact ⟨s, g1, g2, by rw [h.same s hs]; exact ⟨g3, g4⟩⟩
  · obtain ⟨hd, e⟩ := full r hf
    rw [e] at hf ⊢
    obtain ⟨s, g1, g2, g3, g4⟩ := inv.top r hf
    have hs : ¬ D s := fun hs => hd (hR r s hf g1 hs)
    exact ⟨s, g1, g2, by rw [h.same s hs]; exact ⟨g3, g4⟩⟩
  · by_cases hd : D r
    · rw [h.out r hd]; simp [HSlot.none]
    · rw [h.same r hd]; exact inv.rights r
  · by_cases hd : D r
    · rw [h.out r hd]; intro b hb; cases hb
    · rw [h.same r hd]; exact inv.byte r
  · obtain ⟨_, e⟩ := full r hf
    rw [e] at hf h1
    exact hrk r s hf h1

/-- what has a slot for its root is that slot, or below it -/
theorem Mach.Inv.root_under {M : Mach} (inv : M.Inv) {x r : Nat} (hx : (M.s x).full = true) (hr : (M.s x).root = (r : Int)) : x = r ∨ Under M r x := by
  obtain ⟨rk, hrk⟩ := inv.rank
  have : ∀ n x : Nat, rk x ≤ n → (M.s x).full = true → (M.s x).root = (r : Int) → x = r ∨ Under M r x := by
    intro n
    induction n with
    | zero =>
      intro x hn hx hr
      by_cases hf : (M.s x).frm = -1
      · obtain ⟨h1, _⟩ := inv.root x hx hf
        left
        rw [h1] at hr
        omega
      · obtain ⟨q, g1, g2, g3, g4, _⟩ := inv.down x hx hf
        have := hrk x q hx g1
        omega
    | succ n ih =>
      intro x hn hx hr
      by_cases hf : (M.s x).frm = -1
      · obtain ⟨h1, _⟩ := inv.root x hx hf
        left
        rw [h1] at hr
        omega
      · obtain ⟨q, g1, g2, g3, g4, _⟩ := inv.down x hx hf
        have h5 := hrk x q hx g1
        rcases ih q (by omega) g3 (g4 ▸ hr) with e | e
        · subst e; exact Or.inr (.child (inv.lt hx) hx g1)
        · exact Or.inr (.deep (inv.lt hx) hx g1 e)
  exact this (rk x) x (Nat.le_refl _) hx hr
theorem Under.not_root {M : Mach} {p x : Nat} (h : Under M p x) : (M.s x).frm ≠ -1 := by
  cases h with
  | child _ _ hp => rw [hp]; omega
  | deep _ _ hp _ => rw [hp]; omega
theorem Under.not_self {M : Mach} (inv : M.Inv) {p : Nat} (h : Under M p p) : False := by
  obtain ⟨rk, hrk⟩ := inv.rank
  have : ∀ {p x : Nat}, Under M p x → rk p < rk x := by
    intro p x h
    induction h with
    | child hx hf hp => exact hrk _ _ hf hp
    | deep hx hf hp _ ih => exact Nat.lt_trans ih (hrk _ _ hf hp)
  exact Nat.lt_irrefl _ (this h)

theorem inv_below {M M' : Mach} {p : Nat} (inv : M.Inv) (h : Gone (Under M p) M M') : M'.Inv := by
  refine inv_gone inv h (fun x y hx hf hy => .deep (inv.lt hx) hx hf hy) (fun x r hx hr hu => ?_)
  obtain ⟨r2, g1, _, _, g4, _⟩ := inv.top x hx
  have : r2 = r := by rw [hr] at g1; omega
  subst this
  exact absurd g4 hu.not_root
theorem inv_left {M M' : Mach} {p : Nat} (inv : M.Inv) (h : Gone (fun x => x = p ∨ Under M p x) M M') : M'.Inv := by
  refine inv_gone inv h (fun x y hx hf hy => ?_) (fun x r hx hr hu => ?_)
  · rcases hy with rfl | hy
    · exact Or.inr (.child (inv.lt hx) hx hf)
    · exact Or.inr (.deep (inv.lt hx) hx hf hy)
  · rcases hu with rfl | hu
    · exact inv.root_under hx hr
    · obtain ⟨r2, g1, _, _, g4, _⟩ := inv.top x hx
      have : r2 = r := by rw [hr] at g1; omega
      subst this
      exact absurd g4 hu.not_root

/-- bytes of an object are turned -/
theorem inv_turn {M : Mach} (inv : M.Inv) {r : Nat} {bs : List Int} (hlen : bs.length = (M.s r).bytes.length) (hb : ∀ b ∈ bs, 0 ≤ b ∧ b ≤ 255) : (M.set r ((M.s r).withBytes bs)).Inv := by
  have same : ∀ q, (M.set r ((M.s r).withBytes bs)).s q = (M.s q).withBytes (if q = r then bs else (M.s q).bytes) := fun q => by
    rcases Mach.set_cases (M := M) (p := r) (x := (M.s r).withBytes bs) q with ⟨e, hs⟩ | ⟨e, hs⟩
    · rw [hs, if_pos e, e]
    · rw [hs, if_neg e]; rfl
  have len : ∀ q, ((M.set r ((M.s r).withBytes bs)).s q).bytes.length = (M.s q).bytes.length := fun q => by
    rw [same]
    show (if q = r then bs else (M.s q).bytes).length = _
    by_cases e : q = r
    · rw [if_pos e, e]; exact hlen
    · rw [if_neg e]
  refine { ok := ⟨inv.ok.nt, inv.ok.ns, inv.ok.nc, fun q => ?_, fun q => ?_⟩, nt1 := inv.nt1, ns1 := inv.ns1, nc1 := inv.nc1, mine := fun q h => ?_, used := fun q h => ?_, bare := fun q h => ?_, root := fun q h hf => ?_, down := fun q h hf => ?_, top := fun q h => ?_, rights := fun q => ?_, byte := fun q => ?_, rank := ?_ }
  · rw [same]; exact inv.ok.uses q
  · rw [len]; exact inv.ok.bytes q
  · rw [same] at h; exact inv.mine q h
  · rw [same] at h ⊢; exact inv.used q h
  · rw [same] at h ⊢
    have h : (M.s q).full = false := h
    have hb2 := inv.bytes_empty h
    have e2 : (if q = r then bs else (M.s q).bytes) = [] := by
      by_cases e : q = r
      · subst e
        rw [if_pos rfl]
        rw [hb2] at hlen
        exact List.eq_nil_of_length_eq_zero hlen
      · rw [if_neg e]; exact hb2
    rw [e2]
    have := inv.bare q h
    rw [this]
    rfl
  · have h0 : (M.s q).full = true := by rw [same] at h; exact h
    have h1 : (M.s q).frm = -1 := by rw [same] at hf; exact hf
    obtain ⟨g1, g2, g3, g4, g5⟩ := inv.root q h0 h1
    rw [len]
    rw [same]
    exact ⟨g1, g2, g3, g4, g5⟩
  · have h0 : (M.s q).full = true := by rw [same] at h; exact h
    have h1 : (M.s q).frm ≠ -1 := by rw [same] at hf; exact hf
    obtain ⟨s, g1, g2, g3, g4, g5, g6, g7, g8⟩ := inv.down q h0 h1
    refine ⟨s, ?_⟩
    rw [same q, same s]
    refine ⟨g1, g2, g3, g4, g5, g6, g7, ?_⟩
    show (if q = r then bs else (M.s q).bytes) = []
    by_cases e : q = r
    · subst e
      rw [if_pos rfl]
      rw [g8] at hlen
      exact List.eq_nil_of_length_eq_zero hlen
    · rw [if_neg e]; exact g8
  · have h0 : (M.s q).full = true := by rw [same] at h; exact h
    obtain ⟨s, g1, g2, g3, g4, g5, g6, g7⟩ := inv.top q h0
    refine ⟨s, ?_⟩
    rw [len s, same q, same s]
    exact ⟨g1, g2, g3, g4, g5, g6, g7⟩
  · rw [same]; exact inv.rights q
  · rw [same]
    show ∀ b ∈ (if q = r then bs else (M.s q).bytes), _
    by_cases e : q = r
    · rw [if_pos e]; exact hb
    · rw [if_neg e]; exact inv.byte q
  · obtain ⟨rk, hrk⟩ := inv.rank
    refine ⟨rk, fun p q h hf => ?_⟩
    rw [same] at h hf
    exact hrk p q h hf
theorem spl_byte {bs : List Int} (h : ∀ b ∈ bs, 0 ≤ b ∧ b ≤ 255) (a : Nat) (d : ByteArray) (k : Nat) : ∀ b ∈ spl bs a d k, 0 ≤ b ∧ b ≤ 255 := by
  induction k with
  | zero => exact h
  | succ k ih =>
    intro b hb
    rcases List.mem_or_eq_of_mem_set hb with hb | hb
    · exact ih b hb
    · rw [hb]; exact byt_bd d k

end Go.Proofs.Ytkjjamigaamllaa
