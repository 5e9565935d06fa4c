/-
  Tenants of two kinds, of which none grants anything to one of the other kind: those of the one kind do not show to the other. No program is named here.
-/
import Derived.Test.YtkjjamigaamllabJoinFacts
import Derived.Test.YtkjjamigaamllabJoinPlay
namespace Go.Proofs.Ytkjjamigaamllab
open Go.RowKit
set_option linter.unusedSimpArgs false

/-- the kind of the tenant whose slot lies at a place -/
def knd (a : Int) (p : Nat) : Int := kindV a (p / 16)
theorem knd_at (a : Int) (t : Nat) {n : Nat} (h : n < 16) : knd a (16 * t + n) = kindV a t := by
  unfold knd
  congr 1
  omega
/-- what a slot holds comes, all the way, from slots of its own kind -/
structure Shut (a : Int) (M : Mach) : Prop where
  frm : ∀ p q : Nat, (M.s p).full = true → (M.s p).frm = (q : Int) → knd a q = knd a p
  root : ∀ p r : Nat, (M.s p).full = true → (M.s p).root = (r : Int) → knd a r = knd a p
/-- two houses whose slots of one kind are the same -/
structure EqK (a k : Int) (M N : Mach) : Prop where
  nt : N.nt = M.nt
  ns : N.ns = M.ns
  nc : N.nc = M.nc
  s : ∀ p, knd a p = k → N.s p = M.s p

theorem Shut.set {a : Int} {M : Mach} (S : Shut a M) {p : Nat} {x : HSlot} (h1 : x.full = true → ∀ q : Nat, x.frm = (q : Int) → knd a q = knd a p) (h2 : x.full = true → ∀ r : Nat, x.root = (r : Int) → knd a r = knd a p) : Shut a (M.set p x) := by
  refine ⟨fun q z hf hz => ?_, fun q z hf hz => ?_⟩
  · by_cases e : q = p
    · subst e; rw [Mach.set_same] at hf hz; exact h1 hf z hz
    · rw [Mach.set_other _ _ e] at hf hz; exact S.frm q z hf hz
  · by_cases e : q = p
    · subst e; rw [Mach.set_same] at hf hz; exact h2 hf z hz
    · rw [Mach.set_other _ _ e] at hf hz; exact S.root q z hf hz
theorem Shut.gone {a : Int} {M M' : Mach} {D : Nat → Prop} (S : Shut a M) (G : Gone D M M') : Shut a M' := by
  have key : ∀ p, (M'.s p).full = true → M'.s p = M.s p := fun p hf => by
    rcases Classical.em (D p) with d | d
    · rw [G.out p d] at hf; cases hf
    · exact G.same p d
  exact ⟨fun p q hf hq => by have e := key p hf; rw [e] at hf hq; exact S.frm p q hf hq, fun p q hf hq => by have e := key p hf; rw [e] at hf hq; exact S.root p q hf hq⟩
theorem Shut.under {a : Int} {M : Mach} (S : Shut a M) {p x : Nat} (h : Under M p x) : knd a x = knd a p := by
  induction h with
  | child hx hf hp => exact (S.frm _ _ hf hp).symm
  | deep hx hf hp hy ih => exact (S.frm _ _ hf hp).symm.trans ih
theorem EqK.set {a k : Int} {M N : Mach} (E : EqK a k M N) (p : Nat) (x : HSlot) : EqK a k (M.set p x) (N.set p x) :=
  ⟨E.nt, E.ns, E.nc, fun q hq => by
    by_cases e : q = p
    · rw [e, Mach.set_same, Mach.set_same]
    · rw [Mach.set_other _ _ e, Mach.set_other _ _ e]; exact E.s q hq⟩
theorem EqK.find {a : Int} {M N : Mach} {t : Nat} (E : EqK a (kindV a t) M N) (ok : M.Ok) (x : Int) : N.find t x = M.find t x :=
  find_congr E.ns (fun k hk => by
    have e := E.s (16 * t + k) (knd_at a t (by have := ok.ns; omega))
    have hh : N.handle (16 * t + k) = M.handle (16 * t + k) := handle_congr (by rw [e])
    rw [e, hh])
theorem EqK.next {a : Int} {M N : Mach} {t u : Nat} (hu : kindV a u = kindV a t) (E : EqK a (kindV a t) M N) (ok : M.Ok) : N.next u = M.next u := by
  unfold Mach.next
  rw [E.ns]
  exact firstN_congr (fun k hk => by rw [E.s (16 * u + k) ((knd_at a u (by have := ok.ns; omega)).trans hu)])
theorem EqK.taken {a : Int} {M N : Mach} {t : Nat} (E : EqK a (kindV a t) M N) (ok : M.Ok) : N.taken t = M.taken t :=
  taken_congr E.ns (fun k hk => by rw [E.s (16 * t + k) (knd_at a t (by have := ok.ns; omega))])
theorem EqK.used {a : Int} {M N : Mach} {t : Nat} (E : EqK a (kindV a t) M N) (ok : M.Ok) : N.used t = M.used t :=
  used_congr E.ns (fun k hk => by rw [E.s (16 * t + k) (knd_at a t (by have := ok.ns; omega))])
theorem EqK.under {a : Int} {M N : Mach} {p : Nat} (S : Shut a M) (E : EqK a (knd a p) M N) {x : Nat} (h : Under M p x) : Under N p x := by
  induction h with
  | @child x hx hf hp =>
    have e := E.s x ((S.frm _ _ hf hp).symm)
    exact .child hx (by rw [e]; exact hf) (by rw [e]; exact hp)
  | @deep x y hx hf hp hy ih =>
    have e := E.s x ((S.frm _ _ hf hp).symm.trans (S.under hy))
    exact .deep hx (by rw [e]; exact hf) (by rw [e]; exact hp) ih
theorem EqK.symm {a k : Int} {M N : Mach} (E : EqK a k M N) : EqK a k N M := ⟨E.nt.symm, E.ns.symm, E.nc.symm, fun p hp => (E.s p hp).symm⟩
theorem EqK.gone {a : Int} {M N M' : Mach} {p : Nat} (SM : Shut a M) (SN : Shut a N) (E : EqK a (knd a p) M N) (own : Bool) (G : Gone (fun x => (own = true ∧ x = p) ∨ Under M p x) M M') : ∃ N', Gone (fun x => (own = true ∧ x = p) ∨ Under N p x) N N' ∧ EqK a (knd a p) M' N' := by
  obtain ⟨N', G'⟩ := Gone.ex (fun x => (own = true ∧ x = p) ∨ Under N p x) N
  refine ⟨N', G', by rw [G'.nt, G.nt]; exact E.nt, by rw [G'.ns, G.ns]; exact E.ns, by rw [G'.nc, G.nc]; exact E.nc, fun x hx => ?_⟩
  have iff : Under N p x ↔ Under M p x := ⟨fun h => E.symm.under SN h, fun h => E.under SM h⟩
  rcases Classical.em ((own = true ∧ x = p) ∨ Under M p x) with d | d
  · rw [G.out x d, G'.out x (by rcases d with d | d; exact Or.inl d; exact Or.inr (iff.2 d)), E.s x hx]
  · rw [G.same x d, G'.same x (by rintro (h | h); exact d (Or.inl h); exact d (Or.inr (iff.1 h))), E.s x hx]
theorem gone_iff {D D' : Nat → Prop} {M M' : Mach} (h : ∀ x, D x ↔ D' x) (G : Gone D M M') : Gone D' M M' :=
  ⟨G.nt, G.ns, G.nc, fun x hx => G.out x ((h x).2 hx), fun x hx => G.same x (fun hh => hx ((h x).1 hh))⟩

theorem alloc_shape (M : Mach) (t : Nat) (l : Int) : (∃ e, M.alloc t l = (e, nilS, M)) ∨ ∃ n, M.next t = some n ∧ M.alloc t l = (0, twoW (16 * ((M.s (16 * t + n)).uses : Int) + (n : Int)), M.set (16 * t + n) (HSlot.new (M.s (16 * t + n)).uses (16 * t + n) l)) := by
  by_cases hl : 1 ≤ l ∧ l ≤ 256
  · by_cases hc : M.nc < M.taken t + chunksN l.toNat
    · exact Or.inl ⟨_, alloc_short hl hc⟩
    · cases hn : M.next t with
      | none => exact Or.inl ⟨_, alloc_full hl hc hn⟩
      | some n => exact Or.inr ⟨n, rfl, alloc_yes hl hc hn⟩
  · exact Or.inl ⟨_, alloc_wrong hl⟩

/-- A STEP TURNS NOTHING OF THE OTHER KIND -/
theorem step_shut {a : Int} {M M' : Mach} {t : Nat} {op x o l r to : Int} {d : ByteArray} {e : Int} {m : ByteArray} (inv : M.Inv) (S : Shut a M) (hto : op = 6 → kindV a to.toNat = kindV a t) (q : StepQ M t op x o l r to d e m M') :
    Shut a M' ∧ ∀ p, knd a p ≠ kindV a t → M'.s p = M.s p := by
  have hs := inv.ok.ns
  have put : ∀ (u n : Nat) (y : HSlot), n < 16 → kindV a u = kindV a t → (y.full = true → ∀ q : Nat, y.frm = (q : Int) → knd a q = kindV a t) → (y.full = true → ∀ r : Nat, y.root = (r : Int) → knd a r = kindV a t) → Shut a (M.set (16 * u + n) y) ∧ ∀ p, knd a p ≠ kindV a t → (M.set (16 * u + n) y).s p = M.s p := by
    intro u n y hn hu h1 h2
    have hk := (knd_at a u hn).trans hu
    refine ⟨S.set (fun hf z hz => (h1 hf z hz).trans hk.symm) (fun hf z hz => (h2 hf z hz).trans hk.symm), fun p hp => Mach.set_other _ _ (fun e => hp (e ▸ hk))⟩
  have gone : ∀ (p : Nat) (D : Nat → Prop), knd a p = kindV a t → (∀ z, D z → z = p ∨ Under M p z) → Gone D M M' → Shut a M' ∧ ∀ z, knd a z ≠ kindV a t → M'.s z = M.s z := by
    intro p D hp hD G
    refine ⟨S.gone G, fun z hz => G.same z (fun hd => ?_)⟩
    rcases hD z hd with h | h
    · rw [h] at hz; exact hz hp
    · exact hz ((S.under h).trans hp)
  have lay : ∀ (u p : Nat) (f g h : Int), kindV a u = kindV a t → knd a p = kindV a t → (M.s p).full = true → Shut a (M.lay u p f g h) ∧ ∀ z, knd a z ≠ kindV a t → (M.lay u p f g h).s z = M.s z := by
    intro u p f g h hu hp hfull
    unfold Mach.lay
    cases hn : M.next u with
    | none => exact ⟨S, fun _ _ => rfl⟩
    | some n =>
      obtain ⟨g1, _, _⟩ := next_spec hn
      refine put u n _ (by omega) hu (fun _ z hz => ?_) (fun _ z hz => (S.root p z hfull hz).trans hp)
      have hz : ((p : Nat) : Int) = (z : Int) := hz
      obtain rfl : z = p := by omega
      exact hp
  have here : Shut a M ∧ ∀ z, knd a z ≠ kindV a t → M.s z = M.s z := ⟨S, fun _ _ => rfl⟩
  rcases q with ⟨_, _, _, rfl⟩ | ⟨_, _, _, _, rfl⟩ | ⟨_, n, hf, c⟩
  · rcases alloc_shape M t l with ⟨_, h⟩ | ⟨n, hn, h⟩
    · rw [h]; exact here
    · rw [h]
      obtain ⟨g1, _, _⟩ := next_spec hn
      refine put t n _ (by omega) rfl (fun _ z hz => ?_) (fun _ z hz => ?_)
      · have hz : (-1 : Int) = (z : Int) := hz
        omega
      · have hz : ((16 * t + n : Nat) : Int) = (z : Int) := hz
        obtain rfl : z = 16 * t + n := by omega
        exact knd_at a t (by omega)
  · exact here
  · obtain ⟨hn, hfull⟩ := find_lt hf
    have hp := knd_at a t (n := n) (by omega)
    rcases c with ⟨_, c⟩ | ⟨_, c⟩ | ⟨_, c⟩ | ⟨_, c⟩ | ⟨h6, c⟩ | ⟨_, c⟩ | ⟨_, c⟩ | ⟨_, c⟩
    · rcases c with ⟨_, _, _, rfl⟩ | ⟨_, _, _, G⟩
      · exact here
      · exact gone _ _ hp (fun z hz => hz) G
    · rw [c.2.2]; exact here
    · rw [c.2.2]
      unfold Mach.write
      split
      · obtain ⟨rt, e1, e2, _⟩ := inv.top _ hfull
        have e3 : (M.s (16 * t + n)).root.toNat = rt := by rw [e1]; rfl
        have hk : knd a rt = kindV a t := (S.root _ rt hfull e1).trans hp
        rw [e3]
        refine ⟨S.set (fun hf z hz => S.frm rt z hf hz) (fun hf z hz => S.root rt z hf hz), fun p hpk => Mach.set_other _ _ (fun e => hpk (e ▸ hk))⟩
      · exact here
    · rcases c with ⟨_, _, _, rfl⟩ | ⟨_, _, _, _, rfl⟩ | ⟨_, _, _, _, rfl⟩
      · exact here
      · exact here
      · exact lay t _ _ _ _ rfl hp hfull
    · rcases c with ⟨_, _, _, rfl⟩ | ⟨_, _, _, _, rfl⟩ | ⟨_, _, _, _, rfl⟩
      · exact here
      · exact here
      · exact lay to.toNat _ _ _ _ (hto h6) hp hfull
    · exact gone _ _ hp (fun z hz => Or.inr hz) c.2.2
    · rcases c with ⟨_, _, _, rfl⟩ | ⟨_, _, _, G⟩
      · exact here
      · exact gone _ _ hp (fun z hz => hz) G
    · rw [c.2.2]; exact here

/-- TWO HOUSES ALIKE IN A KIND ANSWER A TENANT OF IT ALIKE -/
theorem step_eq {a : Int} {M N M' : Mach} {t : Nat} {op x o l r to : Int} {d : ByteArray} {e : Int} {m : ByteArray} (inv : M.Inv) (SM : Shut a M) (SN : Shut a N) (E : EqK a (kindV a t) M N) (hto : op = 6 → kindV a to.toNat = kindV a t) (q : StepQ M t op x o l r to d e m M') :
    ∃ N', StepQ N t op x o l r to d e m N' ∧ EqK a (kindV a t) M' N' := by
  have hs := inv.ok.ns
  have hfnd := E.find inv.ok x
  rcases q with ⟨rfl, rfl, rfl, rfl⟩ | ⟨h1, h2, h3, h4, rfl⟩ | ⟨h1, n, hf, c⟩
  · have htk := E.taken inv.ok
    have hnx := E.next rfl inv.ok
    have hA : (N.alloc t l).1 = (M.alloc t l).1 ∧ (N.alloc t l).2.1 = (M.alloc t l).2.1 ∧ EqK a (kindV a t) (M.alloc t l).2.2 (N.alloc t l).2.2 := by
      unfold Mach.alloc
      rw [htk, E.nc, hnx]
      by_cases hl : ¬ (1 ≤ l ∧ l ≤ 256)
      · rw [if_pos hl, if_pos hl]; exact ⟨rfl, rfl, E⟩
      · rw [if_neg hl, if_neg hl]
        by_cases hc : M.nc < M.taken t + chunksN l.toNat
        · rw [if_pos hc, if_pos hc]; exact ⟨rfl, rfl, E⟩
        · rw [if_neg hc, if_neg hc]
          cases hn : M.next t with
          | none => exact ⟨rfl, rfl, E⟩
          | some n =>
            obtain ⟨g1, _, _⟩ := next_spec hn
            have es := E.s (16 * t + n) (knd_at a t (by omega))
            simp only [es]
            exact ⟨trivial, trivial, E.set _ _⟩
    exact ⟨_, Or.inl ⟨rfl, hA.1.symm, hA.2.1.symm, rfl⟩, hA.2.2⟩
  · exact ⟨N, Or.inr (Or.inl ⟨h1, hfnd.trans h2, h3, h4, rfl⟩), E⟩
  · obtain ⟨hn, hfull⟩ := find_lt hf
    have hp := knd_at a t (n := n) (by omega)
    have es := E.s (16 * t + n) hp
    have wrap : ∀ N', StepP N t (16 * t + n) op o l r to d e m N' → StepQ N t op x o l r to d e m N' := fun N' h => Or.inr (Or.inr ⟨h1, n, hfnd.trans hf, h⟩)
    have E' : EqK a (knd a (16 * t + n)) M N := hp.symm ▸ E
    obtain ⟨rt, e1, e2, e3, _⟩ := inv.top _ hfull
    have hk : knd a rt = kindV a t := (SM.root _ rt hfull e1).trans hp
    have er := E.s rt hk
    have ert : (M.s (16 * t + n)).root.toNat = rt := by rw [e1]; rfl
    have layeq : ∀ (u : Nat) (f g h : Int), kindV a u = kindV a t → N.layE u = M.layE u ∧ N.layS u = M.layS u ∧ EqK a (kindV a t) (M.lay u (16 * t + n) f g h) (N.lay u (16 * t + n) f g h) := by
      intro u f g h hu
      unfold Mach.layE Mach.layS Mach.lay
      rw [E.next hu inv.ok, es]
      cases hn : M.next u with
      | none => exact ⟨rfl, rfl, E⟩
      | some n =>
        obtain ⟨g1, _, _⟩ := next_spec hn
        have es2 := E.s (16 * u + n) ((knd_at a u (by omega)).trans hu)
        simp only [es2]
        exact ⟨trivial, trivial, E.set _ _⟩
    have goneq : ∀ own : Bool, Gone (fun z => (own = true ∧ z = 16 * t + n) ∨ Under M (16 * t + n) z) M M' → ∃ N', Gone (fun z => (own = true ∧ z = 16 * t + n) ∨ Under N (16 * t + n) z) N N' ∧ EqK a (kindV a t) M' N' := fun own G => by
      obtain ⟨N', G', E2⟩ := EqK.gone SM SN E' own G
      exact ⟨N', G', hp ▸ E2⟩
    have yes : ∀ (D : Nat → Prop) z, (z = 16 * t + n ∨ D z) ↔ ((true = true ∧ z = 16 * t + n) ∨ D z) := fun D z => by simp
    have non : ∀ (D : Nat → Prop) z, D z ↔ ((false = true ∧ z = 16 * t + n) ∨ D z) := fun D z => by simp
    rcases c with ⟨ho, c⟩ | ⟨ho, c⟩ | ⟨ho, c⟩ | ⟨ho, c⟩ | ⟨ho, c⟩ | ⟨ho, c⟩ | ⟨ho, c⟩ | ⟨ho, c⟩
    · rcases c with ⟨a1, a2, a3, rfl⟩ | ⟨a1, a2, a3, G⟩
      · exact ⟨N, wrap _ (Or.inl ⟨ho, Or.inl ⟨by rw [es]; exact a1, a2, a3, rfl⟩⟩), E⟩
      · obtain ⟨N', G', E2⟩ := goneq true (gone_iff (yes _) G)
        exact ⟨N', wrap _ (Or.inl ⟨ho, Or.inr ⟨by rw [es]; exact a1, a2, a3, gone_iff (fun z => (yes _ z).symm) G'⟩⟩), E2⟩
    · obtain ⟨a1, a2, a3⟩ := c
      have hr : N.read (16 * t + n) o l = M.read (16 * t + n) o l := by
        unfold Mach.read Mach.part
        rw [es, ert, er]
      exact ⟨N, wrap _ (Or.inr (Or.inl ⟨ho, by rw [hr]; exact a1, by rw [hr]; exact a2, rfl⟩)), by rw [a3]; exact E⟩
    · obtain ⟨a1, a2, a3⟩ := c
      rw [a3]
      have hw : N.writeE (16 * t + n) o d = M.writeE (16 * t + n) o d := by unfold Mach.writeE; rw [es]
      refine ⟨N.write (16 * t + n) o d, wrap _ (Or.inr (Or.inr (Or.inl ⟨ho, by rw [hw]; exact a1, a2, rfl⟩))), ?_⟩
      unfold Mach.write
      rw [hw, es, ert, er]
      split
      · exact E.set _ _
      · exact E
    · rcases c with ⟨a1, a2, a3, rfl⟩ | ⟨a1, a2, a3, a4, rfl⟩ | ⟨a1, a2, a3, a4, rfl⟩
      · exact ⟨N, wrap _ (Or.inr (Or.inr (Or.inr (Or.inl ⟨ho, Or.inl ⟨by rw [es]; exact a1, a2, a3, rfl⟩⟩)))), E⟩
      · exact ⟨N, wrap _ (Or.inr (Or.inr (Or.inr (Or.inl ⟨ho, Or.inr (Or.inl ⟨by rw [es]; exact a1, by rw [es]; exact a2, a3, a4, rfl⟩)⟩)))), E⟩
      · obtain ⟨l1, l2, l3⟩ := layeq t ((M.s (16 * t + n)).first + o) l r rfl
        exact ⟨_, wrap _ (Or.inr (Or.inr (Or.inr (Or.inl ⟨ho, Or.inr (Or.inr ⟨by rw [es]; exact a1, by rw [es]; exact a2, by rw [l1]; exact a3, by rw [l2]; exact a4, by rw [es]⟩)⟩)))), l3⟩
    · rcases c with ⟨a1, a2, a3, rfl⟩ | ⟨a1, a2, a3, a4, rfl⟩ | ⟨a1, a2, a3, a4, rfl⟩
      · exact ⟨N, wrap _ (Or.inr (Or.inr (Or.inr (Or.inr (Or.inl ⟨ho, Or.inl ⟨by rw [es]; exact a1, a2, a3, rfl⟩⟩))))), E⟩
      · exact ⟨N, wrap _ (Or.inr (Or.inr (Or.inr (Or.inr (Or.inl ⟨ho, Or.inr (Or.inl ⟨by rw [es]; exact a1, by rw [E.nt]; exact a2, a3, a4, rfl⟩)⟩))))), E⟩
      · obtain ⟨l1, l2, l3⟩ := layeq to.toNat (M.s (16 * t + n)).first (M.s (16 * t + n)).len (M.s (16 * t + n)).rights (hto ho)
        exact ⟨_, wrap _ (Or.inr (Or.inr (Or.inr (Or.inr (Or.inl ⟨ho, Or.inr (Or.inr ⟨by rw [es]; exact a1, by rw [E.nt]; exact a2, by rw [l1]; exact a3, by rw [l2]; exact a4, by rw [es]⟩)⟩))))), l3⟩
    · obtain ⟨a1, a2, G⟩ := c
      obtain ⟨N', G', E2⟩ := goneq false (gone_iff (non _) G)
      exact ⟨N', wrap _ (Or.inr (Or.inr (Or.inr (Or.inr (Or.inr (Or.inl ⟨ho, a1, a2, gone_iff (fun z => (non _ z).symm) G'⟩)))))), E2⟩
    · rcases c with ⟨a1, a2, a3, rfl⟩ | ⟨a1, a2, a3, G⟩
      · exact ⟨N, wrap _ (Or.inr (Or.inr (Or.inr (Or.inr (Or.inr (Or.inr (Or.inl ⟨ho, Or.inl ⟨by rw [es]; exact a1, a2, a3, rfl⟩⟩))))))), E⟩
      · obtain ⟨N', G', E2⟩ := goneq true (gone_iff (yes _) G)
        exact ⟨N', wrap _ (Or.inr (Or.inr (Or.inr (Or.inr (Or.inr (Or.inr (Or.inl ⟨ho, Or.inr ⟨by rw [es]; exact a1, a2, a3, gone_iff (fun z => (yes _ z).symm) G'⟩⟩))))))), E2⟩
    · obtain ⟨a1, a2, a3⟩ := c
      rw [a3]
      exact ⟨N, wrap _ (Or.inr (Or.inr (Or.inr (Or.inr (Or.inr (Or.inr (Or.inr ⟨ho, a1, by unfold Mach.info; rw [es]; exact a2, rfl⟩))))))), E⟩

end Go.Proofs.Ytkjjamigaamllab
