/-
  What is true of every run: who holds something by a handle was given it, and no slot was laid more often than its tenant was given handles.
-/
import Derived.Test.YtkjjamigaamllaaKeepPure
namespace Go.Proofs.Ytkjjamigaamllaa
open Go.RowKit
set_option linter.unusedSimpArgs false

structure KGood (M : Mach) (gl : Nat → List Int) : Prop where
  held : ∀ t n, t < M.nt → n < M.ns → (M.s (16 * t + n)).full = true → M.handle (16 * t + n) ∈ gl t
  len : ∀ t, t < M.nt → (gl t).length = sumN (fun n => (M.s (16 * t + n)).uses) M.ns
  num : ∀ t, ∀ x ∈ gl t, wd x = true

theorem sumN_one {f : Nat → Nat} {n i : Nat} (hi : i < n) : f i ≤ sumN f n := by
  induction n with
  | zero => omega
  | succ n ih =>
    simp only [sumN]
    by_cases h : i < n
    · have := ih h; omega
    · obtain rfl : i = n := by omega
      omega
theorem KGood.uses {M : Mach} {gl : Nat → List Int} (h : KGood M gl) {t n : Nat} (ht : t < M.nt) (hn : n < M.ns) : (M.s (16 * t + n)).uses ≤ (gl t).length := by
  rw [h.len t ht]
  exact sumN_one (f := fun n => (M.s (16 * t + n)).uses) hn
theorem KGood.small {M : Mach} {gl : Nat → List Int} (h : KGood M gl) (ok : M.Ok) {t : Nat} (ht : t < M.nt) : (gl t).length ≤ 65536 := by
  rw [h.len t ht]
  have h1 := sumN_le (f := fun n => (M.s (16 * t + n)).uses) (c := 4096) M.ns (fun n _ => ok.uses _)
  have := ok.ns
  omega

theorem handle_mod {M : Mach} {t n : Nat} (hn : n < 16) : M.handle (16 * t + n) = 16 * (((M.s (16 * t + n)).uses : Int) - 1) + (n : Int) := by
  unfold Mach.handle
  omega
theorem find_iff {M : Mach} (ok : M.Ok) {t n : Nat} {h : Int} : M.find t h = some n ↔ n < M.ns ∧ (M.s (16 * t + n)).full = true ∧ M.handle (16 * t + n) = h := by
  have hns := ok.ns
  constructor
  · intro hf
    rcases firstN_spec (fun n => (M.s (16 * t + n)).full && M.handle (16 * t + n) == h) M.ns with ⟨h1, _⟩ | ⟨k, h1, h2, h3, _⟩
    · rw [show M.find t h = none from h1] at hf; cases hf
    · rw [show M.find t h = some k from h1] at hf
      injection hf with e
      subst e
      simp only [Bool.and_eq_true, beq_iff_eq] at h3
      exact ⟨h2, h3.1, h3.2⟩
  · rintro ⟨h1, h2, h3⟩
    refine firstN_some h1 (by simp [h2, h3]) (fun k hk => ?_)
    cases hc : ((M.s (16 * t + k)).full && M.handle (16 * t + k) == h) with
    | false => rfl
    | true =>
      simp only [Bool.and_eq_true, beq_iff_eq] at hc
      have e := hc.2.trans h3.symm
      rw [handle_mod (by omega), handle_mod (by omega)] at e
      omega
theorem find_none_iff {M : Mach} (ok : M.Ok) {t : Nat} {h : Int} : M.find t h = none ↔ ∀ n, n < M.ns → (M.s (16 * t + n)).full = true → M.handle (16 * t + n) ≠ h := by
  constructor
  · intro hf n h1 h2 h3
    rw [(find_iff ok).2 ⟨h1, h2, h3⟩] at hf
    cases hf
  · intro hn
    cases hf : M.find t h with
    | none => rfl
    | some n =>
      obtain ⟨h1, h2, h3⟩ := (find_iff ok).1 hf
      exact absurd h3 (hn n h1 h2)

/-- nothing but what is gone is turned, and no slot is laid -/
theorem KGood.fewer {M M' : Mach} {gl : Nat → List Int} (h : KGood M gl) (hnt : M'.nt = M.nt) (hns : M'.ns = M.ns) (hu : ∀ p, (M'.s p).uses = (M.s p).uses) (hf : ∀ p, (M'.s p).full = true → (M.s p).full = true) : KGood M' gl := by
  refine ⟨fun t n ht hn hh => ?_, fun t ht => ?_, h.num⟩
  · have := h.held t n (hnt ▸ ht) (hns ▸ hn) (hf _ hh)
    unfold Mach.handle at this ⊢
    rw [hu]
    exact this
  · rw [h.len t (hnt ▸ ht), hns]
    exact sumN_congr _ (fun k _ => (hu _).symm)
theorem KGood.gone {M M' : Mach} {gl : Nat → List Int} {D : Nat → Prop} (h : KGood M gl) (G : Gone D M M') : KGood M' gl := by
  refine h.fewer G.nt G.ns (fun p => ?_) (fun p hp => ?_)
  · rcases Classical.em (D p) with d | d
    · rw [G.out p d]; rfl
    · rw [G.same p d]
  · rcases Classical.em (D p) with d | d
    · rw [G.out p d] at hp; cases hp
    · rw [G.same p d] at hp; exact hp
theorem KGood.write {M : Mach} {gl : Nat → List Int} (h : KGood M gl) (p : Nat) (o : Int) (d : ByteArray) : KGood (M.write p o d) gl := by
  unfold Mach.write
  split
  · refine h.fewer rfl rfl (fun q => ?_) (fun q hq => ?_)
    · by_cases e : q = (M.s p).root.toNat
      · rw [e, Mach.set_same]; rfl
      · rw [Mach.set_other _ _ e]
    · by_cases e : q = (M.s p).root.toNat
      · rw [e, Mach.set_same] at hq; rw [e]; exact hq
      · rw [Mach.set_other _ _ e] at hq; exact hq
  · exact h
/-- a slot is laid, and its tenant is given the handle -/
theorem KGood.laid {M : Mach} {gl : Nat → List Int} (h : KGood M gl) (hns : M.ns ≤ 16) {u n : Nat} {x : HSlot} (hn : n < M.ns) (hx : x.uses = (M.s (16 * u + n)).uses + 1) (hb : (M.s (16 * u + n)).uses ≤ 4095) :
    KGood (M.set (16 * u + n) x) (fun i => if i = u then gl i ++ [hOf (twoW (16 * ((M.s (16 * u + n)).uses : Int) + (n : Int)))] else gl i) := by
  have hw : wd (16 * ((M.s (16 * u + n)).uses : Int) + (n : Int)) = true := wd_iff.2 (by omega)
  refine ⟨fun t k ht hk hh => ?_, fun t ht => ?_, fun t y hy => ?_⟩
  · have hk : k < M.ns := hk
    by_cases e : 16 * t + k = 16 * u + n
    · obtain ⟨rfl, rfl⟩ : t = u ∧ k = n := by omega
      simp only [if_pos]
      rw [hOf_two hw]
      refine List.mem_append_right _ ?_
      unfold Mach.handle
      rw [Mach.set_same, hx]
      simp
      omega
    · rw [Mach.set_other _ _ e] at hh
      have hm := h.held t k ht hk hh
      have e2 : (M.set (16 * u + n) x).handle (16 * t + k) = M.handle (16 * t + k) := by
        unfold Mach.handle
        rw [Mach.set_other _ _ e]
      rw [e2]
      by_cases e3 : t = u
      · simp only [if_pos e3]; exact List.mem_append_left _ hm
      · simp only [if_neg e3]; exact hm
  · have hm := h.len t ht
    show (if t = u then gl t ++ _ else gl t).length = sumN _ M.ns
    by_cases e3 : t = u
    · subst e3
      rw [if_pos rfl, List.length_append, List.length_singleton, hm]
      have := sumN_upd (f := fun k => (M.s (16 * t + k)).uses) (g := fun k => ((M.set (16 * t + n) x).s (16 * t + k)).uses) M.ns hn (fun k hk hne => by
        show ((M.set (16 * t + n) x).s (16 * t + k)).uses = _
        rw [Mach.set_other _ _ (by omega)])
      simp only [Mach.set_same, hx] at this
      omega
    · rw [if_neg e3, hm]
      exact sumN_congr _ (fun k hk => by
        show (M.s (16 * t + k)).uses = ((M.set (16 * u + n) x).s (16 * t + k)).uses
        rw [Mach.set_other _ _ (by omega)])
  · have hy : y ∈ (if t = u then gl t ++ [hOf (twoW (16 * ((M.s (16 * u + n)).uses : Int) + (n : Int)))] else gl t) := hy
    by_cases e3 : t = u
    · rw [if_pos e3, hOf_two hw] at hy
      rcases List.mem_append.1 hy with hy | hy
      · exact h.num t y hy
      · rw [List.mem_singleton.1 hy]; exact hw
    · rw [if_neg e3] at hy; exact h.num t y hy

theorem KGood.step {M M' : Mach} {gl : Nat → List Int} {t : Nat} {op x o l r to : Int} {d : ByteArray} {e : Int} {m : ByteArray} (h : KGood M gl) (inv : M.Inv) (_h0 : 0 ≤ to) (s : StepQ M t op x o l r to d e m M') : KGood M' (gave gl t op to e m) := by
  have hns := inv.ok.ns
  have no : ∀ {op2 : Int}, (op = op2) → op2 ≠ 1 → op2 ≠ 5 → op2 ≠ 6 → gave gl t op to e m = gl := fun e1 a b c => by
    unfold gave
    rw [if_neg (by rintro ⟨_, h | h⟩; exact a (e1.symm.trans h); exact b (e1.symm.trans h)), if_neg (by rintro ⟨_, h⟩; exact c (e1.symm.trans h))]
  have err : e ≠ 0 → gave gl t op to e m = gl := fun he => by
    unfold gave
    rw [if_neg (fun h => he h.1), if_neg (fun h => he h.1)]
  have lay : ∀ (u p : Nat) (a l r : Int), e = M.layE u → m = M.layS u → M' = M.lay u p a l r → (e = 0 → gave gl t op to e m = fun i => if i = u then gl i ++ [hOf m] else gl i) → KGood M' (gave gl t op to e m) := by
    intro u p a l r he hm hM hg
    unfold Mach.layE at he
    unfold Mach.layS at hm
    unfold Mach.lay at hM
    cases hn : M.next u with
    | none =>
      rw [hn] at he hm hM
      simp only at he hm hM
      rw [err (by rw [he]; decide), hM]
      exact h
    | some n =>
      rw [hn] at he hm hM
      simp only at he hm hM
      obtain ⟨g1, g2, g3⟩ := next_spec hn
      rw [hg he, hM, hm]
      exact h.laid hns g1 rfl g3
  rcases s with ⟨rfl, he, hm, hM⟩ | ⟨_, _, he, _, hM⟩ | ⟨h1, n, hf, a⟩
  · unfold Mach.alloc at he hm hM
    by_cases c1 : ¬ (1 ≤ l ∧ l ≤ 256)
    · rw [if_pos c1] at he hM
      rw [err (by rw [he]; simp), hM]; exact h
    · rw [if_neg c1] at he hm hM
      by_cases c2 : M.nc < M.taken t + chunksN l.toNat
      · rw [if_pos c2] at he hM
        rw [err (by rw [he]; simp), hM]; exact h
      · rw [if_neg c2] at he hm hM
        cases hn : M.next t with
        | none =>
          rw [hn] at he hM
          rw [err (by rw [he]; simp), hM]; exact h
        | some n =>
          rw [hn] at he hm hM
          simp only at he hm hM
          obtain ⟨g1, g2, g3⟩ := next_spec hn
          have e1 : gave gl t 1 to e m = fun i => if i = t then gl i ++ [hOf m] else gl i := by
            unfold gave
            rw [if_pos ⟨he, Or.inl rfl⟩]
          rw [e1, hM, hm]
          exact h.laid hns g1 rfl g3
  · rw [err (by rw [he]; decide), hM]; exact h
  · rcases a with ⟨ho, a⟩ | ⟨ho, a⟩ | ⟨ho, a⟩ | ⟨ho, a⟩ | ⟨ho, a⟩ | ⟨ho, a⟩ | ⟨ho, a⟩ | ⟨ho, a⟩
    · rw [no ho (by decide) (by decide) (by decide)]
      rcases a with ⟨_, _, _, rfl⟩ | ⟨_, _, _, G⟩
      · exact h
      · exact h.gone G
    · rw [no ho (by decide) (by decide) (by decide), a.2.2]; exact h
    · rw [no ho (by decide) (by decide) (by decide), a.2.2]; exact h.write _ _ _
    · rcases a with ⟨_, he, _, rfl⟩ | ⟨_, _, he, _, rfl⟩ | ⟨_, _, he, hm, hM⟩
      · rw [err (by rw [he]; decide)]; exact h
      · rw [err (by rw [he]; decide)]; exact h
      · exact lay _ _ _ _ _ he hm hM (fun h0 => by unfold gave; rw [if_pos ⟨h0, Or.inr ho⟩])
    · rcases a with ⟨_, he, _, rfl⟩ | ⟨_, _, he, _, rfl⟩ | ⟨_, _, he, hm, hM⟩
      · rw [err (by rw [he]; decide)]; exact h
      · rw [err (by rw [he]; decide)]; exact h
      · exact lay _ _ _ _ _ he hm hM (fun h0 => by unfold gave; rw [if_neg (by rintro ⟨_, h | h⟩ <;> rw [ho] at h <;> revert h <;> decide), if_pos ⟨h0, ho⟩])
    · rw [no ho (by decide) (by decide) (by decide)]; exact h.gone a.2.2
    · rw [no ho (by decide) (by decide) (by decide)]
      rcases a with ⟨_, _, _, rfl⟩ | ⟨_, _, _, G⟩
      · exact h
      · exact h.gone G
    · rw [no ho (by decide) (by decide) (by decide), a.2.2]; exact h

end Go.Proofs.Ytkjjamigaamllaa
