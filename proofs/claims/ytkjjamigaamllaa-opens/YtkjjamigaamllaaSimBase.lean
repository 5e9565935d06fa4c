/-
  The document's house (all that was ever laid) and the machine of slots: how the two stand to each other. No program is named here.
-/
import Derived.Test.YtkjjamigaamllaaMachInv
import Derived.Test.YtkjjamigaamllaaRefServedHead
namespace Go.Proofs.Ytkjjamigaamllaa
open Go.RowKit

/-- the place of the slot into which a thing was laid -/
def plc (x : RThing) : Nat := 16 * x.tenant.toNat + x.slot.toNat

/-- what a living thing says is what lies in its slot -/
structure Mate (R : RH) (M : Mach) (i : Nat) : Prop where
  full : (M.s (plc (R.T i))).full = true
  handle : (R.T i).handle = M.handle (plc (R.T i))
  first : (R.T i).first = (M.s (plc (R.T i))).first
  size : (R.T i).size = (M.s (plc (R.T i))).len
  rights : (R.T i).rights = (M.s (plc (R.T i))).rights
  frm : ((R.T i).frm = -1 ∧ (M.s (plc (R.T i))).frm = -1) ∨ ∃ j, j < R.nT ∧ (R.T i).frm = (j : Int) ∧ (R.T j).dead = false ∧ (M.s (plc (R.T i))).frm = (plc (R.T j) : Int)
  root : ∃ j, j < R.nT ∧ (R.T j).dead = false ∧ (R.T j).frm = -1 ∧ (R.T j).obj = (R.T i).obj ∧ (M.s (plc (R.T i))).root = (plc (R.T j) : Int)
  obj : (R.O (R.T i).obj.toNat).gone = false
  bytes : (R.T i).frm = -1 → (M.s (plc (R.T i))).bytes = (R.O (R.T i).obj.toNat).bytes ∧ (R.O (R.T i).obj.toNat).owner = (R.T i).tenant

structure Sim (R : RH) (M : Mach) : Prop where
  nt : R.nt = M.nt
  ns : R.ns = M.ns
  nc : R.nc = M.nc
  inv : M.Inv
  rinv : R.Inv
  spot : ∀ i, i < R.nT → ∃ t s : Nat, (R.T i).tenant = (t : Int) ∧ (R.T i).slot = (s : Int) ∧ t < M.nt ∧ s < M.ns
  uses : ∀ p, p < 64 → (M.s p).uses = sumN (fun i => if plc (R.T i) = p then 1 else 0) R.nT
  mate : ∀ i, i < R.nT → (R.T i).dead = false → Mate R M i
  full : ∀ p, (M.s p).full = true → ∃ i, i < R.nT ∧ (R.T i).dead = false ∧ plc (R.T i) = p
  uniq : ∀ i j, i < R.nT → j < R.nT → (R.T i).dead = false → (R.T j).dead = false → plc (R.T i) = plc (R.T j) → i = j
  one : ∀ i j, i < R.nT → j < R.nT → (R.T i).dead = false → (R.T j).dead = false → (R.T i).frm = -1 → (R.T j).frm = -1 → (R.T i).obj = (R.T j).obj → i = j
  chunks : ∀ t : Nat, t < M.nt → M.taken t = R.chunks (t : Int)
  tot : R.nT = sumN (fun p => (M.s p).uses) 64
  nO : R.nO ≤ R.nT

theorem sumN_zero {f : Nat → Nat} {n : Nat} (h : ∀ k, k < n → f k = 0) : sumN f n = 0 := by
  induction n with
  | zero => rfl
  | succ n ih => simp [sumN, ih (fun k hk => h k (by omega)), h n (by omega)]
theorem sumN_single {f : Nat → Nat} {n i : Nat} (hi : i < n) (h1 : f i = 1) (h : ∀ k, k < n → k ≠ i → f k = 0) : sumN f n = 1 := by
  have := sumN_upd (f := fun _ => 0) (g := f) n hi (fun k hk hne => h k hk hne)
  rw [sumN_zero (f := fun _ => 0) (fun _ _ => rfl), h1] at this
  omega
theorem sumN_add (f g : Nat → Nat) (n : Nat) : sumN (fun k => f k + g k) n = sumN f n + sumN g n := by
  induction n with
  | zero => rfl
  | succ n ih => simp only [sumN, ih]; omega
theorem sumN_swap (f : Nat → Nat → Nat) (n m : Nat) : sumN (fun i => sumN (fun s => f i s) m) n = sumN (fun s => sumN (fun i => f i s) n) m := by
  induction n with
  | zero => simp only [sumN]; exact (sumN_zero (fun _ _ => rfl)).symm
  | succ n ih =>
    simp only [sumN]
    rw [ih, ← sumN_add]
theorem firstN_congr {f g : Nat → Bool} {n : Nat} (h : ∀ k, k < n → f k = g k) : firstN f n = firstN g n := by
  induction n with
  | zero => rfl
  | succ n ih => simp [firstN, ih (fun k hk => h k (by omega)), h n (by omega)]

theorem Sim.place {R : RH} {M : Mach} (S : Sim R M) {i : Nat} (hi : i < R.nT) : ∃ t s : Nat, (R.T i).tenant = (t : Int) ∧ (R.T i).slot = (s : Int) ∧ t < M.nt ∧ s < M.ns ∧ plc (R.T i) = 16 * t + s ∧ t < 4 ∧ s < 16 ∧ plc (R.T i) < 64 := by
  obtain ⟨t, s, h1, h2, h3, h4⟩ := S.spot i hi
  have := S.inv.ok.nt
  have := S.inv.ok.ns
  have e : plc (R.T i) = 16 * t + s := by unfold plc; rw [h1, h2]; rfl
  exact ⟨t, s, h1, h2, h3, h4, e, by omega, by omega, by omega⟩
theorem Sim.here {R : RH} {M : Mach} (S : Sim R M) {i t s : Nat} (hi : i < R.nT) (hs : s < 16) : (R.T i).here (t : Int) (s : Int) = decide (plc (R.T i) = 16 * t + s) := by
  obtain ⟨a, b, h1, h2, _, _, h3, _, h4, _⟩ := S.place hi
  unfold RThing.here
  rw [h1, h2, h3]
  by_cases e : a = t ∧ b = s
  · obtain ⟨rfl, rfl⟩ := e; simp
  · have e1 : ¬ (16 * a + b = 16 * t + s) := by omega
    rw [decide_eq_false e1]
    simp
    omega
theorem Sim.count {R : RH} {M : Mach} (S : Sim R M) {t s : Nat} (ht : t < 4) (hs : s < 16) : R.count (t : Int) (s : Int) = (M.s (16 * t + s)).uses := by
  rw [S.uses _ (by omega)]
  unfold RH.count
  refine sumN_congr _ (fun i hi => ?_)
  rw [S.here hi hs]
  simp
theorem Sim.holds {R : RH} {M : Mach} (S : Sim R M) {t s : Nat} (hs : s < 16) : R.holds (t : Int) (s : Int) = (M.s (16 * t + s)).full := by
  unfold RH.holds
  cases hf : (M.s (16 * t + s)).full with
  | true =>
    obtain ⟨i, h1, h2, h3⟩ := S.full _ hf
    refine anyN_true.2 ⟨i, h1, ?_⟩
    rw [S.here h1 hs, h3, h2]
    simp
  | false =>
    refine anyN_false.2 (fun i hi => ?_)
    rw [S.here hi hs]
    cases hd : (R.T i).dead with
    | true => simp
    | false =>
      have := (S.mate i hi hd).full
      have : plc (R.T i) ≠ 16 * t + s := fun e => by rw [e, hf] at this; cases this
      simp [this]
theorem Sim.next {R : RH} {M : Mach} (S : Sim R M) {t : Nat} (ht : t < M.nt) : R.next (t : Int) = M.next t := by
  have h1 := S.inv.ok.nt
  have h2 := S.inv.ok.ns
  unfold RH.next Mach.next
  rw [S.ns]
  refine firstN_congr (fun s hs => ?_)
  rw [S.holds (by omega), S.count (by omega) (by omega)]
theorem Sim.live {R : RH} {M : Mach} (S : Sim R M) {t : Nat} (ht : t < M.nt) : R.live (t : Int) = M.used t := by
  have h1 := S.inv.ok.nt
  have h2 := S.inv.ok.ns
  have a : R.live (t : Int) = sumN (fun i => sumN (fun s => if plc (R.T i) = 16 * t + s ∧ (R.T i).dead = false then 1 else 0) M.ns) R.nT := by
    unfold RH.live
    refine sumN_congr _ (fun i hi => ?_)
    obtain ⟨a, b, e1, e2, e3, e4, e5, _⟩ := S.place hi
    by_cases hc : a = t ∧ (R.T i).dead = false
    · obtain ⟨rfl, hd⟩ := hc
      rw [sumN_single (i := b) e4 (by rw [e5, hd]; simp) (fun k _ hne => by rw [e5]; simp; omega), e1, hd]
      simp
    · rw [sumN_zero (fun k hk => by rw [e5]; simp only [ite_eq_right_iff]; rintro ⟨h3, h4⟩; exact absurd ⟨by omega, h4⟩ hc), e1]
      simp only [Bool.and_eq_true, ite_eq_right_iff]
      rintro ⟨h3, h4⟩
      refine absurd ⟨?_, by simpa using h4⟩ hc
      have : (a : Int) = (t : Int) := by simpa using h3
      omega
  rw [a, sumN_swap]
  unfold Mach.used
  refine sumN_congr _ (fun s hs => ?_)
  cases hf : (M.s (16 * t + s)).full with
  | true =>
    obtain ⟨i, g1, g2, g3⟩ := S.full _ hf
    rw [sumN_single (i := i) g1 (by rw [g3, g2]; simp) (fun k hk hne => by
      simp only [ite_eq_right_iff]
      rintro ⟨h3, h4⟩
      exact absurd (S.uniq k i hk g1 h4 g2 (h3.trans g3.symm)) hne)]
    rfl
  | false =>
    rw [sumN_zero (fun k hk => by
      simp only [ite_eq_right_iff]
      rintro ⟨h3, h4⟩
      have := (S.mate k hk h4).full
      rw [h3, hf] at this
      cases this)]
    rfl

theorem Sim.handle_slot {R : RH} {M : Mach} (S : Sim R M) {i : Nat} (hi : i < R.nT) (hd : (R.T i).dead = false) : ∃ t s : Nat, (R.T i).tenant = (t : Int) ∧ plc (R.T i) = 16 * t + s ∧ t < M.nt ∧ s < M.ns ∧ (R.T i).handle % 16 = (s : Int) := by
  obtain ⟨a, b, e1, e2, e3, e4, e5, _, e6, _⟩ := S.place hi
  refine ⟨a, b, e1, e5, e3, e4, ?_⟩
  rw [(S.mate i hi hd).handle, e5]
  unfold Mach.handle
  omega
theorem Sim.find_some {R : RH} {M : Mach} (S : Sim R M) {t n : Nat} {h : Int} (hf : M.find t h = some n) : ∃ i, R.held (t : Int) h = some i ∧ i < R.nT ∧ (R.T i).dead = false ∧ plc (R.T i) = 16 * t + n ∧ n < M.ns := by
  rcases firstN_spec (fun n => (M.s (16 * t + n)).full && M.handle (16 * t + n) == h) M.ns with ⟨h1, _⟩ | ⟨k, h1, h2, h3, _⟩
  · rw [show M.find t h = none from h1] at hf; cases hf
  · rw [show M.find t h = some k from h1] at hf
    injection hf with e
    subst e
    simp only [Bool.and_eq_true, beq_iff_eq] at h3
    obtain ⟨i, g1, g2, g3⟩ := S.full _ h3.1
    have hh := (S.mate i g1 g2).handle
    obtain ⟨a, b, e1, e2, e3, e4, e5⟩ := S.handle_slot g1 g2
    have := S.inv.ok.ns
    have hab : a = t ∧ b = k := by omega
    refine ⟨i, ?_, g1, g2, g3, h2⟩
    have hi : ((R.T i).tenant == (t : Int) && (R.T i).handle == h && !(R.T i).dead) = true := by
      rw [e1, hab.1, hh, g3, h3.2, g2]; simp
    rcases firstN_spec (fun i => (R.T i).tenant == (t : Int) && (R.T i).handle == h && !(R.T i).dead) R.nT with ⟨_, k2⟩ | ⟨j, k1, k2, k3, k4⟩
    · rw [k2 i g1] at hi; cases hi
    · simp only [Bool.and_eq_true, beq_iff_eq, Bool.not_eq_true'] at k3
      obtain ⟨a2, b2, f1, f2, f3, f4, f5⟩ := S.handle_slot k2 k3.2
      have : j = i := S.uniq j i k2 g1 k3.2 g2 (by
        rw [g3, f2]
        have q1 : (a2 : Int) = (t : Int) := by rw [← f1]; exact k3.1.1
        have q2 : (R.T i).handle = h := by rw [hh, g3]; exact h3.2
        rw [k3.1.2] at f5
        rw [q2] at e5
        omega)
      rw [← this]
      exact k1
theorem Sim.find_none {R : RH} {M : Mach} (S : Sim R M) {t : Nat} {h : Int} (hf : M.find t h = none) : R.held (t : Int) h = none := by
  rcases firstN_spec (fun n => (M.s (16 * t + n)).full && M.handle (16 * t + n) == h) M.ns with ⟨h1, h2⟩ | ⟨k, h1, _⟩
  · refine firstN_none (fun i hi => ?_)
    cases hd : (R.T i).dead with
    | true => simp
    | false =>
      obtain ⟨a, b, e1, e2, e3, e4, e5⟩ := S.handle_slot hi hd
      have m := S.mate i hi hd
      have := h2 b e4
      by_cases ht : a = t
      · subst ht
        have hh := m.handle
        have hfu := m.full
        rw [e2] at hh hfu
        rw [hfu] at this
        simp only [Bool.true_and, beq_eq_false_iff_ne] at this
        rw [hh]
        simp [this]
      · rw [e1]
        have : ((a : Int) == (t : Int)) = false := by simp; omega
        rw [this]
        rfl
  · rw [show M.find t h = some k from h1] at hf; cases hf

end Go.Proofs.Ytkjjamigaamllaa
