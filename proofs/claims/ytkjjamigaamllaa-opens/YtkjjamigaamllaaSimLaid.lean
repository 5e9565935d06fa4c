/-
  The two houses behind a thing that was laid: Alloc, Derive, Grant.
-/
import Derived.Test.YtkjjamigaamllaaSimBase
namespace Go.Proofs.Ytkjjamigaamllaa
open Go.RowKit

theorem sim_push {R : RH} {M : Mach} (S : Sim R M) {t n : Nat} (ht : t < M.nt) (hn : n < M.ns) (he : (M.s (16 * t + n)).full = false) (x : RThing)
    (x1 : x.tenant = (t : Int)) (x2 : x.slot = (n : Int)) (x4 : x.dead = false)
    (R' : RH) (r1 : R'.nt = R.nt) (r2 : R'.ns = R.ns) (r3 : R'.nc = R.nc) (r4 : R'.nT = R.nT + 1) (r5 : R'.T = fun i => if i = R.nT then x else R.T i) (r7 : ∀ k, k < R.nO → R'.O k = R.O k)
    (rinv : R'.Inv) (y : HSlot) (y1 : y.uses = (M.s (16 * t + n)).uses + 1) (inv : (M.set (16 * t + n) y).Inv)
    (mate : Mate R' (M.set (16 * t + n) y) R.nT) (one : x.frm = -1 → ∀ i, i < R.nT → (R.T i).dead = false → (R.T i).frm = -1 → (R.T i).obj ≠ x.obj)
    (chunks : ∀ u : Nat, u < M.nt → (M.set (16 * t + n) y).taken u = R'.chunks (u : Int)) (nO : R'.nO ≤ R.nT + 1) : Sim R' (M.set (16 * t + n) y) := by
  obtain ⟨hp, hp1, hp2⟩ := place_lt S.inv ht hn
  obtain ⟨p, hpe⟩ : ∃ p, p = 16 * t + n := ⟨_, rfl⟩
  have hpx : plc x = p := by unfold plc; rw [x1, x2, hpe]; rfl
  rw [← hpe] at he y1 inv mate chunks hp hp1 hp2 ⊢
  have old : ∀ i, i < R.nT → R'.T i = R.T i := fun i hi => by rw [r5]; exact if_neg (by omega)
  have new : R'.T R.nT = x := by rw [r5]; exact if_pos rfl
  have lt : ∀ i, i < R'.nT → i < R.nT ∨ i = R.nT := fun i hi => by omega
  have ne : ∀ i, i < R.nT → (R.T i).dead = false → plc (R.T i) ≠ p := fun i hi hd e => by
    have := (S.mate i hi hd).full
    rw [e, he] at this
    cases this
  have slot : ∀ q, q ≠ p → (M.set p y).s q = M.s q := fun q hq => Mach.set_other _ _ hq
  refine { nt := r1.trans S.nt, ns := r2.trans S.ns, nc := r3.trans S.nc, inv := inv, rinv := rinv, spot := fun i hi => ?_, uses := fun q hq => ?_, mate := fun i hi hd => ?_, full := fun q hq => ?_, uniq := fun i j hi hj hd hd2 e => ?_, one := fun i j hi hj hd hd2 hf hf2 e => ?_, chunks := chunks, tot := ?_, nO := by rw [r4]; exact nO }
  · rcases lt i hi with h | h
    · rw [old i h]; exact S.spot i h
    · rw [h, new]; exact ⟨t, n, x1, x2, ht, hn⟩
  · rw [r4]
    simp only [sumN]
    have : sumN (fun i => if plc (R'.T i) = q then 1 else 0) R.nT = sumN (fun i => if plc (R.T i) = q then 1 else 0) R.nT := sumN_congr _ (fun i hi => by rw [old i hi])
    rw [this, ← S.uses q hq, new, hpx]
    by_cases e : q = p
    · subst e; rw [Mach.set_same, y1]; simp
    · rw [slot q e, if_neg (fun e2 => e e2.symm)]; rfl
  · rcases lt i hi with h | h
    · have hd' : (R.T i).dead = false := by rw [old i h] at hd; exact hd
      have m := S.mate i h hd'
      have hne := ne i h hd'
      obtain ⟨k, hk, hkl⟩ := S.rinv.obj i h
      have hO : R'.O (R.T i).obj.toNat = R.O (R.T i).obj.toNat := r7 _ (by rw [hk]; exact hkl)
      refine ⟨?_, ?_, ?_, ?_, ?_, ?_, ?_, ?_, ?_⟩ <;> rw [old i h]
      · rw [slot _ hne]; exact m.full
      · unfold Mach.handle; rw [slot _ hne]; exact m.handle
      · rw [slot _ hne]; exact m.first
      · rw [slot _ hne]; exact m.size
      · rw [slot _ hne]; exact m.rights
      · rw [slot _ hne]
        rcases m.frm with h1 | ⟨j, j1, j2, j3, j4⟩
        · exact Or.inl h1
        · exact Or.inr ⟨j, by omega, j2, by rw [old j j1]; exact j3, by rw [old j j1]; exact j4⟩
      · rw [slot _ hne]
        obtain ⟨j, j1, j2, j3, j4, j5⟩ := m.root
        exact ⟨j, by omega, by rw [old j j1]; exact j2, by rw [old j j1]; exact j3, by rw [old j j1]; exact j4, by rw [old j j1]; exact j5⟩
      · rw [hO]; exact m.obj
      · rw [hO, slot _ hne]; exact m.bytes
    · rw [h]; exact mate
  · by_cases e : q = p
    · exact ⟨R.nT, by omega, by rw [new]; exact x4, by rw [new, hpx, e]⟩
    · rw [slot q e] at hq
      obtain ⟨i, h1, h2, h3⟩ := S.full q hq
      exact ⟨i, by omega, by rw [old i h1]; exact h2, by rw [old i h1]; exact h3⟩
  · rcases lt i hi with h | h <;> rcases lt j hj with h2 | h2
    · rw [old i h] at hd e; rw [old j h2] at hd2 e; exact S.uniq i j h h2 hd hd2 e
    · rw [old i h] at hd e; rw [h2, new, hpx] at e; exact absurd e (ne i h hd)
    · rw [old j h2] at hd2 e; rw [h, new, hpx] at e; exact absurd e.symm (ne j h2 hd2)
    · omega
  · rcases lt i hi with h | h <;> rcases lt j hj with h2 | h2
    · rw [old i h] at hd hf e; rw [old j h2] at hd2 hf2 e; exact S.one i j h h2 hd hd2 hf hf2 e
    · rw [old i h] at hd hf e; rw [h2, new] at e hf2; exact absurd e (one hf2 i h hd hf)
    · rw [old j h2] at hd2 hf2 e; rw [h, new] at e hf; exact absurd e.symm (one hf j h2 hd2 hf2)
    · omega
  · rw [r4]
    have := sumN_upd (f := fun q => (M.s q).uses) (g := fun q => ((M.set p y).s q).uses) 64 hp (fun k _ hne => by show ((M.set p y).s k).uses = _; rw [slot k hne])
    have e1 : ((M.set p y).s p).uses = (M.s p).uses + 1 := by rw [Mach.set_same]; exact y1
    have e2 : sumN (fun q => ((M.set p y).s q).uses) 64 + (M.s p).uses = sumN (fun q => (M.s q).uses) 64 + ((M.set p y).s p).uses := this
    rw [e1, ← S.tot] at e2
    omega

/-- the slots that a house has room for: not all things were laid -/
theorem Sim.room {R : RH} {M : Mach} (S : Sim R M) {p : Nat} (hp : p < 64) (hu : (M.s p).uses ≤ 4095) : R.nT < 262144 := by
  rw [S.tot]
  have h1 := sumN_upd (f := fun q => (M.s q).uses) (g := fun q => if q = p then 4096 else (M.s q).uses) 64 hp (fun k _ hne => by show (if k = p then 4096 else (M.s k).uses) = _; rw [if_neg hne])
  have h2 := sumN_le (f := fun q => if q = p then 4096 else (M.s q).uses) (c := 4096) 64 (fun k _ => by
    show (if k = p then 4096 else (M.s k).uses) ≤ 4096
    split
    · omega
    · exact S.inv.ok.uses k)
  have h3 : sumN (fun q => if q = p then 4096 else (M.s q).uses) 64 + (M.s p).uses = sumN (fun q => (M.s q).uses) 64 + (if p = p then 4096 else (M.s p).uses) := h1
  rw [if_pos rfl] at h3
  omega

theorem rinv_push {R : RH} (inv : R.Inv) (hT : R.nT < 262144) {x : RThing} (h1 : -1 ≤ x.frm ∧ x.frm < (R.nT : Int)) (h2 : ∃ k : Nat, x.obj = (k : Int) ∧ k < R.nO) (h3 : 0 ≤ x.first ∧ 0 ≤ x.size ∧ x.first + x.size ≤ ((R.O x.obj.toNat).bytes.length : Int)) (h4 : 0 ≤ x.rights ∧ x.rights ≤ 7) : (R.push x).Inv := by
  have old : ∀ i, i < R.nT → (R.push x).T i = R.T i := fun i hi => if_neg (by omega)
  have new : (R.push x).T R.nT = x := if_pos rfl
  have lt : ∀ i, i < R.nT + 1 → i < R.nT ∨ i = R.nT := fun i hi => by omega
  refine ⟨⟨inv.ok.nt, inv.ok.ns, inv.ok.nc, inv.ok.nO, hT, inv.ok.bytes⟩, fun i hi => ?_, fun i hi => ?_, fun i hi => ?_, fun i hi => ?_, inv.bytes⟩
  all_goals rcases lt i hi with h | h
  · rw [old i h]; exact inv.frm i h
  · rw [h, new]; exact h1
  · rw [old i h]; exact inv.obj i h
  · rw [h, new]; exact h2
  · rw [old i h]; exact inv.part i h
  · rw [h, new]; exact h3
  · rw [old i h]; exact inv.rights i h
  · rw [h, new]; exact h4

/-- something that comes from what thing i holds is laid into a tenant's next slot -/
theorem sim_down {R : RH} {M : Mach} (S : Sim R M) {t n i : Nat} (ht : t < M.nt) (hn : M.next t = some n) (hi : i < R.nT) (hd : (R.T i).dead = false) {a l m : Int}
    (h1 : (R.T i).first ≤ a) (h2 : a + l ≤ (R.T i).first + (R.T i).size) (h3 : 0 ≤ l) (h4 : 0 ≤ m ∧ m ≤ 7) :
    Sim (R.laid (t : Int) (i : Int) (R.T i).obj a l m) (M.set (16 * t + n) ((M.s (16 * t + n)).laid (plc (R.T i) : Int) (M.s (plc (R.T i))).root a l m)) ∧
      R.laidE (t : Int) = 0 ∧ R.laidS (t : Int) = twoW (16 * ((M.s (16 * t + n)).uses : Int) + (n : Int)) := by
  have hN : R.next (t : Int) = some n := (S.next ht).trans hn
  obtain ⟨hlt, hemp, huse⟩ : n < M.ns ∧ (M.s (16 * t + n)).full = false ∧ (M.s (16 * t + n)).uses ≤ 4095 := by
    rcases firstN_spec (fun n => !(M.s (16 * t + n)).full && decide ((M.s (16 * t + n)).uses ≤ 4095)) M.ns with ⟨h5, _⟩ | ⟨k, h5, h6, h7, _⟩
    · rw [show M.next t = none from h5] at hn; cases hn
    · rw [show M.next t = some k from h5] at hn
      injection hn with e
      subst e
      simp at h7
      exact ⟨h6, h7.1, h7.2⟩
  obtain ⟨hp, hp1, hp2⟩ := place_lt S.inv ht hlt
  have hct : R.count (t : Int) (n : Int) = (M.s (16 * t + n)).uses := S.count (by have := S.inv.ok.nt; omega) (by have := S.inv.ok.ns; omega)
  have eL : R.laid (t : Int) (i : Int) (R.T i).obj a l m = R.push ⟨(t : Int), (n : Int), 16 * ((M.s (16 * t + n)).uses : Int) + (n : Int), (i : Int), (R.T i).obj, a, l, m, false⟩ := by
    unfold RH.laid; rw [hN, ← hct]
  have eE : R.laidE (t : Int) = 0 := by unfold RH.laidE; rw [hN]
  have eS : R.laidS (t : Int) = twoW (16 * ((M.s (16 * t + n)).uses : Int) + (n : Int)) := by unfold RH.laidS; rw [hN, ← hct]
  refine ⟨?_, eE, eS⟩
  rw [eL]
  have mi := S.mate i hi hd
  obtain ⟨k, hk, hkl⟩ := S.rinv.obj i hi
  obtain ⟨p1, p2, p3⟩ := S.rinv.part i hi
  have inv' := inv_lay S.inv ht hlt hemp huse mi.full (a := a) (l := l) (m := m) (by rw [← mi.first]; exact h1) (by rw [← mi.first, ← mi.size]; exact h2) h3 h4
  have rinv' : (R.push ⟨(t : Int), (n : Int), 16 * ((M.s (16 * t + n)).uses : Int) + (n : Int), (i : Int), (R.T i).obj, a, l, m, false⟩).Inv :=
    rinv_push S.rinv (S.room hp huse) ⟨by show -1 ≤ (i : Int); omega, by show (i : Int) < _; omega⟩ ⟨k, hk, hkl⟩ ⟨by show 0 ≤ a; omega, h3, by show a + l ≤ ((R.O (R.T i).obj.toNat).bytes.length : Int); omega⟩ h4
  have hbe := S.inv.bytes_empty hemp
  have hne : plc (R.T i) ≠ 16 * t + n := fun e => by have := mi.full; rw [e, hemp] at this; cases this
  refine sim_push S ht hlt hemp ⟨(t : Int), (n : Int), 16 * ((M.s (16 * t + n)).uses : Int) + (n : Int), (i : Int), (R.T i).obj, a, l, m, false⟩ rfl rfl rfl (R.push ⟨(t : Int), (n : Int), 16 * ((M.s (16 * t + n)).uses : Int) + (n : Int), (i : Int), (R.T i).obj, a, l, m, false⟩) rfl rfl rfl rfl rfl (fun _ _ => rfl) rinv' _ rfl inv' ?_ (fun h => ?_) (fun u hu => ?_) (Nat.le_trans S.nO (Nat.le_succ _))
  · have new : (R.push ⟨(t : Int), (n : Int), 16 * ((M.s (16 * t + n)).uses : Int) + (n : Int), (i : Int), (R.T i).obj, a, l, m, false⟩).T R.nT = ⟨(t : Int), (n : Int), 16 * ((M.s (16 * t + n)).uses : Int) + (n : Int), (i : Int), (R.T i).obj, a, l, m, false⟩ := if_pos rfl
    have old : ∀ j, j < R.nT → (R.push ⟨(t : Int), (n : Int), 16 * ((M.s (16 * t + n)).uses : Int) + (n : Int), (i : Int), (R.T i).obj, a, l, m, false⟩).T j = R.T j := fun j hj => if_neg (by omega)
    have hpl : plc ⟨(t : Int), (n : Int), 16 * ((M.s (16 * t + n)).uses : Int) + (n : Int), (i : Int), (R.T i).obj, a, l, m, false⟩ = 16 * t + n := rfl
    refine ⟨?_, ?_, ?_, ?_, ?_, ?_, ?_, ?_, ?_⟩ <;> rw [new] <;> try rw [hpl]
    · rw [Mach.set_same]; rfl
    · unfold Mach.handle; rw [Mach.set_same]; show 16 * ((M.s (16 * t + n)).uses : Int) + (n : Int) = 16 * ((((M.s (16 * t + n)).uses + 1 : Nat) : Int) - 1) + ((16 * t + n : Nat) : Int) % 16; omega
    · rw [Mach.set_same]; rfl
    · rw [Mach.set_same]; rfl
    · rw [Mach.set_same]; rfl
    · rw [Mach.set_same]
      exact Or.inr ⟨i, Nat.lt_succ_of_lt hi, rfl, by rw [old i hi]; exact hd, by rw [old i hi]; rfl⟩
    · rw [Mach.set_same]
      obtain ⟨j, j1, j2, j3, j4, j5⟩ := mi.root
      exact ⟨j, Nat.lt_succ_of_lt j1, by rw [old j j1]; exact j2, by rw [old j j1]; exact j3, by rw [old j j1]; exact j4, by rw [old j j1]; exact j5⟩
    · exact mi.obj
    · intro h; have h : (i : Int) = -1 := h; omega
  · have h : (i : Int) = -1 := h
    omega
  · have e1 : (M.set (16 * t + n) ((M.s (16 * t + n)).laid (plc (R.T i) : Int) (M.s (plc (R.T i))).root a l m)).taken u = M.taken u := by
      refine sumN_congr _ (fun s hs => ?_)
      rcases Mach.set_cases (M := M) (p := 16 * t + n) (x := (M.s (16 * t + n)).laid (plc (R.T i) : Int) (M.s (plc (R.T i))).root a l m) (16 * u + s) with ⟨e, hs⟩ | ⟨e, hs⟩
      · rw [hs, e]; rfl
      · rw [hs]
    rw [e1, S.chunks u hu]
    rfl

/-- a tenant's next slot that there is none: nothing is laid -/
theorem sim_full {R : RH} {M : Mach} (S : Sim R M) {t : Nat} (ht : t < M.nt) (hn : M.next t = none) (f o a l m : Int) :
    R.laid (t : Int) f o a l m = R ∧ R.laidE (t : Int) = 8 ∧ R.laidS (t : Int) = nilS := by
  have hN : R.next (t : Int) = none := (S.next ht).trans hn
  refine ⟨?_, ?_, ?_⟩
  · unfold RH.laid; rw [hN]
  · unfold RH.laidE; rw [hN]
  · unfold RH.laidS; rw [hN]; rfl

/-- Alloc -/
theorem sim_alloc {R : RH} {M : Mach} (S : Sim R M) {t : Nat} (ht : t < M.nt) (l : Int) : Sim (R.alloc (t : Int) l) (M.alloc t l).2.2 ∧ R.allocE (t : Int) l = (M.alloc t l).1 ∧ R.allocS (t : Int) l = (M.alloc t l).2.1 := by
  by_cases h1 : 1 ≤ l ∧ l ≤ 256
  · have n1 : ¬ ¬ (1 ≤ l ∧ l ≤ 256) := fun h => h h1
    by_cases h2 : M.nc < M.taken t + chunksN l.toNat
    · have h2' : R.nc < R.chunks (t : Int) + chunksN l.toNat := by rw [S.nc, ← S.chunks t ht]; exact h2
      have e : M.alloc t l = (7, nilS, M) := by unfold Mach.alloc; rw [if_neg n1, if_pos h2]
      rw [e]
      refine ⟨?_, ?_, ?_⟩
      · unfold RH.alloc; rw [if_neg n1, if_pos h2']; exact S
      · unfold RH.allocE; rw [if_neg n1, if_pos h2']
      · unfold RH.allocS; rw [if_neg n1, if_pos h2']; rfl
    · have h2' : ¬ R.nc < R.chunks (t : Int) + chunksN l.toNat := by rw [S.nc, ← S.chunks t ht]; exact h2
      cases hn : M.next t with
      | none =>
        have hN : R.next (t : Int) = none := (S.next ht).trans hn
        obtain ⟨_, f2, f3⟩ := sim_full S ht hn 0 0 0 0 0
        have e : M.alloc t l = (8, nilS, M) := by unfold Mach.alloc; rw [if_neg n1, if_neg h2, hn]
        rw [e]
        refine ⟨?_, ?_, ?_⟩
        · unfold RH.alloc; rw [if_neg n1, if_neg h2', hN]; exact S
        · unfold RH.allocE; rw [if_neg n1, if_neg h2', f2]
        · unfold RH.allocS; rw [if_neg n1, if_neg h2', f3]
      | some n =>
        have hN : R.next (t : Int) = some n := (S.next ht).trans hn
        obtain ⟨hlt, hemp, huse⟩ : n < M.ns ∧ (M.s (16 * t + n)).full = false ∧ (M.s (16 * t + n)).uses ≤ 4095 := by
          rcases firstN_spec (fun n => !(M.s (16 * t + n)).full && decide ((M.s (16 * t + n)).uses ≤ 4095)) M.ns with ⟨h5, _⟩ | ⟨k, h5, h6, h7, _⟩
          · rw [show M.next t = none from h5] at hn; cases hn
          · rw [show M.next t = some k from h5] at hn
            injection hn with e
            subst e
            simp at h7
            exact ⟨h6, h7.1, h7.2⟩
        obtain ⟨hp, hp1, hp2⟩ := place_lt S.inv ht hlt
        have hct : R.count (t : Int) (n : Int) = (M.s (16 * t + n)).uses := S.count (by have := S.inv.ok.nt; omega) (by have := S.inv.ok.ns; omega)
        have e : M.alloc t l = (0, twoW (16 * ((M.s (16 * t + n)).uses : Int) + (n : Int)), M.set (16 * t + n) (HSlot.new (M.s (16 * t + n)).uses (16 * t + n) l)) := by unfold Mach.alloc; rw [if_neg n1, if_neg h2, hn]
        rw [e]
        obtain ⟨x, hx⟩ : ∃ x : RThing, x = ⟨(t : Int), (n : Int), 16 * ((M.s (16 * t + n)).uses : Int) + (n : Int), -1, (R.nO : Int), 0, l, 7, false⟩ := ⟨_, rfl⟩
        obtain ⟨ob, hob⟩ : ∃ ob : RObj, ob = ⟨(t : Int), List.replicate l.toNat 0, false⟩ := ⟨_, rfl⟩
        have eA : R.alloc (t : Int) l = (R.push x).pushO ob := by
          unfold RH.alloc
          rw [if_neg n1, if_neg h2', hN]
          show (R.laid (t : Int) (-1) (R.nO : Int) 0 l 7).pushO _ = _
          have : R.laid (t : Int) (-1) (R.nO : Int) 0 l 7 = R.push x := by unfold RH.laid; rw [hN, hx, ← hct]
          rw [this, hob]
        refine ⟨?_, ?_, ?_⟩
        · rw [eA]
          have oldO : ∀ k, k < R.nO → ((R.push x).pushO ob).O k = R.O k := fun k hk => if_neg (by show k ≠ R.nO; omega)
          have newO : ((R.push x).pushO ob).O R.nO = ob := if_pos rfl
          have oldT : ∀ j, j < R.nT → ((R.push x).pushO ob).T j = R.T j := fun j hj => if_neg (by omega)
          have newT : ((R.push x).pushO ob).T R.nT = x := if_pos rfl
          have hbl : ob.bytes.length = l.toNat := by rw [hob]; exact List.length_replicate
          have hT := S.room hp huse
          have hO := S.nO
          have rinv' : ((R.push x).pushO ob).Inv := by
            have lt : ∀ i, i < R.nT + 1 → i < R.nT ∨ i = R.nT := fun i hi => by omega
            refine ⟨⟨S.rinv.ok.nt, S.rinv.ok.ns, S.rinv.ok.nc, ?_, hT, fun i => ?_⟩, fun i hi => ?_, fun i hi => ?_, fun i hi => ?_, fun i hi => ?_, fun k hk => ?_⟩
            · show R.nO + 1 ≤ 262144; omega
            · show (if i = R.nO then ob else R.O i).bytes.length ≤ 256
              by_cases ei : i = R.nO
              · rw [if_pos ei, hbl]; omega
              · rw [if_neg ei]; exact S.rinv.ok.bytes i
            · rcases lt i hi with h | h
              · rw [oldT i h]; exact S.rinv.frm i h
              · rw [h, newT, hx]; exact ⟨Int.le_refl _, by show (-1 : Int) < _; omega⟩
            · rcases lt i hi with h | h
              · obtain ⟨k, g1, g2⟩ := S.rinv.obj i h
                rw [oldT i h]; exact ⟨k, g1, Nat.lt_succ_of_lt g2⟩
              · rw [h, newT, hx]; exact ⟨R.nO, rfl, Nat.lt_succ_self _⟩
            · rcases lt i hi with h | h
              · obtain ⟨k, g1, g2⟩ := S.rinv.obj i h
                rw [oldT i h, oldO _ (by rw [g1]; exact g2)]; exact S.rinv.part i h
              · rw [h, newT]
                have e9 : x.obj.toNat = R.nO := by rw [hx]; rfl
                rw [e9, newO, hbl, hx]
                refine ⟨Int.le_refl _, ?_, ?_⟩
                · show 0 ≤ l; omega
                · show 0 + l ≤ (l.toNat : Int); omega
            · rcases lt i hi with h | h
              · rw [oldT i h]; exact S.rinv.rights i h
              · rw [h, newT, hx]; show (0 : Int) ≤ 7 ∧ (7 : Int) ≤ 7; omega
            · have hk : k < R.nO + 1 := hk
              by_cases ek : k = R.nO
              · rw [ek, newO]
                intro hh
                rw [hh] at hbl
                simp at hbl
                omega
              · rw [oldO k (by omega)]; exact S.rinv.bytes k (by omega)
          refine sim_push S ht hlt hemp x (by rw [hx]) (by rw [hx]) (by rw [hx]) ((R.push x).pushO ob) rfl rfl rfl rfl rfl oldO rinv' _ rfl (inv_alloc S.inv ht hlt hemp huse h1) ?_ (fun _ i hi hd hf he => ?_) (fun u hu => ?_) ?_
          · have hpl : plc x = 16 * t + n := by rw [hx]; rfl
            have e9 : x.obj.toNat = R.nO := by rw [hx]; rfl
            refine ⟨?_, ?_, ?_, ?_, ?_, ?_, ?_, ?_, ?_⟩ <;> rw [newT]
            · rw [hpl, Mach.set_same]; rfl
            · rw [hpl]; unfold Mach.handle; rw [Mach.set_same, hx]; show 16 * ((M.s (16 * t + n)).uses : Int) + (n : Int) = 16 * ((((M.s (16 * t + n)).uses + 1 : Nat) : Int) - 1) + ((16 * t + n : Nat) : Int) % 16; omega
            · rw [hpl, Mach.set_same, hx]; rfl
            · rw [hpl, Mach.set_same, hx]; rfl
            · rw [hpl, Mach.set_same, hx]; rfl
            · rw [hpl, Mach.set_same, hx]; exact Or.inl ⟨rfl, rfl⟩
            · refine ⟨R.nT, Nat.lt_succ_self _, ?_, ?_, ?_, ?_⟩
              · rw [newT, hx]
              · rw [newT, hx]
              · rw [newT]
              · rw [newT, hpl, Mach.set_same]; rfl
            · rw [e9, newO, hob]
            · intro _
              rw [e9, newO, hpl, Mach.set_same, hob, hx]
              exact ⟨rfl, rfl⟩
          · obtain ⟨k, g1, g2⟩ := S.rinv.obj i hi
            rw [g1, hx] at he
            have he : (k : Int) = (R.nO : Int) := he
            omega
          · have eR : ((R.push x).pushO ob).chunks (u : Int) = R.chunks (u : Int) + (if u = t then chunksN l.toNat else 0) := by
              show sumN _ (R.nO + 1) = _
              simp only [sumN]
              rw [newO]
              have : sumN (fun i => if (((R.push x).pushO ob).O i).owner == (u : Int) && !(((R.push x).pushO ob).O i).gone then chunksN (((R.push x).pushO ob).O i).bytes.length else 0) R.nO = R.chunks (u : Int) := sumN_congr _ (fun i hi => by rw [oldO i hi])
              rw [this, hbl, hob]
              by_cases eu : u = t
              · rw [if_pos eu, eu]; simp
              · rw [if_neg eu]
                have : ((t : Int) == (u : Int)) = false := by simp; omega
                rw [this]; simp
            rw [eR, ← S.chunks u hu]
            by_cases eu : u = t
            · rw [if_pos eu, eu]
              have := sumN_upd (f := fun s => chunksN (M.s (16 * t + s)).bytes.length) (g := fun s => chunksN ((M.set (16 * t + n) (HSlot.new (M.s (16 * t + n)).uses (16 * t + n) l)).s (16 * t + s)).bytes.length) M.ns hlt (fun s _ hne => by
                show chunksN ((M.set (16 * t + n) _).s (16 * t + s)).bytes.length = _
                rw [Mach.set_other _ _ (by omega)])
              have e3 : (M.set (16 * t + n) (HSlot.new (M.s (16 * t + n)).uses (16 * t + n) l)).taken t + chunksN (M.s (16 * t + n)).bytes.length = M.taken t + chunksN ((M.set (16 * t + n) (HSlot.new (M.s (16 * t + n)).uses (16 * t + n) l)).s (16 * t + n)).bytes.length := this
              rw [Mach.set_same, S.inv.bytes_empty hemp] at e3
              have e4 : (HSlot.new (M.s (16 * t + n)).uses (16 * t + n) l).bytes.length = l.toNat := List.length_replicate
              rw [e4] at e3
              have e5 : chunksN ([] : List Int).length = 0 := rfl
              rw [e5] at e3
              omega
            · rw [if_neg eu, Nat.add_zero]
              refine sumN_congr _ (fun s hs => ?_)
              have hs : s < M.ns := hs
              have := S.inv.ok.ns
              rw [Mach.set_other _ _ (by omega)]
          · show R.nO + 1 ≤ R.nT + 1; omega
        · unfold RH.allocE; rw [if_neg n1, if_neg h2']; unfold RH.laidE; rw [hN]
        · unfold RH.allocS; rw [if_neg n1, if_neg h2']; unfold RH.laidS; rw [hN, ← hct]
  · have n1 : ¬ (1 ≤ l ∧ l ≤ 256) := h1
    have e : M.alloc t l = (6, nilS, M) := by unfold Mach.alloc; rw [if_pos n1]
    rw [e]
    refine ⟨?_, ?_, ?_⟩
    · unfold RH.alloc; rw [if_pos n1]; exact S
    · unfold RH.allocE; rw [if_pos n1]
    · unfold RH.allocS; rw [if_pos n1]; rfl

end Go.Proofs.Ytkjjamigaamllaa
