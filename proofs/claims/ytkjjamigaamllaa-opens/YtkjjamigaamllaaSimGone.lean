/-
  The two houses behind what ended, or was written: Revoke, Drop, Free, Write.
-/
import Derived.Test.YtkjjamigaamllaaSimLaid
namespace Go.Proofs.Ytkjjamigaamllaa
open Go.RowKit

/-- is thing i below thing n, by the document's list? -/
def bel (R : RH) (n i : Nat) : Bool := (clr R n (i + 1)).2 i
theorem clr_stable {R : RH} {n k i : Nat} (h : i < k) : (clr R n k).2 i = bel R n i := by
  induction k with
  | zero => omega
  | succ k ih =>
    by_cases e : i = k
    · subst e; rfl
    · have h1 := ih (by omega)
      by_cases hc : n < k ∧ ((R.T k).frm = (n : Int) ∨ (0 ≤ (R.T k).frm ∧ (clr R n k).2 (R.T k).frm.toNat = true))
      · rw [clr_yes hc.1 hc.2]
        show (if i = k then true else (clr R n k).2 i) = _
        rw [if_neg e]
        exact h1
      · rw [clr, if_neg hc]
        exact h1
theorem bel_iff {R : RH} {n i : Nat} (hf : (R.T i).frm < (i : Int)) : bel R n i = true ↔ n < i ∧ ((R.T i).frm = (n : Int) ∨ (0 ≤ (R.T i).frm ∧ bel R n (R.T i).frm.toNat = true)) := by
  have st : 0 ≤ (R.T i).frm → (clr R n i).2 (R.T i).frm.toNat = bel R n (R.T i).frm.toNat := fun h => clr_stable (by omega)
  unfold bel
  by_cases hc : n < i ∧ ((R.T i).frm = (n : Int) ∨ (0 ≤ (R.T i).frm ∧ (clr R n i).2 (R.T i).frm.toNat = true))
  · rw [clr_yes hc.1 hc.2]
    show (if i = i then true else _) = true ↔ _
    rw [if_pos rfl]
    refine ⟨fun _ => ⟨hc.1, ?_⟩, fun _ => rfl⟩
    rcases hc.2 with h | ⟨h, h2⟩
    · exact Or.inl h
    · exact Or.inr ⟨h, by rw [st h] at h2; exact h2⟩
  · rw [clr, if_neg hc]
    rw [(clr_T R n i).2 i (Nat.le_refl _)]
    refine ⟨fun h => (by cases h), fun ⟨h1, h2⟩ => absurd ⟨h1, ?_⟩ hc⟩
    rcases h2 with h | ⟨h, h2⟩
    · exact Or.inl h
    · exact Or.inr ⟨h, by rw [st h]; exact h2⟩

/-- what is below by the list is below by the slots -/
theorem Sim.below {R : RH} {M : Mach} (S : Sim R M) {n : Nat} (hn : n < R.nT) (hd : (R.T n).dead = false) : ∀ i, i < R.nT → (R.T i).dead = false → (bel R n i = true ↔ Under M (plc (R.T n)) (plc (R.T i))) := by
  intro i
  induction i using Nat.strongRecOn with
  | ind i ih =>
    intro hi hdi
    have m := S.mate i hi hdi
    have hf := (S.rinv.frm i hi).2
    have hlt := S.inv.lt m.full
    rw [bel_iff hf]
    constructor
    · rintro ⟨h1, h2⟩
      rcases m.frm with ⟨g1, _⟩ | ⟨j, j1, j2, j3, j4⟩
      · rcases h2 with h2 | ⟨h2, _⟩ <;> omega
      · rcases h2 with h2 | ⟨h2, h3⟩
        · have : j = n := by omega
          subst this
          exact .child hlt m.full j4
        · have : (R.T i).frm.toNat = j := by omega
          rw [this] at h3
          exact .deep hlt m.full j4 ((ih j (by omega) j1 j3).1 h3)
    · intro hu
      rcases m.frm with ⟨g1, g2⟩ | ⟨j, j1, j2, j3, j4⟩
      · exact absurd g2 hu.not_root
      · have hji : j < i := by omega
        cases hu with
        | child _ _ hp =>
          have : plc (R.T j) = plc (R.T n) := by rw [j4] at hp; omega
          have e := S.uniq j n j1 hn j3 hd this
          subst e
          exact ⟨hji, Or.inl j2⟩
        | @deep _ y _ _ hp hy =>
          have : plc (R.T j) = y := by rw [j4] at hp; omega
          subst this
          have h3 := (ih j hji j1 j3).2 hy
          have h4 := (bel_iff (S.rinv.frm j j1).2).1 h3
          exact ⟨by omega, Or.inr ⟨by omega, by rw [j2]; exact h3⟩⟩

theorem die_dead {x : RThing} {b : Bool} : (x.die b).dead = false ↔ x.dead = false ∧ b = false := by
  show (x.dead || b) = false ↔ _
  cases x.dead <;> cases b <;> simp

/-- things end, with all below them -/
theorem sim_gone {R R' : RH} {M M' : Mach} {D : Nat → Prop} {b : Nat → Bool} (S : Sim R M) (G : Gone D M M')
    (r1 : R'.nt = R.nt) (r2 : R'.ns = R.ns) (r3 : R'.nc = R.nc) (r4 : R'.nT = R.nT) (r5 : ∀ i, i < R.nT → R'.T i = (R.T i).die (b i)) (r6 : R'.nO = R.nO)
    (r7 : ∀ k, (R'.O k).bytes = (R.O k).bytes ∧ (R'.O k).owner = (R.O k).owner) (r8 : ∀ i, i < R.nT → (R.T i).dead = false → ¬ D (plc (R.T i)) → (R'.O (R.T i).obj.toNat).gone = false)
    (hb : ∀ i, i < R.nT → (R.T i).dead = false → (b i = true ↔ D (plc (R.T i)))) (hD : ∀ x y : Nat, (M.s x).full = true → (M.s x).frm = (y : Int) → D y → D x) (hR : ∀ x r : Nat, (M.s x).full = true → (M.s x).root = (r : Int) → D r → D x)
    (chunks : ∀ u : Nat, u < M.nt → M'.taken u = R'.chunks (u : Int)) : Sim R' M' := by
  have pl : ∀ i, i < R.nT → plc (R'.T i) = plc (R.T i) := fun i hi => by rw [r5 i hi]; rfl
  have live : ∀ i, i < R.nT → (R'.T i).dead = false → (R.T i).dead = false ∧ ¬ D (plc (R.T i)) := fun i hi hd => by
    rw [r5 i hi, die_dead] at hd
    exact ⟨hd.1, fun hD => by rw [(hb i hi hd.1).2 hD] at hd; cases hd.2⟩
  have live2 : ∀ i, i < R.nT → (R.T i).dead = false → ¬ D (plc (R.T i)) → (R'.T i).dead = false := fun i hi hd hn => by
    rw [r5 i hi, die_dead]
    refine ⟨hd, ?_⟩
    cases hbi : b i with
    | false => rfl
    | true => exact absurd ((hb i hi hd).1 hbi) hn
  have hin : M'.Inv := inv_gone S.inv G hD hR
  refine { nt := (r1.trans S.nt).trans G.nt.symm, ns := (r2.trans S.ns).trans G.ns.symm, nc := (r3.trans S.nc).trans G.nc.symm, inv := hin, rinv := ?_, spot := fun i hi => ?_, uses := fun q hq => ?_, mate := fun i hi hd => ?_, full := fun q hq => ?_, uniq := fun i j hi hj hd hd2 e => ?_, one := fun i j hi hj hd hd2 hf hf2 e => ?_, chunks := fun u hu => chunks u (G.nt ▸ hu), tot := ?_, nO := by rw [r6, r4]; exact S.nO }
  · have iv := S.rinv
    refine ⟨⟨r1 ▸ iv.ok.nt, r2 ▸ iv.ok.ns, r3 ▸ iv.ok.nc, r6 ▸ iv.ok.nO, r4 ▸ iv.ok.nT, fun k => by rw [(r7 k).1]; exact iv.ok.bytes k⟩, fun i hi => ?_, fun i hi => ?_, fun i hi => ?_, fun i hi => ?_, fun k hk => ?_⟩
    · rw [r4] at hi; rw [r5 i hi]; exact iv.frm i hi
    · rw [r4] at hi; rw [r5 i hi, r6]; exact iv.obj i hi
    · rw [r4] at hi; rw [r5 i hi, (r7 _).1]; exact iv.part i hi
    · rw [r4] at hi; rw [r5 i hi]; exact iv.rights i hi
    · rw [r6] at hk; rw [(r7 k).1]; exact iv.bytes k hk
  · rw [r4] at hi
    obtain ⟨t, s, h1, h2, h3, h4⟩ := S.spot i hi
    rw [r5 i hi]
    exact ⟨t, s, h1, h2, by rw [G.nt]; exact h3, by rw [G.ns]; exact h4⟩
  · rw [r4]
    have e1 : (M'.s q).uses = (M.s q).uses := by
      by_cases hd : D q
      · rw [G.out q hd]; rfl
      · rw [G.same q hd]
    rw [e1, S.uses q hq]
    exact sumN_congr _ (fun i hi => by rw [pl i hi])
  · rw [r4] at hi
    obtain ⟨hd1, hnD⟩ := live i hi hd
    have m := S.mate i hi hd1
    have sm := G.same _ hnD
    refine ⟨?_, ?_, ?_, ?_, ?_, ?_, ?_, ?_, ?_⟩ <;> try rw [pl i hi]
    · rw [sm]; exact m.full
    · rw [r5 i hi]; unfold Mach.handle; rw [sm]; exact m.handle
    · rw [r5 i hi, sm]; exact m.first
    · rw [r5 i hi, sm]; exact m.size
    · rw [r5 i hi, sm]; exact m.rights
    · rw [r5 i hi, sm]
      rcases m.frm with h1 | ⟨j, j1, j2, j3, j4⟩
      · exact Or.inl h1
      · exact Or.inr ⟨j, by rw [r4]; exact j1, j2, live2 j j1 j3 (fun hDj => hnD (hD _ _ m.full j4 hDj)), by rw [pl j j1]; exact j4⟩
    · rw [r5 i hi, sm]
      obtain ⟨j, j1, j2, j3, j4, j5⟩ := m.root
      exact ⟨j, by rw [r4]; exact j1, live2 j j1 j2 (fun hDj => hnD (hR _ _ m.full j5 hDj)), by rw [r5 j j1]; exact j3, by rw [r5 j j1]; exact j4, by rw [pl j j1]; exact j5⟩
    · rw [r5 i hi]; exact r8 i hi hd1 hnD
    · rw [r5 i hi, sm, (r7 _).1, (r7 _).2]; exact m.bytes
  · have hnD : ¬ D q := fun h => by rw [G.out q h] at hq; cases hq
    rw [G.same q hnD] at hq
    obtain ⟨i, h1, h2, h3⟩ := S.full q hq
    exact ⟨i, by rw [r4]; exact h1, live2 i h1 h2 (by rw [h3]; exact hnD), by rw [pl i h1]; exact h3⟩
  · rw [r4] at hi hj
    rw [pl i hi, pl j hj] at e
    exact S.uniq i j hi hj (live i hi hd).1 (live j hj hd2).1 e
  · rw [r4] at hi hj
    rw [r5 i hi] at hf e
    rw [r5 j hj] at hf2 e
    exact S.one i j hi hj (live i hi hd).1 (live j hj hd2).1 hf hf2 e
  · rw [r4, S.tot]
    exact sumN_congr _ (fun q _ => by
      by_cases hd : D q
      · rw [G.out q hd]; rfl
      · rw [G.same q hd])

/-- what the clearing makes of the things -/
theorem clr_all (R : RH) (n : Nat) : (clr R n R.nT).1.nt = R.nt ∧ (clr R n R.nT).1.ns = R.ns ∧ (clr R n R.nT).1.nc = R.nc ∧ (clr R n R.nT).1.nT = R.nT ∧ (clr R n R.nT).1.nO = R.nO ∧ (clr R n R.nT).1.O = R.O ∧ ∀ i, i < R.nT → (clr R n R.nT).1.T i = (R.T i).die (bel R n i) := by
  have e := (clr_T R n R.nT).1
  refine ⟨by rw [e], by rw [e], by rw [e], by rw [e], by rw [e], by rw [e], fun i hi => ?_⟩
  have e1 : (clr R n R.nT).1.T i = (R.T i).die ((clr R n R.nT).2 i) := by rw [e]
  rw [e1, clr_stable hi]

/-- chunks are those of roots -/
theorem taken_gone {M M' : Mach} {D : Nat → Prop} (G : Gone D M M') {u : Nat} (h : ∀ s, s < M.ns → D (16 * u + s) → (M.s (16 * u + s)).bytes = []) : M'.taken u = M.taken u := by
  unfold Mach.taken
  rw [G.ns]
  refine sumN_congr _ (fun s hs => ?_)
  by_cases hd : D (16 * u + s)
  · rw [G.out _ hd, h s hs hd]; rfl
  · rw [G.same _ hd]

/-- Revoke -/
theorem sim_revoke {R : RH} {M M' : Mach} (S : Sim R M) {n : Nat} (hn : n < R.nT) (hd : (R.T n).dead = false) (G : Gone (Under M (plc (R.T n))) M M') : Sim (clr R n R.nT).1 M' := by
  obtain ⟨c1, c2, c3, c4, c5, c6, c7⟩ := clr_all R n
  refine sim_gone (b := bel R n) S G c1 c2 c3 c4 c7 c5 (fun k => by rw [c6]; exact ⟨rfl, rfl⟩) (fun i hi hdi _ => by rw [c6]; exact (S.mate i hi hdi).obj) (S.below hn hd) (fun x y hx hf hy => .deep (S.inv.lt hx) hx hf hy) (fun x r hx hr hu => ?_) (fun u hu => ?_)
  · obtain ⟨r2, g1, _, _, g4, _⟩ := S.inv.top x hx
    have : r2 = r := by rw [hr] at g1; omega
    subst this
    exact absurd g4 hu.not_root
  · rw [taken_gone G (fun s _ hu => S.inv.bytes_of hu.not_root), S.chunks u hu]
    unfold RH.chunks
    rw [c5, c6]

/-- Drop: what is no root -/
theorem sim_drop {R : RH} {M M' : Mach} (S : Sim R M) {n : Nat} (hn : n < R.nT) (hd : (R.T n).dead = false) (hroot : (R.T n).frm ≠ -1) (G : Gone (fun x => x = plc (R.T n) ∨ Under M (plc (R.T n)) x) M M') : Sim (R.left n 8) M' := by
  obtain ⟨c1, c2, c3, c4, c5, c6, c7⟩ := clr_all R n
  have e : R.left n 8 = (clr R n R.nT).1.kill n := by unfold RH.left; rw [if_neg (by decide)]
  have m := S.mate n hn hd
  have hmr : (M.s (plc (R.T n))).frm ≠ -1 := by
    rcases m.frm with ⟨g1, _⟩ | ⟨j, _, _, _, j4⟩
    · exact absurd g1 hroot
    · rw [j4]; omega
  rw [e]
  refine sim_gone (b := fun i => bel R n i || decide (i = n)) S G c1 c2 c3 c4 (fun i hi => ?_) c5 (fun k => by show ((clr R n R.nT).1.O k).bytes = _ ∧ ((clr R n R.nT).1.O k).owner = _; rw [c6]; exact ⟨rfl, rfl⟩) (fun i hi hdi _ => by show ((clr R n R.nT).1.O _).gone = false; rw [c6]; exact (S.mate i hi hdi).obj) (fun i hi hdi => ?_) (fun x y hx hf hy => ?_) (fun x r hx hr hu => ?_) (fun u hu => ?_)
  · show (if i = n then ((clr R n R.nT).1.T n).die true else (clr R n R.nT).1.T i) = _
    by_cases ei : i = n
    · subst ei; rw [if_pos rfl, c7 i hi]; simp [RThing.die]
    · rw [if_neg ei, c7 i hi]; simp [ei]
  · simp only [Bool.or_eq_true, decide_eq_true_eq]
    rw [S.below hn hd i hi hdi]
    constructor
    · rintro (h | h)
      · exact Or.inr h
      · exact Or.inl (by rw [h])
    · rintro (h | h)
      · exact Or.inr (S.uniq i n hi hn hdi hd h)
      · exact Or.inl h
  · rcases hy with rfl | hy
    · exact Or.inr (.child (S.inv.lt hx) hx hf)
    · exact Or.inr (.deep (S.inv.lt hx) hx hf hy)
  · rcases hu with rfl | hu
    · exact S.inv.root_under hx hr
    · obtain ⟨r2, g1, _, _, g4, _⟩ := S.inv.top x hx
      have : r2 = r := by rw [hr] at g1; omega
      subst this
      exact absurd g4 hu.not_root
  · rw [taken_gone G (fun s _ hu => ?_), S.chunks u hu]
    · show _ = (clr R n R.nT).1.chunks (u : Int)
      unfold RH.chunks
      rw [c5, c6]
    · rcases hu with hu | hu
      · rw [hu]; exact S.inv.bytes_of hmr
      · exact S.inv.bytes_of hu.not_root

/-- Free: a root -/
theorem sim_free {R : RH} {M M' : Mach} (S : Sim R M) {n : Nat} (hn : n < R.nT) (hd : (R.T n).dead = false) (hroot : (R.T n).frm = -1) (G : Gone (fun x => x = plc (R.T n) ∨ Under M (plc (R.T n)) x) M M') : Sim (R.left n 2) M' := by
  obtain ⟨c1, c2, c3, c4, c5, c6, c7⟩ := clr_all R n
  have e : R.left n 2 = ((clr R n R.nT).1.kill n).lose (R.T n).obj.toNat := by unfold RH.left; rw [if_pos rfl]
  have m := S.mate n hn hd
  obtain ⟨k, hk, hkl⟩ := S.rinv.obj n hn
  obtain ⟨t0, s0, p1, p2, p3, p4, p5, p6, p7, p8⟩ := S.place hn
  obtain ⟨mb, mo⟩ := m.bytes hroot
  have mg := m.obj
  rw [e]
  have ek : (R.T n).obj.toNat = k := by rw [hk]; rfl
  rw [ek] at mb mo mg ⊢
  have eO : ∀ j, (((clr R n R.nT).1.kill n).lose k).O j = if j = k then (R.O k).lost else R.O j := fun j => by
    show (if j = k then ((clr R n R.nT).1.O k).lost else (clr R n R.nT).1.O j) = _
    rw [c6]
  refine sim_gone (b := fun i => bel R n i || decide (i = n)) S G c1 c2 c3 c4 (fun i hi => ?_) c5 (fun j => ?_) (fun i hi hdi hnD => ?_) (fun i hi hdi => ?_) (fun x y hx hf hy => ?_) (fun x r hx hr hu => ?_) (fun u hu => ?_)
  · show (if i = n then ((clr R n R.nT).1.T n).die true else (clr R n R.nT).1.T i) = _
    by_cases ei : i = n
    · subst ei; rw [if_pos rfl, c7 i hi]; simp [RThing.die]
    · rw [if_neg ei, c7 i hi]; simp [ei]
  · rw [eO]
    by_cases ej : j = k
    · rw [if_pos ej, ej]; exact ⟨rfl, rfl⟩
    · rw [if_neg ej]; exact ⟨rfl, rfl⟩
  · have mi := S.mate i hi hdi
    obtain ⟨ki, hki, hkil⟩ := S.rinv.obj i hi
    rw [hki, eO]
    have : ki ≠ k := fun e2 => by
      obtain ⟨j, j1, j2, j3, j4, j5⟩ := mi.root
      have : j = n := S.one j n j1 hn j2 hd j3 hroot (by rw [j4, hki, hk, e2])
      subst this
      rcases S.inv.root_under mi.full j5 with h | h
      · exact hnD (Or.inl h)
      · exact hnD (Or.inr h)
    show (if ki = k then _ else R.O ki).gone = false
    rw [if_neg this]
    have := mi.obj
    rw [hki] at this
    exact this
  · simp only [Bool.or_eq_true, decide_eq_true_eq]
    rw [S.below hn hd i hi hdi]
    constructor
    · rintro (h | h)
      · exact Or.inr h
      · exact Or.inl (by rw [h])
    · rintro (h | h)
      · exact Or.inr (S.uniq i n hi hn hdi hd h)
      · exact Or.inl h
  · rcases hy with rfl | hy
    · exact Or.inr (.child (S.inv.lt hx) hx hf)
    · exact Or.inr (.deep (S.inv.lt hx) hx hf hy)
  · rcases hu with rfl | hu
    · exact S.inv.root_under hx hr
    · obtain ⟨r2, g1, _, _, g4, _⟩ := S.inv.top x hx
      have : r2 = r := by rw [hr] at g1; omega
      subst this
      exact absurd g4 hu.not_root
  · have eR : (((clr R n R.nT).1.kill n).lose k).chunks (u : Int) + (if u = t0 then chunksN (R.O k).bytes.length else 0) = R.chunks (u : Int) := by
      have := sumN_upd (f := fun i => if (R.O i).owner == (u : Int) && !(R.O i).gone then chunksN (R.O i).bytes.length else 0) (g := fun i => if ((((clr R n R.nT).1.kill n).lose k).O i).owner == (u : Int) && !((((clr R n R.nT).1.kill n).lose k).O i).gone then chunksN ((((clr R n R.nT).1.kill n).lose k).O i).bytes.length else 0) R.nO hkl (fun j _ hne => by
        show (if ((((clr R n R.nT).1.kill n).lose k).O j).owner == (u : Int) && _ then _ else 0) = _
        rw [eO, if_neg hne])
      have e1 : (((clr R n R.nT).1.kill n).lose k).chunks (u : Int) + (if (R.O k).owner == (u : Int) && !(R.O k).gone then chunksN (R.O k).bytes.length else 0) = R.chunks (u : Int) + (if ((((clr R n R.nT).1.kill n).lose k).O k).owner == (u : Int) && !((((clr R n R.nT).1.kill n).lose k).O k).gone then chunksN ((((clr R n R.nT).1.kill n).lose k).O k).bytes.length else 0) := by
        have e9 : (((clr R n R.nT).1.kill n).lose k).nO = R.nO := c5
        unfold RH.chunks
        rw [e9]
        exact this
      rw [eO, if_pos rfl, mg, mo, p1] at e1
      have e2 : (R.O k).lost.gone = true := rfl
      rw [e2] at e1
      simp only [Bool.not_true, Bool.and_false, Bool.not_false, Bool.and_true] at e1
      by_cases eu : u = t0
      · rw [if_pos eu]
        rw [eu] at e1 ⊢
        simpa using e1
      · rw [if_neg eu]
        have : ((t0 : Int) == (u : Int)) = false := by simp; omega
        rw [this] at e1
        simpa using e1
    have eM : M'.taken u + (if u = t0 then chunksN (R.O k).bytes.length else 0) = M.taken u := by
      by_cases eu : u = t0
      · rw [if_pos eu, eu]
        have := sumN_upd (f := fun s => chunksN (M.s (16 * t0 + s)).bytes.length) (g := fun s => chunksN (M'.s (16 * t0 + s)).bytes.length) M.ns p4 (fun s hs hne => by
          show chunksN (M'.s (16 * t0 + s)).bytes.length = _
          by_cases hD : (16 * t0 + s = plc (R.T n) ∨ Under M (plc (R.T n)) (16 * t0 + s))
          · rw [G.out _ hD]
            rcases hD with hD | hD
            · omega
            · rw [S.inv.bytes_of hD.not_root]; rfl
          · rw [G.same _ hD])
        have e1 : M'.taken t0 + chunksN (M.s (16 * t0 + s0)).bytes.length = M.taken t0 + chunksN (M'.s (16 * t0 + s0)).bytes.length := by
          unfold Mach.taken
          rw [G.ns]
          exact this
        rw [G.out (16 * t0 + s0) (Or.inl p5.symm), ← p5, mb] at e1
        have e2 : chunksN (HSlot.none (M.s (plc (R.T n))).uses).bytes.length = 0 := by simp [HSlot.none, chunksN]
        rw [e2] at e1
        omega
      · rw [if_neg eu, Nat.add_zero]
        refine taken_gone G (fun s hs hD => ?_)
        rcases hD with hD | hD
        · have := S.inv.ok.ns
          omega
        · exact S.inv.bytes_of hD.not_root
    have := S.chunks u hu
    omega

/-- Write -/
theorem sim_write {R : RH} {M : Mach} (S : Sim R M) {n : Nat} (hn : n < R.nT) (hd : (R.T n).dead = false) {bs : List Int} (hlen : bs.length = (R.O (R.T n).obj.toNat).bytes.length) (hb : ∀ b ∈ bs, 0 ≤ b ∧ b ≤ 255) :
    Sim (R.turn (R.T n).obj.toNat bs) (M.set (M.s (plc (R.T n))).root.toNat ((M.s (M.s (plc (R.T n))).root.toNat).withBytes bs)) ∧ (M.s (M.s (plc (R.T n))).root.toNat).bytes = (R.O (R.T n).obj.toNat).bytes := by
  have m := S.mate n hn hd
  obtain ⟨j, j1, j2, j3, j4, j5⟩ := m.root
  have mj := S.mate j j1 j2
  obtain ⟨mb, _⟩ := mj.bytes j3
  obtain ⟨k, hk, hkl⟩ := S.rinv.obj n hn
  have er : (M.s (plc (R.T n))).root.toNat = plc (R.T j) := by rw [j5]; rfl
  have ek : (R.T n).obj.toNat = k := by rw [hk]; rfl
  rw [er]
  rw [j4, ek] at mb
  rw [ek] at hlen ⊢
  have hlen2 : bs.length = (M.s (plc (R.T j))).bytes.length := by rw [mb]; exact hlen
  refine ⟨?_, mb⟩
  obtain ⟨r, hr⟩ : ∃ r, r = plc (R.T j) := ⟨_, rfl⟩
  rw [← hr] at mb hlen2 ⊢
  have same : ∀ q, (M.set r ((M.s r).withBytes bs)).s q = (M.s q).withBytes (if q = r then bs else (M.s q).bytes) := fun q => by
    rcases Mach.set_cases (M := M) (p := r) (x := (M.s r).withBytes bs) q with ⟨e, hs⟩ | ⟨e, hs⟩
    · rw [hs, if_pos e, e]
    · rw [hs, if_neg e]; rfl
  have eO : ∀ i, (R.turn k bs).O i = if i = k then (R.O k).turn bs else R.O i := fun i => rfl
  have eg : ∀ i, ((R.turn k bs).O i).gone = (R.O i).gone ∧ ((R.turn k bs).O i).owner = (R.O i).owner ∧ ((R.turn k bs).O i).bytes.length = (R.O i).bytes.length := fun i => by
    rw [eO]
    by_cases e : i = k
    · rw [if_pos e, e]; exact ⟨rfl, rfl, hlen⟩
    · rw [if_neg e]; exact ⟨rfl, rfl, rfl⟩
  have iv := S.rinv
  refine { nt := S.nt, ns := S.ns, nc := S.nc, inv := inv_turn S.inv hlen2 hb, rinv := ⟨⟨iv.ok.nt, iv.ok.ns, iv.ok.nc, iv.ok.nO, iv.ok.nT, fun i => by rw [(eg i).2.2]; exact iv.ok.bytes i⟩, iv.frm, iv.obj, fun i hi => ?_, iv.rights, fun i hi => ?_⟩, spot := S.spot, uses := fun q hq => ?_, mate := fun i hi hdi => ?_, full := fun q hq => ?_, uniq := S.uniq, one := S.one, chunks := fun u hu => ?_, tot := ?_, nO := S.nO }
  · rw [(eg _).2.2]; exact iv.part i hi
  · intro hh
    have := (eg i).2.2
    rw [hh] at this
    exact iv.bytes i hi (List.eq_nil_of_length_eq_zero this.symm)
  · rw [same]; exact S.uses q hq
  · have mi := S.mate i hi hdi
    refine ⟨?_, ?_, ?_, ?_, ?_, ?_, ?_, ?_, ?_⟩
    · rw [same]; exact mi.full
    · unfold Mach.handle; rw [same]; exact mi.handle
    · rw [same]; exact mi.first
    · rw [same]; exact mi.size
    · rw [same]; exact mi.rights
    · rw [same]; exact mi.frm
    · rw [same]; exact mi.root
    · rw [(eg _).1]; exact mi.obj
    · intro hf
      obtain ⟨b1, b2⟩ := mi.bytes hf
      rw [(eg _).2.1]
      refine ⟨?_, b2⟩
      rw [same, eO]
      show (if plc (R.T i) = r then bs else (M.s (plc (R.T i))).bytes) = (if (R.T i).obj.toNat = k then (R.O k).turn bs else R.O (R.T i).obj.toNat).bytes
      obtain ⟨ki, hki, hkil⟩ := S.rinv.obj i hi
      by_cases e : plc (R.T i) = r
      · have : i = j := S.uniq i j hi j1 hdi j2 (e.trans hr)
        subst this
        rw [if_pos e, j4, ek, if_pos rfl]
        rfl
      · have hne : ¬ (R.T i).obj.toNat = k := by
          intro e2
          refine e ?_
          have : i = j := S.one i j hi j1 hdi j2 hf j3 (by rw [j4, hk, hki]; rw [hki] at e2; have e2 : ki = k := e2; rw [e2])
          rw [this, hr]
        rw [if_neg e, if_neg hne, b1]
  · rw [same] at hq; exact S.full q hq
  · have e1 : (M.set r ((M.s r).withBytes bs)).taken u = M.taken u := by
      refine sumN_congr _ (fun s _ => ?_)
      rw [same]
      show chunksN (if 16 * u + s = r then bs else (M.s (16 * u + s)).bytes).length = _
      by_cases e : 16 * u + s = r
      · rw [if_pos e, hlen2, e]
      · rw [if_neg e]
    have e2 : (R.turn k bs).chunks (u : Int) = R.chunks (u : Int) := by
      refine sumN_congr _ (fun i _ => ?_)
      rw [(eg i).1, (eg i).2.1, (eg i).2.2]
    rw [e1, e2]
    exact S.chunks u hu
  · have : sumN (fun p => ((M.set r ((M.s r).withBytes bs)).s p).uses) 64 = sumN (fun p => (M.s p).uses) 64 := sumN_congr _ (fun q _ => by rw [same]; rfl)
    rw [this]
    exact S.tot

end Go.Proofs.Ytkjjamigaamllaa
