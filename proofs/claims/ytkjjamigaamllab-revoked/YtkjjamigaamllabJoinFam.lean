/-
  Joined: KeepEcho, KeepFamPure, KeepFam.
-/
import Derived.Test.YtkjjamigaamllabJoinLive
import Derived.Test.YtkjjamigaamllabKeepEchoPure
namespace Go.Proofs.Ytkjjamigaamllab
open Go.RowKit
set_option linter.unusedSimpArgs false

/- KeepEcho -/

theorem KStep.err {K K' : KRun} {t : Nat} {op x o l r to : Int} {d : ByteArray} {er : Int} {m : ByteArray} (hok : okB op x o l r to d.size = true) (st : KStep K t op x o l r to d er m K') : 0 ≤ er ∧ er ≤ 9 := by
  obtain ⟨h1, h2, _⟩ := ((stepS_body hok).2 st.q).err
  exact ⟨h1, h2⟩
/-- a reply that gives a handle -/
theorem reply_two {x : Int} (h : wd x = true) : ∃ rp, oneC 0 ++ twoW x = rp ∧ rp.size = 3 ∧ byt rp 0 = 0 ∧ 256 * byt rp 1 + byt rp 2 = x :=
  ⟨_, rfl, by rw [reply_size, twoW_size], byt_one _ _ ⟨by decide, by decide⟩, by rw [hOf_reply (twoW_size _), hOf_two h]⟩
theorem KLive.c5 {w0 w : World} {rb : Nat} {K : KRun} (h : KLive w0 w rb K) : w.cell? ⟨rb, 5, none⟩ = some (.bool true) := by
  rw [← h.ok]; exact rowCell h.run.row 5

theorem zeros_size (n : Nat) : (zerosS n).size = n := by unfold zerosS; rw [strOfNums_size]; simp
theorem part_new2 {M : Mach} {p u y : Nat} (h : M.s p = HSlot.new u p (y : Int)) : strOfNums (M.part p 0 (y : Int)) = zerosS y := by
  unfold Mach.part zerosS
  have e1 : (M.s p).root.toNat = p := by rw [h]; rfl
  rw [e1, h]
  have e2 : (y : Int).toNat = y := rfl
  simp only [HSlot.new, e2]
  simp
theorem part_written {M : Mach} {p u y a : Nat} {d : ByteArray} (h : M.s p = (HSlot.new u p (y : Int)).withBytes (spl (List.replicate y 0) a d d.size)) (ha : a + d.size ≤ y) : strOfNums (M.part p 0 (y : Int)) = zerosS a ++ d ++ zerosS (y - a - d.size) := by
  unfold Mach.part zerosS
  have e1 : (M.s p).root.toNat = p := by rw [h]; rfl
  rw [e1, h, ← written y a d ha]
  have e2 : (y : Int).toNat = y := rfl
  have e3 : (spl (List.replicate y 0) a d d.size).length = y := by rw [spl_len]; simp
  simp only [HSlot.new, HSlot.withBytes, e2]
  rw [show ((0 : Int) + 0).toNat = 0 from rfl, List.drop_zero, List.take_of_length_le (by omega)]

/- KeepFamPure -/

structure Fam (M0 M4 : Mach) (t o y i0 i1 i2 i3 u0 u1 u2 u3 : Nat) : Prop where
  i : i0 < M0.ns ∧ i1 < M0.ns ∧ i2 < M0.ns ∧ i3 < M0.ns
  u : u0 ≤ 4095 ∧ u1 ≤ 4095 ∧ u2 ≤ 4095 ∧ u3 ≤ 4095
  ne : 16 * t + i0 ≠ 16 * t + i1 ∧ 16 * t + i0 ≠ 16 * t + i2 ∧ 16 * t + i0 ≠ 16 * o + i3 ∧ 16 * t + i1 ≠ 16 * t + i2 ∧ 16 * t + i1 ≠ 16 * o + i3 ∧ 16 * t + i2 ≠ 16 * o + i3
  e0 : (M0.s (16 * t + i0)).full = false
  e1 : (M0.s (16 * t + i1)).full = false
  e2 : (M0.s (16 * t + i2)).full = false
  e3 : (M0.s (16 * o + i3)).full = false
  s0 : M4.s (16 * t + i0) = HSlot.new u0 (16 * t + i0) (y : Int)
  s1 : M4.s (16 * t + i1) = ⟨u1 + 1, true, ((16 * t + i0 : Nat) : Int), ((16 * t + i0 : Nat) : Int), 0, (y : Int), 7, []⟩
  s2 : M4.s (16 * t + i2) = ⟨u2 + 1, true, ((16 * t + i1 : Nat) : Int), ((16 * t + i0 : Nat) : Int), 0, 1, 5, []⟩
  s3 : M4.s (16 * o + i3) = ⟨u3 + 1, true, ((16 * t + i2 : Nat) : Int), ((16 * t + i0 : Nat) : Int), 0, 1, 5, []⟩
  oth : ∀ q, q ≠ 16 * t + i0 → q ≠ 16 * t + i1 → q ≠ 16 * t + i2 → q ≠ 16 * o + i3 → M4.s q = M0.s q
  us : ∀ q, M4.used q = M0.used q + (if q = t then 3 else 0) + (if q = o then 1 else 0)
  nt : M4.nt = M0.nt
  ns : M4.ns = M0.ns
  nc : M4.nc = M0.nc

theorem laid_bare {M : Mach} (inv : M.Inv) {p : Nat} (h : (M.s p).full = false) (a r f l m : Int) : (M.s p).laid a r f l m = ⟨(M.s p).uses + 1, true, a, r, f, l, m, []⟩ := by
  unfold HSlot.laid
  rw [inv.bare_bytes h]

theorem fam_of {M0 M1 M2 M3 M4 : Mach} (inv : M0.Inv) (inv1 : M1.Inv) (inv2 : M2.Inv) (inv3 : M3.Inv) {t o y i0 i1 i2 i3 : Nat} {u0 u1 u2 u3 : Nat}
    (w0 : u0 = (M0.s (16 * t + i0)).uses) (w1 : u1 = (M1.s (16 * t + i1)).uses) (w2 : u2 = (M2.s (16 * t + i2)).uses) (w3 : u3 = (M3.s (16 * o + i3)).uses)
    (n0 : M0.next t = some i0) (n1 : M1.next t = some i1) (n2 : M2.next t = some i2) (n3 : M3.next o = some i3)
    (E1 : M1 = M0.set (16 * t + i0) (HSlot.new u0 (16 * t + i0) (y : Int)))
    (E2 : M2 = M1.set (16 * t + i1) ((M1.s (16 * t + i1)).laid ((16 * t + i0 : Nat) : Int) (M1.s (16 * t + i0)).root ((M1.s (16 * t + i0)).first + 0) (y : Int) 7))
    (E3 : M3 = M2.set (16 * t + i2) ((M2.s (16 * t + i2)).laid ((16 * t + i1 : Nat) : Int) (M2.s (16 * t + i1)).root ((M2.s (16 * t + i1)).first + 0) 1 5))
    (E4 : M4 = M3.set (16 * o + i3) ((M3.s (16 * o + i3)).laid ((16 * t + i2 : Nat) : Int) (M3.s (16 * t + i2)).root (M3.s (16 * t + i2)).first (M3.s (16 * t + i2)).len (M3.s (16 * t + i2)).rights)) :
    Fam M0 M4 t o y i0 i1 i2 i3 u0 u1 u2 u3 := by
  have hs := inv.ok.ns
  obtain ⟨a1, a2, a3⟩ := next_spec n0
  obtain ⟨b1, b2, b3⟩ := next_spec n1
  obtain ⟨c1, c2, c3⟩ := next_spec n2
  obtain ⟨d1, d2, d3⟩ := next_spec n3
  have m1 : M1.ns = M0.ns := by rw [E1]; rfl
  have m2 : M2.ns = M0.ns := by rw [E2]; exact m1
  have m3 : M3.ns = M0.ns := by rw [E3]; exact m2
  have m4 : M4.ns = M0.ns := by rw [E4]; exact m3
  have P0 : M1.s (16 * t + i0) = HSlot.new u0 (16 * t + i0) (y : Int) := by rw [E1]; exact Mach.set_same _ _ _
  have x01 : 16 * t + i0 ≠ 16 * t + i1 := fun e => by rw [← e, P0] at b2; cases b2
  have P1 : M2.s (16 * t + i1) = ⟨u1 + 1, true, ((16 * t + i0 : Nat) : Int), ((16 * t + i0 : Nat) : Int), 0, (y : Int), 7, []⟩ := by
    rw [E2, Mach.set_same, laid_bare inv1 b2, P0, ← w1]; rfl
  have P0' : M2.s (16 * t + i0) = HSlot.new u0 (16 * t + i0) (y : Int) := by rw [E2, Mach.set_other _ _ x01]; exact P0
  have x02 : 16 * t + i0 ≠ 16 * t + i2 := fun e => by rw [← e, P0'] at c2; cases c2
  have x12 : 16 * t + i1 ≠ 16 * t + i2 := fun e => by rw [← e, P1] at c2; cases c2
  have P2 : M3.s (16 * t + i2) = ⟨u2 + 1, true, ((16 * t + i1 : Nat) : Int), ((16 * t + i0 : Nat) : Int), 0, 1, 5, []⟩ := by
    rw [E3, Mach.set_same, laid_bare inv2 c2, P1, ← w2]; rfl
  have P0'' : M3.s (16 * t + i0) = HSlot.new u0 (16 * t + i0) (y : Int) := by rw [E3, Mach.set_other _ _ x02]; exact P0'
  have P1'' : M3.s (16 * t + i1) = ⟨u1 + 1, true, ((16 * t + i0 : Nat) : Int), ((16 * t + i0 : Nat) : Int), 0, (y : Int), 7, []⟩ := by rw [E3, Mach.set_other _ _ x12]; exact P1
  have x03 : 16 * t + i0 ≠ 16 * o + i3 := fun e => by rw [← e, P0''] at d2; cases d2
  have x13 : 16 * t + i1 ≠ 16 * o + i3 := fun e => by rw [← e, P1''] at d2; cases d2
  have x23 : 16 * t + i2 ≠ 16 * o + i3 := fun e => by rw [← e, P2] at d2; cases d2
  have P3 : M4.s (16 * o + i3) = ⟨u3 + 1, true, ((16 * t + i2 : Nat) : Int), ((16 * t + i0 : Nat) : Int), 0, 1, 5, []⟩ := by
    rw [E4, Mach.set_same, laid_bare inv3 d2, P2, ← w3]
  have r1 : M1.s (16 * t + i1) = M0.s (16 * t + i1) := by rw [E1]; exact Mach.set_other _ _ (fun e => x01 e.symm)
  have r2 : M2.s (16 * t + i2) = M0.s (16 * t + i2) := by rw [E2, Mach.set_other _ _ (fun e => x12 e.symm), E1]; exact Mach.set_other _ _ (fun e => x02 e.symm)
  have r3 : M3.s (16 * o + i3) = M0.s (16 * o + i3) := by rw [E3, Mach.set_other _ _ (fun e => x23 e.symm), E2, Mach.set_other _ _ (fun e => x13 e.symm), E1]; exact Mach.set_other _ _ (fun e => x03 e.symm)
  refine ⟨⟨a1, m1 ▸ b1, m2 ▸ c1, m3 ▸ d1⟩, ⟨by omega, by omega, by omega, by omega⟩, ⟨x01, x02, x03, x12, x13, x23⟩, a2, r1 ▸ b2, r2 ▸ c2, r3 ▸ d2, ?_, ?_, ?_, P3, fun q q0 q1 q2 q3 => ?_, fun q => ?_, by rw [E4, E3, E2, E1]; rfl, m4, by rw [E4, E3, E2, E1]; rfl⟩
  · rw [E4, Mach.set_other _ _ x03]; exact P0''
  · rw [E4, Mach.set_other _ _ x13]; exact P1''
  · rw [E4, Mach.set_other _ _ x23]; exact P2
  · rw [E4, Mach.set_other _ _ q3, E3, Mach.set_other _ _ q2, E2, Mach.set_other _ _ q1, E1, Mach.set_other _ _ q0]
  · rw [E4, used_set (by omega) d1 d2 rfl q, E3, used_set (by omega) c1 c2 rfl q, E2, used_set (by omega) b1 b2 rfl q, E1, used_set hs a1 a2 rfl q]
    by_cases h1 : q = t
    · by_cases h2 : q = o
      · simp only [if_pos h1, if_pos h2]
      · simp only [if_pos h1, if_neg h2]
    · by_cases h2 : q = o
      · simp only [if_neg h1, if_pos h2]
      · simp only [if_neg h1, if_neg h2]

/-- what is below the root, and below what was derived from it -/
theorem Fam.under0 {M0 M4 : Mach} {t o y i0 i1 i2 i3 u0 u1 u2 u3 : Nat} (F : Fam M0 M4 t o y i0 i1 i2 i3 u0 u1 u2 u3) (inv : M0.Inv) {x : Nat} (h : Under M4 (16 * t + i0) x) : x = 16 * t + i1 ∨ x = 16 * t + i2 ∨ x = 16 * o + i3 := by
  have old : ∀ (z : Nat) (p : Nat), z ≠ 16 * t + i0 → z ≠ 16 * t + i1 → z ≠ 16 * t + i2 → z ≠ 16 * o + i3 → (M4.s z).full = true → (M4.s z).frm = (p : Int) → (M0.s p).full = true := fun z p q0 q1 q2 q3 hf hp => by
    rw [F.oth z q0 q1 q2 q3] at hf hp
    obtain ⟨q, h1, _, h3, _⟩ := inv.down z hf (by omega)
    obtain rfl : q = p := by omega
    exact h3
  have root : (M4.s (16 * t + i0)).frm = -1 := by rw [F.s0]; rfl
  induction h with
  | @child x hx hf hp =>
    by_cases q0 : x = 16 * t + i0
    · rw [q0, root] at hp; omega
    by_cases q1 : x = 16 * t + i1
    · exact Or.inl q1
    by_cases q2 : x = 16 * t + i2
    · exact Or.inr (Or.inl q2)
    by_cases q3 : x = 16 * o + i3
    · exact Or.inr (Or.inr q3)
    have := old x _ q0 q1 q2 q3 hf hp
    rw [F.e0] at this; cases this
  | @deep x z hx hf hp hy ih =>
    by_cases q0 : x = 16 * t + i0
    · rw [q0, root] at hp; omega
    by_cases q1 : x = 16 * t + i1
    · exact Or.inl q1
    by_cases q2 : x = 16 * t + i2
    · exact Or.inr (Or.inl q2)
    by_cases q3 : x = 16 * o + i3
    · exact Or.inr (Or.inr q3)
    have hz := old x _ q0 q1 q2 q3 hf hp
    rcases ih with e | e | e
    · rw [e, F.e1] at hz; cases hz
    · rw [e, F.e2] at hz; cases hz
    · rw [e, F.e3] at hz; cases hz
theorem Fam.under1 {M0 M4 : Mach} {t o y i0 i1 i2 i3 u0 u1 u2 u3 : Nat} (F : Fam M0 M4 t o y i0 i1 i2 i3 u0 u1 u2 u3) (inv : M0.Inv) {x : Nat} (h : Under M4 (16 * t + i1) x) : x = 16 * t + i2 ∨ x = 16 * o + i3 := by
  obtain ⟨x01, x02, x03, x12, x13, x23⟩ := F.ne
  have old : ∀ (z : Nat) (p : Nat), z ≠ 16 * t + i0 → z ≠ 16 * t + i1 → z ≠ 16 * t + i2 → z ≠ 16 * o + i3 → (M4.s z).full = true → (M4.s z).frm = (p : Int) → (M0.s p).full = true := fun z p q0 q1 q2 q3 hf hp => by
    rw [F.oth z q0 q1 q2 q3] at hf hp
    obtain ⟨q, h1, _, h3, _⟩ := inv.down z hf (by omega)
    obtain rfl : q = p := by omega
    exact h3
  have root : (M4.s (16 * t + i0)).frm = -1 := by rw [F.s0]; rfl
  have one : (M4.s (16 * t + i1)).frm = ((16 * t + i0 : Nat) : Int) := by rw [F.s1]
  induction h with
  | @child x hx hf hp =>
    by_cases q0 : x = 16 * t + i0
    · rw [q0, root] at hp; omega
    by_cases q1 : x = 16 * t + i1
    · rw [q1, one] at hp; omega
    by_cases q2 : x = 16 * t + i2
    · exact Or.inl q2
    by_cases q3 : x = 16 * o + i3
    · exact Or.inr q3
    have := old x _ q0 q1 q2 q3 hf hp
    rw [F.e1] at this; cases this
  | @deep x z hx hf hp hy ih =>
    by_cases q0 : x = 16 * t + i0
    · rw [q0, root] at hp; omega
    by_cases q1 : x = 16 * t + i1
    · rw [q1, one] at hp; omega
    by_cases q2 : x = 16 * t + i2
    · exact Or.inl q2
    by_cases q3 : x = 16 * o + i3
    · exact Or.inr q3
    have hz := old x _ q0 q1 q2 q3 hf hp
    rcases ih with e | e
    · rw [e, F.e2] at hz; cases hz
    · rw [e, F.e3] at hz; cases hz
theorem Fam.below {M0 M4 : Mach} {t o y i0 i1 i2 i3 u0 u1 u2 u3 : Nat} (F : Fam M0 M4 t o y i0 i1 i2 i3 u0 u1 u2 u3) (inv : M0.Inv) (ht : t < M0.nt) (ho : o < M0.nt) :
    Under M4 (16 * t + i0) (16 * t + i1) ∧ Under M4 (16 * t + i1) (16 * t + i2) ∧ Under M4 (16 * t + i1) (16 * o + i3) ∧ Under M4 (16 * t + i0) (16 * t + i2) ∧ Under M4 (16 * t + i0) (16 * o + i3) := by
  have h1 := inv.ok.nt
  have h2 := inv.ok.ns
  obtain ⟨j0, j1, j2, j3⟩ := F.i
  have a : Under M4 (16 * t + i0) (16 * t + i1) := .child (by omega) (by rw [F.s1]) (by rw [F.s1])
  have b : Under M4 (16 * t + i1) (16 * t + i2) := .child (by omega) (by rw [F.s2]) (by rw [F.s2])
  have c : Under M4 (16 * t + i1) (16 * o + i3) := .deep (y := 16 * t + i2) (by omega) (by rw [F.s3]) (by rw [F.s3]) b
  have d : Under M4 (16 * t + i0) (16 * t + i2) := .deep (y := 16 * t + i1) (by omega) (by rw [F.s2]) (by rw [F.s2]) a
  exact ⟨a, b, c, d, .deep (y := 16 * t + i2) (by omega) (by rw [F.s3]) (by rw [F.s3]) d⟩
/-- by their handles they are found -/
theorem Fam.find {M0 M4 : Mach} {t o y i0 i1 i2 i3 u0 u1 u2 u3 : Nat} (F : Fam M0 M4 t o y i0 i1 i2 i3 u0 u1 u2 u3) (ok : M4.Ok) :
    M4.find t (16 * (u0 : Int) + (i0 : Int)) = some i0 ∧ M4.find t (16 * (u1 : Int) + (i1 : Int)) = some i1 ∧ M4.find t (16 * (u2 : Int) + (i2 : Int)) = some i2 ∧ M4.find o (16 * (u3 : Int) + (i3 : Int)) = some i3 := by
  have hs := ok.ns
  obtain ⟨j0, j1, j2, j3⟩ := F.i
  have ns := F.ns
  refine ⟨(find_iff ok).2 ⟨by omega, by rw [F.s0]; rfl, ?_⟩, (find_iff ok).2 ⟨by omega, by rw [F.s1], ?_⟩, (find_iff ok).2 ⟨by omega, by rw [F.s2], ?_⟩, (find_iff ok).2 ⟨by omega, by rw [F.s3], ?_⟩⟩
  · rw [handle_mod (by omega), F.s0]; show 16 * (((u0 + 1 : Nat) : Int) - 1) + _ = _; omega
  · rw [handle_mod (by omega), F.s1]; show 16 * (((u1 + 1 : Nat) : Int) - 1) + _ = _; omega
  · rw [handle_mod (by omega), F.s2]; show 16 * (((u2 + 1 : Nat) : Int) - 1) + _ = _; omega
  · rw [handle_mod (by omega), F.s3]; show 16 * (((u3 + 1 : Nat) : Int) - 1) + _ = _; omega

/-- THE ROOT IS FREED: all is as it was before the family, but for the generations -/
theorem Fam.freed {M0 M4 M5 : Mach} {t o y i0 i1 i2 i3 u0 u1 u2 u3 : Nat} (F : Fam M0 M4 t o y i0 i1 i2 i3 u0 u1 u2 u3) (inv : M0.Inv) (ht : t < M0.nt) (ho : o < M0.nt) (G : Gone (fun q => q = 16 * t + i0 ∨ Under M4 (16 * t + i0) q) M4 M5) (ok5 : M5.Ok) :
    (∀ q, M5.used q = M0.used q ∧ M5.taken q = M0.taken q) ∧ M5.find t (16 * (u0 : Int) + (i0 : Int)) = none ∧ M5.find t (16 * (u1 : Int) + (i1 : Int)) = none ∧ M5.find t (16 * (u2 : Int) + (i2 : Int)) = none ∧ M5.find o (16 * (u3 : Int) + (i3 : Int)) = none := by
  obtain ⟨ua, _, _, ud, ue⟩ := F.below inv ht ho
  obtain ⟨j0, j1, j2, j3⟩ := F.i
  have ns5 : M5.ns = M0.ns := G.ns.trans F.ns
  have g0 := G.out (16 * t + i0) (Or.inl rfl)
  have g1 := G.out (16 * t + i1) (Or.inr ua)
  have g2 := G.out (16 * t + i2) (Or.inr ud)
  have g3 := G.out (16 * o + i3) (Or.inr ue)
  have same : ∀ q, (M5.s q).full = (M0.s q).full ∧ (M5.s q).bytes = (M0.s q).bytes := fun q => by
    by_cases q0 : q = 16 * t + i0
    · rw [q0, g0, F.e0, inv.bare_bytes F.e0]; exact ⟨rfl, rfl⟩
    by_cases q1 : q = 16 * t + i1
    · rw [q1, g1, F.e1, inv.bare_bytes F.e1]; exact ⟨rfl, rfl⟩
    by_cases q2 : q = 16 * t + i2
    · rw [q2, g2, F.e2, inv.bare_bytes F.e2]; exact ⟨rfl, rfl⟩
    by_cases q3 : q = 16 * o + i3
    · rw [q3, g3, F.e3, inv.bare_bytes F.e3]; exact ⟨rfl, rfl⟩
    rw [G.same q (by
      rintro (h | h)
      · exact q0 h
      · rcases F.under0 inv h with h | h | h
        · exact q1 h
        · exact q2 h
        · exact q3 h), F.oth q q0 q1 q2 q3]
    exact ⟨rfl, rfl⟩
  refine ⟨fun q => ⟨used_congr ns5 (fun n _ => (same _).1), taken_congr ns5 (fun n _ => by rw [(same _).2])⟩, find_empty ok5 (by omega) (by rw [g0]; rfl) _, find_empty ok5 (by omega) (by rw [g1]; rfl) _, find_empty ok5 (by omega) (by rw [g2]; rfl) _, find_empty ok5 (by omega) (by rw [g3]; rfl) _⟩
/-- WHAT WAS DERIVED IS REVOKED -/
theorem Fam.revoked {M0 M4 M5 : Mach} {t o y i0 i1 i2 i3 u0 u1 u2 u3 : Nat} (F : Fam M0 M4 t o y i0 i1 i2 i3 u0 u1 u2 u3) (inv : M0.Inv) (ht : t < M0.nt) (ho : o < M0.nt) (G : Gone (Under M4 (16 * t + i1)) M4 M5) (ok5 : M5.Ok) :
    M5.s (16 * t + i0) = M4.s (16 * t + i0) ∧ M5.s (16 * t + i1) = M4.s (16 * t + i1) ∧ M5.find t (16 * (u0 : Int) + (i0 : Int)) = some i0 ∧ M5.find t (16 * (u1 : Int) + (i1 : Int)) = some i1 ∧ M5.find t (16 * (u2 : Int) + (i2 : Int)) = none ∧ M5.find o (16 * (u3 : Int) + (i3 : Int)) = none ∧ M4.used t = M5.used t + (if t = o then 2 else 1) := by
  obtain ⟨_, ub, uc, _, _⟩ := F.below inv ht ho
  obtain ⟨x01, x02, x03, x12, x13, x23⟩ := F.ne
  obtain ⟨j0, j1, j2, j3⟩ := F.i
  have hs := inv.ok.ns
  have ns5 : M5.ns = M0.ns := G.ns.trans F.ns
  have g2 := G.out (16 * t + i2) ub
  have g3 := G.out (16 * o + i3) uc
  have g0 := G.same (16 * t + i0) (fun h => by rcases F.under1 inv h with h | h; exact x02 h; exact x03 h)
  have g1 := G.same (16 * t + i1) (fun h => by rcases F.under1 inv h with h | h; exact x12 h; exact x13 h)
  refine ⟨g0, g1, (find_iff ok5).2 ⟨by omega, by rw [g0, F.s0]; rfl, ?_⟩, (find_iff ok5).2 ⟨by omega, by rw [g1, F.s1], ?_⟩, find_empty ok5 (by omega) (by rw [g2]; rfl) _, find_empty ok5 (by omega) (by rw [g3]; rfl) _, ?_⟩
  · rw [handle_mod (by omega), g0, F.s0]; show 16 * (((u0 + 1 : Nat) : Int) - 1) + _ = _; omega
  · rw [handle_mod (by omega), g1, F.s1]; show 16 * (((u1 + 1 : Nat) : Int) - 1) + _ = _; omega
  · have N : M5.used t = ((M0.set (16 * t + i0) (M4.s (16 * t + i0))).set (16 * t + i1) (M4.s (16 * t + i1))).used t := by
      refine used_congr (M := (M0.set (16 * t + i0) (M4.s (16 * t + i0))).set (16 * t + i1) (M4.s (16 * t + i1))) ns5 (fun n hn => ?_)
      by_cases q1 : 16 * t + n = 16 * t + i1
      · rw [q1, Mach.set_same, g1]
      · rw [Mach.set_other _ _ q1]
        by_cases q0 : 16 * t + n = 16 * t + i0
        · rw [q0, Mach.set_same, g0]
        · rw [Mach.set_other _ _ q0]
          by_cases q2 : 16 * t + n = 16 * t + i2
          · rw [q2, g2, F.e2]; rfl
          · by_cases q3 : 16 * t + n = 16 * o + i3
            · rw [q3, g3, F.e3]; rfl
            · rw [G.same _ (fun h => by rcases F.under1 inv h with h | h; exact q2 h; exact q3 h), F.oth _ q0 q1 q2 q3]
    rw [N, used_set (M := M0.set (16 * t + i0) (M4.s (16 * t + i0))) hs (by exact j1) (by rw [Mach.set_other _ _ (fun e => x01 e.symm)]; exact F.e1) (by rw [F.s1]) t, used_set hs j0 F.e0 (by rw [F.s0]; rfl) t, F.us t]
    by_cases h : t = o <;> simp [h]

/- KeepFam -/

/-- a block that is not the run's -/
def KRow (lb : Nat) (X : Obj) (w : World) (rb : Nat) (K : KRun) : Prop := w.heap[lb]? = some X ∧ ¬ KOwn rb K lb
theorem KRow.below {lb : Nat} {X : Obj} {w w' : World} {rb : Nat} {K : KRun} (h : KRow lb X w rb K) (hb : Below w.heap.size w w') : KRow lb X w' rb K :=
  ⟨(hb.block lb (lt_of_row h.1)).trans h.1, h.2⟩
theorem KRow.to {lb : Nat} {X : Obj} {w w' : World} {rb : Nat} {K K' : KRun} (h : KRow lb X w rb K) (t : KTo rb K K' w w') : KRow lb X w' rb K' := by
  have hl := lt_of_row h.1
  refine ⟨(t.fr.block lb hl h.2).trans h.1, fun hk => ?_⟩
  rcases t.foot lb hk with h1 | h1
  · exact h.2 h1
  · omega
theorem klive_ask2 {w0 w : World} {rb : Nat} {K : KRun} (t : Nat) {op x o l r to : Int} {d : ByteArray} (hok : okB op x o l r to d.size = true) (h : KLive w0 w rb K) (ht : t < K.M.nt) (lb : Nat) (X : Obj) (hr : KRow lb X w rb K) :
    Calls Try.prog 9 #[.pointer (some ⟨rb, 0, none⟩), .int .i64 t, .string (bodyS op x o l r to d)] w fun e w' =>
      ∃ (er : Int) (m : ByteArray) (K' : KRun), e = .returned (.string (oneC er ++ m)) ∧ KStep K t op x o l r to d er m K' ∧ KLive w0 w' rb K' ∧ KRow lb X w' rb K' := by
  refine (kask_any t hok h.run h.good ht).mono ?_
  rintro e w' ⟨er, m, K', rfl, st, hk, hg, hT⟩
  exact ⟨er, m, K', rfl, st, ⟨hk, hg, h.fits.step h.run.inv st.q, st.ok.trans h.ok, h.b.trans (hT.below h.run)⟩, hr.to hT⟩
theorem klive_left2 {w0 w : World} {rb : Nat} {K : KRun} (t : Nat) (h : KLive w0 w rb K) (ht : t < K.M.nt) (lb : Nat) (X : Obj) (hr : KRow lb X w rb K) :
    Calls Try.prog 13 #[.pointer (some ⟨rb, 0, none⟩), .int .i64 (t : Int)] w fun e w' => e = .returned (.tuple #[.int .i64 ((K.M.ns : Int) - (K.M.used t : Int)), .int .i64 ((K.M.nc : Int) - (K.M.taken t : Int)), .bool true]) ∧ KLive w0 w' rb K ∧ KRow lb X w' rb K := by
  refine (kleft_any t h.run ht (used_le _ _) (h.fits t)).mono ?_
  rintro e w' ⟨rfl, hb⟩
  exact ⟨rfl, h.below hb, hr.below hb⟩

theorem KStep.plain {K K' : KRun} {t : Nat} {op x o l r to : Int} {d : ByteArray} {er : Int} {m : ByteArray} (st : KStep K t op x o l r to d er m K') (h1 : op ≠ 1) (h5 : op ≠ 5) (h6 : op ≠ 6) (hM : K'.M = K.M) : KSame K K' :=
  st.same hM (by rw [st.gl]; exact gave_plain _ _ _ _ _ _ h1 h5 h6)
set_option maxHeartbeats 400000 in
/-- nothing is held by a handle -/
theorem kstale_any {w0 w : World} {rb : Nat} {K : KRun} (t : Nat) (x : Int) (h : KLive w0 w rb K) (ht : t < K.M.nt) (hx : wd x = true) (hf : K.M.find t x = none) (lb : Nat) (X : Obj) (hr : KRow lb X w rb K) :
    Calls Try.prog 15 #[.pointer (some ⟨rb, 0, none⟩), .int .i64 (t : Int), .int .i64 x] w fun e w' => e = .returned (.bool true) ∧ ∃ K', KSame K K' ∧ KLive w0 w' rb K' ∧ KRow lb X w' rb K' := by
  have HH : Hid (KLive w0 w rb K ∧ K.M.find t x = none ∧ KRow lb X w rb K) := ⟨h, hf, hr⟩
  clear h hf hr
  go_enter Try.func15, Try.ntmps15
  go_wp2_with fail
  refine (kinfo_any x w hx).mono ?_
  rintro e w1 ⟨rfl, hb⟩
  have HL1 : Hid (KLive w0 w1 rb K ∧ KRow lb X w1 rb K) := ⟨HH.out.1.below hb, HH.out.2.2.below hb⟩
  clear hb
  go_wp2_with fail
  refine (klive_ask2 t (okb_9 hx) HL1.out.1 ht lb X HL1.out.2).mono ?_
  rintro e w2 ⟨er, m, K1, rfl, st, hL, hR⟩
  obtain ⟨rfl, rfl, hM⟩ := st.det (q_stale (by decide) HH.out.2.1)
  rw [show oneC 4 ++ nilS = (⟨#[4]⟩ : ByteArray) from by decide]
  have HL2 : Hid (KLive w0 w2 rb K1 ∧ KRow lb X w2 rb K1 ∧ KSame K K1) := ⟨hL, hR, st.plain (by decide) (by decide) (by decide) hM⟩
  clear st hL hR hM
  go_wp2_with fail
  refine (kone_any 4 _).mono ?_
  rintro e w3 ⟨rfl, hb⟩
  rw [show oneC 4 = (⟨#[4]⟩ : ByteArray) from by decide]
  have HL3 : Hid (KLive w0 w3 rb K1 ∧ KRow lb X w3 rb K1) := ⟨HL2.out.1.below hb, HL2.out.2.1.below hb⟩
  clear hb
  go_wp2_with fail
  go_ret
  exact ⟨rfl, K1, HL2.out.2.2, HL3.out⟩

theorem derive_cases {M : Mach} {t n : Nat} {x o l r : Int} (hf : M.find t x = some n) (h : shareB (M.s (16 * t + n)).rights r = true) (h2 : ¬ (M.s (16 * t + n)).len < o + l) :
    (M.next t = none ∧ StepQ M t 5 x o l r 0 ⟨#[]⟩ 8 nilS M) ∨ ∃ i, M.next t = some i ∧ StepQ M t 5 x o l r 0 ⟨#[]⟩ 0 (twoW (16 * ((M.s (16 * t + i)).uses : Int) + (i : Int))) (M.set (16 * t + i) ((M.s (16 * t + i)).laid ((16 * t + n : Nat) : Int) (M.s (16 * t + n)).root ((M.s (16 * t + n)).first + o) l r)) := by
  have q := q_derive hf h h2
  cases hn : M.next t with
  | none =>
    obtain ⟨e1, e2, e3⟩ := lay_no hn (16 * t + n) ((M.s (16 * t + n)).first + o) l r
    rw [e1, e2, e3] at q
    exact Or.inl ⟨rfl, q⟩
  | some i =>
    obtain ⟨e1, e2, e3⟩ := lay_yes hn (16 * t + n) ((M.s (16 * t + n)).first + o) l r
    rw [e1, e2, e3] at q
    exact Or.inr ⟨i, rfl, q⟩
theorem grant_cases {M : Mach} {t n : Nat} {x : Int} {to : Nat} (hf : M.find t x = some n) (h : (M.s (16 * t + n)).rights / 4 = 1) (h2 : to < M.nt) :
    (M.next to = none ∧ StepQ M t 6 x 0 0 0 (to : Int) ⟨#[]⟩ 8 nilS M) ∨ ∃ i, M.next to = some i ∧ StepQ M t 6 x 0 0 0 (to : Int) ⟨#[]⟩ 0 (twoW (16 * ((M.s (16 * to + i)).uses : Int) + (i : Int))) (M.set (16 * to + i) ((M.s (16 * to + i)).laid ((16 * t + n : Nat) : Int) (M.s (16 * t + n)).root (M.s (16 * t + n)).first (M.s (16 * t + n)).len (M.s (16 * t + n)).rights)) := by
  have q := q_grant (to := (to : Int)) hf h (by omega)
  have e0 : (to : Int).toNat = to := rfl
  rw [e0] at q
  cases hn : M.next to with
  | none =>
    obtain ⟨e1, e2, e3⟩ := lay_no hn (16 * t + n) (M.s (16 * t + n)).first (M.s (16 * t + n)).len (M.s (16 * t + n)).rights
    rw [e1, e2, e3] at q
    exact Or.inl ⟨rfl, q⟩
  | some i =>
    obtain ⟨e1, e2, e3⟩ := lay_yes hn (16 * t + n) (M.s (16 * t + n)).first (M.s (16 * t + n)).len (M.s (16 * t + n)).rights
    rw [e1, e2, e3] at q
    exact Or.inr ⟨i, rfl, q⟩

set_option maxRecDepth 100000 in
set_option maxHeartbeats 1600000 in
theorem kfamily_any {w0 w : World} {rb : Nat} {K : KRun} (t o y : Nat) (h : KLive w0 w rb K) (ht : t < K.M.nt) (ho : o < K.M.nt) (hy1 : 1 ≤ y) (hy2 : y ≤ 256) :
    Calls Try.prog 8 #[.pointer (some ⟨rb, 0, none⟩), .int .i64 (t : Int), .int .i64 (o : Int), .int .i64 (y : Int)] w fun e w' => ∃ K', KLive w0 w' rb K' ∧ K'.M.nt = K.M.nt ∧ (e = .returned (.tuple #[.slice none 0 0, .bool false]) ∨
      ∃ lb i0 i1 i2 i3 u0 u1 u2 u3 : Nat, e = .returned (.tuple #[.slice (some ⟨lb, 0, none⟩) 4 4, .bool true]) ∧ KRow lb (.cells #[.int .i64 (16 * (u0 : Int) + (i0 : Int)), .int .i64 (16 * (u1 : Int) + (i1 : Int)), .int .i64 (16 * (u2 : Int) + (i2 : Int)), .int .i64 (16 * (u3 : Int) + (i3 : Int))] 3 (0, 0)) w' rb K' ∧ Fam K.M K'.M t o y i0 i1 i2 i3 u0 u1 u2 u3) := by
  have HH : Hid (KLive w0 w rb K) := h
  have hs := h.run.inv.ok.ns
  have hnt := h.run.inv.ok.nt
  clear h
  go_enter Try.func8, Try.ntmps8
  go_wp2_with fail
  refine (kalloc_any (y : Int) w (wd_iff.2 (by omega))).mono ?_
  rintro e w1 ⟨rfl, hb⟩
  have HL1 : Hid (KLive w0 w1 rb K) := HH.out.below hb
  clear hb
  go_wp2_with fail
  refine (klive_ask t (okb_1 (wd_iff.2 (by omega))) HL1.out ht).mono ?_
  rintro e w2 ⟨er, m, K1, rfl, st, hL⟩
  obtain ⟨e20, e21⟩ := st.err (okb_1 (wd_iff.2 (by omega)))
  have n1t : K1.M.nt = K.M.nt := st.nt
  have HL2 : Hid (KLive w0 w2 rb K1 ∧ KStep K t 1 0 0 (y : Int) 0 0 ⟨#[]⟩ er m K1) := ⟨hL, st⟩
  clear hL st
  go_wp2_with fail
  refine (kgood_any (oneC er ++ m) er w2 (by rw [reply_size]; omega) (byt_one _ _ ⟨e20, by omega⟩)).mono ?_
  rintro e w3 ⟨rfl, rfl⟩
  by_cases he : er = 0
  · rw [show (er == 0) = true from by simp [he]]
    obtain ⟨i0, n0, g0, E1⟩ := alloc_ok (by omega) HL2.out.2.q he
    obtain ⟨u0, eu0⟩ : ∃ u0, u0 = (K.M.s (16 * t + i0)).uses := ⟨_, rfl⟩
    rw [← eu0] at g0 E1
    obtain ⟨a1, a2, a3⟩ := next_spec n0
    have f0 : K1.M.find t (16 * (u0 : Int) + (i0 : Int)) = some i0 := by rw [E1, eu0]; exact find_laid hs a1 rfl rfl (by rw [← eu0, ← E1]; exact HL2.out.1.run.inv.ok)
    have s0 : K1.M.s (16 * t + i0) = HSlot.new u0 (16 * t + i0) (y : Int) := by rw [E1]; exact Mach.set_same _ _ _
    subst he g0
    have wx0 : wd (16 * (u0 : Int) + (i0 : Int)) = true := wd_iff.2 (by omega)
    obtain ⟨r0, hr0, r03, r00, r0h⟩ := reply_two wx0
    rw [hr0]
    have H0 : Hid (KLive w0 w3 rb K1 ∧ K.M.next t = some i0 ∧ u0 = (K.M.s (16 * t + i0)).uses ∧ K1.M = K.M.set (16 * t + i0) (HSlot.new u0 (16 * t + i0) (y : Int)) ∧ K1.M.find t (16 * (u0 : Int) + (i0 : Int)) = some i0 ∧ K1.M.s (16 * t + i0) = HSlot.new u0 (16 * t + i0) (y : Int)) := ⟨HL2.out.1, n0, eu0, E1, f0, s0⟩
    clear HL2 n0 eu0 E1 a1 a2 f0 s0 hr0 r00
    go_wp2_with fail
    refine (khandle_any r0 w3 r03).mono ?_
    rintro e w4 ⟨rfl, hb⟩
    rw [r0h]
    have HL4 : Hid (KLive w0 w4 rb K1) := H0.out.1.below hb
    clear hb
    go_wp2_with fail
    refine (kderive_any (16 * (u0 : Int) + (i0 : Int)) 0 (y : Int) 7 w4 wx0 (by decide) (wd_iff.2 (by omega)) (by decide)).mono ?_
    rintro e w5 ⟨rfl, hb⟩
    have HL5 : Hid (KLive w0 w5 rb K1) := HL4.out.below hb
    clear hb
    go_wp2_with fail
    refine (klive_ask t (okb_5 wx0 (by decide) (wd_iff.2 (by omega)) (by decide)) HL5.out (by rw [n1t]; exact ht)).mono ?_
    rintro e w6 ⟨er2, m2, K2, rfl, st, hL⟩
    have n2t : K2.M.nt = K.M.nt := st.nt.trans n1t
    rcases derive_cases (r := 7) (o := 0) (l := (y : Int)) H0.out.2.2.2.2.1 (by rw [H0.out.2.2.2.2.2]; show shareB 7 7 = true; decide) (by rw [H0.out.2.2.2.2.2]; show ¬ (y : Int) < 0 + (y : Int); omega) with ⟨_, q⟩ | ⟨i1, n1, q⟩
    · obtain ⟨rfl, rfl, _⟩ := st.det q
      rw [show oneC 8 ++ nilS = (⟨#[8]⟩ : ByteArray) from by decide]
      have HL6 : Hid (KLive w0 w6 rb K2) := hL
      clear hL st q
      go_wp2_with fail
      refine (kgood_any ⟨#[8]⟩ 8 w6 (by decide) (by decide)).mono ?_
      rintro e w7 ⟨rfl, rfl⟩
      rw [show ((8 : Int) == 0) = false from by decide]
      go_wp2_with fail
      go_ret2
      exact ⟨K2, HL6.out, n2t, Or.inl rfl⟩
    · obtain ⟨rfl, rfl, E2⟩ := st.det q
      obtain ⟨b1, b2, b3⟩ := next_spec n1
      have ns1 : K1.M.ns ≤ 16 := H0.out.1.run.inv.ok.ns
      have f1 := find_laid (M := K1.M) ns1 b1 rfl rfl (by rw [← E2]; exact hL.run.inv.ok)
      rw [← E2] at f1
      have s1 : K2.M.s (16 * t + i1) = ⟨(K1.M.s (16 * t + i1)).uses + 1, true, ((16 * t + i0 : Nat) : Int), ((16 * t + i0 : Nat) : Int), 0, (y : Int), 7, []⟩ := by rw [E2, Mach.set_same, laid_bare H0.out.1.run.inv b2, H0.out.2.2.2.2.2]; rfl
      obtain ⟨u1, eu1⟩ : ∃ u1, u1 = (K1.M.s (16 * t + i1)).uses := ⟨_, rfl⟩
      rw [← eu1] at f1 s1 b3 ⊢
      have wx1 : wd (16 * (u1 : Int) + (i1 : Int)) = true := wd_iff.2 (by omega)
      obtain ⟨r1, hr1, r13, r10, r1h⟩ := reply_two wx1
      rw [hr1]
      have H1 : Hid (KLive w0 w6 rb K2 ∧ K1.M.next t = some i1 ∧ u1 = (K1.M.s (16 * t + i1)).uses ∧ K2.M = K1.M.set (16 * t + i1) ((K1.M.s (16 * t + i1)).laid ((16 * t + i0 : Nat) : Int) (K1.M.s (16 * t + i0)).root ((K1.M.s (16 * t + i0)).first + 0) (y : Int) 7) ∧ K2.M.find t (16 * (u1 : Int) + (i1 : Int)) = some i1 ∧ K2.M.s (16 * t + i1) = ⟨u1 + 1, true, ((16 * t + i0 : Nat) : Int), ((16 * t + i0 : Nat) : Int), 0, (y : Int), 7, []⟩) := ⟨hL, n1, eu1, E2, f1, s1⟩
      clear hL st q n1 eu1 E2 f1 s1 hr1 b1 b2
      go_wp2_with fail
      refine (kgood_any r1 0 w6 (by omega) r10).mono ?_
      rintro e w7 ⟨rfl, rfl⟩
      rw [show ((0 : Int) == 0) = true from by decide]
      go_wp2_with fail
      refine (khandle_any r1 w7 r13).mono ?_
      rintro e w8 ⟨rfl, hb⟩
      rw [r1h]
      have HL8 : Hid (KLive w0 w8 rb K2) := H1.out.1.below hb
      clear hb
      go_wp2_with fail
      refine (kderive_any (16 * (u1 : Int) + (i1 : Int)) 0 1 5 w8 wx1 (by decide) (by decide) (by decide)).mono ?_
      rintro e w9 ⟨rfl, hb⟩
      have HL9 : Hid (KLive w0 w9 rb K2) := HL8.out.below hb
      clear hb
      go_wp2_with fail
      refine (klive_ask t (okb_5 wx1 (by decide) (by decide) (by decide)) HL9.out (by rw [n2t]; exact ht)).mono ?_
      rintro e w10 ⟨er3, m3, K3, rfl, st, hL⟩
      have n3t : K3.M.nt = K.M.nt := st.nt.trans n2t
      rcases derive_cases (r := 5) (o := 0) (l := 1) H1.out.2.2.2.2.1 (by rw [H1.out.2.2.2.2.2]; show shareB 7 5 = true; decide) (by rw [H1.out.2.2.2.2.2]; show ¬ (y : Int) < 0 + 1; omega) with ⟨_, q⟩ | ⟨i2, n2, q⟩
      · obtain ⟨rfl, rfl, _⟩ := st.det q
        rw [show oneC 8 ++ nilS = (⟨#[8]⟩ : ByteArray) from by decide]
        have HLF : Hid (KLive w0 w10 rb K3) := hL
        clear hL st q
        go_wp2_with fail
        refine (kgood_any ⟨#[8]⟩ 8 w10 (by decide) (by decide)).mono ?_
        rintro e w11 ⟨rfl, rfl⟩
        rw [show ((8 : Int) == 0) = false from by decide]
        go_wp2_with fail
        go_ret2
        exact ⟨K3, HLF.out, n3t, Or.inl rfl⟩
      · obtain ⟨rfl, rfl, E3⟩ := st.det q
        obtain ⟨c1, c2, c3⟩ := next_spec n2
        have ns2 : K2.M.ns ≤ 16 := H1.out.1.run.inv.ok.ns
        have f2 := find_laid (M := K2.M) ns2 c1 rfl rfl (by rw [← E3]; exact hL.run.inv.ok)
        rw [← E3] at f2
        have s2 : K3.M.s (16 * t + i2) = ⟨(K2.M.s (16 * t + i2)).uses + 1, true, ((16 * t + i1 : Nat) : Int), ((16 * t + i0 : Nat) : Int), 0, 1, 5, []⟩ := by rw [E3, Mach.set_same, laid_bare H1.out.1.run.inv c2, H1.out.2.2.2.2.2]; rfl
        obtain ⟨u2, eu2⟩ : ∃ u2, u2 = (K2.M.s (16 * t + i2)).uses := ⟨_, rfl⟩
        rw [← eu2] at f2 s2 c3 ⊢
        have wx2 : wd (16 * (u2 : Int) + (i2 : Int)) = true := wd_iff.2 (by omega)
        obtain ⟨r2, hr2, r23, r20, r2h⟩ := reply_two wx2
        rw [hr2]
        have H2 : Hid (KLive w0 w10 rb K3 ∧ K2.M.next t = some i2 ∧ u2 = (K2.M.s (16 * t + i2)).uses ∧ K3.M = K2.M.set (16 * t + i2) ((K2.M.s (16 * t + i2)).laid ((16 * t + i1 : Nat) : Int) (K2.M.s (16 * t + i1)).root ((K2.M.s (16 * t + i1)).first + 0) 1 5) ∧ K3.M.find t (16 * (u2 : Int) + (i2 : Int)) = some i2 ∧ K3.M.s (16 * t + i2) = ⟨u2 + 1, true, ((16 * t + i1 : Nat) : Int), ((16 * t + i0 : Nat) : Int), 0, 1, 5, []⟩) := ⟨hL, n2, eu2, E3, f2, s2⟩
        clear hL st q n2 eu2 E3 f2 s2 hr2 c1 c2
        go_wp2_with fail
        refine (kgood_any r2 0 w10 (by omega) r20).mono ?_
        rintro e w11 ⟨rfl, rfl⟩
        rw [show ((0 : Int) == 0) = true from by decide]
        go_wp2_with fail
        refine (khandle_any r2 w11 r23).mono ?_
        rintro e w12 ⟨rfl, hb⟩
        rw [r2h]
        have HL12 : Hid (KLive w0 w12 rb K3) := H2.out.1.below hb
        clear hb
        go_wp2_with fail
        refine (kgrant_any (16 * (u2 : Int) + (i2 : Int)) (o : Int) w12 wx2 (bt_iff.2 (by omega))).mono ?_
        rintro e w13 ⟨rfl, hb⟩
        have HL13 : Hid (KLive w0 w13 rb K3) := HL12.out.below hb
        clear hb
        go_wp2_with fail
        refine (klive_ask t (okb_6 wx2 (bt_iff.2 (by omega))) HL13.out (by rw [n3t]; exact ht)).mono ?_
        rintro e w14 ⟨er4, m4, K4, rfl, st, hL⟩
        have n4t : K4.M.nt = K.M.nt := st.nt.trans n3t
        rcases grant_cases (to := o) H2.out.2.2.2.2.1 (by rw [H2.out.2.2.2.2.2]; show (5 : Int) / 4 = 1; decide) (by rw [n3t]; exact ho) with ⟨_, q⟩ | ⟨i3, n3, q⟩
        · obtain ⟨rfl, rfl, _⟩ := st.det q
          rw [show oneC 8 ++ nilS = (⟨#[8]⟩ : ByteArray) from by decide]
          have HLF : Hid (KLive w0 w14 rb K4) := hL
          clear hL st q
          go_wp2_with fail
          refine (kgood_any ⟨#[8]⟩ 8 w14 (by decide) (by decide)).mono ?_
          rintro e w15 ⟨rfl, rfl⟩
          rw [show ((8 : Int) == 0) = false from by decide]
          go_wp2_with fail
          go_ret2
          exact ⟨K4, HLF.out, n4t, Or.inl rfl⟩
        · obtain ⟨rfl, rfl, E4⟩ := st.det q
          obtain ⟨d1, d2, d3⟩ := next_spec n3
          obtain ⟨u3, eu3⟩ : ∃ u3, u3 = (K3.M.s (16 * o + i3)).uses := ⟨_, rfl⟩
          have ns3 : K3.M.ns ≤ 16 := H2.out.1.run.inv.ok.ns
          have F : Fam K.M K4.M t o y i0 i1 i2 i3 u0 u1 u2 u3 := fam_of HH.out.run.inv H0.out.1.run.inv H1.out.1.run.inv H2.out.1.run.inv H0.out.2.2.1 H1.out.2.2.1 H2.out.2.2.1 eu3 H0.out.2.1 H1.out.2.1 H2.out.2.1 n3 H0.out.2.2.2.1 H1.out.2.2.2.1 H2.out.2.2.2.1 E4
          rw [← eu3] at d3 ⊢
          have wx3 : wd (16 * (u3 : Int) + (i3 : Int)) = true := wd_iff.2 (by omega)
          obtain ⟨r3, hr3, r33, r30, r3h⟩ := reply_two wx3
          rw [hr3]
          have H3 : Hid (KLive w0 w14 rb K4 ∧ Fam K.M K4.M t o y i0 i1 i2 i3 u0 u1 u2 u3) := ⟨hL, F⟩
          clear hL st q n3 eu3 E4 hr3 d1 d2 F
          go_wp2_with fail
          refine (kgood_any r3 0 w14 (by omega) r30).mono ?_
          rintro e w15 ⟨rfl, rfl⟩
          rw [show ((0 : Int) == 0) = true from by decide]
          go_wp2_with fail
          refine (khandle_any r0 w15 r03).mono ?_
          rintro e w16 ⟨rfl, hb⟩
          rw [r0h]
          have HL16 : Hid (KLive w0 w16 rb K4) := H3.out.1.below hb
          clear hb
          go_wp2_with fail
          refine (khandle_any r1 w16 r13).mono ?_
          rintro e w17 ⟨rfl, hb⟩
          rw [r1h]
          have HL17 : Hid (KLive w0 w17 rb K4) := HL16.out.below hb
          clear hb
          go_wp2_with fail
          refine (khandle_any r2 w17 r23).mono ?_
          rintro e w18 ⟨rfl, hb⟩
          rw [r2h]
          have HL18 : Hid (KLive w0 w18 rb K4) := HL17.out.below hb
          clear hb
          go_wp2_with fail
          refine (khandle_any r3 w18 r33).mono ?_
          rintro e w19 ⟨rfl, hb⟩
          rw [r3h]
          have HL19 : Hid (KLive w0 w19 rb K4) := HL18.out.below hb
          clear hb
          go_wp2_with fail
          go_ret2
          exact ⟨K4, HL19.out.below ((Below.refl _ _).alloc (Nat.le_refl _) _), n4t, Or.inr ⟨w19.heap.size, i0, i1, i2, i3, u0, u1, u2, u3, rfl, ⟨newRowAt _ _, fun hh => by have := HL19.out.run.own_lt hh; omega⟩, H3.out.2⟩⟩
  · rw [show (er == 0) = false from by simp [he]]
    go_wp2_with fail
    go_ret2
    exact ⟨K1, HL2.out.1, n1t, Or.inl rfl⟩

end Go.Proofs.Ytkjjamigaamllab
