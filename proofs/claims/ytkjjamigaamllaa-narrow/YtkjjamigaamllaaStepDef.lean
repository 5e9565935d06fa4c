/-
  What a request is answered and what it makes of the house: one step of the machine, as the document says it (P6 to P14). No program is named here.
-/
import Derived.Test.YtkjjamigaamllaaSimGone
import Derived.Test.YtkjjamigaamllaaBackMath
namespace Go.Proofs.Ytkjjamigaamllaa
open Go.RowKit

/-- Derive (P11), Grant (P12) -/
def Mach.layE (M : Mach) (t : Nat) : Int := match M.next t with
  | some _ => 0
  | none => 8
def Mach.layS (M : Mach) (t : Nat) : ByteArray := match M.next t with
  | some n => twoW (16 * ((M.s (16 * t + n)).uses : Int) + (n : Int))
  | none => nilS
def Mach.lay (M : Mach) (t p : Nat) (a l m : Int) : Mach := match M.next t with
  | some n => M.set (16 * t + n) ((M.s (16 * t + n)).laid (p : Int) (M.s p).root a l m)
  | none => M

/-- a request of what lies at place p: its error, what the reply has more, the house behind it -/
def StepP (M : Mach) (t p : Nat) (op o l r to : Int) (d : ByteArray) (e : Int) (m : ByteArray) (M' : Mach) : Prop :=
  (op = 2 ∧ (((M.s p).frm ≠ -1 ∧ e = 9 ∧ m = nilS ∧ M' = M) ∨ ((M.s p).frm = -1 ∧ e = 0 ∧ m = nilS ∧ Gone (fun x => x = p ∨ Under M p x) M M'))) ∨
  (op = 3 ∧ e = (M.read p o l).1 ∧ m = (M.read p o l).2 ∧ M' = M) ∨
  (op = 4 ∧ e = M.writeE p o d ∧ m = nilS ∧ M' = M.write p o d) ∨
  (op = 5 ∧ ((¬ shareB (M.s p).rights r = true ∧ e = 5 ∧ m = nilS ∧ M' = M) ∨ (shareB (M.s p).rights r = true ∧ (M.s p).len < o + l ∧ e = 6 ∧ m = nilS ∧ M' = M) ∨
    (shareB (M.s p).rights r = true ∧ ¬ (M.s p).len < o + l ∧ e = M.layE t ∧ m = M.layS t ∧ M' = M.lay t p ((M.s p).first + o) l r))) ∨
  (op = 6 ∧ ((¬ (M.s p).rights / 4 = 1 ∧ e = 5 ∧ m = nilS ∧ M' = M) ∨ ((M.s p).rights / 4 = 1 ∧ (M.nt : Int) ≤ to ∧ e = 3 ∧ m = nilS ∧ M' = M) ∨
    ((M.s p).rights / 4 = 1 ∧ ¬ (M.nt : Int) ≤ to ∧ e = M.layE to.toNat ∧ m = M.layS to.toNat ∧ M' = M.lay to.toNat p (M.s p).first (M.s p).len (M.s p).rights))) ∨
  (op = 7 ∧ e = 0 ∧ m = nilS ∧ Gone (Under M p) M M') ∨
  (op = 8 ∧ (((M.s p).frm = -1 ∧ e = 9 ∧ m = nilS ∧ M' = M) ∨ ((M.s p).frm ≠ -1 ∧ e = 0 ∧ m = nilS ∧ Gone (fun x => x = p ∨ Under M p x) M M'))) ∨
  (op = 9 ∧ e = 0 ∧ m = M.info p ∧ M' = M)

def StepQ (M : Mach) (t : Nat) (op h o l r to : Int) (d : ByteArray) (e : Int) (m : ByteArray) (M' : Mach) : Prop :=
  (op = 1 ∧ e = (M.alloc t l).1 ∧ m = (M.alloc t l).2.1 ∧ M' = (M.alloc t l).2.2) ∨
  (op ≠ 1 ∧ M.find t h = none ∧ e = 4 ∧ m = nilS ∧ M' = M) ∨
  (op ≠ 1 ∧ ∃ n, M.find t h = some n ∧ StepP M t (16 * t + n) op o l r to d e m M')

/-- the same of bytes -/
def StepS (M : Mach) (t : Nat) (s : ByteArray) (e : Int) (m : ByteArray) (M' : Mach) : Prop :=
  (decV s = noV ∧ e = 1 ∧ m = nilS ∧ M' = M) ∨
  (∃ (op h o l r to : Int) (d : ByteArray), decV s = yesV op h o l r to d ∧ StepQ M t op h o l r to d e m M')

theorem Gone.det {D : Nat → Prop} {M A B : Mach} (h : Gone D M A) (k : Gone D M B) : A = B := by
  cases A with
  | mk a1 a2 a3 a4 =>
    cases B with
    | mk b1 b2 b3 b4 =>
      have e1 : a1 = b1 := h.nt.trans k.nt.symm
      have e2 : a2 = b2 := h.ns.trans k.ns.symm
      have e3 : a3 = b3 := h.nc.trans k.nc.symm
      have e4 : a4 = b4 := funext fun x => by
        rcases Classical.em (D x) with hd | hd
        · exact (h.out x hd).trans (k.out x hd).symm
        · exact (h.same x hd).trans (k.same x hd).symm
      rw [e1, e2, e3, e4]
theorem Gone.ex (D : Nat → Prop) (M : Mach) : ∃ M', Gone D M M' := by
  refine ⟨⟨M.nt, M.ns, M.nc, fun x => @ite _ (D x) (Classical.propDecidable _) (HSlot.none (M.s x).uses) (M.s x)⟩, rfl, rfl, rfl, fun x hx => ?_, fun x hx => ?_⟩
  · exact @if_pos _ (Classical.propDecidable _) hx _ _ _
  · exact @if_neg _ (Classical.propDecidable _) hx _ _ _

theorem StepP.det {M : Mach} {t p : Nat} {op o l r to : Int} {d : ByteArray} {e e2 : Int} {m m2 : ByteArray} {A B : Mach} (h : StepP M t p op o l r to d e m A) (k : StepP M t p op o l r to d e2 m2 B) : e = e2 ∧ m = m2 ∧ A = B := by
  rcases h with ⟨rfl, h⟩ | ⟨rfl, h⟩ | ⟨rfl, h⟩ | ⟨rfl, h⟩ | ⟨rfl, h⟩ | ⟨rfl, h⟩ | ⟨rfl, h⟩ | ⟨rfl, h⟩ <;>
  rcases k with ⟨k0, k⟩ | ⟨k0, k⟩ | ⟨k0, k⟩ | ⟨k0, k⟩ | ⟨k0, k⟩ | ⟨k0, k⟩ | ⟨k0, k⟩ | ⟨k0, k⟩ <;> (try (exfalso; omega)) <;> clear k0
  · rcases h with ⟨h1, h2, h3, h4⟩ | ⟨h1, h2, h3, h4⟩ <;> rcases k with ⟨k1, k2, k3, k4⟩ | ⟨k1, k2, k3, k4⟩
    · exact ⟨h2.trans k2.symm, h3.trans k3.symm, h4.trans k4.symm⟩
    · exact absurd k1 h1
    · exact absurd h1 k1
    · exact ⟨h2.trans k2.symm, h3.trans k3.symm, h4.det k4⟩
  · exact ⟨h.1.trans k.1.symm, h.2.1.trans k.2.1.symm, h.2.2.trans k.2.2.symm⟩
  · exact ⟨h.1.trans k.1.symm, h.2.1.trans k.2.1.symm, h.2.2.trans k.2.2.symm⟩
  · rcases h with ⟨h1, h2, h3, h4⟩ | ⟨h1, h0, h2, h3, h4⟩ | ⟨h1, h0, h2, h3, h4⟩ <;> rcases k with ⟨k1, k2, k3, k4⟩ | ⟨k1, k0, k2, k3, k4⟩ | ⟨k1, k0, k2, k3, k4⟩ <;>
    first
    | exact ⟨h2.trans k2.symm, h3.trans k3.symm, h4.trans k4.symm⟩
    | exact absurd k1 h1
    | exact absurd h1 k1
    | exact absurd h0 k0
    | exact absurd k0 h0
  · rcases h with ⟨h1, h2, h3, h4⟩ | ⟨h1, h0, h2, h3, h4⟩ | ⟨h1, h0, h2, h3, h4⟩ <;> rcases k with ⟨k1, k2, k3, k4⟩ | ⟨k1, k0, k2, k3, k4⟩ | ⟨k1, k0, k2, k3, k4⟩ <;>
    first
    | exact ⟨h2.trans k2.symm, h3.trans k3.symm, h4.trans k4.symm⟩
    | exact absurd k1 h1
    | exact absurd h1 k1
    | exact absurd h0 k0
    | exact absurd k0 h0
  · exact ⟨h.1.trans k.1.symm, h.2.1.trans k.2.1.symm, h.2.2.det k.2.2⟩
  · rcases h with ⟨h1, h2, h3, h4⟩ | ⟨h1, h2, h3, h4⟩ <;> rcases k with ⟨k1, k2, k3, k4⟩ | ⟨k1, k2, k3, k4⟩
    · exact ⟨h2.trans k2.symm, h3.trans k3.symm, h4.trans k4.symm⟩
    · exact absurd h1 k1
    · exact absurd k1 h1
    · exact ⟨h2.trans k2.symm, h3.trans k3.symm, h4.det k4⟩
  · exact ⟨h.1.trans k.1.symm, h.2.1.trans k.2.1.symm, h.2.2.trans k.2.2.symm⟩

theorem StepQ.det {M : Mach} {t : Nat} {op h o l r to : Int} {d : ByteArray} {e e2 : Int} {m m2 : ByteArray} {A B : Mach} (a : StepQ M t op h o l r to d e m A) (b : StepQ M t op h o l r to d e2 m2 B) : e = e2 ∧ m = m2 ∧ A = B := by
  rcases a with ⟨a0, a1, a2, a3⟩ | ⟨a0, a1, a2, a3, a4⟩ | ⟨a0, n, a1, a2⟩ <;> rcases b with ⟨b0, b1, b2, b3⟩ | ⟨b0, b1, b2, b3, b4⟩ | ⟨b0, n2, b1, b2⟩ <;>
  first
  | exact ⟨a1.trans b1.symm, a2.trans b2.symm, a3.trans b3.symm⟩
  | exact ⟨a2.trans b2.symm, a3.trans b3.symm, a4.trans b4.symm⟩
  | exact absurd a0 b0
  | exact absurd b0 a0
  | (rw [a1] at b1; cases b1; done)
  | (rw [a1] at b1; injection b1 with e; subst e; exact a2.det b2)

theorem yesV_inj {op h o l r t op2 h2 o2 l2 r2 t2 : Int} {d d2 : ByteArray} (e : yesV op h o l r t d = yesV op2 h2 o2 l2 r2 t2 d2) : op = op2 ∧ h = h2 ∧ o = o2 ∧ l = l2 ∧ r = r2 ∧ t = t2 ∧ d = d2 := by
  simp [yesV] at e
  exact ⟨e.1, e.2.1, e.2.2.1, e.2.2.2.1, e.2.2.2.2.1, e.2.2.2.2.2.1, e.2.2.2.2.2.2⟩
theorem noV_ne {op h o l r t : Int} {d : ByteArray} : noV ≠ yesV op h o l r t d := by simp [noV, yesV]
theorem StepS.det {M : Mach} {t : Nat} {s : ByteArray} {e e2 : Int} {m m2 : ByteArray} {A B : Mach} (a : StepS M t s e m A) (b : StepS M t s e2 m2 B) : e = e2 ∧ m = m2 ∧ A = B := by
  rcases a with ⟨a0, a1, a2, a3⟩ | ⟨op, h, o, l, r, to, d, a0, a1⟩ <;> rcases b with ⟨b0, b1, b2, b3⟩ | ⟨op2, h2, o2, l2, r2, to2, d2, b0, b1⟩
  · exact ⟨a1.trans b1.symm, a2.trans b2.symm, a3.trans b3.symm⟩
  · exact absurd (a0.symm.trans b0) noV_ne
  · exact absurd (b0.symm.trans a0) noV_ne
  · obtain ⟨rfl, rfl, rfl, rfl, rfl, rfl, rfl⟩ := yesV_inj (a0.symm.trans b0)
    exact a1.det b1

/-- an error is 0, 1 or 3 to 9, and with one nothing is said more, and nothing is changed -/
theorem StepP.err {M : Mach} {t p : Nat} {op o l r to : Int} {d : ByteArray} {e : Int} {m : ByteArray} {A : Mach} (h : StepP M t p op o l r to d e m A) : 0 ≤ e ∧ e ≤ 9 ∧ (e ≠ 0 → m = nilS ∧ A = M) := by
  have hR : ∀ q : Int × ByteArray, q = M.read p o l → 0 ≤ q.1 ∧ q.1 ≤ 9 ∧ (q.1 ≠ 0 → q.2 = nilS) := by
    intro q hq
    unfold Mach.read at hq
    split at hq
    · rw [hq]; exact ⟨by decide, by decide, fun _ => rfl⟩
    · split at hq
      · rw [hq]; exact ⟨by decide, by decide, fun _ => rfl⟩
      · rw [hq]; exact ⟨by simp, by simp, fun h => absurd rfl h⟩
  have hL : ∀ (u : Nat) (a l m : Int), 0 ≤ M.layE u ∧ M.layE u ≤ 9 ∧ (M.layE u ≠ 0 → M.layS u = nilS ∧ M.lay u p a l m = M) := by
    intro u a l m
    unfold Mach.layE Mach.layS Mach.lay
    split
    · exact ⟨by decide, by decide, fun h => absurd rfl h⟩
    · exact ⟨by decide, by decide, fun _ => ⟨rfl, rfl⟩⟩
  rcases h with ⟨_, h⟩ | ⟨_, h⟩ | ⟨_, h⟩ | ⟨_, h⟩ | ⟨_, h⟩ | ⟨_, h⟩ | ⟨_, h⟩ | ⟨_, h⟩
  · rcases h with ⟨_, rfl, rfl, rfl⟩ | ⟨_, rfl, _, _⟩
    · exact ⟨by decide, by decide, fun _ => ⟨rfl, rfl⟩⟩
    · exact ⟨by decide, by decide, fun h => absurd rfl h⟩
  · obtain ⟨rfl, rfl, rfl⟩ := h
    obtain ⟨h1, h2, h3⟩ := hR _ rfl
    exact ⟨h1, h2, fun h => ⟨h3 h, rfl⟩⟩
  · obtain ⟨rfl, rfl, rfl⟩ := h
    refine ⟨?_, ?_, fun h => ⟨rfl, ?_⟩⟩
    · unfold Mach.writeE; split; decide; split <;> decide
    · unfold Mach.writeE; split; decide; split <;> decide
    · unfold Mach.write; rw [if_neg h]
  · rcases h with ⟨_, rfl, rfl, rfl⟩ | ⟨_, _, rfl, rfl, rfl⟩ | ⟨_, _, rfl, rfl, rfl⟩
    · exact ⟨by decide, by decide, fun _ => ⟨rfl, rfl⟩⟩
    · exact ⟨by decide, by decide, fun _ => ⟨rfl, rfl⟩⟩
    · exact hL _ _ _ _
  · rcases h with ⟨_, rfl, rfl, rfl⟩ | ⟨_, _, rfl, rfl, rfl⟩ | ⟨_, _, rfl, rfl, rfl⟩
    · exact ⟨by decide, by decide, fun _ => ⟨rfl, rfl⟩⟩
    · exact ⟨by decide, by decide, fun _ => ⟨rfl, rfl⟩⟩
    · exact hL _ _ _ _
  · obtain ⟨rfl, _, _⟩ := h; exact ⟨by decide, by decide, fun h => absurd rfl h⟩
  · rcases h with ⟨_, rfl, rfl, rfl⟩ | ⟨_, rfl, _, _⟩
    · exact ⟨by decide, by decide, fun _ => ⟨rfl, rfl⟩⟩
    · exact ⟨by decide, by decide, fun h => absurd rfl h⟩
  · obtain ⟨rfl, _, _⟩ := h; exact ⟨by decide, by decide, fun h => absurd rfl h⟩
theorem StepS.err {M : Mach} {t : Nat} {s : ByteArray} {e : Int} {m : ByteArray} {A : Mach} (h : StepS M t s e m A) : 0 ≤ e ∧ e ≤ 9 ∧ (e ≠ 0 → m = nilS ∧ A = M) := by
  rcases h with ⟨_, rfl, rfl, rfl⟩ | ⟨op, h, o, l, r, to, d, _, a1⟩
  · exact ⟨by decide, by decide, fun _ => ⟨rfl, rfl⟩⟩
  · rcases a1 with ⟨_, rfl, rfl, rfl⟩ | ⟨_, _, rfl, rfl, rfl⟩ | ⟨_, n, _, a2⟩
    · unfold Mach.alloc
      split
      · exact ⟨by simp, by simp, fun _ => ⟨rfl, rfl⟩⟩
      · split
        · exact ⟨by simp, by simp, fun _ => ⟨rfl, rfl⟩⟩
        · split
          · exact ⟨by simp, by simp, fun _ => ⟨rfl, rfl⟩⟩
          · exact ⟨by simp, by simp, fun h => absurd rfl h⟩
    · exact ⟨by decide, by decide, fun _ => ⟨rfl, rfl⟩⟩
    · exact a2.err

/-- bytes are a request, or none -/
theorem dec_cases (s : ByteArray) : decV s = noV ∨ ∃ (op h o l r t : Int) (d : ByteArray), decV s = yesV op h o l r t d ∧ okB op h o l r t d.size = true ∧ bodyS op h o l r t d = s := by
  have key : ∀ (op h o l r t : Int) (d : ByteArray), rdV s op h o l r t d = decV s → decV s = noV ∨ ∃ (op h o l r t : Int) (d : ByteArray), decV s = yesV op h o l r t d ∧ okB op h o l r t d.size = true ∧ bodyS op h o l r t d = s := by
    intro op h o l r t d e
    by_cases hc : okB op h o l r t d.size = true ∧ bodyS op h o l r t d = s
    · exact Or.inr ⟨op, h, o, l, r, t, d, by rw [← e]; exact rdV_pos hc.1 hc.2, hc.1, hc.2⟩
    · exact Or.inl (by rw [← e]; exact rdV_neg (fun h1 h2 => hc ⟨h1, h2⟩))
  obtain ⟨op, hop⟩ : ∃ op, byt s 0 = op := ⟨_, rfl⟩
  by_cases h1 : op = 1
  · subst h1; exact key _ _ _ _ _ _ _ (agree_1 s hop)
  · by_cases h3 : op = 3
    · subst h3; exact key _ _ _ _ _ _ _ (agree_3 s hop)
    · by_cases h4 : op = 4
      · subst h4; exact key _ _ _ _ _ _ _ (agree_4 s _ hop rfl)
      · by_cases h5 : op = 5
        · subst h5; exact key _ _ _ _ _ _ _ (agree_5 s hop)
        · by_cases h6 : op = 6
          · subst h6; exact key _ _ _ _ _ _ _ (agree_6 s hop)
          · exact key _ _ _ _ _ _ _ (agree_other s op hop h1 h3 h4 h5 h6)

end Go.Proofs.Ytkjjamigaamllaa
