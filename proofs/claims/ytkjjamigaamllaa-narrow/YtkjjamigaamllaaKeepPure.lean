/-
  Requests of a run as steps of the machine: there is one answer to each; the handles that are given.
-/
import Derived.Test.YtkjjamigaamllaaKeepRun
namespace Go.Proofs.Ytkjjamigaamllaa
open Go.RowKit
set_option linter.unusedSimpArgs false

/-- each request is answered -/
theorem StepP.total (M : Mach) (t p : Nat) (op o l r to : Int) (d : ByteArray) (hk : knw op = true) (h1 : op ≠ 1) : ∃ e m M', StepP M t p op o l r to d e m M' := by
  have ex := fun D => Gone.ex D M
  rcases knw_cases hk with rfl | rfl | rfl | rfl | rfl | rfl | rfl | rfl | rfl
  · exact absurd rfl h1
  · by_cases h : (M.s p).frm = -1
    · obtain ⟨M', hM⟩ := ex (fun x => x = p ∨ Under M p x)
      exact ⟨0, nilS, M', Or.inl ⟨rfl, Or.inr ⟨h, rfl, rfl, hM⟩⟩⟩
    · exact ⟨9, nilS, M, Or.inl ⟨rfl, Or.inl ⟨h, rfl, rfl, rfl⟩⟩⟩
  · exact ⟨_, _, _, Or.inr (Or.inl ⟨rfl, rfl, rfl, rfl⟩)⟩
  · exact ⟨_, _, _, Or.inr (Or.inr (Or.inl ⟨rfl, rfl, rfl, rfl⟩))⟩
  · by_cases h : shareB (M.s p).rights r = true
    · by_cases h2 : (M.s p).len < o + l
      · exact ⟨_, _, _, Or.inr (Or.inr (Or.inr (Or.inl ⟨rfl, Or.inr (Or.inl ⟨h, h2, rfl, rfl, rfl⟩)⟩)))⟩
      · exact ⟨_, _, _, Or.inr (Or.inr (Or.inr (Or.inl ⟨rfl, Or.inr (Or.inr ⟨h, h2, rfl, rfl, rfl⟩)⟩)))⟩
    · exact ⟨_, _, _, Or.inr (Or.inr (Or.inr (Or.inl ⟨rfl, Or.inl ⟨h, rfl, rfl, rfl⟩⟩)))⟩
  · by_cases h : (M.s p).rights / 4 = 1
    · by_cases h2 : (M.nt : Int) ≤ to
      · exact ⟨_, _, _, Or.inr (Or.inr (Or.inr (Or.inr (Or.inl ⟨rfl, Or.inr (Or.inl ⟨h, h2, rfl, rfl, rfl⟩)⟩))))⟩
      · exact ⟨_, _, _, Or.inr (Or.inr (Or.inr (Or.inr (Or.inl ⟨rfl, Or.inr (Or.inr ⟨h, h2, rfl, rfl, rfl⟩)⟩))))⟩
    · exact ⟨_, _, _, Or.inr (Or.inr (Or.inr (Or.inr (Or.inl ⟨rfl, Or.inl ⟨h, rfl, rfl, rfl⟩⟩))))⟩
  · obtain ⟨M', hM⟩ := ex (Under M p)
    exact ⟨0, nilS, M', Or.inr (Or.inr (Or.inr (Or.inr (Or.inr (Or.inl ⟨rfl, rfl, rfl, hM⟩)))))⟩
  · by_cases h : (M.s p).frm = -1
    · exact ⟨9, nilS, M, Or.inr (Or.inr (Or.inr (Or.inr (Or.inr (Or.inr (Or.inl ⟨rfl, Or.inl ⟨h, rfl, rfl, rfl⟩⟩))))))⟩
    · obtain ⟨M', hM⟩ := ex (fun x => x = p ∨ Under M p x)
      exact ⟨0, nilS, M', Or.inr (Or.inr (Or.inr (Or.inr (Or.inr (Or.inr (Or.inl ⟨rfl, Or.inr ⟨h, rfl, rfl, hM⟩⟩))))))⟩
  · exact ⟨_, _, _, Or.inr (Or.inr (Or.inr (Or.inr (Or.inr (Or.inr (Or.inr ⟨rfl, rfl, rfl, rfl⟩))))))⟩

theorem StepQ.total (M : Mach) (t : Nat) (op x o l r to : Int) (d : ByteArray) (hk : knw op = true) : ∃ e m M', StepQ M t op x o l r to d e m M' := by
  by_cases h1 : op = 1
  · exact ⟨_, _, _, Or.inl ⟨h1, rfl, rfl, rfl⟩⟩
  · cases hf : M.find t x with
    | none => exact ⟨4, nilS, M, Or.inr (Or.inl ⟨h1, hf, rfl, rfl, rfl⟩)⟩
    | some n =>
      obtain ⟨e, m, M', h⟩ := StepP.total M t (16 * t + n) op o l r to d hk h1
      exact ⟨e, m, M', Or.inr (Or.inr ⟨h1, n, hf, h⟩)⟩

/-- the step of a request's own bytes -/
theorem stepS_body {M : Mach} {t : Nat} {op x o l r to : Int} {d : ByteArray} {e : Int} {m : ByteArray} {M' : Mach} (hok : okB op x o l r to d.size = true) : StepS M t (bodyS op x o l r to d) e m M' ↔ StepQ M t op x o l r to d e m M' := by
  have hd := dec_body hok
  constructor
  · rintro (⟨h, _⟩ | ⟨op2, x2, o2, l2, r2, to2, d2, h, a⟩)
    · exact absurd (h.symm.trans hd) noV_ne
    · obtain ⟨rfl, rfl, rfl, rfl, rfl, rfl, rfl⟩ := yesV_inj (hd.symm.trans h)
      exact a
  · intro a
    exact Or.inr ⟨op, x, o, l, r, to, d, hd, a⟩

/-- the handle in a reply -/
def hOf (m : ByteArray) : Int := 256 * byt m 0 + byt m 1
theorem byt_two {n : Int} (h : wd n = true) : byt (twoW n) 0 = n / 256 ∧ byt (twoW n) 1 = n % 256 := by
  have hb := wd_iff.1 h
  have e : twoW n = strOfNums [n / 256, n % 256] ++ ⟨#[]⟩ := by rw [twoW_eq h]; show strOfNums _ = _ ++ ByteArray.empty; rw [ByteArray.append_empty]
  rw [e]
  exact ⟨byt_str [n / 256, n % 256] _ 0 (by simp) (by simp; omega) (by simp; omega), byt_str [n / 256, n % 256] _ 1 (by simp) (by simp; omega) (by simp; omega)⟩
theorem hOf_two {n : Int} (h : wd n = true) : hOf (twoW n) = n := by
  unfold hOf
  rw [(byt_two h).1, (byt_two h).2]
  omega

/-- the handles given behind a request -/
def gave (gl : Nat → List Int) (t : Nat) (op to e : Int) (m : ByteArray) : Nat → List Int :=
  if e = 0 ∧ (op = 1 ∨ op = 5) then fun i => if i = t then gl i ++ [hOf m] else gl i
  else if e = 0 ∧ op = 6 then fun i => if i = to.toNat then gl i ++ [hOf m] else gl i
  else gl

/-- A REQUEST TO A RUN'S HOUSE, and the run behind it -/
structure KStep (K : KRun) (t : Nat) (op x o l r to : Int) (d : ByteArray) (e : Int) (m : ByteArray) (K' : KRun) : Prop where
  q : StepQ K.M t op x o l r to d e m K'.M
  gl : K'.gl = gave K.gl t op to e m
  ok : K'.ok = K.ok
  shares : K'.shares = K.shares
  grants : K'.grants = K.grants
  apart : K'.apart = K.apart
  but : K'.but = K.but
  hl : K'.hl = K.hl
  nt : K'.M.nt = K.M.nt
  ns : K'.M.ns = K.M.ns
  nc : K'.M.nc = K.M.nc
  gx : K'.gx = K.gx

/-- what a step that gives a handle gives -/
theorem next_spec {M : Mach} {u n : Nat} (hn : M.next u = some n) : n < M.ns ∧ (M.s (16 * u + n)).full = false ∧ (M.s (16 * u + n)).uses ≤ 4095 := by
  rcases firstN_spec (fun n => !(M.s (16 * u + n)).full && decide ((M.s (16 * u + n)).uses ≤ 4095)) M.ns with ⟨h5, _⟩ | ⟨k, h5, h6, h7, _⟩
  · rw [show M.next u = none from h5] at hn; cases hn
  · rw [show M.next u = some k from h5] at hn
    injection hn with e
    subst e
    simp at h7
    exact ⟨h6, h7.1, h7.2⟩
theorem StepQ.given {M M' : Mach} {t : Nat} {op x o l r to : Int} {d : ByteArray} {m : ByteArray} (h : StepQ M t op x o l r to d 0 m M') (hop : op = 1 ∨ op = 5) :
    ∃ n, M.next t = some n ∧ m = twoW (16 * ((M.s (16 * t + n)).uses : Int) + (n : Int)) := by
  rcases h with ⟨rfl, he, hm, _⟩ | ⟨h1, _, he, _⟩ | ⟨h1, n, hf, a⟩
  · unfold Mach.alloc at he hm
    split at he
    · cases he
    · rename_i c1
      rw [if_neg c1] at hm
      split at he
      · cases he
      · rename_i c2
        rw [if_neg c2] at hm
        cases hn : M.next t with
        | none => rw [hn] at he; cases he
        | some n => rw [hn] at hm; exact ⟨n, rfl, hm⟩
  · cases he
  · obtain rfl : op = 5 := by rcases hop with h | h; exact absurd h h1; exact h
    rcases a with ⟨k, _⟩ | ⟨k, _⟩ | ⟨k, _⟩ | ⟨_, a⟩ | ⟨k, _⟩ | ⟨k, _⟩ | ⟨k, _⟩ | ⟨k, _⟩ <;> try (exfalso; revert k; decide)
    rcases a with ⟨_, he, _⟩ | ⟨_, _, he, _⟩ | ⟨_, _, he, hm, _⟩
    · cases he
    · cases he
    · unfold Mach.layE at he
      unfold Mach.layS at hm
      cases hn : M.next t with
      | none => rw [hn] at he; cases he
      | some n => rw [hn] at hm; exact ⟨n, rfl, hm⟩
theorem StepQ.granted {M M' : Mach} {t : Nat} {x o l r to : Int} {d : ByteArray} {m : ByteArray} (h : StepQ M t 6 x o l r to d 0 m M') (h0 : 0 ≤ to) :
    to.toNat < M.nt ∧ ∃ n, M.next to.toNat = some n ∧ m = twoW (16 * ((M.s (16 * to.toNat + n)).uses : Int) + (n : Int)) := by
  rcases h with ⟨k, _⟩ | ⟨_, _, he, _⟩ | ⟨h1, n, hf, a⟩
  · exfalso; revert k; decide
  · cases he
  · rcases a with ⟨k, _⟩ | ⟨k, _⟩ | ⟨k, _⟩ | ⟨k, _⟩ | ⟨_, a⟩ | ⟨k, _⟩ | ⟨k, _⟩ | ⟨k, _⟩ <;> try (exfalso; revert k; decide)
    rcases a with ⟨_, he, _⟩ | ⟨_, _, he, _⟩ | ⟨_, hlt, he, hm, _⟩
    · cases he
    · cases he
    · refine ⟨by omega, ?_⟩
      unfold Mach.layE at he
      unfold Mach.layS at hm
      cases hn : M.next to.toNat with
      | none => rw [hn] at he; cases he
      | some n => rw [hn] at hm; exact ⟨n, rfl, hm⟩

end Go.Proofs.Ytkjjamigaamllaa
