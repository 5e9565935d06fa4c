/-
  Joined: KeepFacts, KeepSteps.
-/
import Derived.Test.YtkjjamigaamllaaKeepGood
namespace Go.Proofs.Ytkjjamigaamllaa
open Go.RowKit
set_option linter.unusedSimpArgs false

/- KeepFacts -/

/-- no tenant has more chunks than it may -/
def Mach.Fits (M : Mach) : Prop := ∀ t, M.taken t ≤ M.nc

theorem sumN_less {f g : Nat → Nat} (n : Nat) (h : ∀ k, k < n → g k ≤ f k) : sumN g n ≤ sumN f n := by
  induction n with
  | zero => simp [sumN]
  | succ n ih =>
    have h1 := ih (fun k hk => h k (by omega))
    have h2 := h n (by omega)
    simp only [sumN]
    omega
theorem used_le (M : Mach) (t : Nat) : M.used t ≤ M.ns := by
  have := sumN_le (f := fun n => if (M.s (16 * t + n)).full then 1 else 0) (c := 1) M.ns (fun n _ => by show (if (M.s (16 * t + n)).full then 1 else 0) ≤ 1; split <;> omega)
  unfold Mach.used
  omega
theorem used_congr {M M' : Mach} (hns : M'.ns = M.ns) {t : Nat} (h : ∀ n, n < M.ns → (M'.s (16 * t + n)).full = (M.s (16 * t + n)).full) : M'.used t = M.used t := by
  unfold Mach.used
  rw [hns]
  exact sumN_congr _ (fun k hk => by simp only [h k hk])
theorem taken_congr {M M' : Mach} (hns : M'.ns = M.ns) {t : Nat} (h : ∀ n, n < M.ns → (M'.s (16 * t + n)).bytes.length = (M.s (16 * t + n)).bytes.length) : M'.taken t = M.taken t := by
  unfold Mach.taken
  rw [hns]
  exact sumN_congr _ (fun k hk => by simp only [h k hk])
theorem taken_less {M M' : Mach} (hns : M'.ns = M.ns) {t : Nat} (h : ∀ n, n < M.ns → (M'.s (16 * t + n)).bytes.length ≤ (M.s (16 * t + n)).bytes.length) : M'.taken t ≤ M.taken t := by
  unfold Mach.taken
  rw [hns]
  refine sumN_less _ (fun k hk => ?_)
  have := h k hk
  show chunksN _ ≤ chunksN _
  unfold chunksN
  omega
/-- a slot is filled -/
theorem used_set {M : Mach} (hs : M.ns ≤ 16) {t n : Nat} {x : HSlot} (hn : n < M.ns) (h0 : (M.s (16 * t + n)).full = false) (hx : x.full = true) (u : Nat) : (M.set (16 * t + n) x).used u = M.used u + (if u = t then 1 else 0) := by
  by_cases e : u = t
  · subst e
    rw [if_pos rfl]
    have := sumN_upd (f := fun k => if (M.s (16 * u + k)).full then 1 else 0) (g := fun k => if ((M.set (16 * u + n) x).s (16 * u + k)).full then 1 else 0) M.ns hn (fun k hk hne => by
      show (if ((M.set (16 * u + n) x).s (16 * u + k)).full then 1 else 0) = _
      rw [Mach.set_other _ _ (by omega)])
    simp only [Mach.set_same, h0, hx] at this
    show sumN _ M.ns = sumN _ M.ns + 1
    simp at this
    omega
  · rw [if_neg e]
    refine used_congr (M := M) (M' := M.set (16 * t + n) x) rfl (fun k hk => ?_)
    rw [Mach.set_other _ _ (by omega)]
theorem taken_set {M : Mach} (hs : M.ns ≤ 16) {t n : Nat} {x : HSlot} (hn : n < M.ns) (h0 : (M.s (16 * t + n)).bytes = []) (u : Nat) : (M.set (16 * t + n) x).taken u = M.taken u + (if u = t then chunksN x.bytes.length else 0) := by
  by_cases e : u = t
  · subst e
    rw [if_pos rfl]
    have := sumN_upd (f := fun k => chunksN (M.s (16 * u + k)).bytes.length) (g := fun k => chunksN ((M.set (16 * u + n) x).s (16 * u + k)).bytes.length) M.ns hn (fun k hk hne => by
      show chunksN ((M.set (16 * u + n) x).s (16 * u + k)).bytes.length = _
      rw [Mach.set_other _ _ (by omega)])
    simp only [Mach.set_same, h0] at this
    show sumN _ M.ns = sumN _ M.ns + _
    have e0 : chunksN ([] : List Int).length = 0 := rfl
    rw [e0] at this
    exact this
  · rw [if_neg e]
    refine taken_congr (M := M) (M' := M.set (16 * t + n) x) rfl (fun k hk => ?_)
    rw [Mach.set_other _ _ (by omega)]
theorem Mach.Inv.bare_bytes {M : Mach} (inv : M.Inv) {p : Nat} (h : (M.s p).full = false) : (M.s p).bytes = [] := by
  rw [inv.bare p h]; rfl

theorem find_congr {M M' : Mach} (hns : M'.ns = M.ns) {t : Nat} {h : Int} (hk : ∀ k, k < M.ns → ((M'.s (16 * t + k)).full && M'.handle (16 * t + k) == h) = ((M.s (16 * t + k)).full && M.handle (16 * t + k) == h)) : M'.find t h = M.find t h := by
  unfold Mach.find
  rw [hns]
  exact firstN_congr hk
theorem handle_congr {M M' : Mach} {p : Nat} (h : (M'.s p).uses = (M.s p).uses) : M'.handle p = M.handle p := by
  unfold Mach.handle
  rw [h]
/-- by a handle of a slot that is empty nothing is held -/
theorem find_empty {M : Mach} (ok : M.Ok) {t n : Nat} (hn : n < M.ns) (he : (M.s (16 * t + n)).full = false) (u : Int) : M.find t (16 * u + (n : Int)) = none :=
  (find_none_iff ok).2 (fun k hk hf hh => by
    have hs := ok.ns
    rw [handle_mod (by omega)] at hh
    obtain rfl : k = n := by omega
    rw [he] at hf
    cases hf)
/-- a slot that was laid is found by its handle, and by others what was found -/
theorem find_laid {M : Mach} (hs : M.ns ≤ 16) {t n : Nat} {x : HSlot} (hn : n < M.ns) (hx : x.full = true) (hu : x.uses = (M.s (16 * t + n)).uses + 1) (ok' : (M.set (16 * t + n) x).Ok) : (M.set (16 * t + n) x).find t (16 * ((M.s (16 * t + n)).uses : Int) + (n : Int)) = some n := by
  refine (find_iff ok').2 ⟨hn, by rw [Mach.set_same]; exact hx, ?_⟩
  rw [handle_mod (by omega), Mach.set_same, hu]
  omega
theorem find_other {M : Mach} (hs : M.ns ≤ 16) {t n : Nat} {x : HSlot} (hn : n < M.ns) (he : (M.s (16 * t + n)).full = false) (hu : x.uses = (M.s (16 * t + n)).uses + 1) {u : Nat} {h : Int} (hne : ¬ (u = t ∧ h = 16 * ((M.s (16 * t + n)).uses : Int) + (n : Int))) : (M.set (16 * t + n) x).find u h = M.find u h := by
  refine find_congr (M := M) (M' := M.set (16 * t + n) x) rfl (fun k hk => ?_)
  by_cases e : 16 * u + k = 16 * t + n
  · obtain ⟨rfl, rfl⟩ : u = t ∧ k = n := by omega
    rw [he]
    have : ((M.set (16 * u + k) x).handle (16 * u + k) == h) = false := by
      rw [handle_mod (by omega), Mach.set_same, hu]
      simp
      intro e2
      exact hne ⟨rfl, by omega⟩
    rw [this]
    simp
  · rw [Mach.set_other _ _ e]
    have : (M.set (16 * t + n) x).handle (16 * u + k) = M.handle (16 * u + k) := handle_congr (by rw [Mach.set_other _ _ e])
    rw [this]

/-- Alloc where there is room -/
theorem alloc_yes {M : Mach} {t n : Nat} {l : Int} (hl : 1 ≤ l ∧ l ≤ 256) (hc : ¬ M.nc < M.taken t + chunksN l.toNat) (hn : M.next t = some n) :
    M.alloc t l = (0, twoW (16 * ((M.s (16 * t + n)).uses : Int) + (n : Int)), M.set (16 * t + n) (HSlot.new (M.s (16 * t + n)).uses (16 * t + n) l)) := by
  unfold Mach.alloc
  rw [if_neg (fun h => h hl), if_neg hc, hn]
theorem alloc_short {M : Mach} {t : Nat} {l : Int} (hl : 1 ≤ l ∧ l ≤ 256) (hc : M.nc < M.taken t + chunksN l.toNat) : M.alloc t l = (7, nilS, M) := by
  unfold Mach.alloc
  rw [if_neg (fun h => h hl), if_pos hc]
theorem alloc_full {M : Mach} {t : Nat} {l : Int} (hl : 1 ≤ l ∧ l ≤ 256) (hc : ¬ M.nc < M.taken t + chunksN l.toNat) (hn : M.next t = none) : M.alloc t l = (8, nilS, M) := by
  unfold Mach.alloc
  rw [if_neg (fun h => h hl), if_neg hc, hn]
theorem alloc_wrong {M : Mach} {t : Nat} {l : Int} (hl : ¬ (1 ≤ l ∧ l ≤ 256)) : M.alloc t l = (6, nilS, M) := by
  unfold Mach.alloc
  rw [if_pos hl]
theorem new_len (u p : Nat) (l : Int) : (HSlot.new u p l).bytes.length = l.toNat := by simp [HSlot.new]

theorem Mach.Fits.gone {M M' : Mach} {D : Nat → Prop} (h : M.Fits) (G : Gone D M M') : M'.Fits := fun t => by
  rw [G.nc]
  refine Nat.le_trans (taken_less G.ns (fun n _ => ?_)) (h t)
  rcases Classical.em (D (16 * t + n)) with d | d
  · rw [G.out _ d]; simp [HSlot.none]
  · rw [G.same _ d]; omega
theorem Mach.Fits.lay {M : Mach} (h : M.Fits) (u p : Nat) (a l r : Int) : (M.lay u p a l r).Fits := by
  unfold Mach.lay
  cases M.next u with
  | none => exact h
  | some n =>
    intro t
    have e : (M.set (16 * u + n) ((M.s (16 * u + n)).laid (p : Int) (M.s p).root a l r)).taken t = M.taken t := taken_congr (M := M) (M' := M.set (16 * u + n) ((M.s (16 * u + n)).laid (p : Int) (M.s p).root a l r)) rfl (fun k hk => by rw [laid_bytes])
    show (M.set (16 * u + n) ((M.s (16 * u + n)).laid (p : Int) (M.s p).root a l r)).taken t ≤ M.nc
    rw [e]
    exact h t
theorem Mach.Fits.write {M : Mach} (h : M.Fits) (p : Nat) (o : Int) (d : ByteArray) : (M.write p o d).Fits := by
  unfold Mach.write
  split
  · intro t
    generalize hr : (M.s p).root.toNat = r
    refine Nat.le_trans (Nat.le_of_eq (taken_congr (M := M) (M' := M.set r ((M.s r).withBytes (spl (M.s r).bytes ((M.s p).first + o).toNat d d.size))) rfl (fun k hk => ?_))) (h t)
    by_cases e : 16 * t + k = r
    · rw [e, Mach.set_same]
      exact spl_len _ _ _ _
    · rw [Mach.set_other _ _ e]
  · exact h
theorem Mach.Fits.step {M M' : Mach} {t : Nat} {op x o l r to : Int} {d : ByteArray} {e : Int} {m : ByteArray} (h : M.Fits) (inv : M.Inv) (s : StepQ M t op x o l r to d e m M') : M'.Fits := by
  rcases s with ⟨_, _, _, rfl⟩ | ⟨_, _, _, _, rfl⟩ | ⟨_, n, _, a⟩
  · by_cases hl : 1 ≤ l ∧ l ≤ 256
    · by_cases hc : M.nc < M.taken t + chunksN l.toNat
      · rw [alloc_short hl hc]; exact h
      · cases hn : M.next t with
        | none => rw [alloc_full hl hc hn]; exact h
        | some n =>
          rw [alloc_yes hl hc hn]
          obtain ⟨g1, g2, _⟩ := next_spec hn
          intro u
          show (M.set _ _).taken u ≤ M.nc
          rw [taken_set inv.ok.ns g1 (inv.bare_bytes g2) u, new_len]
          have := h u
          split
          · rename_i e; subst e; omega
          · omega
    · rw [alloc_wrong hl]; exact h
  · exact h
  · rcases a with ⟨_, a⟩ | ⟨_, a⟩ | ⟨_, a⟩ | ⟨_, a⟩ | ⟨_, a⟩ | ⟨_, a⟩ | ⟨_, a⟩ | ⟨_, a⟩
    · rcases a with ⟨_, _, _, rfl⟩ | ⟨_, _, _, G⟩
      · exact h
      · exact h.gone G
    · rw [a.2.2]; exact h
    · rw [a.2.2]; exact h.write _ _ _
    · rcases a with ⟨_, _, _, rfl⟩ | ⟨_, _, _, _, rfl⟩ | ⟨_, _, _, _, rfl⟩
      · exact h
      · exact h
      · exact h.lay _ _ _ _ _
    · rcases a with ⟨_, _, _, rfl⟩ | ⟨_, _, _, _, rfl⟩ | ⟨_, _, _, _, rfl⟩
      · exact h
      · exact h
      · exact h.lay _ _ _ _ _
    · exact h.gone a.2.2
    · rcases a with ⟨_, _, _, rfl⟩ | ⟨_, _, _, G⟩
      · exact h
      · exact h.gone G
    · rw [a.2.2]; exact h

/- KeepSteps -/

theorem q_alloc {M : Mach} {t n : Nat} {l : Int} (hl : 1 ≤ l ∧ l ≤ 256) (hc : ¬ M.nc < M.taken t + chunksN l.toNat) (hn : M.next t = some n) :
    StepQ M t 1 0 0 l 0 0 ⟨#[]⟩ 0 (twoW (16 * ((M.s (16 * t + n)).uses : Int) + (n : Int))) (M.set (16 * t + n) (HSlot.new (M.s (16 * t + n)).uses (16 * t + n) l)) :=
  Or.inl ⟨rfl, by rw [alloc_yes hl hc hn], by rw [alloc_yes hl hc hn], by rw [alloc_yes hl hc hn]⟩
theorem q_short {M : Mach} {t : Nat} {l : Int} (hl : 1 ≤ l ∧ l ≤ 256) (hc : M.nc < M.taken t + chunksN l.toNat) : StepQ M t 1 0 0 l 0 0 ⟨#[]⟩ 7 nilS M :=
  Or.inl ⟨rfl, by rw [alloc_short hl hc], by rw [alloc_short hl hc], by rw [alloc_short hl hc]⟩
theorem q_full {M : Mach} {t : Nat} {l : Int} (hl : 1 ≤ l ∧ l ≤ 256) (hc : ¬ M.nc < M.taken t + chunksN l.toNat) (hn : M.next t = none) : StepQ M t 1 0 0 l 0 0 ⟨#[]⟩ 8 nilS M :=
  Or.inl ⟨rfl, by rw [alloc_full hl hc hn], by rw [alloc_full hl hc hn], by rw [alloc_full hl hc hn]⟩
theorem q_stale {M : Mach} {t : Nat} {op x o l r to : Int} {d : ByteArray} (h1 : op ≠ 1) (hf : M.find t x = none) : StepQ M t op x o l r to d 4 nilS M := Or.inr (Or.inl ⟨h1, hf, rfl, rfl, rfl⟩)
theorem q_read {M : Mach} {t n : Nat} {x o l : Int} (hf : M.find t x = some n) : StepQ M t 3 x o l 0 0 ⟨#[]⟩ (M.read (16 * t + n) o l).1 (M.read (16 * t + n) o l).2 M :=
  Or.inr (Or.inr ⟨by decide, n, hf, Or.inr (Or.inl ⟨rfl, rfl, rfl, rfl⟩)⟩)
theorem q_write {M : Mach} {t n : Nat} {x o : Int} {d : ByteArray} (hf : M.find t x = some n) : StepQ M t 4 x o 0 0 0 d (M.writeE (16 * t + n) o d) nilS (M.write (16 * t + n) o d) :=
  Or.inr (Or.inr ⟨by decide, n, hf, Or.inr (Or.inr (Or.inl ⟨rfl, rfl, rfl, rfl⟩))⟩)
theorem q_info {M : Mach} {t n : Nat} {x : Int} (hf : M.find t x = some n) : StepQ M t 9 x 0 0 0 0 ⟨#[]⟩ 0 (M.info (16 * t + n)) M :=
  Or.inr (Or.inr ⟨by decide, n, hf, Or.inr (Or.inr (Or.inr (Or.inr (Or.inr (Or.inr (Or.inr ⟨rfl, rfl, rfl, rfl⟩))))))⟩)
theorem q_freeNo {M : Mach} {t n : Nat} {x : Int} (hf : M.find t x = some n) (h : (M.s (16 * t + n)).frm ≠ -1) : StepQ M t 2 x 0 0 0 0 ⟨#[]⟩ 9 nilS M :=
  Or.inr (Or.inr ⟨by decide, n, hf, Or.inl ⟨rfl, Or.inl ⟨h, rfl, rfl, rfl⟩⟩⟩)
theorem q_free {M M' : Mach} {t n : Nat} {x : Int} (hf : M.find t x = some n) (h : (M.s (16 * t + n)).frm = -1) (G : Gone (fun q => q = 16 * t + n ∨ Under M (16 * t + n) q) M M') : StepQ M t 2 x 0 0 0 0 ⟨#[]⟩ 0 nilS M' :=
  Or.inr (Or.inr ⟨by decide, n, hf, Or.inl ⟨rfl, Or.inr ⟨h, rfl, rfl, G⟩⟩⟩)
theorem q_dropNo {M : Mach} {t n : Nat} {x : Int} (hf : M.find t x = some n) (h : (M.s (16 * t + n)).frm = -1) : StepQ M t 8 x 0 0 0 0 ⟨#[]⟩ 9 nilS M :=
  Or.inr (Or.inr ⟨by decide, n, hf, Or.inr (Or.inr (Or.inr (Or.inr (Or.inr (Or.inr (Or.inl ⟨rfl, Or.inl ⟨h, rfl, rfl, rfl⟩⟩))))))⟩)
theorem q_drop {M M' : Mach} {t n : Nat} {x : Int} (hf : M.find t x = some n) (h : (M.s (16 * t + n)).frm ≠ -1) (G : Gone (fun q => q = 16 * t + n ∨ Under M (16 * t + n) q) M M') : StepQ M t 8 x 0 0 0 0 ⟨#[]⟩ 0 nilS M' :=
  Or.inr (Or.inr ⟨by decide, n, hf, Or.inr (Or.inr (Or.inr (Or.inr (Or.inr (Or.inr (Or.inl ⟨rfl, Or.inr ⟨h, rfl, rfl, G⟩⟩))))))⟩)
theorem q_revoke {M M' : Mach} {t n : Nat} {x : Int} (hf : M.find t x = some n) (G : Gone (Under M (16 * t + n)) M M') : StepQ M t 7 x 0 0 0 0 ⟨#[]⟩ 0 nilS M' :=
  Or.inr (Or.inr ⟨by decide, n, hf, Or.inr (Or.inr (Or.inr (Or.inr (Or.inr (Or.inl ⟨rfl, rfl, rfl, G⟩)))))⟩)
theorem q_deriveNo {M : Mach} {t n : Nat} {x o l r : Int} (hf : M.find t x = some n) (h : ¬ shareB (M.s (16 * t + n)).rights r = true) : StepQ M t 5 x o l r 0 ⟨#[]⟩ 5 nilS M :=
  Or.inr (Or.inr ⟨by decide, n, hf, Or.inr (Or.inr (Or.inr (Or.inl ⟨rfl, Or.inl ⟨h, rfl, rfl, rfl⟩⟩)))⟩)
theorem q_deriveFar {M : Mach} {t n : Nat} {x o l r : Int} (hf : M.find t x = some n) (h : shareB (M.s (16 * t + n)).rights r = true) (h2 : (M.s (16 * t + n)).len < o + l) : StepQ M t 5 x o l r 0 ⟨#[]⟩ 6 nilS M :=
  Or.inr (Or.inr ⟨by decide, n, hf, Or.inr (Or.inr (Or.inr (Or.inl ⟨rfl, Or.inr (Or.inl ⟨h, h2, rfl, rfl, rfl⟩)⟩)))⟩)
theorem q_derive {M : Mach} {t n : Nat} {x o l r : Int} (hf : M.find t x = some n) (h : shareB (M.s (16 * t + n)).rights r = true) (h2 : ¬ (M.s (16 * t + n)).len < o + l) : StepQ M t 5 x o l r 0 ⟨#[]⟩ (M.layE t) (M.layS t) (M.lay t (16 * t + n) ((M.s (16 * t + n)).first + o) l r) :=
  Or.inr (Or.inr ⟨by decide, n, hf, Or.inr (Or.inr (Or.inr (Or.inl ⟨rfl, Or.inr (Or.inr ⟨h, h2, rfl, rfl, rfl⟩)⟩)))⟩)
theorem q_grant {M : Mach} {t n : Nat} {x to : Int} (hf : M.find t x = some n) (h : (M.s (16 * t + n)).rights / 4 = 1) (h2 : ¬ (M.nt : Int) ≤ to) : StepQ M t 6 x 0 0 0 to ⟨#[]⟩ (M.layE to.toNat) (M.layS to.toNat) (M.lay to.toNat (16 * t + n) (M.s (16 * t + n)).first (M.s (16 * t + n)).len (M.s (16 * t + n)).rights) :=
  Or.inr (Or.inr ⟨by decide, n, hf, Or.inr (Or.inr (Or.inr (Or.inr (Or.inl ⟨rfl, Or.inr (Or.inr ⟨h, h2, rfl, rfl, rfl⟩)⟩))))⟩)
theorem lay_no {M : Mach} {t : Nat} (h : M.next t = none) (p : Nat) (a l r : Int) : M.layE t = 8 ∧ M.layS t = nilS ∧ M.lay t p a l r = M := by
  unfold Mach.layE Mach.layS Mach.lay
  rw [h]
  exact ⟨rfl, rfl, rfl⟩
theorem lay_yes {M : Mach} {t n : Nat} (h : M.next t = some n) (p : Nat) (a l r : Int) : M.layE t = 0 ∧ M.layS t = twoW (16 * ((M.s (16 * t + n)).uses : Int) + (n : Int)) ∧ M.lay t p a l r = M.set (16 * t + n) ((M.s (16 * t + n)).laid (p : Int) (M.s p).root a l r) := by
  unfold Mach.layE Mach.layS Mach.lay
  rw [h]
  exact ⟨rfl, rfl, rfl⟩

end Go.Proofs.Ytkjjamigaamllaa
