/-
  What is written is read, and nothing else is changed: plain facts of the machine. No program is named here.
-/
import Derived.Test.YtkjjamigaamllaaJoinFacts
import Derived.Test.YtkjjamigaamllaaKeepAskAll
namespace Go.Proofs.Ytkjjamigaamllaa
open Go.RowKit
set_option linter.unusedSimpArgs false

/-- what Read is answered, whatever the handle is -/
def readR (M : Mach) (t : Nat) (x o l : Int) : Int × ByteArray := match M.find t x with
  | none => (4, nilS)
  | some n => M.read (16 * t + n) o l
theorem q_readR (M : Mach) (t : Nat) (x o l : Int) : StepQ M t 3 x o l 0 0 ⟨#[]⟩ (readR M t x o l).1 (readR M t x o l).2 M := by
  unfold readR
  cases h : M.find t x with
  | none => exact q_stale (by decide) h
  | some n => exact q_read h
/-- an Alloc that was granted -/
theorem alloc_ok {M M' : Mach} {t : Nat} {l e : Int} {m : ByteArray} (hl : 1 ≤ l ∧ l ≤ 256) (q : StepQ M t 1 0 0 l 0 0 ⟨#[]⟩ e m M') (he : e = 0) :
    ∃ n, M.next t = some n ∧ m = twoW (16 * ((M.s (16 * t + n)).uses : Int) + (n : Int)) ∧ M' = M.set (16 * t + n) (HSlot.new (M.s (16 * t + n)).uses (16 * t + n) l) := by
  by_cases hc : M.nc < M.taken t + chunksN l.toNat
  · obtain ⟨h1, _⟩ := q.det (q_short hl hc)
    rw [he] at h1; exact absurd h1 (by decide)
  · cases hn : M.next t with
    | none =>
      obtain ⟨h1, _⟩ := q.det (q_full hl hc hn)
      rw [he] at h1; exact absurd h1 (by decide)
    | some n =>
      obtain ⟨_, h2, h3⟩ := q.det (q_alloc hl hc hn)
      exact ⟨n, rfl, h2, h3⟩

theorem ba_ext {a b : ByteArray} (hs : a.size = b.size) (h : ∀ i, i < a.size → byt a i = byt b i) : a = b := by
  refine ByteArray.ext (Array.ext (by exact hs) (fun i h1 h2 => ?_))
  have h3 := h i h1
  rw [← byt_in (show i < a.size from h1), ← byt_in (show i < b.size from h2)] at h3
  have h4 : (a[i]'h1).toNat = (b[i]'h2).toNat := by omega
  exact UInt8.toNat_inj.1 h4
theorem byt_left {a b : ByteArray} {i : Nat} (h : i < a.size) : byt (a ++ b) i = byt a i := by
  have h1 : i < (a ++ b).size := by rw [ByteArray.size_append]; omega
  rw [← byt_in h1, ← byt_in h, ByteArray.getElem_append_left h]
theorem byt_right {a b : ByteArray} {i : Nat} (h0 : a.size ≤ i) (h : i < a.size + b.size) : byt (a ++ b) i = byt b (i - a.size) := by
  have := byt_app (a := a) (b := b) (i := i - a.size) (by omega)
  rw [← this]
  congr 1
  omega
theorem byt_nums {l : List Int} {i : Nat} (hi : i < l.length) (h0 : 0 ≤ l[i]) (h1 : l[i] ≤ 255) : byt (strOfNums l) i = l[i] := by
  have := byt_str l ByteArray.empty i hi h0 h1
  rwa [ByteArray.append_empty] at this
theorem byt_zeros {n i : Nat} (hi : i < n) : byt (strOfNums (List.replicate n 0)) i = 0 := by
  rw [byt_nums (by simpa using hi) (by simp) (by simp)]
  simp
theorem spl_at (bs : List Int) (a : Nat) (d : ByteArray) (k : Nat) (h : a + k ≤ bs.length) (j : Nat) : (spl bs a d k)[j]? = if a ≤ j ∧ j < a + k then some (byt d (j - a)) else bs[j]? := by
  induction k with
  | zero => rw [if_neg (by omega)]; rfl
  | succ k ih =>
    show ((spl bs a d k).set (a + k) (byt d k))[j]? = _
    rw [List.getElem?_set]
    by_cases e : a + k = j
    · rw [if_pos e, if_pos (by rw [spl_len]; omega), if_pos (by omega)]
      congr 2
      omega
    · rw [if_neg e, ih (by omega)]
      by_cases h2 : a ≤ j ∧ j < a + k
      · rw [if_pos h2, if_pos (by omega)]
      · rw [if_neg h2, if_neg (by omega)]
/-- what was written, all of it -/
theorem written (y a : Nat) (d : ByteArray) (h : a + d.size ≤ y) : strOfNums (spl (List.replicate y 0) a d d.size) = strOfNums (List.replicate a 0) ++ d ++ strOfNums (List.replicate (y - a - d.size) 0) := by
  have hl : (spl (List.replicate y 0) a d d.size).length = y := by rw [spl_len]; simp
  have z1 : (strOfNums (List.replicate a 0)).size = a := by rw [strOfNums_size]; simp
  have z2 : (strOfNums (List.replicate (y - a - d.size) 0)).size = y - a - d.size := by rw [strOfNums_size]; simp
  refine ba_ext (by rw [strOfNums_size, hl, ByteArray.size_append, ByteArray.size_append, z1, z2]; omega) (fun j hj => ?_)
  rw [strOfNums_size, hl] at hj
  have hjl : j < (spl (List.replicate y 0) a d d.size).length := by omega
  have hv := spl_at (List.replicate y 0) a d d.size (by simpa using h) j
  rw [List.getElem?_eq_getElem hjl] at hv
  have key : (spl (List.replicate y 0) a d d.size)[j] = if a ≤ j ∧ j < a + d.size then byt d (j - a) else 0 := by
    by_cases c : a ≤ j ∧ j < a + d.size
    · rw [if_pos c] at hv ⊢; exact Option.some.inj hv
    · rw [if_neg c] at hv ⊢
      rw [List.getElem?_eq_getElem (by simpa using hj)] at hv
      have := Option.some.inj hv
      rw [this]; simp
  have hb := byt_bd d (j - a)
  rw [byt_nums hjl (by rw [key]; split <;> omega) (by rw [key]; split <;> omega), key]
  by_cases c1 : j < a
  · rw [if_neg (by omega), byt_left (by rw [ByteArray.size_append, z1]; omega), byt_left (by rw [z1]; exact c1), byt_zeros c1]
  · by_cases c2 : j < a + d.size
    · rw [if_pos (by omega), byt_left (by rw [ByteArray.size_append, z1]; omega), byt_right (by rw [z1]; omega) (by rw [z1]; omega), z1]
    · rw [if_neg (by omega), byt_right (by rw [ByteArray.size_append, z1]; omega) (by rw [ByteArray.size_append, z1, z2]; omega), ByteArray.size_append, z1, byt_zeros (by omega)]

theorem write_own {M : Mach} {p u y : Nat} {a : Nat} {d : ByteArray} (h : M.s p = HSlot.new u p (y : Int)) : M.writeE p (a : Int) d = (if y < a + d.size then 6 else 0) ∧ (¬ y < a + d.size → M.write p (a : Int) d = M.set p ((HSlot.new u p (y : Int)).withBytes (spl (List.replicate y 0) a d d.size))) := by
  have e0 : M.writeE p (a : Int) d = (if y < a + d.size then 6 else 0) := by
    unfold Mach.writeE
    rw [h, if_neg (by show ¬ (7 : Int) / 2 % 2 = 0; decide)]
    show (if (y : Int) < (a : Int) + (d.size : Int) then (6 : Int) else 0) = _
    by_cases c : y < a + d.size
    · rw [if_pos c, if_pos (by omega)]
    · rw [if_neg c, if_neg (by omega)]
  refine ⟨e0, fun c => ?_⟩
  unfold Mach.write
  rw [e0, if_neg c, if_pos rfl]
  have e1 : (M.s p).root.toNat = p := by rw [h]; rfl
  rw [e1, h]
  have e2 : ((HSlot.new u p (y : Int)).first + (a : Int)).toNat = a := by show (0 + (a : Int)).toNat = a; omega
  rw [e2]
  rfl

/-- TWO NEW OBJECTS of a tenant, and one of them written to -/
theorem echo_facts {M0 : Mach} (inv : M0.Inv) {t i1 i2 y : Nat} (ht : t < M0.nt) (h1 : 1 ≤ y) (h2 : y ≤ 256) {M1 M2 : Mach} {u1 u2 : Nat} (eu1 : u1 = (M0.s (16 * t + i1)).uses) (eu2 : u2 = (M1.s (16 * t + i2)).uses)
    (n1 : M0.next t = some i1) (e1 : M1 = M0.set (16 * t + i1) (HSlot.new u1 (16 * t + i1) (y : Int))) (n2 : M1.next t = some i2) (e2 : M2 = M1.set (16 * t + i2) (HSlot.new u2 (16 * t + i2) (y : Int))) :
    i1 < 16 ∧ i2 < 16 ∧ u1 ≤ 4095 ∧ u2 ≤ 4095 ∧ i1 ≠ i2 ∧ M2.find t (16 * (u1 : Int) + (i1 : Int)) = some i1 ∧ M2.find t (16 * (u2 : Int) + (i2 : Int)) = some i2 ∧ M2.s (16 * t + i1) = HSlot.new u1 (16 * t + i1) (y : Int) ∧ M2.s (16 * t + i2) = HSlot.new u2 (16 * t + i2) (y : Int) ∧
    ∀ bs : List Int, bs.length = y → let M3 := M2.set (16 * t + i1) ((HSlot.new u1 (16 * t + i1) (y : Int)).withBytes bs)
      M3.find t (16 * (u1 : Int) + (i1 : Int)) = some i1 ∧ M3.find t (16 * (u2 : Int) + (i2 : Int)) = some i2 ∧ ∀ x, x ≠ 16 * (u1 : Int) + (i1 : Int) → x ≠ 16 * (u2 : Int) + (i2 : Int) → readR M3 t x 0 1 = readR M0 t x 0 1 := by
  have hs := inv.ok.ns
  obtain ⟨a1, a2, a3⟩ := next_spec n1
  have inv1 : M1.Inv := by rw [e1, eu1]; exact inv_alloc inv ht a1 a2 a3 (by omega)
  have ns1 : M1.ns = M0.ns := by rw [e1]; rfl
  obtain ⟨b1, b2, b3⟩ := next_spec n2
  have inv2 : M2.Inv := by rw [e2, eu2]; exact inv_alloc inv1 (by rw [e1]; exact ht) b1 b2 b3 (by omega)
  rw [ns1] at b1
  have hne : i1 ≠ i2 := fun e => by
    rw [← e, e1, Mach.set_same] at b2
    cases b2
  have hp : 16 * t + i1 ≠ 16 * t + i2 := by omega
  have eu2' : u2 = (M0.s (16 * t + i2)).uses := by rw [eu2, e1, Mach.set_other _ _ (by omega)]
  have b2' : (M0.s (16 * t + i2)).full = false := by rw [e1, Mach.set_other _ _ (by omega)] at b2; exact b2
  have s1 : M2.s (16 * t + i1) = HSlot.new u1 (16 * t + i1) (y : Int) := by rw [e2, Mach.set_other _ _ hp, e1, Mach.set_same]
  have s2 : M2.s (16 * t + i2) = HSlot.new u2 (16 * t + i2) (y : Int) := by rw [e2, Mach.set_same]
  have ns2 : M2.ns = M0.ns := by rw [e2]; exact ns1
  have f1 : M2.find t (16 * (u1 : Int) + (i1 : Int)) = some i1 := (find_iff inv2.ok).2 ⟨by omega, by rw [s1]; rfl, by rw [handle_mod (by omega), s1]; show 16 * (((u1 + 1 : Nat) : Int) - 1) + _ = _; omega⟩
  have f2 : M2.find t (16 * (u2 : Int) + (i2 : Int)) = some i2 := (find_iff inv2.ok).2 ⟨by omega, by rw [s2]; rfl, by rw [handle_mod (by omega), s2]; show 16 * (((u2 + 1 : Nat) : Int) - 1) + _ = _; omega⟩
  refine ⟨by omega, by omega, by omega, by omega, hne, f1, f2, s1, s2, fun bs hbs => ?_⟩
  intro M3
  have t1 : M3.s (16 * t + i1) = (HSlot.new u1 (16 * t + i1) (y : Int)).withBytes bs := Mach.set_same _ _ _
  have oth : ∀ q, q ≠ 16 * t + i1 → M3.s q = M2.s q := fun q hq => Mach.set_other _ _ hq
  have fr : ∀ q, (M3.s q).full = (M2.s q).full ∧ (M3.s q).uses = (M2.s q).uses := fun q => by
    by_cases e : q = 16 * t + i1
    · rw [e, t1, s1]; exact ⟨rfl, rfl⟩
    · rw [oth q e]; exact ⟨rfl, rfl⟩
  have fd : ∀ x, M3.find t x = M2.find t x := fun x => find_congr (M := M2) (M' := M3) rfl (fun k _ => by rw [(fr _).1, handle_congr (fr _).2])
  refine ⟨(fd _).trans f1, (fd _).trans f2, fun x x1 x2 => ?_⟩
  have f0 : M3.find t x = M0.find t x := by
    rw [fd, e2, eu2]
    rw [find_other (M := M1) (by omega) (by omega) b2 rfl (fun h => x2 (by rw [eu2]; exact h.2)), e1, eu1]
    exact find_other (M := M0) hs a1 a2 rfl (fun h => x1 (by rw [eu1]; exact h.2))
  unfold readR
  rw [f0]
  cases hf : M0.find t x with
  | none => rfl
  | some k =>
    obtain ⟨_, hfull⟩ := find_lt hf
    have keep : ∀ q, (M0.s q).full = true → M3.s q = M0.s q := fun q hq => by
      have q1 : q ≠ 16 * t + i1 := fun e => by rw [e, a2] at hq; cases hq
      have q2 : q ≠ 16 * t + i2 := fun e => by rw [e, b2'] at hq; cases hq
      rw [oth q q1, e2, Mach.set_other _ _ q2, e1, Mach.set_other _ _ q1]
    obtain ⟨r, r1, _, r3, _⟩ := inv.top _ hfull
    have kp := keep _ hfull
    have kr := keep _ r3
    show M3.read (16 * t + k) 0 1 = M0.read (16 * t + k) 0 1
    unfold Mach.read Mach.part
    rw [kp, r1]
    have : (r : Int).toNat = r := rfl
    rw [this, kr]

end Go.Proofs.Ytkjjamigaamllaa
