/-
  A root, and what is derived from it, in a house that has begun: plain facts of the machine. No program is named here.
-/
import Derived.Test.YtkjjamigaamllaaKeepEchoPure
import Derived.Test.YtkjjamigaamllaaJoinPlay
namespace Go.Proofs.Ytkjjamigaamllaa
open Go.RowKit
set_option linter.unusedSimpArgs false

structure Nar (M : Mach) (F off long may : Nat) (bs : List Int) : Prop where
  s0 : M.s 0 = (HSlot.new 1 0 (F : Int)).withBytes bs
  s1 : M.s 1 = ⟨1, true, 0, 0, (off : Int), (long : Int), (may : Int), []⟩
  oth : ∀ q, 2 ≤ q → M.s q = HSlot.none 0
  len : bs.length = F

theorem nar_alloc {nt ns nc F : Nat} (hns : 1 ≤ ns) (h1 : 1 ≤ F) (h2 : F ≤ 8 * nc) (h3 : nc ≤ 32) : StepQ (bM3 nt ns nc) 0 1 0 0 (F : Int) 0 0 ⟨#[]⟩ 0 (twoW 16) ((bM3 nt ns nc).set 0 (HSlot.new 1 0 (F : Int))) := by
  have ht : (bM3 nt ns nc).taken 0 = 0 := sumN_none _ (fun k _ => by simp [bM3, HSlot.none, chunksN])
  have hn : (bM3 nt ns nc).next 0 = some 0 := firstN_some (by show 0 < ns; omega) (by simp [bM3, HSlot.none]) (fun k hk => by omega)
  have q := q_alloc (M := bM3 nt ns nc) (t := 0) (n := 0) (l := (F : Int)) (by omega) (by rw [ht]; show ¬ nc < 0 + chunksN F; unfold chunksN; omega) hn
  exact q
theorem nar_find16 {M : Mach} (ok : M.Ok) (hns : 1 ≤ M.ns) (h : (M.s 0).full = true) (hu : (M.s 0).uses = 2) : M.find 0 16 = some 0 :=
  (find_iff ok).2 ⟨by omega, h, by rw [handle_mod (by omega)]; show 16 * (((M.s 0).uses : Int) - 1) + 0 = 16; rw [hu]; rfl⟩
theorem nar_derive {nt ns nc F off long may : Nat} (ok : ((bM3 nt ns nc).set 0 (HSlot.new 1 0 (F : Int))).Ok) (hns : 1 ≤ ns) (h1 : off + long ≤ F) (h2 : may ≤ 7) :
    (ns = 1 ∧ StepQ ((bM3 nt ns nc).set 0 (HSlot.new 1 0 (F : Int))) 0 5 16 (off : Int) (long : Int) (may : Int) 0 ⟨#[]⟩ 8 nilS ((bM3 nt ns nc).set 0 (HSlot.new 1 0 (F : Int)))) ∨
    (2 ≤ ns ∧ ∃ M2, StepQ ((bM3 nt ns nc).set 0 (HSlot.new 1 0 (F : Int))) 0 5 16 (off : Int) (long : Int) (may : Int) 0 ⟨#[]⟩ 0 (twoW 1) M2 ∧ Nar M2 F off long may (List.replicate F 0)) := by
  have hf := nar_find16 ok hns rfl rfl
  have hsh : shareB 7 (may : Int) = true := by
    obtain rfl | rfl | rfl | rfl | rfl | rfl | rfl | rfl : may = 0 ∨ may = 1 ∨ may = 2 ∨ may = 3 ∨ may = 4 ∨ may = 5 ∨ may = 6 ∨ may = 7 := by omega
    all_goals decide
  have q := q_derive (M := (bM3 nt ns nc).set 0 (HSlot.new 1 0 (F : Int))) (t := 0) (n := 0) (o := (off : Int)) (l := (long : Int)) (r := (may : Int)) hf hsh (by show ¬ (F : Int) < (off : Int) + (long : Int); omega)
  have b1 : ((bM3 nt ns nc).set 0 (HSlot.new 1 0 (F : Int))).s 1 = HSlot.none 0 := by rw [Mach.set_other _ _ (by decide)]; rfl
  by_cases h : ns = 1
  · have hn : ((bM3 nt ns nc).set 0 (HSlot.new 1 0 (F : Int))).next 0 = none := firstN_none (fun k hk => by
      have hk : k < ns := hk
      obtain rfl : k = 0 := by omega
      rfl)
    obtain ⟨e1, e2, e3⟩ := lay_no hn (16 * 0 + 0) ((((bM3 nt ns nc).set 0 (HSlot.new 1 0 (F : Int))).s (16 * 0 + 0)).first + (off : Int)) (long : Int) (may : Int)
    rw [e1, e2, e3] at q
    exact Or.inl ⟨h, q⟩
  · have hn : ((bM3 nt ns nc).set 0 (HSlot.new 1 0 (F : Int))).next 0 = some 1 := firstN_some (by show 1 < ns; omega) (by
      show (!(((bM3 nt ns nc).set 0 (HSlot.new 1 0 (F : Int))).s 1).full && _) = true
      rw [b1]; rfl) (fun k hk => by
      obtain rfl : k = 0 := by omega
      rfl)
    obtain ⟨e1, e2, e3⟩ := lay_yes hn (16 * 0 + 0) ((((bM3 nt ns nc).set 0 (HSlot.new 1 0 (F : Int))).s (16 * 0 + 0)).first + (off : Int)) (long : Int) (may : Int)
    rw [e1, e2, e3] at q
    have b1' : ((bM3 nt ns nc).set 0 (HSlot.new 1 0 (F : Int))).s (16 * 0 + 1) = HSlot.none 0 := b1
    rw [b1'] at q
    refine Or.inr ⟨by omega, _, q, ?_, ?_, fun k hk => ?_, by simp⟩
    · rw [Mach.set_other _ _ (by decide), Mach.set_same]
      rfl
    · show (Mach.set _ 1 _).s 1 = _
      rw [Mach.set_same]
      show (⟨0 + 1, true, ((16 * 0 + 0 : Nat) : Int), ((0 : Nat) : Int), 0 + (off : Int), (long : Int), (may : Int), []⟩ : HSlot) = _
      rw [Int.zero_add]
      rfl
    · rw [Mach.set_other _ _ (by omega), Mach.set_other _ _ (by omega)]
      show HSlot.none (if k = 0 then 1 else 0) = _
      rw [if_neg (by omega)]
theorem Nar.find {M : Mach} {F off long may : Nat} {bs : List Int} (N : Nar M F off long may bs) (ok : M.Ok) (hns : 2 ≤ M.ns) : M.find 0 1 = some 1 ∧ M.find 0 16 = some 0 := by
  refine ⟨(find_iff ok).2 ⟨by omega, by show (M.s 1).full = true; rw [N.s1], ?_⟩, nar_find16 ok (by omega) (by rw [N.s0]; rfl) (by rw [N.s0]; rfl)⟩
  rw [handle_mod (by omega)]
  show 16 * (((M.s 1).uses : Int) - 1) + 1 = 1
  rw [N.s1]
  rfl
theorem Nar.write {M : Mach} {F off long may : Nat} {bs : List Int} (N : Nar M F off long may bs) (at' : Nat) (d : ByteArray) :
    M.writeE 1 (at' : Int) d = (if (may : Int) / 2 % 2 = 0 then 5 else if (long : Int) < (at' : Int) + (d.size : Int) then 6 else 0) ∧ ∃ bs2, Nar (M.write 1 (at' : Int) d) F off long may bs2 := by
  refine ⟨by unfold Mach.writeE; rw [N.s1], ?_⟩
  unfold Mach.write
  split
  · have e1 : (M.s 1).root.toNat = 0 := by rw [N.s1]; rfl
    rw [e1, N.s0]
    refine ⟨spl bs ((M.s 1).first + (at' : Int)).toNat d d.size, ?_, ?_, fun q hq => ?_, by rw [spl_len]; exact N.len⟩
    · rw [Mach.set_same]; rfl
    · rw [Mach.set_other _ _ (by decide)]; exact N.s1
    · rw [Mach.set_other _ _ (by omega)]; exact N.oth q hq
  · exact ⟨bs, N⟩
theorem Nar.read {M : Mach} {F off long may : Nat} {bs : List Int} (N : Nar M F off long may bs) (h1 : off + long ≤ F) (at' k : Nat) :
    ((may : Int) % 2 = 0 → M.read 1 (at' : Int) (k : Int) = (5, nilS)) ∧ (¬ (may : Int) % 2 = 0 → (64 < k ∨ long < at' + k) → M.read 1 (at' : Int) (k : Int) = (6, nilS)) ∧
    (¬ (may : Int) % 2 = 0 → ¬ (64 < k ∨ long < at' + k) → ∃ m, m.size = k ∧ M.read 1 (at' : Int) (k : Int) = (0, m) ∧ M.read 0 ((off : Int) + (at' : Int)) (k : Int) = (0, m)) := by
  unfold Mach.read
  refine ⟨fun h => by rw [N.s1, if_pos h], fun h h2 => by rw [N.s1, if_neg h, if_pos (by show (64 : Int) < (k : Int) ∨ (long : Int) < (at' : Int) + (k : Int); omega)], fun h h2 => ⟨strOfNums (M.part 1 (at' : Int) (k : Int)), ?_, ?_, ?_⟩⟩
  · rw [strOfNums_size]
    unfold Mach.part
    rw [List.length_take, List.length_drop, N.s1]
    show min (k : Int).toNat ((M.s (0 : Int).toNat).bytes.length - ((off : Int) + (at' : Int)).toNat) = k
    have e0 : (M.s (0 : Int).toNat).bytes.length = F := by show (M.s 0).bytes.length = F; rw [N.s0]; exact N.len
    rw [e0]
    omega
  · rw [N.s1, if_neg h, if_neg (by show ¬ ((64 : Int) < (k : Int) ∨ (long : Int) < (at' : Int) + (k : Int)); omega)]
  · rw [N.s0]
    rw [if_neg (by show ¬ (7 : Int) % 2 = 0; decide), if_neg (by show ¬ ((64 : Int) < (k : Int) ∨ (F : Int) < (off : Int) + (at' : Int) + (k : Int)); omega)]
    have e : M.part 0 ((off : Int) + (at' : Int)) (k : Int) = M.part 1 (at' : Int) (k : Int) := by
      unfold Mach.part
      rw [N.s1, N.s0]
      show ((M.s (0 : Int).toNat).bytes.drop (0 + ((off : Int) + (at' : Int))).toNat).take _ = ((M.s (0 : Int).toNat).bytes.drop ((off : Int) + (at' : Int)).toNat).take _
      rw [Int.zero_add]
    rw [e]
theorem Nar.derive {M : Mach} {F off long may : Nat} {bs : List Int} (N : Nar M F off long may bs) (ok : M.Ok) (hns : 2 ≤ M.ns) (at' k more : Nat) (hmay : may ≤ 7) (hmore : more ≤ 7) :
    (((may : Int) / 4 = 0 ∨ ((may : Int) / 4 = 1 ∧ (bits BinOp.and IntKind.i64 (more : Int) (may : Int) == (more : Int)) = false)) → StepQ M 0 5 1 (at' : Int) (k : Int) (more : Int) 0 ⟨#[]⟩ 5 nilS M) ∧
    (shareB (may : Int) (more : Int) = true → (long : Int) < (at' : Int) + (k : Int) → StepQ M 0 5 1 (at' : Int) (k : Int) (more : Int) 0 ⟨#[]⟩ 6 nilS M) ∧
    (shareB (may : Int) (more : Int) = true → ¬ (long : Int) < (at' : Int) + (k : Int) → M.ns = 2 → StepQ M 0 5 1 (at' : Int) (k : Int) (more : Int) 0 ⟨#[]⟩ 8 nilS M) ∧
    (shareB (may : Int) (more : Int) = true → ¬ (long : Int) < (at' : Int) + (k : Int) → M.ns ≠ 2 → ∃ M', StepQ M 0 5 1 (at' : Int) (k : Int) (more : Int) 0 ⟨#[]⟩ 0 (twoW 2) M' ∧ M'.s 1 = M.s 1 ∧ M'.find 0 1 = some 1) := by
  obtain ⟨f1, _⟩ := N.find ok hns
  have hs := ok.ns
  have hr : (M.s (16 * 0 + 1)).rights = (may : Int) := by show (M.s 1).rights = _; rw [N.s1]
  have hl : (M.s (16 * 0 + 1)).len = (long : Int) := by show (M.s 1).len = _; rw [N.s1]
  refine ⟨fun h => q_deriveNo f1 (by
      rw [hr]
      intro hsh
      obtain ⟨a1, a2⟩ := share_yes (by omega) hmay hsh
      rcases h with h | ⟨_, h⟩
      · have : bits BinOp.and IntKind.i64 (may : Int) 4 = 0 := four_no hmay (by omega)
        rw [a2] at this
        exact absurd this (by decide)
      · rw [a1] at h
        simp at h), fun h h2 => q_deriveFar f1 (by rw [hr]; exact h) (by rw [hl]; exact h2), fun h h2 h3 => ?_, fun h h2 h3 => ?_⟩
  · have q := q_derive (o := (at' : Int)) (l := (k : Int)) (r := (more : Int)) f1 (by rw [hr]; exact h) (by rw [hl]; exact h2)
    have hn : M.next 0 = none := firstN_none (fun j hj => by
      obtain rfl | rfl : j = 0 ∨ j = 1 := by omega
      · show (!(M.s 0).full && _) = false
        rw [N.s0]; rfl
      · show (!(M.s 1).full && _) = false
        rw [N.s1]; rfl)
    obtain ⟨e1, e2, e3⟩ := lay_no hn (16 * 0 + 1) ((M.s (16 * 0 + 1)).first + (at' : Int)) (k : Int) (more : Int)
    rw [e1, e2, e3] at q
    exact q
  · have q := q_derive (o := (at' : Int)) (l := (k : Int)) (r := (more : Int)) f1 (by rw [hr]; exact h) (by rw [hl]; exact h2)
    have hn : M.next 0 = some 2 := firstN_some (by omega) (by
      show (!(M.s 2).full && decide ((M.s 2).uses ≤ 4095)) = true
      rw [N.oth 2 (by omega)]; rfl) (fun j hj => by
      obtain rfl | rfl : j = 0 ∨ j = 1 := by omega
      · show (!(M.s 0).full && _) = false
        rw [N.s0]; rfl
      · show (!(M.s 1).full && _) = false
        rw [N.s1]; rfl)
    obtain ⟨e1, e2, e3⟩ := lay_yes hn (16 * 0 + 1) ((M.s (16 * 0 + 1)).first + (at' : Int)) (k : Int) (more : Int)
    rw [e1, e2, e3] at q
    have e4 : (M.s (16 * 0 + 2)).uses = 0 := by show (M.s 2).uses = 0; rw [N.oth 2 (by omega)]; rfl
    rw [e4] at q
    refine ⟨_, q, Mach.set_other _ _ (by decide), ?_⟩
    rw [find_other hs (by omega) (by show (M.s 2).full = false; rw [N.oth 2 (by omega)]; rfl) rfl (fun hh => by rw [e4] at hh; have := hh.2; omega)]
    exact f1

end Go.Proofs.Ytkjjamigaamllaa
