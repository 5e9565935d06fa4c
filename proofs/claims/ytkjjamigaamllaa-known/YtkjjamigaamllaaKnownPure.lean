/-
  The document's examples, one behind the other, as steps of the machine. (Written by mkknown.py.)
-/
import Derived.Test.YtkjjamigaamllaaKeepPure
namespace Go.Proofs.Ytkjjamigaamllaa
open Go.RowKit
set_option linter.unusedSimpArgs false

def kbs : List Int := [0, 0, 0, 0, 0, 0, 0, 0, 97, 98]
def kk0 : Mach := Mach.new 2 3 4
def kk1 : Mach := kk0.set 0 ⟨1, true, -1, 0, 0, 10, 7, [0, 0, 0, 0, 0, 0, 0, 0, 0, 0]⟩
def kk2 : Mach := kk1.set 0 ⟨1, true, -1, 0, 0, 10, 7, kbs⟩
def kk3 : Mach := kk2.set 0 ⟨1, true, -1, 0, 0, 10, 7, kbs⟩
def kk4 : Mach := kk3.set 1 ⟨1, true, 0, 0, 8, 2, 5, []⟩
def kk5 : Mach := kk4.set 16 ⟨1, true, 1, 0, 8, 2, 5, []⟩
def kk6 : Mach := (kk5.set 1 (HSlot.none 1)).set 16 (HSlot.none 1)
def kk7 : Mach := kk6.set 1 ⟨2, true, 0, 0, 0, 10, 7, []⟩
def kk8 : Mach := (kk7.set 0 (HSlot.none 1)).set 1 (HSlot.none 2)
def kk9 : Mach := kk8.set 0 ⟨2, true, -1, 0, 0, 32, 7, List.replicate 32 0⟩
def exM : Nat → Mach
  | 0 => kk0
  | 1 => kk1
  | 2 => kk1
  | 3 => kk1
  | 4 => kk1
  | 5 => kk1
  | 6 => kk2
  | 7 => kk2
  | 8 => kk2
  | 9 => kk3
  | 10 => kk4
  | 11 => kk4
  | 12 => kk4
  | 13 => kk4
  | 14 => kk4
  | 15 => kk4
  | 16 => kk5
  | 17 => kk5
  | 18 => kk5
  | 19 => kk6
  | 20 => kk6
  | 21 => kk6
  | 22 => kk7
  | 23 => kk7
  | 24 => kk8
  | 25 => kk8
  | 26 => kk9
  | _ => kk0
def exT : Nat → Nat
  | 16 => 1
  | 20 => 1
  | _ => 0
def exA : Nat → ByteArray
  | 0 => ⟨#[1, 0, 10]⟩
  | 1 => ⟨#[1, 0, 17]⟩
  | 2 => ⟨#[1, 0, 0]⟩
  | 3 => ⟨#[1, 1, 1]⟩
  | 4 => ⟨#[1, 0]⟩
  | 5 => ⟨#[4, 0, 0, 0, 8, 97, 98]⟩
  | 6 => ⟨#[3, 0, 0, 0, 7, 0, 3]⟩
  | 7 => ⟨#[3, 0, 0, 0, 8, 0, 3]⟩
  | 8 => ⟨#[4, 0, 0, 0, 10]⟩
  | 9 => ⟨#[5, 0, 0, 0, 8, 0, 2, 5]⟩
  | 10 => ⟨#[9, 0, 1]⟩
  | 11 => ⟨#[3, 0, 1, 0, 0, 0, 2]⟩
  | 12 => ⟨#[4, 0, 1, 0, 0, 122]⟩
  | 13 => ⟨#[5, 0, 1, 0, 0, 0, 1, 2]⟩
  | 14 => ⟨#[8, 0, 0]⟩
  | 15 => ⟨#[6, 0, 1, 1]⟩
  | 16 => ⟨#[3, 0, 0, 0, 0, 0, 2]⟩
  | 17 => ⟨#[6, 0, 1, 2]⟩
  | 18 => ⟨#[7, 0, 0]⟩
  | 19 => ⟨#[9, 0, 1]⟩
  | 20 => ⟨#[3, 0, 0, 0, 0, 0, 1]⟩
  | 21 => ⟨#[5, 0, 0, 0, 0, 0, 10, 7]⟩
  | 22 => ⟨#[2, 0, 17]⟩
  | 23 => ⟨#[2, 0, 0]⟩
  | 24 => ⟨#[9, 0, 17]⟩
  | 25 => ⟨#[1, 0, 32]⟩
  | _ => ⟨#[]⟩
def exG : Nat → ByteArray
  | 0 => ⟨#[0, 0, 0]⟩
  | 1 => ⟨#[7]⟩
  | 2 => ⟨#[6]⟩
  | 3 => ⟨#[6]⟩
  | 4 => ⟨#[1]⟩
  | 5 => ⟨#[0]⟩
  | 6 => ⟨#[0, 0, 97, 98]⟩
  | 7 => ⟨#[6]⟩
  | 8 => ⟨#[0]⟩
  | 9 => ⟨#[0, 0, 1]⟩
  | 10 => ⟨#[0, 0, 2, 5]⟩
  | 11 => ⟨#[0, 97, 98]⟩
  | 12 => ⟨#[5]⟩
  | 13 => ⟨#[5]⟩
  | 14 => ⟨#[9]⟩
  | 15 => ⟨#[0, 0, 0]⟩
  | 16 => ⟨#[0, 97, 98]⟩
  | 17 => ⟨#[3]⟩
  | 18 => ⟨#[0]⟩
  | 19 => ⟨#[4]⟩
  | 20 => ⟨#[4]⟩
  | 21 => ⟨#[0, 0, 17]⟩
  | 22 => ⟨#[9]⟩
  | 23 => ⟨#[0]⟩
  | 24 => ⟨#[4]⟩
  | 25 => ⟨#[0, 0, 16]⟩
  | _ => ⟨#[]⟩

theorem kk5_full {x : Nat} (h : (kk5.s x).full = true) : x = 0 ∨ x = 1 ∨ x = 16 := by
  by_cases h0 : x = 0
  · exact Or.inl h0
  by_cases h1 : x = 1
  · exact Or.inr (Or.inl h1)
  by_cases h2 : x = 16
  · exact Or.inr (Or.inr h2)
  rw [kk5, Mach.set_other _ _ h2, kk4, Mach.set_other _ _ h1, kk3, Mach.set_other _ _ h0, kk2, Mach.set_other _ _ h0, kk1, Mach.set_other _ _ h0] at h
  cases h
theorem kk7_full {x : Nat} (h : (kk7.s x).full = true) : x = 0 ∨ x = 1 := by
  by_cases h0 : x = 0
  · exact Or.inl h0
  by_cases h1 : x = 1
  · exact Or.inr h1
  rw [kk7, Mach.set_other _ _ h1, kk6] at h
  by_cases h2 : x = 16
  · subst h2; cases h
  rw [Mach.set_other _ _ h2, Mach.set_other _ _ h1] at h
  rcases kk5_full h with h | h | h
  · exact absurd h h0
  · exact absurd h h1
  · exact absurd h h2
theorem kk5_gone : Gone (Under kk5 0) kk5 kk6 := by
  have u1 : Under kk5 0 1 := .child (by decide) rfl rfl
  have u16 : Under kk5 0 16 := .deep (y := 1) (by decide) rfl rfl u1
  have n0 : ¬ Under kk5 0 0 := fun h => by
    cases h with
    | child _ _ hp => revert hp; show (-1 : Int) = _ → False; omega
    | deep _ _ hp _ => revert hp; show (-1 : Int) = _ → False; omega
  refine ⟨rfl, rfl, rfl, fun x hx => ?_, fun x hx => ?_⟩
  · rcases kk5_full hx.full.2 with rfl | rfl | rfl
    · exact absurd hx n0
    · rfl
    · rfl
  · have h1 : x ≠ 1 := fun e => hx (e ▸ u1)
    have h2 : x ≠ 16 := fun e => hx (e ▸ u16)
    rw [kk6, Mach.set_other _ _ h2, Mach.set_other _ _ h1]
theorem kk7_gone : Gone (fun x => x = 0 ∨ Under kk7 0 x) kk7 kk8 := by
  have u1 : Under kk7 0 1 := .child (by decide) rfl rfl
  refine ⟨rfl, rfl, rfl, fun x hx => ?_, fun x hx => ?_⟩
  · have hf : (kk7.s x).full = true := by
      rcases hx with rfl | hx
      · rfl
      · exact hx.full.2
    rcases kk7_full hf with rfl | rfl
    · rfl
    · rfl
  · have h1 : x ≠ 1 := fun e => hx (Or.inr (e ▸ u1))
    have h0 : x ≠ 0 := fun e => hx (Or.inl e)
    rw [kk8, Mach.set_other _ _ h1, Mach.set_other _ _ h0]

def StepG (M : Mach) (t : Nat) (s g : ByteArray) (M' : Mach) : Prop := ∃ er m, StepS M t s er m M' ∧ g = oneC er ++ m
theorem stepG_req {M M' : Mach} {t : Nat} {s g : ByteArray} (op x o l r to : Int) (d : ByteArray) (er : Int) (m : ByteArray) (hok : okB op x o l r to d.size = true) (hs : s = bodyS op x o l r to d) (hg : g = oneC er ++ m) (q : StepQ M t op x o l r to d er m M') : StepG M t s g M' :=
  ⟨er, m, by rw [hs]; exact (stepS_body hok).2 q, hg⟩
theorem ex_0 : StepG kk0 0 ⟨#[1, 0, 10]⟩ ⟨#[0, 0, 0]⟩ kk1 := by
  refine stepG_req 1 0 0 10 0 0 ⟨#[]⟩ 0 ⟨#[0, 0]⟩ (by decide) (by kernel_rfl) (by kernel_rfl) ?_
  exact Or.inl ⟨rfl, by kernel_rfl, by kernel_rfl, by kernel_rfl⟩
theorem ex_1 : StepG kk1 0 ⟨#[1, 0, 17]⟩ ⟨#[7]⟩ kk1 := by
  refine stepG_req 1 0 0 17 0 0 ⟨#[]⟩ 7 nilS (by decide) (by kernel_rfl) (by kernel_rfl) ?_
  exact Or.inl ⟨rfl, by kernel_rfl, by kernel_rfl, by kernel_rfl⟩
theorem ex_2 : StepG kk1 0 ⟨#[1, 0, 0]⟩ ⟨#[6]⟩ kk1 := by
  refine stepG_req 1 0 0 0 0 0 ⟨#[]⟩ 6 nilS (by decide) (by kernel_rfl) (by kernel_rfl) ?_
  exact Or.inl ⟨rfl, by kernel_rfl, by kernel_rfl, by kernel_rfl⟩
theorem ex_3 : StepG kk1 0 ⟨#[1, 1, 1]⟩ ⟨#[6]⟩ kk1 := by
  refine stepG_req 1 0 0 257 0 0 ⟨#[]⟩ 6 nilS (by decide) (by kernel_rfl) (by kernel_rfl) ?_
  exact Or.inl ⟨rfl, by kernel_rfl, by kernel_rfl, by kernel_rfl⟩
theorem ex_4 : StepG kk1 0 ⟨#[1, 0]⟩ ⟨#[1]⟩ kk1 := by
  exact ⟨1, nilS, Or.inl ⟨by kernel_rfl, rfl, rfl, rfl⟩, by kernel_rfl⟩
theorem ex_5 : StepG kk1 0 ⟨#[4, 0, 0, 0, 8, 97, 98]⟩ ⟨#[0]⟩ kk2 := by
  refine stepG_req 4 0 8 0 0 0 ⟨#[97, 98]⟩ 0 nilS (by decide) (by kernel_rfl) (by kernel_rfl) ?_
  exact Or.inr (Or.inr ⟨by decide, 0, by kernel_rfl, Or.inr (Or.inr (Or.inl ⟨rfl, by kernel_rfl, rfl, by kernel_rfl⟩))⟩)
theorem ex_6 : StepG kk2 0 ⟨#[3, 0, 0, 0, 7, 0, 3]⟩ ⟨#[0, 0, 97, 98]⟩ kk2 := by
  refine stepG_req 3 0 7 3 0 0 ⟨#[]⟩ 0 ⟨#[0, 97, 98]⟩ (by decide) (by kernel_rfl) (by kernel_rfl) ?_
  exact Or.inr (Or.inr ⟨by decide, 0, by kernel_rfl, Or.inr (Or.inl ⟨rfl, by kernel_rfl, by kernel_rfl, rfl⟩)⟩)
theorem ex_7 : StepG kk2 0 ⟨#[3, 0, 0, 0, 8, 0, 3]⟩ ⟨#[6]⟩ kk2 := by
  refine stepG_req 3 0 8 3 0 0 ⟨#[]⟩ 6 nilS (by decide) (by kernel_rfl) (by kernel_rfl) ?_
  exact Or.inr (Or.inr ⟨by decide, 0, by kernel_rfl, Or.inr (Or.inl ⟨rfl, by kernel_rfl, by kernel_rfl, rfl⟩)⟩)
theorem ex_8 : StepG kk2 0 ⟨#[4, 0, 0, 0, 10]⟩ ⟨#[0]⟩ kk3 := by
  refine stepG_req 4 0 10 0 0 0 ⟨#[]⟩ 0 nilS (by decide) (by kernel_rfl) (by kernel_rfl) ?_
  exact Or.inr (Or.inr ⟨by decide, 0, by kernel_rfl, Or.inr (Or.inr (Or.inl ⟨rfl, by kernel_rfl, rfl, by kernel_rfl⟩))⟩)
theorem ex_9 : StepG kk3 0 ⟨#[5, 0, 0, 0, 8, 0, 2, 5]⟩ ⟨#[0, 0, 1]⟩ kk4 := by
  refine stepG_req 5 0 8 2 5 0 ⟨#[]⟩ 0 ⟨#[0, 1]⟩ (by decide) (by kernel_rfl) (by kernel_rfl) ?_
  exact Or.inr (Or.inr ⟨by decide, 0, by kernel_rfl, Or.inr (Or.inr (Or.inr (Or.inl ⟨rfl, Or.inr (Or.inr ⟨by kernel_rfl, by decide, by kernel_rfl, by kernel_rfl, by kernel_rfl⟩)⟩)))⟩)
theorem ex_10 : StepG kk4 0 ⟨#[9, 0, 1]⟩ ⟨#[0, 0, 2, 5]⟩ kk4 := by
  refine stepG_req 9 1 0 0 0 0 ⟨#[]⟩ 0 ⟨#[0, 2, 5]⟩ (by decide) (by kernel_rfl) (by kernel_rfl) ?_
  exact Or.inr (Or.inr ⟨by decide, 1, by kernel_rfl, Or.inr (Or.inr (Or.inr (Or.inr (Or.inr (Or.inr (Or.inr ⟨rfl, rfl, by kernel_rfl, rfl⟩))))))⟩)
theorem ex_11 : StepG kk4 0 ⟨#[3, 0, 1, 0, 0, 0, 2]⟩ ⟨#[0, 97, 98]⟩ kk4 := by
  refine stepG_req 3 1 0 2 0 0 ⟨#[]⟩ 0 ⟨#[97, 98]⟩ (by decide) (by kernel_rfl) (by kernel_rfl) ?_
  exact Or.inr (Or.inr ⟨by decide, 1, by kernel_rfl, Or.inr (Or.inl ⟨rfl, by kernel_rfl, by kernel_rfl, rfl⟩)⟩)
theorem ex_12 : StepG kk4 0 ⟨#[4, 0, 1, 0, 0, 122]⟩ ⟨#[5]⟩ kk4 := by
  refine stepG_req 4 1 0 0 0 0 ⟨#[122]⟩ 5 nilS (by decide) (by kernel_rfl) (by kernel_rfl) ?_
  exact Or.inr (Or.inr ⟨by decide, 1, by kernel_rfl, Or.inr (Or.inr (Or.inl ⟨rfl, by kernel_rfl, rfl, by kernel_rfl⟩))⟩)
theorem ex_13 : StepG kk4 0 ⟨#[5, 0, 1, 0, 0, 0, 1, 2]⟩ ⟨#[5]⟩ kk4 := by
  refine stepG_req 5 1 0 1 2 0 ⟨#[]⟩ 5 nilS (by decide) (by kernel_rfl) (by kernel_rfl) ?_
  exact Or.inr (Or.inr ⟨by decide, 1, by kernel_rfl, Or.inr (Or.inr (Or.inr (Or.inl ⟨rfl, Or.inl ⟨by decide, rfl, rfl, rfl⟩⟩)))⟩)
theorem ex_14 : StepG kk4 0 ⟨#[8, 0, 0]⟩ ⟨#[9]⟩ kk4 := by
  refine stepG_req 8 0 0 0 0 0 ⟨#[]⟩ 9 nilS (by decide) (by kernel_rfl) (by kernel_rfl) ?_
  exact Or.inr (Or.inr ⟨by decide, 0, by kernel_rfl, Or.inr (Or.inr (Or.inr (Or.inr (Or.inr (Or.inr (Or.inl ⟨rfl, Or.inl ⟨rfl, rfl, rfl, rfl⟩⟩))))))⟩)
theorem ex_15 : StepG kk4 0 ⟨#[6, 0, 1, 1]⟩ ⟨#[0, 0, 0]⟩ kk5 := by
  refine stepG_req 6 1 0 0 0 1 ⟨#[]⟩ 0 ⟨#[0, 0]⟩ (by decide) (by kernel_rfl) (by kernel_rfl) ?_
  exact Or.inr (Or.inr ⟨by decide, 1, by kernel_rfl, Or.inr (Or.inr (Or.inr (Or.inr (Or.inl ⟨rfl, Or.inr (Or.inr ⟨by kernel_rfl, by decide, by kernel_rfl, by kernel_rfl, by kernel_rfl⟩)⟩))))⟩)
theorem ex_16 : StepG kk5 1 ⟨#[3, 0, 0, 0, 0, 0, 2]⟩ ⟨#[0, 97, 98]⟩ kk5 := by
  refine stepG_req 3 0 0 2 0 0 ⟨#[]⟩ 0 ⟨#[97, 98]⟩ (by decide) (by kernel_rfl) (by kernel_rfl) ?_
  exact Or.inr (Or.inr ⟨by decide, 0, by kernel_rfl, Or.inr (Or.inl ⟨rfl, by kernel_rfl, by kernel_rfl, rfl⟩)⟩)
theorem ex_17 : StepG kk5 0 ⟨#[6, 0, 1, 2]⟩ ⟨#[3]⟩ kk5 := by
  refine stepG_req 6 1 0 0 0 2 ⟨#[]⟩ 3 nilS (by decide) (by kernel_rfl) (by kernel_rfl) ?_
  exact Or.inr (Or.inr ⟨by decide, 1, by kernel_rfl, Or.inr (Or.inr (Or.inr (Or.inr (Or.inl ⟨rfl, Or.inr (Or.inl ⟨by kernel_rfl, by decide, rfl, rfl, rfl⟩)⟩))))⟩)
theorem ex_18 : StepG kk5 0 ⟨#[7, 0, 0]⟩ ⟨#[0]⟩ kk6 := by
  refine stepG_req 7 0 0 0 0 0 ⟨#[]⟩ 0 nilS (by decide) (by kernel_rfl) (by kernel_rfl) ?_
  exact Or.inr (Or.inr ⟨by decide, 0, by kernel_rfl, Or.inr (Or.inr (Or.inr (Or.inr (Or.inr (Or.inl ⟨rfl, rfl, rfl, kk5_gone⟩)))))⟩)
theorem ex_19 : StepG kk6 0 ⟨#[9, 0, 1]⟩ ⟨#[4]⟩ kk6 := by
  refine stepG_req 9 1 0 0 0 0 ⟨#[]⟩ 4 nilS (by decide) (by kernel_rfl) (by kernel_rfl) ?_
  exact Or.inr (Or.inl ⟨by decide, by kernel_rfl, rfl, rfl, rfl⟩)
theorem ex_20 : StepG kk6 1 ⟨#[3, 0, 0, 0, 0, 0, 1]⟩ ⟨#[4]⟩ kk6 := by
  refine stepG_req 3 0 0 1 0 0 ⟨#[]⟩ 4 nilS (by decide) (by kernel_rfl) (by kernel_rfl) ?_
  exact Or.inr (Or.inl ⟨by decide, by kernel_rfl, rfl, rfl, rfl⟩)
theorem ex_21 : StepG kk6 0 ⟨#[5, 0, 0, 0, 0, 0, 10, 7]⟩ ⟨#[0, 0, 17]⟩ kk7 := by
  refine stepG_req 5 0 0 10 7 0 ⟨#[]⟩ 0 ⟨#[0, 17]⟩ (by decide) (by kernel_rfl) (by kernel_rfl) ?_
  exact Or.inr (Or.inr ⟨by decide, 0, by kernel_rfl, Or.inr (Or.inr (Or.inr (Or.inl ⟨rfl, Or.inr (Or.inr ⟨by kernel_rfl, by decide, by kernel_rfl, by kernel_rfl, by kernel_rfl⟩)⟩)))⟩)
theorem ex_22 : StepG kk7 0 ⟨#[2, 0, 17]⟩ ⟨#[9]⟩ kk7 := by
  refine stepG_req 2 17 0 0 0 0 ⟨#[]⟩ 9 nilS (by decide) (by kernel_rfl) (by kernel_rfl) ?_
  exact Or.inr (Or.inr ⟨by decide, 1, by kernel_rfl, Or.inl ⟨rfl, Or.inl ⟨by decide, rfl, rfl, rfl⟩⟩⟩)
theorem ex_23 : StepG kk7 0 ⟨#[2, 0, 0]⟩ ⟨#[0]⟩ kk8 := by
  refine stepG_req 2 0 0 0 0 0 ⟨#[]⟩ 0 nilS (by decide) (by kernel_rfl) (by kernel_rfl) ?_
  exact Or.inr (Or.inr ⟨by decide, 0, by kernel_rfl, Or.inl ⟨rfl, Or.inr ⟨rfl, rfl, rfl, kk7_gone⟩⟩⟩)
theorem ex_24 : StepG kk8 0 ⟨#[9, 0, 17]⟩ ⟨#[4]⟩ kk8 := by
  refine stepG_req 9 17 0 0 0 0 ⟨#[]⟩ 4 nilS (by decide) (by kernel_rfl) (by kernel_rfl) ?_
  exact Or.inr (Or.inl ⟨by decide, by kernel_rfl, rfl, rfl, rfl⟩)
theorem ex_25 : StepG kk8 0 ⟨#[1, 0, 32]⟩ ⟨#[0, 0, 16]⟩ kk9 := by
  refine stepG_req 1 0 0 32 0 0 ⟨#[]⟩ 0 ⟨#[0, 16]⟩ (by decide) (by kernel_rfl) (by kernel_rfl) ?_
  exact Or.inl ⟨rfl, by kernel_rfl, by kernel_rfl, by kernel_rfl⟩

theorem ex_step (i : Nat) (hi : i < 26) : StepG (exM i) (exT i) (exA i) (exG i) (exM (i + 1)) := by
  match i, hi with
  | 0, _ => exact ex_0
  | 1, _ => exact ex_1
  | 2, _ => exact ex_2
  | 3, _ => exact ex_3
  | 4, _ => exact ex_4
  | 5, _ => exact ex_5
  | 6, _ => exact ex_6
  | 7, _ => exact ex_7
  | 8, _ => exact ex_8
  | 9, _ => exact ex_9
  | 10, _ => exact ex_10
  | 11, _ => exact ex_11
  | 12, _ => exact ex_12
  | 13, _ => exact ex_13
  | 14, _ => exact ex_14
  | 15, _ => exact ex_15
  | 16, _ => exact ex_16
  | 17, _ => exact ex_17
  | 18, _ => exact ex_18
  | 19, _ => exact ex_19
  | 20, _ => exact ex_20
  | 21, _ => exact ex_21
  | 22, _ => exact ex_22
  | 23, _ => exact ex_23
  | 24, _ => exact ex_24
  | 25, _ => exact ex_25
  | n + 26, h => omega
theorem exT_lt (i : Nat) : exT i < 2 := by
  unfold exT
  split <;> decide
theorem ex_inv (i : Nat) (hi : i ≤ 26) : (exM i).Inv ∧ (exM i).nt = 2 ∧ (exM i).ns = 3 ∧ (exM i).nc = 4 := by
  induction i with
  | zero => exact ⟨inv_new ⟨by decide, by decide⟩ ⟨by decide, by decide⟩ ⟨by decide, by decide⟩, rfl, rfl, rfl⟩
  | succ i ih =>
    obtain ⟨a, b, c, d⟩ := ih (by omega)
    obtain ⟨er, m, h, _⟩ := ex_step i (by omega)
    obtain ⟨a2, b2, c2, d2⟩ := h.inv a (by rw [b]; exact exT_lt i)
    exact ⟨a2, b2.trans b, c2.trans c, d2.trans d⟩
/-- the chunks that tenant 0 uses in the end -/
def exC (n : Nat) : Nat := if n = 26 then 4 else if n = 25 ∨ n = 24 then 0 else 2
theorem ex_taken (n : Nat) (h1 : 1 ≤ n) (h2 : n ≤ 26) : (exM n).taken 0 = exC n := by
  match n, h1, h2 with
  | 1, _, _ => show (exM 1).taken 0 = exC 1; kernel_rfl
  | 2, _, _ => show (exM 2).taken 0 = exC 2; kernel_rfl
  | 3, _, _ => show (exM 3).taken 0 = exC 3; kernel_rfl
  | 4, _, _ => show (exM 4).taken 0 = exC 4; kernel_rfl
  | 5, _, _ => show (exM 5).taken 0 = exC 5; kernel_rfl
  | 6, _, _ => show (exM 6).taken 0 = exC 6; kernel_rfl
  | 7, _, _ => show (exM 7).taken 0 = exC 7; kernel_rfl
  | 8, _, _ => show (exM 8).taken 0 = exC 8; kernel_rfl
  | 9, _, _ => show (exM 9).taken 0 = exC 9; kernel_rfl
  | 10, _, _ => show (exM 10).taken 0 = exC 10; kernel_rfl
  | 11, _, _ => show (exM 11).taken 0 = exC 11; kernel_rfl
  | 12, _, _ => show (exM 12).taken 0 = exC 12; kernel_rfl
  | 13, _, _ => show (exM 13).taken 0 = exC 13; kernel_rfl
  | 14, _, _ => show (exM 14).taken 0 = exC 14; kernel_rfl
  | 15, _, _ => show (exM 15).taken 0 = exC 15; kernel_rfl
  | 16, _, _ => show (exM 16).taken 0 = exC 16; kernel_rfl
  | 17, _, _ => show (exM 17).taken 0 = exC 17; kernel_rfl
  | 18, _, _ => show (exM 18).taken 0 = exC 18; kernel_rfl
  | 19, _, _ => show (exM 19).taken 0 = exC 19; kernel_rfl
  | 20, _, _ => show (exM 20).taken 0 = exC 20; kernel_rfl
  | 21, _, _ => show (exM 21).taken 0 = exC 21; kernel_rfl
  | 22, _, _ => show (exM 22).taken 0 = exC 22; kernel_rfl
  | 23, _, _ => show (exM 23).taken 0 = exC 23; kernel_rfl
  | 24, _, _ => show (exM 24).taken 0 = exC 24; kernel_rfl
  | 25, _, _ => show (exM 25).taken 0 = exC 25; kernel_rfl
  | 26, _, _ => show (exM 26).taken 0 = exC 26; kernel_rfl
  | n + 27, _, h => omega

end Go.Proofs.Ytkjjamigaamllaa
