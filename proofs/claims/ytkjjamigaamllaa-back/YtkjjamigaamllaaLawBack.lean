/-
  The law Back, walked.
-/
import Derived.Test.YtkjjamigaamllaaBackMath
import Derived.Test.YtkjjamigaamllaaBackReqLong
import Derived.Test.YtkjjamigaamllaaBackReqShort
namespace Go.Proofs.Ytkjjamigaamllaa
open Go.RowKit
set_option linter.unusedSimpArgs false

theorem request_any (c : Int) (a : Option Addr) (len cap : Nat) (zs : List Int) (s : ByteArray) (w : World) (hc : inR c) (hrow : IsRow .i64 w a len cap zs) (hs : s.size ≤ 140737488355328) (hlen : len ≤ 140737488355328) :
    Calls Try.prog 25 #[.int .i64 c, .slice a len cap, .string s] w
      fun e w' => ∃ (op h o l r t : Int) (d : ByteArray), e = .returned (.tuple #[.agg #[.int .i64 op, .int .i64 h, .int .i64 o, .int .i64 l, .int .i64 r, .int .i64 t, .string d], .int .i64 ((bodyS op h o l r t d).size : Int)]) ∧ okB op h o l r t d.size = true ∧ Below w.heap.size w w' := by
  by_cases h : 64 < s.size
  · exact request_long c a len cap zs s w hc hrow hs hlen h
  · exact request_short c a len cap zs s w hc hrow hs hlen h

theorem enc_ok {op h o l r t : Int} {d : ByteArray} (hok : okB op h o l r t d.size = true) (w : World) :
    Calls Try.prog 15 #[.agg #[.int .i64 op, .int .i64 h, .int .i64 o, .int .i64 l, .int .i64 r, .int .i64 t, .string d]] w
      fun e w' => e = .returned (.tuple #[.string (bodyS op h o l r t d), .int .i64 0]) ∧ Below w.heap.size w w' := by
  have hd := data_le hok
  have hd2 := (sh_bd op).2.2.2.2.2
  have := enc_any op h o l r t d w (by omega)
  unfold encS encE at this
  rw [if_pos hok, if_pos hok] at this
  exact this

theorem body_bd {op h o l r t : Int} {d : ByteArray} (hok : okB op h o l r t d.size = true) : 3 ≤ (bodyS op h o l r t d).size ∧ (bodyS op h o l r t d).size ≤ 100 := by
  have h1 := size_body hok
  have h2 := data_le hok
  have h3 : 3 ≤ dAt op ∧ dAt op ≤ 8 ∧ shD op ≤ 64 := by rcases knw_cases (ok_known hok) with rfl | rfl | rfl | rfl | rfl | rfl | rfl | rfl | rfl <;> decide
  omega

set_option maxRecDepth 100000 in
set_option maxHeartbeats 2000000 in
theorem back_any (c : Int) (a : Option Addr) (len cap : Nat) (zs : List Int) (s : ByteArray) (w : World) (hc : inR c) (hrow : IsRow .i64 w a len cap zs) (hs : s.size ≤ 140737488355328) (hlen : len ≤ 140737488355328) :
    Calls Try.prog 9 #[.int .i64 c, .slice a len cap, .string s] w fun e w' => e = .returned (.bool true) ∧ Below w.heap.size w w' := by
  go_enter Try.func9, Try.ntmps9
  go_wp2_with fail
  refine (request_any c a len cap zs s _ hc hrow hs hlen).mono ?_
  rintro e w1 ⟨op, h, o, l, r, t, d, rfl, hok, hb1⟩
  obtain ⟨B1, B2⟩ := body_bd hok
  have kE : Hid (∀ w, Calls Try.prog 15 #[.agg #[.int .i64 op, .int .i64 h, .int .i64 o, .int .i64 l, .int .i64 r, .int .i64 t, .string d]] w fun e w' => e = .returned (.tuple #[.string (bodyS op h o l r t d), .int .i64 0]) ∧ Below w.heap.size w w') := enc_ok hok
  have kD : Hid (∀ w, Calls Try.prog 17 #[.string (bodyS op h o l r t d)] w fun e w' => e = .returned (yesV op h o l r t d) ∧ Below w.heap.size w w') := fun w => by rw [← dec_body hok]; exact dec_any _ w (by omega)
  have kC : Hid (∀ w, Calls Try.prog 17 #[.string ((bodyS op h o l r t d).extract 0 ((bodyS op h o l r t d).size - 1))] w fun e w' => e = .returned (decV ((bodyS op h o l r t d).extract 0 ((bodyS op h o l r t d).size - 1))) ∧ Below w.heap.size w w') := fun w => dec_any _ w (by simp; omega)
  have hz1 := hb1.size
  by_cases h4 : op = 4 ∧ 0 < d.size
  · obtain ⟨rfl, hd⟩ := h4
    rw [dec_cut4 hok hd] at kC
    have hdl : d.size ≤ 64 := by have := data_le hok; simp [shD] at this; omega
    have kC' : Hid (∀ w, Calls Try.prog 17 #[.string ((bodyS 4 h o l r t d).extract 0 ((bodyS 4 h o l r t d).size - 1))] w fun e w' => e = .returned (.tuple #[.agg #[.int .i64 4, .int .i64 h, .int .i64 o, .int .i64 l, .int .i64 r, .int .i64 t, .string (d.extract 0 (d.size - 1))], .int .i64 0]) ∧ Below w.heap.size w w') := kC
    have kD' : Hid (∀ w, Calls Try.prog 17 #[.string (bodyS 4 h o l r t d)] w fun e w' => e = .returned (.tuple #[.agg #[.int .i64 4, .int .i64 h, .int .i64 o, .int .i64 l, .int .i64 r, .int .i64 t, .string d], .int .i64 0]) ∧ Below w.heap.size w w') := kD
    clear kC kD hok
    have hdn : d.toList.isEmpty = false := by
      cases hx : d.toList.isEmpty with
      | false => rfl
      | true =>
        have h1 : d.toList = [] := by simpa using hx
        rw [← dnil] at h1
        subst h1
        simp at hd
    generalize bodyS 4 h o l r t d = B at *
    go_wp2_with fail
    refine (kE.out _).mono ?_
    rintro e w2 ⟨rfl, hb2⟩
    have q2 := keepRow hb2 (by simp) (newRowAt _ _)
    rw [sizeAlloc] at hb2
    have hz2 : w1.heap.size < w2.heap.size := by have hz := hb2.size; rw [sizeAlloc] at hz; omega
    have qc2 := rowCell q2
    have BB2 := (hb1.alloc (by omega) _).trans (hb2.mono (by omega))
    clear hb1 hb2 kE
    go_wp2_with fail
    refine (kD'.out _).mono ?_
    rintro e w3 ⟨rfl, hb3⟩
    have q3 := keepRow hb3 (by omega) q2
    have hz3 : w1.heap.size < w3.heap.size := by have hz := hb3.size; omega
    have BB3 := BB2.trans (hb3.mono (by omega))
    have qc3 := rowCell q3
    clear hb3 kD' qc2 q2 hz2 BB2
    go_wp2_with fail
    refine (kC'.out _).mono ?_
    rintro e w4 ⟨rfl, hb4⟩
    have p4 := keepRow hb4 (by simp) (newRowAt _ _)
    have q4 := keepRow hb4 (by simp; omega) ((Below.heap_alloc _ _ _ hz3).trans q3)
    rw [sizeAlloc] at hb4
    have hz4 : w3.heap.size < w4.heap.size := by have hz := hb4.size; rw [sizeAlloc] at hz; omega
    have hz5 : w1.heap.size < w4.heap.size := by omega
    have BB4 := (BB3.alloc (by omega) _).trans (hb4.mono (by omega))
    have qc4 := rowCell q4
    have qf4 := rowFree q4
    have pc4 := rowCell p4
    have hne : w1.heap.size ≠ w3.heap.size := by omega
    clear hb4 kC' qc3 q3 BB3
    go_wp2_with fail
    go_ret
    exact ⟨rfl, (BB4.setCell (p := ⟨w1.heap.size, 6, none⟩) hz1 _).alloc (by simp only [setSize]; omega) _⟩
  · have hd0 : d.size = 0 := by
      by_cases e4 : op = 4
      · omega
      · have h1 := data_le hok
        have h2 : shD op = 0 := if_neg e4
        omega
    rw [dec_cut hok hd0] at kC
    obtain rfl := dzero hd0
    have kC' : Hid (∀ w, Calls Try.prog 17 #[.string ((bodyS op h o l r t ⟨#[]⟩).extract 0 ((bodyS op h o l r t ⟨#[]⟩).size - 1))] w fun e w' => e = .returned (.tuple #[.agg #[.int .i64 0, .int .i64 0, .int .i64 0, .int .i64 0, .int .i64 0, .int .i64 0, .string ⟨#[]⟩], .int .i64 1]) ∧ Below w.heap.size w w') := kC
    have kD' : Hid (∀ w, Calls Try.prog 17 #[.string (bodyS op h o l r t ⟨#[]⟩)] w fun e w' => e = .returned (.tuple #[.agg #[.int .i64 op, .int .i64 h, .int .i64 o, .int .i64 l, .int .i64 r, .int .i64 t, .string ⟨#[]⟩], .int .i64 0]) ∧ Below w.heap.size w w') := kD
    clear kC kD hok h4 hd0
    generalize bodyS op h o l r t ⟨#[]⟩ = B at *
    go_wp2_with fail
    refine (kE.out _).mono ?_
    rintro e w2 ⟨rfl, hb2⟩
    have q2 := keepRow hb2 (by simp) (newRowAt _ _)
    rw [sizeAlloc] at hb2
    have hz2 : w1.heap.size < w2.heap.size := by have hz := hb2.size; rw [sizeAlloc] at hz; omega
    have qc2 := rowCell q2
    have BB2 := (hb1.alloc (by omega) _).trans (hb2.mono (by omega))
    clear hb1 hb2 kE
    go_wp2_with fail
    refine (kD'.out _).mono ?_
    rintro e w3 ⟨rfl, hb3⟩
    have q3 := keepRow hb3 (by omega) q2
    have hz3 : w1.heap.size < w3.heap.size := by have hz := hb3.size; omega
    have BB3 := BB2.trans (hb3.mono (by omega))
    have qc3 := rowCell q3
    clear hb3 kD' qc2 q2 hz2 BB2
    go_wp2_with fail
    refine (kC'.out _).mono ?_
    rintro e w4 ⟨rfl, hb4⟩
    have p4 := keepRow hb4 (by simp) (newRowAt _ _)
    have q4 := keepRow hb4 (by simp; omega) ((Below.heap_alloc _ _ _ hz3).trans q3)
    rw [sizeAlloc] at hb4
    have hz4 : w3.heap.size < w4.heap.size := by have hz := hb4.size; rw [sizeAlloc] at hz; omega
    have hz5 : w1.heap.size < w4.heap.size := by omega
    have BB4 := (BB3.alloc (by omega) _).trans (hb4.mono (by omega))
    have qc4 := rowCell q4
    have qf4 := rowFree q4
    have pc4 := rowCell p4
    have hne : w1.heap.size ≠ w3.heap.size := by omega
    clear hb4 kC' qc3 q3 BB3
    go_wp2_with fail
    all_goals go_ret
    all_goals exact ⟨rfl, BB4.alloc (by omega) _⟩

end Go.Proofs.Ytkjjamigaamllaa
