/-
  The small functions of the laws without the document's answer: requests as bytes, replies looked into.
-/
import Derived.Test.YtkjjamigaamllaaStepDef
import Derived.Test.YtkjjamigaamllaaBackReq
namespace Go.Proofs.Ytkjjamigaamllaa
open Go.RowKit
set_option linter.unusedSimpArgs false

set_option maxHeartbeats 400000 in
theorem ktwo_any (n : Int) (w : World) : Calls Try.prog 41 #[.int .i64 n] w fun e w' => e = .returned (.string (twoW n)) ∧ Below w.heap.size w w' := by
  have c2 := conv2
  go_enter Try.func41, Try.ntmps41
  go_wp2
  go_ret
  exact ⟨rfl, (Below.refl _ _).alloc (Nat.le_refl _) _⟩

set_option maxHeartbeats 400000 in
theorem kone_any (n : Int) (w : World) : Calls Try.prog 35 #[.int .i64 n] w fun e w' => e = .returned (.string (oneC n)) ∧ Below w.heap.size w w' := by
  have c1 := conv1
  go_enter Try.func35, Try.ntmps35
  go_wp2
  go_ret
  exact ⟨rfl, (Below.refl _ _).alloc (Nat.le_refl _) _⟩

theorem oneC_sz (n : Int) : (oneC n).size = 1 := strOfNums_size _

/-- a request's bytes out of small numbers are those of its request -/
theorem oneC_lit {n : Int} (h0 : 0 ≤ n) (h1 : n ≤ 255) : oneC n = oneS n := by
  unfold oneC oneS
  rw [show n % 256 = n by omega]

set_option maxRecDepth 100000 in
set_option maxHeartbeats 800000 in
theorem kalloc_any (l : Int) (w : World) (hl : wd l = true) : Calls Try.prog 31 #[.int .i64 l] w fun e w' => e = .returned (.string (bodyS 1 0 0 l 0 0 ⟨#[]⟩)) ∧ Below w.heap.size w w' := by
  have s1 := twoW_size
  have s0 := oneC_sz
  have HE : Hid (bodyS 1 0 0 l 0 0 ⟨#[]⟩ = oneC 1 ++ twoW l) := by show _ = _; rw [oneC_lit (n := 1) (by decide) (by decide), twoW_eq hl]; unfold bodyS; rw [if_pos rfl]
  have HB : Hid (Below w.heap.size w w) := Below.refl _ _
  go_enter Try.func31, Try.ntmps31
  go_wp2_with fail
  refine (kone_any 1 _).mono ?_
  rintro e w1 ⟨rfl, hb⟩
  have HB1 : Hid (Below w.heap.size w w1) := HB.out.trans (hb.mono HB.out.size)
  clear hb
  go_wp2_with fail
  refine (ktwo_any l _).mono ?_
  rintro e w2 ⟨rfl, hb⟩
  have HB2 : Hid (Below w.heap.size w w2) := HB1.out.trans (hb.mono HB1.out.size)
  clear hb
  go_wp2
  go_ret
  exact ⟨by rw [HE.out]; rfl, HB2.out⟩

set_option maxRecDepth 100000 in
set_option maxHeartbeats 800000 in
theorem kfree_any (h : Int) (w : World) (hh : wd h = true) : Calls Try.prog 62 #[.int .i64 h] w fun e w' => e = .returned (.string (bodyS 2 h 0 0 0 0 ⟨#[]⟩)) ∧ Below w.heap.size w w' := by
  have s1 := twoW_size
  have s0 := oneC_sz
  have HE : Hid (bodyS 2 h 0 0 0 0 ⟨#[]⟩ = oneC 2 ++ twoW h) := by show _ = _; rw [oneC_lit (n := 2) (by decide) (by decide), twoW_eq hh]; unfold bodyS; rw [if_neg (by decide), if_neg (by decide), if_neg (by decide), if_neg (by decide), if_neg (by decide)]
  have HB : Hid (Below w.heap.size w w) := Below.refl _ _
  go_enter Try.func62, Try.ntmps62
  go_wp2_with fail
  refine (kone_any 2 _).mono ?_
  rintro e w1 ⟨rfl, hb⟩
  have HB1 : Hid (Below w.heap.size w w1) := HB.out.trans (hb.mono HB.out.size)
  clear hb
  go_wp2_with fail
  refine (ktwo_any h _).mono ?_
  rintro e w2 ⟨rfl, hb⟩
  have HB2 : Hid (Below w.heap.size w w2) := HB1.out.trans (hb.mono HB1.out.size)
  clear hb
  go_wp2
  go_ret
  exact ⟨by rw [HE.out]; rfl, HB2.out⟩

set_option maxRecDepth 100000 in
set_option maxHeartbeats 800000 in
theorem kread_any (h : Int) (o : Int) (l : Int) (w : World) (hh : wd h = true) (ho : wd o = true) (hl : wd l = true) : Calls Try.prog 30 #[.int .i64 h, .int .i64 o, .int .i64 l] w fun e w' => e = .returned (.string (bodyS 3 h o l 0 0 ⟨#[]⟩)) ∧ Below w.heap.size w w' := by
  have s1 := twoW_size
  have s0 := oneC_sz
  have HE : Hid (bodyS 3 h o l 0 0 ⟨#[]⟩ = oneC 3 ++ twoW h ++ twoW o ++ twoW l) := by show _ = _; rw [oneC_lit (n := 3) (by decide) (by decide), twoW_eq hh, twoW_eq ho, twoW_eq hl]; unfold bodyS; rw [if_neg (by decide), if_pos rfl]
  have HB : Hid (Below w.heap.size w w) := Below.refl _ _
  go_enter Try.func30, Try.ntmps30
  go_wp2_with fail
  refine (kone_any 3 _).mono ?_
  rintro e w1 ⟨rfl, hb⟩
  have HB1 : Hid (Below w.heap.size w w1) := HB.out.trans (hb.mono HB.out.size)
  clear hb
  go_wp2_with fail
  refine (ktwo_any h _).mono ?_
  rintro e w2 ⟨rfl, hb⟩
  have HB2 : Hid (Below w.heap.size w w2) := HB1.out.trans (hb.mono HB1.out.size)
  clear hb
  go_wp2_with fail
  refine (ktwo_any o _).mono ?_
  rintro e w3 ⟨rfl, hb⟩
  have HB3 : Hid (Below w.heap.size w w3) := HB2.out.trans (hb.mono HB2.out.size)
  clear hb
  go_wp2_with fail
  refine (ktwo_any l _).mono ?_
  rintro e w4 ⟨rfl, hb⟩
  have HB4 : Hid (Below w.heap.size w w4) := HB3.out.trans (hb.mono HB3.out.size)
  clear hb
  go_wp2
  go_ret
  exact ⟨by rw [HE.out]; rfl, HB4.out⟩

set_option maxRecDepth 100000 in
set_option maxHeartbeats 800000 in
theorem kwrite_any (h : Int) (o : Int) (d : ByteArray) (w : World) (hh : wd h = true) (ho : wd o = true) (_hd : d.size ≤ 64) : Calls Try.prog 33 #[.int .i64 h, .int .i64 o, .string d] w fun e w' => e = .returned (.string (bodyS 4 h o 0 0 0 d)) ∧ Below w.heap.size w w' := by
  have s1 := twoW_size
  have s0 := oneC_sz
  have HE : Hid (bodyS 4 h o 0 0 0 d = oneC 4 ++ twoW h ++ twoW o ++ d) := by show _ = _; rw [oneC_lit (n := 4) (by decide) (by decide), twoW_eq hh, twoW_eq ho]; unfold bodyS; rw [if_neg (by decide), if_neg (by decide), if_pos rfl]
  have HB : Hid (Below w.heap.size w w) := Below.refl _ _
  go_enter Try.func33, Try.ntmps33
  go_wp2_with fail
  refine (kone_any 4 _).mono ?_
  rintro e w1 ⟨rfl, hb⟩
  have HB1 : Hid (Below w.heap.size w w1) := HB.out.trans (hb.mono HB.out.size)
  clear hb
  go_wp2_with fail
  refine (ktwo_any h _).mono ?_
  rintro e w2 ⟨rfl, hb⟩
  have HB2 : Hid (Below w.heap.size w w2) := HB1.out.trans (hb.mono HB1.out.size)
  clear hb
  go_wp2_with fail
  refine (ktwo_any o _).mono ?_
  rintro e w3 ⟨rfl, hb⟩
  have HB3 : Hid (Below w.heap.size w w3) := HB2.out.trans (hb.mono HB2.out.size)
  clear hb
  go_wp2
  go_ret
  exact ⟨by rw [HE.out]; rfl, HB3.out⟩

set_option maxRecDepth 100000 in
set_option maxHeartbeats 800000 in
theorem kderive_any (h : Int) (o : Int) (l : Int) (r : Int) (w : World) (hh : wd h = true) (ho : wd o = true) (hl : wd l = true) (hr : bt r = true) : Calls Try.prog 39 #[.int .i64 h, .int .i64 o, .int .i64 l, .int .i64 r] w fun e w' => e = .returned (.string (bodyS 5 h o l r 0 ⟨#[]⟩)) ∧ Below w.heap.size w w' := by
  have s1 := twoW_size
  have s0 := oneC_sz
  have HE : Hid (bodyS 5 h o l r 0 ⟨#[]⟩ = oneC 5 ++ twoW h ++ twoW o ++ twoW l ++ oneC r) := by show _ = _; rw [oneC_lit (n := 5) (by decide) (by decide), twoW_eq hh, twoW_eq ho, twoW_eq hl, oneC_lit (n := r) (bt_iff.1 hr).1 (bt_iff.1 hr).2]; unfold bodyS; rw [if_neg (by decide), if_neg (by decide), if_neg (by decide), if_pos rfl]
  have HB : Hid (Below w.heap.size w w) := Below.refl _ _
  go_enter Try.func39, Try.ntmps39
  go_wp2_with fail
  refine (kone_any 5 _).mono ?_
  rintro e w1 ⟨rfl, hb⟩
  have HB1 : Hid (Below w.heap.size w w1) := HB.out.trans (hb.mono HB.out.size)
  clear hb
  go_wp2_with fail
  refine (ktwo_any h _).mono ?_
  rintro e w2 ⟨rfl, hb⟩
  have HB2 : Hid (Below w.heap.size w w2) := HB1.out.trans (hb.mono HB1.out.size)
  clear hb
  go_wp2_with fail
  refine (ktwo_any o _).mono ?_
  rintro e w3 ⟨rfl, hb⟩
  have HB3 : Hid (Below w.heap.size w w3) := HB2.out.trans (hb.mono HB2.out.size)
  clear hb
  go_wp2_with fail
  refine (ktwo_any l _).mono ?_
  rintro e w4 ⟨rfl, hb⟩
  have HB4 : Hid (Below w.heap.size w w4) := HB3.out.trans (hb.mono HB3.out.size)
  clear hb
  go_wp2_with fail
  refine (kone_any r _).mono ?_
  rintro e w5 ⟨rfl, hb⟩
  have HB5 : Hid (Below w.heap.size w w5) := HB4.out.trans (hb.mono HB4.out.size)
  clear hb
  go_wp2
  go_ret
  exact ⟨by rw [HE.out]; rfl, HB5.out⟩

set_option maxRecDepth 100000 in
set_option maxHeartbeats 800000 in
theorem kgrant_any (h : Int) (t : Int) (w : World) (hh : wd h = true) (ht : bt t = true) : Calls Try.prog 89 #[.int .i64 h, .int .i64 t] w fun e w' => e = .returned (.string (bodyS 6 h 0 0 0 t ⟨#[]⟩)) ∧ Below w.heap.size w w' := by
  have s1 := twoW_size
  have s0 := oneC_sz
  have HE : Hid (bodyS 6 h 0 0 0 t ⟨#[]⟩ = oneC 6 ++ twoW h ++ oneC t) := by show _ = _; rw [oneC_lit (n := 6) (by decide) (by decide), twoW_eq hh, oneC_lit (n := t) (bt_iff.1 ht).1 (bt_iff.1 ht).2]; unfold bodyS; rw [if_neg (by decide), if_neg (by decide), if_neg (by decide), if_neg (by decide), if_pos rfl]
  have HB : Hid (Below w.heap.size w w) := Below.refl _ _
  go_enter Try.func89, Try.ntmps89
  go_wp2_with fail
  refine (kone_any 6 _).mono ?_
  rintro e w1 ⟨rfl, hb⟩
  have HB1 : Hid (Below w.heap.size w w1) := HB.out.trans (hb.mono HB.out.size)
  clear hb
  go_wp2_with fail
  refine (ktwo_any h _).mono ?_
  rintro e w2 ⟨rfl, hb⟩
  have HB2 : Hid (Below w.heap.size w w2) := HB1.out.trans (hb.mono HB1.out.size)
  clear hb
  go_wp2_with fail
  refine (kone_any t _).mono ?_
  rintro e w3 ⟨rfl, hb⟩
  have HB3 : Hid (Below w.heap.size w w3) := HB2.out.trans (hb.mono HB2.out.size)
  clear hb
  go_wp2
  go_ret
  exact ⟨by rw [HE.out]; rfl, HB3.out⟩

set_option maxRecDepth 100000 in
set_option maxHeartbeats 800000 in
theorem krevoke_any (h : Int) (w : World) (hh : wd h = true) : Calls Try.prog 87 #[.int .i64 h] w fun e w' => e = .returned (.string (bodyS 7 h 0 0 0 0 ⟨#[]⟩)) ∧ Below w.heap.size w w' := by
  have s1 := twoW_size
  have s0 := oneC_sz
  have HE : Hid (bodyS 7 h 0 0 0 0 ⟨#[]⟩ = oneC 7 ++ twoW h) := by show _ = _; rw [oneC_lit (n := 7) (by decide) (by decide), twoW_eq hh]; unfold bodyS; rw [if_neg (by decide), if_neg (by decide), if_neg (by decide), if_neg (by decide), if_neg (by decide)]
  have HB : Hid (Below w.heap.size w w) := Below.refl _ _
  go_enter Try.func87, Try.ntmps87
  go_wp2_with fail
  refine (kone_any 7 _).mono ?_
  rintro e w1 ⟨rfl, hb⟩
  have HB1 : Hid (Below w.heap.size w w1) := HB.out.trans (hb.mono HB.out.size)
  clear hb
  go_wp2_with fail
  refine (ktwo_any h _).mono ?_
  rintro e w2 ⟨rfl, hb⟩
  have HB2 : Hid (Below w.heap.size w w2) := HB1.out.trans (hb.mono HB1.out.size)
  clear hb
  go_wp2
  go_ret
  exact ⟨by rw [HE.out]; rfl, HB2.out⟩

set_option maxRecDepth 100000 in
set_option maxHeartbeats 800000 in
theorem kdrop_any (h : Int) (w : World) (hh : wd h = true) : Calls Try.prog 88 #[.int .i64 h] w fun e w' => e = .returned (.string (bodyS 8 h 0 0 0 0 ⟨#[]⟩)) ∧ Below w.heap.size w w' := by
  have s1 := twoW_size
  have s0 := oneC_sz
  have HE : Hid (bodyS 8 h 0 0 0 0 ⟨#[]⟩ = oneC 8 ++ twoW h) := by show _ = _; rw [oneC_lit (n := 8) (by decide) (by decide), twoW_eq hh]; unfold bodyS; rw [if_neg (by decide), if_neg (by decide), if_neg (by decide), if_neg (by decide), if_neg (by decide)]
  have HB : Hid (Below w.heap.size w w) := Below.refl _ _
  go_enter Try.func88, Try.ntmps88
  go_wp2_with fail
  refine (kone_any 8 _).mono ?_
  rintro e w1 ⟨rfl, hb⟩
  have HB1 : Hid (Below w.heap.size w w1) := HB.out.trans (hb.mono HB.out.size)
  clear hb
  go_wp2_with fail
  refine (ktwo_any h _).mono ?_
  rintro e w2 ⟨rfl, hb⟩
  have HB2 : Hid (Below w.heap.size w w2) := HB1.out.trans (hb.mono HB1.out.size)
  clear hb
  go_wp2
  go_ret
  exact ⟨by rw [HE.out]; rfl, HB2.out⟩

set_option maxRecDepth 100000 in
set_option maxHeartbeats 800000 in
theorem kinfo_any (h : Int) (w : World) (hh : wd h = true) : Calls Try.prog 40 #[.int .i64 h] w fun e w' => e = .returned (.string (bodyS 9 h 0 0 0 0 ⟨#[]⟩)) ∧ Below w.heap.size w w' := by
  have s1 := twoW_size
  have s0 := oneC_sz
  have HE : Hid (bodyS 9 h 0 0 0 0 ⟨#[]⟩ = oneC 9 ++ twoW h) := by show _ = _; rw [oneC_lit (n := 9) (by decide) (by decide), twoW_eq hh]; unfold bodyS; rw [if_neg (by decide), if_neg (by decide), if_neg (by decide), if_neg (by decide), if_neg (by decide)]
  have HB : Hid (Below w.heap.size w w) := Below.refl _ _
  go_enter Try.func40, Try.ntmps40
  go_wp2_with fail
  refine (kone_any 9 _).mono ?_
  rintro e w1 ⟨rfl, hb⟩
  have HB1 : Hid (Below w.heap.size w w1) := HB.out.trans (hb.mono HB.out.size)
  clear hb
  go_wp2_with fail
  refine (ktwo_any h _).mono ?_
  rintro e w2 ⟨rfl, hb⟩
  have HB2 : Hid (Below w.heap.size w w2) := HB1.out.trans (hb.mono HB1.out.size)
  clear hb
  go_wp2
  go_ret
  exact ⟨by rw [HE.out]; rfl, HB2.out⟩

end Go.Proofs.Ytkjjamigaamllaa
