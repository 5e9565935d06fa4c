/-
  The law Known: the document's examples, one behind the other, asked of the landed house.
-/
import Derived.Test.YtkjjamigaamllaaKnownExample
import Derived.Test.YtkjjamigaamllaaKeepSmall
import Derived.Deep.QuietTactic
namespace Go.Proofs.Ytkjjamigaamllaa
open Go.RowKit
set_option linter.unusedSimpArgs false

/-- one of the examples, asked -/
theorem ex_ask {g : Nat} {bl : Nat → Nat} {W : World} (j : Nat) (hj : j < 26) (h : HAt W g (exM j) bl) :
    Calls Try.prog 44 #[.pointer (some ⟨g, 0, none⟩), .int .i64 (exT j : Int), .string (exA j)] W fun e w' =>
      e = .returned (.tuple #[.string (exG j), .int .i64 0]) ∧ ∃ bl', HAt w' g (exM (j + 1)) bl' ∧ Frm (HFoot g (exM j) bl) W w' ∧ ∀ k, HFoot g (exM (j + 1)) bl' k → HFoot g (exM j) bl k ∨ W.heap.size ≤ k := by
  obtain ⟨i1, i2, _, _⟩ := ex_inv j (by omega)
  refine (ask_any (exT j : Int) (exA j) h i1 (exA_size j) (by rw [i2]; have := exT_lt j; simp [hasB]; omega)).mono ?_
  rintro e w' ⟨er, m, rfl, M', bl', st, h1, h2, h3⟩
  obtain ⟨er2, m2, st2, hg⟩ := ex_step j hj
  obtain ⟨rfl, rfl, rfl⟩ := st.det st2
  rw [hg]
  exact ⟨rfl, bl', h1, h2, h3⟩

theorem ex_next {g j b0 lb : Nat} {bl : Nat → Nat} {w W w4 : World} {N : Nat} {X : Obj} (hp : ∃ bl', HAt w4 g (exM (j + 1)) bl' ∧ Frm (HFoot g (exM j) bl) W w4 ∧ ∀ k, HFoot g (exM (j + 1)) bl' k → HFoot g (exM j) bl k ∨ W.heap.size ≤ k)
    (h : HAt W g (exM j) bl ∧ Below b0 w W ∧ W.heap[lb]? = some X ∧ ¬ HFoot g (exM j) bl lb ∧ (∀ k, HFoot g (exM j) bl k → b0 ≤ k) ∧ b0 ≤ N ∧ lb < N) (hN : N ≤ W.heap.size := by omega) :
    ∃ bl', HAt w4 g (exM (j + 1)) bl' ∧ Below b0 w w4 ∧ w4.heap[lb]? = some X ∧ ¬ HFoot g (exM (j + 1)) bl' lb ∧ (∀ k, HFoot g (exM (j + 1)) bl' k → b0 ≤ k) := by
  obtain ⟨bl', h1, h2, h3⟩ := hp
  obtain ⟨a1, a2, a3, a4, a5, a6, a7⟩ := h
  refine ⟨bl', h1, a2.trans (h2.below (by omega) a5), (h2.block lb (by omega) a4).trans a3, fun hh => ?_, fun k hk => ?_⟩
  · rcases h3 lb hh with h | h
    · exact a4 h
    · omega
  · rcases h3 k hk with h | h
    · exact a5 k h
    · omega

set_option maxHeartbeats 1600000 in
theorem known_any (k : Int) (w : World) (hk : inR k) : Calls Try.prog 12 #[.int .i64 k] w fun e w' => e = .returned (.bool true) ∧ Below w.heap.size w w' := by
  obtain ⟨m, hm⟩ : ∃ m : Nat, pickK k 26 = (m : Int) := ⟨(pickK k 26).toNat, by have := pickK_bd k (m := 26) (by decide); omega⟩
  have hm2 : m ≤ 25 := by have := pickK_bd k (m := 26) (by decide); omega
  have HK : Hid (inR k ∧ pickK k 26 = (m : Int)) := ⟨hk, hm⟩
  clear hk hm
  go_enter Try.func12, Try.ntmps12
  go_wp2_with fail
  refine (new_good 2 3 4 _ (by decide)).mono ?_
  rintro e w1 ⟨rfl, hx, hb1⟩
  have HX1 : Hid (HAt w1 (w.heap.size + 1) (exM 0) id ∧ Below w.heap.size w w1) := ⟨hx, hb1⟩
  clear hx hb1
  go_wp2_with fail
  refine (example_any w1).mono ?_
  rintro e w2 ⟨rfl, hw2⟩
  have r2 : w2.heap[w1.heap.size]? = some (.cells exCells 74 (0, 0)) := hw2 ▸ newRowAt _ _
  have hb2 : Below w1.heap.size w1 w2 := hw2 ▸ (Below.refl _ _).alloc (Nat.le_refl _) _
  have hz1 := HX1.out.1.lt
  have HX2 : Hid (HAt w2 (w.heap.size + 1) (exM 0) id ∧ Below w.heap.size w w2 ∧ w2.heap[w1.heap.size]? = some (.cells exCells 74 (0, 0)) ∧ w1.heap.size < w2.heap.size) := ⟨HX1.out.1.below hb2, HX1.out.2.trans (hb2.mono HX1.out.2.size), r2, lt_of_row r2⟩
  clear hw2 r2 hb2
  go_wp2_with fail
  refine (kpick_any k 26 w2 HK.out.1 (by decide) (by decide)).mono ?_
  rintro e w3 ⟨rfl, rfl⟩
  rw [HK.out.2]
  go_wp2_with fail
  go_loopw [7] (fun i W => ∃ (j : Nat) (bl : Nat → Nat), j ≤ 1 + m ∧ i = .int .i64 (j : Int) ∧ HAt W (w.heap.size + 1) (exM j) bl ∧ Below w.heap.size w W ∧ W.heap[w1.heap.size]? = some (.cells exCells 74 (0, 0)) ∧ ¬ HFoot (w.heap.size + 1) (exM j) bl w1.heap.size ∧ ∀ k, HFoot (w.heap.size + 1) (exM j) bl k → w.heap.size ≤ k) (fun i _ => m + 1 - (intOf i).toNat)
  case atStart =>
    have foot : ∀ k, HFoot (w.heap.size + 1) (exM 0) id k → k = w.heap.size + 1 := fun k hk => by
      rcases hk with h | ⟨p, _, hb, _⟩
      · exact h
      · exact absurd rfl hb
    exact ⟨0, id, by omega, rfl, HX2.out.1, HX2.out.2.1, HX2.out.2.2.1, fun h => by have := foot _ h; omega, fun k h => by have := foot _ h; omega⟩
  case round =>
    obtain ⟨j, bl, hj, rfl, hH, hB, hR, hF, hG⟩ := hrel
    by_cases hlt : j < 1 + m
    · have hj26 : j < 26 := by omega
      obtain ⟨e0, e1, e2⟩ := ex_at j hj26
      have c0 : wr.cell? ⟨w1.heap.size, j * 3, none⟩ = some (.int .i64 (exT j : Int)) := (rowCell hR (j * 3)).trans e0
      have c1 : wr.cell? ⟨w1.heap.size, j * 3 + 1, none⟩ = some (.string (exA j)) := (rowCell hR (j * 3 + 1)).trans e1
      have c2 : wr.cell? ⟨w1.heap.size, j * 3 + 2, none⟩ = some (.string (exG j)) := (rowCell hR (j * 3 + 2)).trans e2
      have hlt2 : (j : Int) < 1 + (m : Int) := by omega
      have HR : Hid (∀ W, Below wr.heap.size wr W → HAt W (w.heap.size + 1) (exM j) bl ∧ Below w.heap.size w W ∧ W.heap[w1.heap.size]? = some (.cells exCells 74 (0, 0)) ∧ ¬ HFoot (w.heap.size + 1) (exM j) bl w1.heap.size ∧ (∀ k, HFoot (w.heap.size + 1) (exM j) bl k → w.heap.size ≤ k) ∧ w.heap.size ≤ wr.heap.size ∧ w1.heap.size < wr.heap.size) := fun W hW => ⟨hH.below hW, hB.trans (hW.mono hB.size), keepRow hW (lt_of_row hR) hR, hF, hG, hB.size, lt_of_row hR⟩
      have HE : Hid (exCells[j * 3 + 2]? = some (.string (exG j))) := e2
      clear e0 e1 e2 hH hB hR hF hG c2
      go_wp2_with fail
      go_region_with (first
        | (go_at_call 44
           refine (ex_ask j hj26 (HR.out wr.drew (Below.refl wr.heap.size wr).drew).1).mono ?_
           rintro e w4 ⟨rfl, hp⟩
           have HP : Hid (∃ bl', HAt w4 (w.heap.size + 1) (exM (j + 1)) bl' ∧ Below w.heap.size w w4 ∧ w4.heap[w1.heap.size]? = some (.cells exCells 74 (0, 0)) ∧ ¬ HFoot (w.heap.size + 1) (exM (j + 1)) bl' w1.heap.size ∧ (∀ k, HFoot (w.heap.size + 1) (exM (j + 1)) bl' k → w.heap.size ≤ k)) := ex_next hp (HR.out wr.drew (Below.refl wr.heap.size wr).drew) (Below.refl wr.heap.size wr).drew.size
           have c2 : w4.cell? ⟨w1.heap.size, j * 3 + 2, none⟩ = some (.string (exG j)) := by
             obtain ⟨_, _, _, h3, _⟩ := HP.out
             exact (rowCell h3 (j * 3 + 2)).trans HE.out
           clear hp))
      all_goals go_wp2_with fail
      all_goals
        obtain ⟨bl2, p1, p2, p3, p4, p5⟩ := HP.out
        exact ⟨⟨j + 1, bl2, by omega, rfl, p1, p2, p3, p4, p5⟩, by simp [intOf]; omega⟩
    · obtain rfl : j = 1 + m := by omega
      obtain ⟨i1, i2, i3, i4⟩ := ex_inv (1 + m) (by omega)
      have HR : Hid (HAt wr (w.heap.size + 1) (exM (1 + m)) bl ∧ Below w.heap.size w wr ∧ (exM (1 + m)).Ok ∧ (exM (1 + m)).nt = 2 ∧ (exM (1 + m)).taken 0 = exC (1 + m)) := ⟨hH, hB, i1.ok, i2, ex_taken (1 + m) (by omega) (by omega)⟩
      have hE : Hid (lookV (exM (1 + m)) 0 = .tuple #[.agg #[.int .i64 ((exM (1 + m)).used 0 : Int), .int .i64 (exC (1 + m) : Int)], .int .i64 0]) := by
        show _ = _
        unfold lookV
        rw [HR.out.2.2.2.1, if_pos (by decide)]
        show Value.tuple #[.agg #[.int .i64 ((exM (1 + m)).used 0 : Int), .int .i64 ((exM (1 + m)).taken 0 : Int)], .int .i64 0] = _
        rw [HR.out.2.2.2.2]
      have hE2 : Hid (lookV (exM (1 + m)) 2 = .tuple #[.agg #[.int .i64 0, .int .i64 0], .int .i64 3]) := by
        show _ = _
        unfold lookV
        rw [HR.out.2.2.2.1, if_neg (by decide)]
      clear hH hB hR hF hG i1 i2 i3 i4
      go_wp2_with fail
      refine (look_any 0 HR.out.1 HR.out.2.2.1).mono ?_
      rintro e w4 ⟨rfl, hb4⟩
      rw [hE.out]
      generalize hu : ((exM (1 + m)).used 0 : Int) = us
      obtain ⟨V, hV⟩ : ∃ V, V = w4.alloc (.cells #[.int .i64 us, .int .i64 (exC (1 + m) : Int)] 76) := ⟨_, rfl⟩
      have hVb : Below wr.heap.size wr V := hV ▸ hb4.alloc hb4.size _
      have HV : Hid (V = w4.alloc (.cells #[.int .i64 us, .int .i64 (exC (1 + m) : Int)] 76) ∧ HAt V (w.heap.size + 1) (exM (1 + m)) bl ∧ Below w.heap.size w V ∧ V.heap[w4.heap.size]? = some (.cells #[.int .i64 us, .int .i64 (exC (1 + m) : Int)] 76 (0, 0))) := ⟨hV, HR.out.1.below hVb, HR.out.2.1.trans (hVb.mono HR.out.2.1.size), hV ▸ newRowAt _ _⟩
      clear hb4 hV hVb hu
      go_wp2_with fail
      rw [← HV.out.1]
      refine (look_any 2 HV.out.2.1 HR.out.2.2.1).mono ?_
      rintro e w5 ⟨rfl, hb5⟩
      rw [hE2.out]
      have q1 : w5.cell? ⟨w4.heap.size, 1, none⟩ = some (.int .i64 (exC (1 + m) : Int)) := rowCell (keepRow hb5 (lt_of_row HV.out.2.2.2) HV.out.2.2.2) 1
      have hz : w4.heap.size < w5.heap.size := Nat.lt_of_lt_of_le (lt_of_row HV.out.2.2.2) hb5.size
      have HB : Hid (Below w.heap.size w w5) := HV.out.2.2.1.trans (hb5.mono HV.out.2.2.1.size)
      clear hb5
      rcases (show m = 25 ∨ m = 24 ∨ m = 23 ∨ m ≤ 22 by omega) with rfl | rfl | rfl | h22
      · rw [show (exC (1 + 25) : Int) = 4 from rfl] at q1
        go_wp2_with fail
        go_ret
        exact ⟨rfl, HB.out.alloc HB.out.size _⟩
      · rw [show (exC (1 + 24) : Int) = 0 from rfl] at q1
        go_wp2_with fail
        go_ret
        exact ⟨rfl, HB.out.alloc HB.out.size _⟩
      · rw [show (exC (1 + 23) : Int) = 0 from rfl] at q1
        go_wp2_with fail
        go_ret
        exact ⟨rfl, HB.out.alloc HB.out.size _⟩
      · rw [show exC (1 + m) = 2 from by unfold exC; rw [if_neg (by omega), if_neg (by omega)]] at q1
        have t1 : (1 + (m : Int) == 26) = false := by simp; omega
        have t2 : (1 + (m : Int) == 25) = false := by simp; omega
        have t3 : (1 + (m : Int) == 24) = false := by simp; omega
        go_wp2_with fail
        go_ret
        exact ⟨rfl, HB.out.alloc HB.out.size _⟩

end Go.Proofs.Ytkjjamigaamllaa
