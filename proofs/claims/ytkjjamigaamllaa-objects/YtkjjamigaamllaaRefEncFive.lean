/-
  What tenureref.Encode returns: the Op 5.
-/
import Derived.Test.YtkjjamigaamllaaRefEncHead
namespace Go.Proofs.Ytkjjamigaamllaa
open Go.RowKit

attribute [local go_sem ↓] Go.wp_at_zero Go.wp_at_succ

set_option maxRecDepth 100000 in
set_option maxHeartbeats 4000000 in
theorem ref_5 (h o l r t : Int) (d : ByteArray) (w : World) (_hd : d.size ≤ 140737488355328) :
    Calls Try.prog 16 #[.agg #[.int .i64 5, .int .i64 h, .int .i64 o, .int .i64 l, .int .i64 r, .int .i64 t, .string d]] w
      fun e w' => e = .returned (.tuple #[.string (encS 5 h o l r t d), .int .i64 (encE 5 h o l r t d)]) ∧ Below w.heap.size w w' := by
  have c1 := conv1
  go_enter Try.func16, Try.ntmps16
  go_wp2_with (go_at_call 51; refine (word_any _ _).mono ?_; rintro e w' ⟨rfl, rfl⟩)
  refine (two_any _ _).mono ?_
  rintro e w1 ⟨rfl, hb1⟩
  have s1 := twoW_size
  have s0 := oneS_size
  have n1 := newRowAt w (.cells #[.int .i64 5, .int .i64 h, .int .i64 o, .int .i64 l, .int .i64 r, .int .i64 t, .string d] 23)
  have q1 := keepRow hb1 (by simp; omega) ((Below.heap_alloc _ _ _ (by simp; omega)).trans ((Below.heap_alloc _ _ _ (by simp)).trans n1))
  have o1 := keepRow hb1 (by simp) ((Below.heap_alloc _ _ _ (by simp)).trans (newRowAt _ _))
  have B1 := ((((Below.refl w.heap.size w).alloc (Nat.le_refl _) _).alloc (by simp) _).alloc (by simp; omega) _).trans (hb1.mono (by simp; omega))
  simp only [sizeAlloc] at o1
  have hz1 : w.heap.size + 1 < w1.heap.size := by have hz := hb1.size; simp only [sizeAlloc] at hz; omega
  clear hb1 n1
  have qc1 := rowCell q1
  have oc1 := rowCell o1
  have of1 := rowFree o1
  have hst : St w #[.int .i64 5, .int .i64 h, .int .i64 o, .int .i64 l, .int .i64 r, .int .i64 t, .string d] #[.int .i64 5, .int .i64 h, .int .i64 o, .int .i64 l, .int .i64 r, .int .i64 0, .string ⟨#[]⟩] _ :=
    ⟨setOther7 (g := w.heap.size + 1) (.int .i64 5) (.int .i64 h) (.int .i64 o) (.int .i64 l) (.int .i64 r) (.int .i64 0) (.string ⟨#[]⟩) q1 (by omega), setRow7 (.int .i64 5) (.int .i64 h) (.int .i64 o) (.int .i64 l) (.int .i64 r) (.int .i64 0) (.string ⟨#[]⟩) o1, setBelow7 (g := w.heap.size + 1) (.int .i64 5) (.int .i64 h) (.int .i64 o) (.int .i64 l) (.int .i64 r) (.int .i64 0) (.string ⟨#[]⟩) B1 (by omega), by simp only [setSize]; exact hz1⟩
  clear q1 o1
  have hst0 := hst
  replace hst := hst.drew
  go_wp2_with fail
  all_goals
    clear qc1 oc1 of1 B1
    generalize (((((((w1.setCell ⟨w.heap.size + 1, 0, none⟩ (.int .i64 5)).setCell ⟨w.heap.size + 1, 1, none⟩ (.int .i64 h)).setCell ⟨w.heap.size + 1, 2, none⟩ (.int .i64 o)).setCell ⟨w.heap.size + 1, 3, none⟩ (.int .i64 l)).setCell ⟨w.heap.size + 1, 4, none⟩ (.int .i64 r)).setCell ⟨w.heap.size + 1, 5, none⟩ (.int .i64 0)).setCell ⟨w.heap.size + 1, 6, none⟩ (.string ⟨#[]⟩)) = W at hst hst0 ⊢
    refine wp_region_held_drew (S := fun w' => w'.cell? ⟨w.heap.size, 2, none⟩ = some (.int .i64 o) ∧ w'.cell? ⟨w.heap.size, 3, none⟩ = some (.int .i64 l) ∧ w'.cell? ⟨w.heap.size, 4, none⟩ = some (.int .i64 r) ∧ St w #[.int .i64 5, .int .i64 h, .int .i64 o, .int .i64 l, .int .i64 r, .int .i64 t, .string d] #[.int .i64 5, .int .i64 h, .int .i64 o, .int .i64 l, .int .i64 r, .int .i64 0, .string ⟨#[]⟩] w') (by kernel_rfl) ⟨hst.at 2 rfl, hst.at 3 rfl, hst.at 4 rfl, hst⟩ (fun hHeld => ?_)
    clear hst0
    generalize W.drew = V at hst hHeld ⊢
    refine takeH (i := 0) (v := ?_) (some 133) rfl rfl (by kernel_rfl) (by kernel_rfl) (by kernel_rfl) (fun _ _ _ h => h) (Or.inl ⟨by rfl, ?_⟩) hHeld ?_
    rotate_left 1
    · intro wx hSw; (try dsimp only at hSw); go_simp; with_reducible rfl
    simp only [Act.put, List.setIfInBounds_toArray, List.set_cons_zero, List.set_cons_succ]
    refine takeH (i := 1) (v := ?_) (some 134) rfl rfl (by kernel_rfl) (by kernel_rfl) (by kernel_rfl) (fun _ _ _ h => h) (Or.inl ⟨by rfl, ?_⟩) hHeld ?_
    rotate_left 1
    · intro wx hSw; (try dsimp only at hSw); go_simp; with_reducible rfl
    simp only [Act.put, List.setIfInBounds_toArray, List.set_cons_zero, List.set_cons_succ]
    refine takeH (i := 2) (v := ?_) (some 135) rfl rfl (by kernel_rfl) (by kernel_rfl) (by kernel_rfl) (fun _ _ _ h => h) (Or.inl ⟨by rfl, ?_⟩) hHeld ?_
    rotate_left 1
    · intro wx hSw; (try dsimp only at hSw); go_simp; with_reducible rfl
    simp only [Act.put, List.setIfInBounds_toArray, List.set_cons_zero, List.set_cons_succ]
    refine takeH (i := 5) (v := ?_) (some 138) rfl rfl (by kernel_rfl) (by kernel_rfl) (by kernel_rfl) (fun _ _ _ h => h) (Or.inl ⟨by rfl, ?_⟩) hHeld ?_
    rotate_left 1
    · intro wx hSw; (try dsimp only at hSw); go_simp; with_reducible rfl
    simp only [Act.put, List.setIfInBounds_toArray, List.set_cons_zero, List.set_cons_succ]
    refine takeH (i := 6) (v := ?_) (some 139) rfl rfl (by kernel_rfl) (by kernel_rfl) (by kernel_rfl) (fun _ _ _ h => h) (Or.inl ⟨by rfl, ?_⟩) hHeld ?_
    rotate_left 1
    · intro wx hSw; (try dsimp only at hSw); go_simp; with_reducible rfl
    simp only [Act.put, List.setIfInBounds_toArray, List.set_cons_zero, List.set_cons_succ]
    refine takeH (i := 9) (v := ?_) (some 142) rfl rfl (by kernel_rfl) (by kernel_rfl) (by kernel_rfl) (fun _ _ _ h => h) (Or.inl ⟨by rfl, ?_⟩) hHeld ?_
    rotate_left 1
    · intro wx hSw; (try dsimp only at hSw); go_simp; with_reducible rfl
    simp only [Act.put, List.setIfInBounds_toArray, List.set_cons_zero, List.set_cons_succ]
    refine takeH (i := 10) (v := ?_) (some 143) rfl rfl (by kernel_rfl) (by kernel_rfl) (by kernel_rfl) (fun _ _ _ h => h) (Or.inl ⟨by rfl, ?_⟩) hHeld ?_
    rotate_left 1
    · intro wx hSw; (try dsimp only at hSw); go_simp; with_reducible rfl
    simp only [Act.put, List.setIfInBounds_toArray, List.set_cons_zero, List.set_cons_succ]
    refine takeH (i := 11) (v := ?_) (some 144) rfl rfl (by kernel_rfl) (by kernel_rfl) (by kernel_rfl) (fun _ _ _ h => h) (Or.inl ⟨by rfl, ?_⟩) hHeld ?_
    rotate_left 1
    · intro wx hSw; (try dsimp only at hSw); go_simp; with_reducible rfl
    simp only [Act.put, List.setIfInBounds_toArray, List.set_cons_zero, List.set_cons_succ]
    refine takeH (i := 12) (v := ?_) (some 145) rfl rfl (by kernel_rfl) (by kernel_rfl) (by kernel_rfl) (fun _ _ _ h => h) (Or.inl ⟨by rfl, ?_⟩) hHeld ?_
    rotate_left 1
    · intro wx hSw; (try dsimp only at hSw); go_simp; with_reducible rfl
    simp only [Act.put, List.setIfInBounds_toArray, List.set_cons_zero, List.set_cons_succ]
    refine wpAnyH_ready (rs := [3, 13]) (by kernel_rfl) (by simp) (AllReadyH.cons rfl (fun K hK => ?_) (AllReadyH.cons rfl (fun K hK => ?_) AllReadyH.nil))
    · go_simp
      refine (two_at w #[.int .i64 5, .int .i64 h, .int .i64 o, .int .i64 l, .int .i64 r, .int .i64 t, .string d] #[.int .i64 5, .int .i64 h, .int .i64 o, .int .i64 l, .int .i64 r, .int .i64 0, .string ⟨#[]⟩] _ hst).mono ?_
      clear hst hHeld
      rintro e V ⟨rfl, hst⟩
      refine hK.out _ _ ⟨hst.at 2 rfl, hst.at 3 rfl, hst.at 4 rfl, hst⟩ (fun hHeld => ?_)
      clear hK K
      refine takeH (i := 4) (v := ?_) (some 137) rfl rfl (by kernel_rfl) (by kernel_rfl) (by kernel_rfl) (fun _ _ _ h => h) (Or.inl ⟨by rfl, ?_⟩) hHeld ?_
      rotate_left 1
      · intro wx hSw; (try dsimp only at hSw); go_simp; with_reducible rfl
      simp only [Act.put, List.setIfInBounds_toArray, List.set_cons_zero, List.set_cons_succ]
      refine wpAnyH_ready (rs := [7, 13]) (by kernel_rfl) (by simp) (AllReadyH.cons rfl (fun K hK => ?_) (AllReadyH.cons rfl (fun K hK => ?_) AllReadyH.nil))
      · go_simp
        refine (two_at w #[.int .i64 5, .int .i64 h, .int .i64 o, .int .i64 l, .int .i64 r, .int .i64 t, .string d] #[.int .i64 5, .int .i64 h, .int .i64 o, .int .i64 l, .int .i64 r, .int .i64 0, .string ⟨#[]⟩] _ hst).mono ?_
        clear hst hHeld
        rintro e V ⟨rfl, hst⟩
        refine hK.out _ _ ⟨hst.at 2 rfl, hst.at 3 rfl, hst.at 4 rfl, hst⟩ (fun hHeld => ?_)
        clear hK K
        refine takeH (i := 8) (v := ?_) (some 141) rfl rfl (by kernel_rfl) (by kernel_rfl) (by kernel_rfl) (fun _ _ _ h => h) (Or.inl ⟨by rfl, ?_⟩) hHeld ?_
        rotate_left 1
        · intro wx hSw; (try dsimp only at hSw); go_simp; with_reducible rfl
        simp only [Act.put, List.setIfInBounds_toArray, List.set_cons_zero, List.set_cons_succ]
        refine wpAnyH_ready (rs := [13]) (by kernel_rfl) (by simp) (AllReadyH.cons rfl (fun K hK => ?_) AllReadyH.nil)
        go_simp
        have hrow := newRowAt V (.cells #[.int .u8 (IntKind.u8.wrap (r.tmod 256))] 5)
        replace hst := hst.alloc (.cells #[.int .u8 (IntKind.u8.wrap (r.tmod 256))] 5)
        refine hK.out _ _ ⟨hst.at 2 rfl, hst.at 3 rfl, hst.at 4 rfl, hst⟩ (fun _ => ?_)
        clear hK K hHeld
        generalize V.heap.size = g at hrow ⊢
        generalize V.alloc (.cells #[.int .u8 (IntKind.u8.wrap (r.tmod 256))] 5) = V at hrow hst ⊢
        refine wpAnyH_stronger (S2 := fun w' => w'.cell? ⟨w.heap.size, 2, none⟩ = some (.int .i64 o) ∧ w'.cell? ⟨w.heap.size, 3, none⟩ = some (.int .i64 l) ∧ w'.cell? ⟨w.heap.size, 4, none⟩ = some (.int .i64 r) ∧ St w #[.int .i64 5, .int .i64 h, .int .i64 o, .int .i64 l, .int .i64 r, .int .i64 t, .string d] #[.int .i64 5, .int .i64 h, .int .i64 o, .int .i64 l, .int .i64 r, .int .i64 0, .string ⟨#[]⟩] w' ∧ w'.heap[g]? = some (.cells #[.int .u8 (IntKind.u8.wrap (r.tmod 256))] 5)) (fun _ k => ⟨k.1, k.2.1, k.2.2.1, k.2.2.2.1⟩) _ _ _ _ ?_
        have hHeld : (fun w' : World => w'.cell? ⟨w.heap.size, 2, none⟩ = some (.int .i64 o) ∧ w'.cell? ⟨w.heap.size, 3, none⟩ = some (.int .i64 l) ∧ w'.cell? ⟨w.heap.size, 4, none⟩ = some (.int .i64 r) ∧ St w #[.int .i64 5, .int .i64 h, .int .i64 o, .int .i64 l, .int .i64 r, .int .i64 t, .string d] #[.int .i64 5, .int .i64 h, .int .i64 o, .int .i64 l, .int .i64 r, .int .i64 0, .string ⟨#[]⟩] w' ∧ w'.heap[g]? = some (.cells #[.int .u8 (IntKind.u8.wrap (r.tmod 256))] 5)) V := ⟨hst.at 2 rfl, hst.at 3 rfl, hst.at 4 rfl, hst, hrow⟩
        refine takeH (i := 14) (v := ?_) (some 147) rfl rfl (by kernel_rfl) (by kernel_rfl) (by kernel_rfl) (fun _ _ _ h => h) (Or.inl ⟨by rfl, ?_⟩) hHeld ?_
        rotate_left 1
        · intro wx hSw; (try dsimp only at hSw); have hcv := convRow wx _ g hSw.2.2.2.2; go_simp; with_reducible rfl
        simp only [Act.put, List.setIfInBounds_toArray, List.set_cons_zero, List.set_cons_succ]
        refine takeH (i := 15) (v := ?_) (some 148) rfl rfl (by kernel_rfl) (by kernel_rfl) (by kernel_rfl) (fun _ _ _ h => h) (Or.inl ⟨by rfl, ?_⟩) hHeld ?_
        rotate_left 1
        · intro wx hSw; (try dsimp only at hSw); go_simp; with_reducible rfl
        simp only [Act.put, List.setIfInBounds_toArray, List.set_cons_zero, List.set_cons_succ]
        refine takeH (i := 16) (v := ?_) (some 9) rfl rfl (by kernel_rfl) (by kernel_rfl) (by kernel_rfl) (fun _ _ _ h => h) (Or.inl ⟨by rfl, ?_⟩) hHeld ?_
        rotate_left 1
        · intro wx hSw; (try dsimp only at hSw); go_simp; with_reducible rfl
        simp only [Act.put, List.setIfInBounds_toArray, List.set_cons_zero, List.set_cons_succ]
        refine wpAnyH_done (by kernel_rfl) ?_ _
        have qc2 := rowCell hst.q
        have oc2 := rowCell hst.o
        have B2 := hst.b
        clear hst hHeld hrow
        go_wp2_with fail
        all_goals go_ret2
        all_goals refine ⟨?_, B2⟩
        all_goals first | (refine enc_end_bad ?_; simp [okB, zr, bt_lo, bt_hi, bt_yes, dnil, *]; done) | (refine enc_end_good ?_ ?_; (simp [okB, zr, bt_yes, dnil, *]); (simp [bodyS, twoW_eq, oneS_bt, *]))
      · go_simp
        have hrow := newRowAt V (.cells #[.int .u8 (IntKind.u8.wrap (r.tmod 256))] 5)
        replace hst := hst.alloc (.cells #[.int .u8 (IntKind.u8.wrap (r.tmod 256))] 5)
        refine hK.out _ _ ⟨hst.at 2 rfl, hst.at 3 rfl, hst.at 4 rfl, hst⟩ (fun _ => ?_)
        clear hK K hHeld
        generalize V.heap.size = g at hrow ⊢
        generalize V.alloc (.cells #[.int .u8 (IntKind.u8.wrap (r.tmod 256))] 5) = V at hrow hst ⊢
        refine wpAnyH_stronger (S2 := fun w' => w'.cell? ⟨w.heap.size, 2, none⟩ = some (.int .i64 o) ∧ w'.cell? ⟨w.heap.size, 3, none⟩ = some (.int .i64 l) ∧ w'.cell? ⟨w.heap.size, 4, none⟩ = some (.int .i64 r) ∧ St w #[.int .i64 5, .int .i64 h, .int .i64 o, .int .i64 l, .int .i64 r, .int .i64 t, .string d] #[.int .i64 5, .int .i64 h, .int .i64 o, .int .i64 l, .int .i64 r, .int .i64 0, .string ⟨#[]⟩] w' ∧ w'.heap[g]? = some (.cells #[.int .u8 (IntKind.u8.wrap (r.tmod 256))] 5)) (fun _ k => ⟨k.1, k.2.1, k.2.2.1, k.2.2.2.1⟩) _ _ _ _ ?_
        have hHeld : (fun w' : World => w'.cell? ⟨w.heap.size, 2, none⟩ = some (.int .i64 o) ∧ w'.cell? ⟨w.heap.size, 3, none⟩ = some (.int .i64 l) ∧ w'.cell? ⟨w.heap.size, 4, none⟩ = some (.int .i64 r) ∧ St w #[.int .i64 5, .int .i64 h, .int .i64 o, .int .i64 l, .int .i64 r, .int .i64 t, .string d] #[.int .i64 5, .int .i64 h, .int .i64 o, .int .i64 l, .int .i64 r, .int .i64 0, .string ⟨#[]⟩] w' ∧ w'.heap[g]? = some (.cells #[.int .u8 (IntKind.u8.wrap (r.tmod 256))] 5)) V := ⟨hst.at 2 rfl, hst.at 3 rfl, hst.at 4 rfl, hst, hrow⟩
        refine takeH (i := 14) (v := ?_) (some 147) rfl rfl (by kernel_rfl) (by kernel_rfl) (by kernel_rfl) (fun _ _ _ h => h) (Or.inl ⟨by rfl, ?_⟩) hHeld ?_
        rotate_left 1
        · intro wx hSw; (try dsimp only at hSw); have hcv := convRow wx _ g hSw.2.2.2.2; go_simp; with_reducible rfl
        simp only [Act.put, List.setIfInBounds_toArray, List.set_cons_zero, List.set_cons_succ]
        refine wpAnyH_ready (rs := [7]) (by kernel_rfl) (by simp) (AllReadyH.cons rfl (fun K hK => ?_) AllReadyH.nil)
        go_simp
        refine (two_row w #[.int .i64 5, .int .i64 h, .int .i64 o, .int .i64 l, .int .i64 r, .int .i64 t, .string d] #[.int .i64 5, .int .i64 h, .int .i64 o, .int .i64 l, .int .i64 r, .int .i64 0, .string ⟨#[]⟩] _ hst hrow).mono ?_
        clear hst hHeld hrow
        rintro e V ⟨rfl, hst, hrow⟩
        refine hK.out _ _ ⟨hst.at 2 rfl, hst.at 3 rfl, hst.at 4 rfl, hst, hrow⟩ (fun hHeld => ?_)
        clear hK K
        refine takeH (i := 8) (v := ?_) (some 141) rfl rfl (by kernel_rfl) (by kernel_rfl) (by kernel_rfl) (fun _ _ _ h => h) (Or.inl ⟨by rfl, ?_⟩) hHeld ?_
        rotate_left 1
        · intro wx hSw; (try dsimp only at hSw); go_simp; with_reducible rfl
        simp only [Act.put, List.setIfInBounds_toArray, List.set_cons_zero, List.set_cons_succ]
        refine takeH (i := 15) (v := ?_) (some 148) rfl rfl (by kernel_rfl) (by kernel_rfl) (by kernel_rfl) (fun _ _ _ h => h) (Or.inl ⟨by rfl, ?_⟩) hHeld ?_
        rotate_left 1
        · intro wx hSw; (try dsimp only at hSw); go_simp; with_reducible rfl
        simp only [Act.put, List.setIfInBounds_toArray, List.set_cons_zero, List.set_cons_succ]
        refine takeH (i := 16) (v := ?_) (some 9) rfl rfl (by kernel_rfl) (by kernel_rfl) (by kernel_rfl) (fun _ _ _ h => h) (Or.inl ⟨by rfl, ?_⟩) hHeld ?_
        rotate_left 1
        · intro wx hSw; (try dsimp only at hSw); go_simp; with_reducible rfl
        simp only [Act.put, List.setIfInBounds_toArray, List.set_cons_zero, List.set_cons_succ]
        refine wpAnyH_done (by kernel_rfl) ?_ _
        have qc2 := rowCell hst.q
        have oc2 := rowCell hst.o
        have B2 := hst.b
        clear hst hHeld hrow
        go_wp2_with fail
        all_goals go_ret2
        all_goals refine ⟨?_, B2⟩
        all_goals first | (refine enc_end_bad ?_; simp [okB, zr, bt_lo, bt_hi, bt_yes, dnil, *]; done) | (refine enc_end_good ?_ ?_; (simp [okB, zr, bt_yes, dnil, *]); (simp [bodyS, twoW_eq, oneS_bt, *]))
    · go_simp
      have hrow := newRowAt V (.cells #[.int .u8 (IntKind.u8.wrap (r.tmod 256))] 5)
      replace hst := hst.alloc (.cells #[.int .u8 (IntKind.u8.wrap (r.tmod 256))] 5)
      refine hK.out _ _ ⟨hst.at 2 rfl, hst.at 3 rfl, hst.at 4 rfl, hst⟩ (fun _ => ?_)
      clear hK K hHeld
      generalize V.heap.size = g at hrow ⊢
      generalize V.alloc (.cells #[.int .u8 (IntKind.u8.wrap (r.tmod 256))] 5) = V at hrow hst ⊢
      refine wpAnyH_stronger (S2 := fun w' => w'.cell? ⟨w.heap.size, 2, none⟩ = some (.int .i64 o) ∧ w'.cell? ⟨w.heap.size, 3, none⟩ = some (.int .i64 l) ∧ w'.cell? ⟨w.heap.size, 4, none⟩ = some (.int .i64 r) ∧ St w #[.int .i64 5, .int .i64 h, .int .i64 o, .int .i64 l, .int .i64 r, .int .i64 t, .string d] #[.int .i64 5, .int .i64 h, .int .i64 o, .int .i64 l, .int .i64 r, .int .i64 0, .string ⟨#[]⟩] w' ∧ w'.heap[g]? = some (.cells #[.int .u8 (IntKind.u8.wrap (r.tmod 256))] 5)) (fun _ k => ⟨k.1, k.2.1, k.2.2.1, k.2.2.2.1⟩) _ _ _ _ ?_
      have hHeld : (fun w' : World => w'.cell? ⟨w.heap.size, 2, none⟩ = some (.int .i64 o) ∧ w'.cell? ⟨w.heap.size, 3, none⟩ = some (.int .i64 l) ∧ w'.cell? ⟨w.heap.size, 4, none⟩ = some (.int .i64 r) ∧ St w #[.int .i64 5, .int .i64 h, .int .i64 o, .int .i64 l, .int .i64 r, .int .i64 t, .string d] #[.int .i64 5, .int .i64 h, .int .i64 o, .int .i64 l, .int .i64 r, .int .i64 0, .string ⟨#[]⟩] w' ∧ w'.heap[g]? = some (.cells #[.int .u8 (IntKind.u8.wrap (r.tmod 256))] 5)) V := ⟨hst.at 2 rfl, hst.at 3 rfl, hst.at 4 rfl, hst, hrow⟩
      refine takeH (i := 14) (v := ?_) (some 147) rfl rfl (by kernel_rfl) (by kernel_rfl) (by kernel_rfl) (fun _ _ _ h => h) (Or.inl ⟨by rfl, ?_⟩) hHeld ?_
      rotate_left 1
      · intro wx hSw; (try dsimp only at hSw); have hcv := convRow wx _ g hSw.2.2.2.2; go_simp; with_reducible rfl
      simp only [Act.put, List.setIfInBounds_toArray, List.set_cons_zero, List.set_cons_succ]
      refine wpAnyH_ready (rs := [3]) (by kernel_rfl) (by simp) (AllReadyH.cons rfl (fun K hK => ?_) AllReadyH.nil)
      go_simp
      refine (two_row w #[.int .i64 5, .int .i64 h, .int .i64 o, .int .i64 l, .int .i64 r, .int .i64 t, .string d] #[.int .i64 5, .int .i64 h, .int .i64 o, .int .i64 l, .int .i64 r, .int .i64 0, .string ⟨#[]⟩] _ hst hrow).mono ?_
      clear hst hHeld hrow
      rintro e V ⟨rfl, hst, hrow⟩
      refine hK.out _ _ ⟨hst.at 2 rfl, hst.at 3 rfl, hst.at 4 rfl, hst, hrow⟩ (fun hHeld => ?_)
      clear hK K
      refine takeH (i := 4) (v := ?_) (some 137) rfl rfl (by kernel_rfl) (by kernel_rfl) (by kernel_rfl) (fun _ _ _ h => h) (Or.inl ⟨by rfl, ?_⟩) hHeld ?_
      rotate_left 1
      · intro wx hSw; (try dsimp only at hSw); go_simp; with_reducible rfl
      simp only [Act.put, List.setIfInBounds_toArray, List.set_cons_zero, List.set_cons_succ]
      refine wpAnyH_ready (rs := [7]) (by kernel_rfl) (by simp) (AllReadyH.cons rfl (fun K hK => ?_) AllReadyH.nil)
      go_simp
      refine (two_row w #[.int .i64 5, .int .i64 h, .int .i64 o, .int .i64 l, .int .i64 r, .int .i64 t, .string d] #[.int .i64 5, .int .i64 h, .int .i64 o, .int .i64 l, .int .i64 r, .int .i64 0, .string ⟨#[]⟩] _ hst hrow).mono ?_
      clear hst hHeld hrow
      rintro e V ⟨rfl, hst, hrow⟩
      refine hK.out _ _ ⟨hst.at 2 rfl, hst.at 3 rfl, hst.at 4 rfl, hst, hrow⟩ (fun hHeld => ?_)
      clear hK K
      refine takeH (i := 8) (v := ?_) (some 141) rfl rfl (by kernel_rfl) (by kernel_rfl) (by kernel_rfl) (fun _ _ _ h => h) (Or.inl ⟨by rfl, ?_⟩) hHeld ?_
      rotate_left 1
      · intro wx hSw; (try dsimp only at hSw); go_simp; with_reducible rfl
      simp only [Act.put, List.setIfInBounds_toArray, List.set_cons_zero, List.set_cons_succ]
      refine takeH (i := 15) (v := ?_) (some 148) rfl rfl (by kernel_rfl) (by kernel_rfl) (by kernel_rfl) (fun _ _ _ h => h) (Or.inl ⟨by rfl, ?_⟩) hHeld ?_
      rotate_left 1
      · intro wx hSw; (try dsimp only at hSw); go_simp; with_reducible rfl
      simp only [Act.put, List.setIfInBounds_toArray, List.set_cons_zero, List.set_cons_succ]
      refine takeH (i := 16) (v := ?_) (some 9) rfl rfl (by kernel_rfl) (by kernel_rfl) (by kernel_rfl) (fun _ _ _ h => h) (Or.inl ⟨by rfl, ?_⟩) hHeld ?_
      rotate_left 1
      · intro wx hSw; (try dsimp only at hSw); go_simp; with_reducible rfl
      simp only [Act.put, List.setIfInBounds_toArray, List.set_cons_zero, List.set_cons_succ]
      refine wpAnyH_done (by kernel_rfl) ?_ _
      have qc2 := rowCell hst.q
      have oc2 := rowCell hst.o
      have B2 := hst.b
      clear hst hHeld hrow
      go_wp2_with fail
      all_goals go_ret2
      all_goals refine ⟨?_, B2⟩
      all_goals first | (refine enc_end_bad ?_; simp [okB, zr, bt_lo, bt_hi, bt_yes, dnil, *]; done) | (refine enc_end_good ?_ ?_; (simp [okB, zr, bt_yes, dnil, *]); (simp [bodyS, twoW_eq, oneS_bt, *]))

end Go.Proofs.Ytkjjamigaamllaa
