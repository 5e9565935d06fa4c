/-
  Alloc, by the landed house.
-/
import Derived.Test.YtkjjamigaamllaaHouseOps
import Derived.Deep.QuietTactic
namespace Go.Proofs.Ytkjjamigaamllaa
open Go.RowKit
set_option linter.unusedSimpArgs false

theorem belowDrewN (B : Nat) (w : World) (n : Nat) : Below B w (w.drewN n) := ⟨rfl, rfl, rfl, Nat.le_refl _, fun _ _ => rfl⟩

theorem set_set (M : Mach) (p : Nat) (x y : HSlot) : (M.set p x).set p y = M.set p y := by
  have : (fun q => if q = p then y else (M.set p x).s q) = (fun q => if q = p then y else M.s q) := by
    funext q
    by_cases hq : q = p
    · rw [if_pos hq, if_pos hq]
    · rw [if_neg hq, if_neg hq, Mach.set_other _ _ hq]
  show Mach.mk M.nt M.ns M.nc _ = Mach.mk M.nt M.ns M.nc _
  rw [this]

theorem made_bytes (l : Nat) : madeCells (Value.int .u8 0).cells (l * 1) = byteCells (List.replicate l 0) := by
  apply Array.ext
  · simp [madeCells, byteCells]
  · intro i h1 h2
    simp [madeCells, byteCells, Value.cells, Nat.mod_one]

/-- a slot's bytes are made anew -/
theorem HAt.bytesSet {w : World} {g : Nat} {M : Mach} {bl : Nat → Nat} {p : Nat} (bs : List Int) (h : HAt w g M bl) (hp : p < 64) (hne : bs ≠ []) :
    HAt ((w.setCell ⟨g, 3 + p * 8 + 7, none⟩ (.slice (some ⟨w.heap.size, 0, none⟩) bs.length bs.length)).alloc (.cells (byteCells bs) 5)).drew g (M.set p ((M.s p).withBytes bs)) (fun q => if q = p then w.heap.size else bl q) ∧
      Frm (· = g) w ((w.setCell ⟨g, 3 + p * 8 + 7, none⟩ (.slice (some ⟨w.heap.size, 0, none⟩) bs.length bs.length)).alloc (.cells (byteCells bs) 5)).drew := by
  obtain ⟨V, hV⟩ : ∃ V, V = w.setCell ⟨g, 3 + p * 8 + 7, none⟩ (.slice (some ⟨w.heap.size, 0, none⟩) bs.length bs.length) := ⟨_, rfl⟩
  rw [← hV]
  have hsz : V.heap.size = w.heap.size := by rw [hV]; simp
  have hb : Below V.heap.size V (V.alloc (.cells (byteCells bs) 5)).drew := ((Below.refl _ _).alloc (Nat.le_refl _) _).drew
  have hfrm : Frm (· = g) w (V.alloc (.cells (byteCells bs) 5)).drew := by
    refine Frm.trans (b := V) (hV ▸ Frm.setCell _ w _ _ rfl) (Frm.ofBelow (F := fun _ => False) hb) (fun _ _ h => h.elim)
  refine ⟨?_, hfrm⟩
  have hlt := h.lt
  have hc : ∀ i, ((V.alloc (.cells (byteCells bs) 5)).drew).cell? ⟨g, i, none⟩ = V.cell? ⟨g, i, none⟩ := fun i => hb.cell (p := ⟨g, i, none⟩) (by rw [hsz]; exact hlt)
  have hc2 : ∀ i, i ≠ 3 + p * 8 + 7 → V.cell? ⟨g, i, none⟩ = w.cell? ⟨g, i, none⟩ := fun i hi => by
    rw [hV]
    exact World.cell?_setCell_other _ _ _ _ (fun e => hi (by injection e with _ e2; exact e2.symm))
  refine h.slotSet ((M.s p).withBytes bs) w.heap.size hp hfrm ?_ ?_ ?_ ?_ ?_
  · intro i
    rw [hb.frozen (p := ⟨g, i, none⟩) (by rw [hsz]; exact hlt), hV, World.frozen?_setCell]
    exact h.free i
  · intro i hi
    rw [hc, hc2 i (by omega)]
  · intro j hj
    rw [hc, hc2 _ (by omega)]
    have : j = 0 ∨ j = 1 ∨ j = 2 ∨ j = 3 ∨ j = 4 ∨ j = 5 ∨ j = 6 := by omega
    rcases this with rfl | rfl | rfl | rfl | rfl | rfl | rfl
    · exact h.uses p hp
    · exact h.full p hp
    · exact h.frm p hp
    · exact h.root p hp
    · exact h.first p hp
    · exact h.len p hp
    · exact h.rights p hp
  · rw [hc, hV, World.cell?_setCell_same _ _ _ (h.bytes p hp)]
    show _ = some (bytesV bs w.heap.size)
    rw [bytesV_some _ hne]
  · intro _
    refine ⟨by show w.heap.size < (V.alloc _).heap.size; rw [sizeAlloc, hsz]; omega, by omega, ?_, fun q hq _ hqb => by have := (h.row q hq hqb).1; omega⟩
    have := newRowAt V (.cells (byteCells bs) 5)
    rw [hsz] at this
    exact this

/-- make([]byte, l) -/
theorem make_bytes (w : World) (l : Nat) (hl : l ≤ 65535) : (Instr.makeSlice 90 (.int .i64 (l : Int)) (.int .i64 (l : Int))).run Try.prog w = .ok (.slice (some ⟨w.heap.size, 0, none⟩) l l) (w.alloc (.cells (byteCells (List.replicate l 0)) 5)) := by
  have := run_makeSlice (P := Try.prog) w 90 5 Try.t5 (.int .u8 0) Try.underlying90 (by kernel_rfl) (by kernel_rfl) .i64 .i64 (l : Int) (l : Int) (by omega) (Int.le_refl _) (by show (l : Int).toNat * 1 ≤ _; omega) (by show ((1 : Nat) : Int) * l ≤ _; omega) (by omega)
  rw [this]
  have e : (l : Int).toNat * Try.t5.size = l * 1 := rfl
  rw [e, made_bytes]
  rfl

set_option maxHeartbeats 1600000 in
theorem alloc_any {g : Nat} {M : Mach} {bl : Nat → Nat} {w : World} (t l : Nat) (h : HAt w g M bl) (ok : M.Ok) (ht : t < 4) (hl : l ≤ 65535) :
    Calls Try.prog 74 #[.pointer (some ⟨g, 0, none⟩), .int .i64 (t : Int), .int .i64 (l : Int)] w fun e w' => e = .returned (.tuple #[.string (M.alloc t l).2.1, .int .i64 (M.alloc t l).1]) ∧ ∃ bl', HAt w' g (M.alloc t l).2.2 bl' ∧ Frm (· = g) w w' ∧ ∀ q, ((M.alloc t l).2.2.s q).bytes ≠ [] → ((M.s q).bytes ≠ [] ∧ bl' q = bl q) ∨ w.heap.size ≤ bl' q := by
  have c2 := h.c2
  have hnc := ok.nc
  have htk : M.taken t ≤ 512 := taken_bd ok t M.ns (Nat.le_refl _)
  have HH : Hid (HAt w g M bl ∧ M.Ok) := ⟨h, ok⟩
  clear h ok
  by_cases h1 : 1 ≤ l ∧ l ≤ 256
  · obtain ⟨h1a, h1b⟩ := h1
    have hC : chunksN l ≤ 32 := by unfold chunksN; omega
    go_enter Try.func74, Try.ntmps74
    go_wp2
    go_quiet (first | (go_at_call 66; exact Calls.quiet_of_same (chunksTaken_any t (HH.out.1.below (belowDrewN _ _ _)) HH.out.2 ht)))
    obtain ⟨W, hW⟩ : ∃ W, W = w.drewN nq := ⟨_, rfl⟩
    have hb : Below w.heap.size w W := hW ▸ belowDrewN _ _ _
    rw [← hW]
    clear hW
    have HX : Hid (HAt W g M bl ∧ M.Ok ∧ Below w.heap.size w W) := ⟨HH.out.1.below hb, HH.out.2, hb⟩
    clear hb HH c2
    by_cases h2 : M.nc < M.taken t + chunksN l
    · have h2' : ((M.nc : Int) - (M.taken t : Int) < (chunksN l : Int)) := by omega
      have HA : Hid (M.alloc t (l : Int) = (7, nilS, M)) := by show _ = _; unfold Mach.alloc; rw [if_neg (fun h => h ⟨by omega, by omega⟩), if_pos (by simpa using h2)]
      clear h2
      go_wp2_with fail
      refine (chunksFor_any l W (by omega)).mono ?_
      rintro e w1 ⟨rfl, rfl⟩
      go_wp2_with fail
      go_ret2
      exact ⟨by rw [HA.out]; rfl, bl, by rw [HA.out]; exact HX.out.1, Frm.ofBelow HX.out.2.2, fun q hq => Or.inl ⟨by rw [HA.out] at hq; exact hq, rfl⟩⟩
    · have h2' : ¬ ((M.nc : Int) - (M.taken t : Int) < (chunksN l : Int)) := by omega
      rcases firstN_spec (fun n => !(M.s (16 * t + n)).full && decide ((M.s (16 * t + n)).uses ≤ 4095)) M.ns with ⟨hn1, hn2⟩ | ⟨i, hn1, hn2, hn3, hn4⟩
      · have hn1 : M.next t = none := hn1
        have HA : Hid (M.alloc t (l : Int) = (8, nilS, M)) := by show _ = _; unfold Mach.alloc; rw [if_neg (fun h => h ⟨by omega, by omega⟩), if_neg (by simpa using h2), hn1]
        have hV : nextV M t = .tuple #[.int .i64 0, .bool false] := by unfold nextV; rw [hn1]
        clear h2 hn1 hn2
        go_wp2_with fail
        refine (chunksFor_any l W (by omega)).mono ?_
        rintro e w1 ⟨rfl, rfl⟩
        go_wp2_with fail
        refine (next_any t HX.out.1 HX.out.2.1 ht).mono ?_
        rintro e w1 ⟨rfl, rfl⟩
        rw [hV]
        go_wp2_with fail
        go_ret2
        exact ⟨by rw [HA.out]; rfl, bl, by rw [HA.out]; exact HX.out.1, Frm.ofBelow HX.out.2.2, fun q hq => Or.inl ⟨by rw [HA.out] at hq; exact hq, rfl⟩⟩
      · have hn1 : M.next t = some i := hn1
        have hns := HX.out.2.1.ns
        have hp : 16 * t + i < 64 := by omega
        have hun : Hid ((M.s (16 * t + i)).uses ≤ 4095) := by
          show _ ≤ _
          simp at hn3
          exact hn3.2
        have HA : Hid (M.alloc t (l : Int) = (0, twoW (16 * ((M.s (16 * t + i)).uses : Int) + (i : Int)), M.set (16 * t + i) (HSlot.new (M.s (16 * t + i)).uses (16 * t + i) l))) := by show _ = _; unfold Mach.alloc; rw [if_neg (fun h => h ⟨by omega, by omega⟩), if_neg (by simpa using h2), hn1]
        have hV : nextV M t = .tuple #[.int .i64 ((16 * t + i : Nat) : Int), .bool true] := by unfold nextV; rw [hn1]
        clear h2 hn1 hn3 hn4
        go_wp2_with fail
        refine (chunksFor_any l W (by omega)).mono ?_
        rintro e w1 ⟨rfl, rfl⟩
        go_wp2_with fail
        refine (next_any t HX.out.1 HX.out.2.1 ht).mono ?_
        rintro e w1 ⟨rfl, rfl⟩
        rw [hV]
        clear hV
        generalize hpp : 16 * t + i = p at *
        go_wp2_with fail
        refine (lay_any p _ _ _ _ _ HX.out.1 HX.out.2.1 hp).mono ?_
        rintro e w2 ⟨rfl, hM2, hF2⟩
        have HY : Hid (HAt w2 g (M.set p ((M.s p).laid (-1) (p : Int) 0 (l : Int) 7)) bl ∧ Frm (· = g) w w2) := ⟨hM2, (Frm.ofBelow HX.out.2.2).trans hF2 (fun _ _ h => h)⟩
        have hb7 := hM2.bytes p hp
        have hfr7 := hM2.free (3 + p * 8 + 7)
        have hg2 := hM2.lt
        clear hM2 hF2
        have hmk := make_bytes w2 l hl
        have hmk2 := make_bytes w2.drew l hl
        go_wp2_with fail
        go_region
        all_goals
          go_wp2_with fail
          have HZ : Hid (HAt ((w2.setCell ⟨g, 3 + p * 8 + 7, none⟩ (.slice (some ⟨w2.heap.size, 0, none⟩) l l)).alloc (.cells (byteCells (List.replicate l 0)) 5)).drew g (M.set p (HSlot.new (M.s p).uses p l)) (fun q => if q = p then w2.heap.size else bl q) ∧
              Frm (· = g) w ((w2.setCell ⟨g, 3 + p * 8 + 7, none⟩ (.slice (some ⟨w2.heap.size, 0, none⟩) l l)).alloc (.cells (byteCells (List.replicate l 0)) 5)).drew) := by
            have := HY.out.1.bytesSet (List.replicate l 0) hp (by intro hh; have := congrArg List.length hh; simp at this; omega)
            rw [List.length_replicate] at this
            refine ⟨?_, HY.out.2.trans this.2 (fun _ _ h => h)⟩
            have e : (M.set p ((M.s p).laid (-1) (p : Int) 0 (l : Int) 7)).set p (((M.set p ((M.s p).laid (-1) (p : Int) 0 (l : Int) 7)).s p).withBytes (List.replicate l 0)) = M.set p (HSlot.new (M.s p).uses p l) := by
              rw [Mach.set_same, set_set]
              rfl
            rw [e] at this
            exact this.1
          have hok3 : Hid ((M.set p (HSlot.new (M.s p).uses p l)).Ok) := by
            have ok := HX.out.2.1
            refine ⟨ok.nt, ok.ns, ok.nc, fun q => ?_, fun q => ?_⟩
            · by_cases hq : q = p
              · subst hq; rw [Mach.set_same]; have := hun.out; simp [HSlot.new]; omega
              · rw [Mach.set_other _ _ hq]; exact ok.uses q
            · by_cases hq : q = p
              · subst hq; rw [Mach.set_same]; simp [HSlot.new]; omega
              · rw [Mach.set_other _ _ hq]; exact ok.bytes q
          refine (handleAt_any p HZ.out.1 hok3.out hp).mono ?_
          rintro e w3 ⟨rfl, rfl⟩
          go_wp2_with fail
          refine (twoBytes_any _ _).mono ?_
          rintro e w4 ⟨rfl, hb4⟩
          have HQ : Hid (Below ((w2.setCell ⟨g, 3 + p * 8 + 7, none⟩ (.slice (some ⟨w2.heap.size, 0, none⟩) l l)).alloc (.cells (byteCells (List.replicate l 0)) 5)).drew.heap.size ((w2.setCell ⟨g, 3 + p * 8 + 7, none⟩ (.slice (some ⟨w2.heap.size, 0, none⟩) l l)).alloc (.cells (byteCells (List.replicate l 0)) 5)).drew w4) := hb4
          clear hb4
          go_wp2_with fail
          go_ret2
          refine ⟨?_, (fun q => if q = p then w2.heap.size else bl q), ?_, ?_, ?_⟩
          · rw [HA.out]
            have e : (M.set p (HSlot.new (M.s p).uses p l)).handle p = 16 * ((M.s p).uses : Int) + (i : Int) := by
              unfold Mach.handle
              rw [Mach.set_same]
              simp only [HSlot.new]
              omega
            rw [← e]
            rfl
          · rw [HA.out]
            exact HZ.out.1.below HQ.out
          · exact HZ.out.2.trans (Frm.ofBelow (F := fun _ => False) HQ.out) (fun _ _ h => h.elim)
          · intro q hq
            have := HY.out.2.size
            by_cases hqp : q = p
            · exact Or.inr (by simp only [if_pos hqp]; exact this)
            · rw [HA.out] at hq
              have hq : ((M.set p (HSlot.new (M.s p).uses p l)).s q).bytes ≠ [] := hq
              rw [Mach.set_other _ _ hqp] at hq
              exact Or.inl ⟨hq, if_neg hqp⟩
  · have HA : Hid (M.alloc t (l : Int) = (6, nilS, M)) := by show _ = _; unfold Mach.alloc; rw [if_pos (by omega)]
    by_cases h2 : l = 0
    · subst h2
      go_enter Try.func74, Try.ntmps74
      go_wp2
      go_ret2
      exact ⟨by rw [HA.out]; rfl, bl, by rw [HA.out]; exact HH.out.1, Frm.refl _ _, fun q hq => Or.inl ⟨by rw [HA.out] at hq; exact hq, rfl⟩⟩
    · have h3 : (256 : Int) < (l : Int) := by omega
      clear h1
      go_enter Try.func74, Try.ntmps74
      go_wp2
      go_ret2
      exact ⟨by rw [HA.out]; rfl, bl, by rw [HA.out]; exact HH.out.1, Frm.refl _ _, fun q hq => Or.inl ⟨by rw [HA.out] at hq; exact hq, rfl⟩⟩

end Go.Proofs.Ytkjjamigaamllaa
