/-
  Write, by the landed house.
-/
import Derived.Test.YtkjjamigaamllaaHouseAlloc
namespace Go.Proofs.Ytkjjamigaamllaa
open Go.RowKit
set_option linter.unusedSimpArgs false

theorem byteCells_set (l : List Int) (i : Nat) (v : Int) : (byteCells l).setIfInBounds i (.int .u8 v) = byteCells (l.set i v) := by
  apply Array.ext
  · simp [byteCells]
  · intro j h1 h2
    simp [byteCells, List.getElem_set]

/-- an object's bytes are turned -/
theorem HAt.bytesTurn {w w' : World} {g : Nat} {M : Mach} {bl : Nat → Nat} {r : Nat} (bs : List Int) (h : HAt w g M bl) (hr : r < 64) (hne : (M.s r).bytes ≠ []) (hlen : bs.length = (M.s r).bytes.length)
    (hf : Frm (· = bl r) w w') (hrow : w'.heap[bl r]? = some (.cells (byteCells bs) 5 (0, 0))) : HAt w' g (M.set r ((M.s r).withBytes bs)) bl := by
  obtain ⟨q1, q2, q3⟩ := h.row r hr hne
  have hg : ¬ g = bl r := fun e => q2 e.symm
  have hc : ∀ i, w'.cell? ⟨g, i, none⟩ = w.cell? ⟨g, i, none⟩ := fun i => hf.cell (p := ⟨g, i, none⟩) h.lt hg
  have sx : ∀ q, (M.set r ((M.s r).withBytes bs)).s q = if q = r then (M.s r).withBytes bs else M.s q := fun q => rfl
  have hbs : bs ≠ [] := by
    intro e
    rw [e] at hlen
    exact hne (List.eq_nil_of_length_eq_zero hlen.symm)
  have same : ∀ (P : HSlot → Value), (∀ x b, P (HSlot.withBytes x b) = P x) → ∀ q, P ((M.set r ((M.s r).withBytes bs)).s q) = P (M.s q) := by
    intro P hP q
    rw [sx]
    by_cases e : q = r
    · rw [if_pos e, hP, e]
    · rw [if_neg e]
  refine { lt := Nat.lt_of_lt_of_le h.lt hf.size, free := fun i => (hf.frozen (p := ⟨g, i, none⟩) h.lt hg).trans (h.free i), c0 := (hc _).trans h.c0, c1 := (hc _).trans h.c1, c2 := (hc _).trans h.c2, uses := ?_, full := ?_, frm := ?_, root := ?_, first := ?_, len := ?_, rights := ?_, bytes := ?_, row := ?_, inj := ?_ }
  · intro q hq; rw [hc, h.uses q hq, same (fun x => .int .i64 (x.uses : Int)) (fun _ _ => rfl)]
  · intro q hq; rw [hc, h.full q hq, same (fun x => .bool x.full) (fun _ _ => rfl)]
  · intro q hq; rw [hc, h.frm q hq, same (fun x => .int .i64 x.frm) (fun _ _ => rfl)]
  · intro q hq; rw [hc, h.root q hq, same (fun x => .int .i64 x.root) (fun _ _ => rfl)]
  · intro q hq; rw [hc, h.first q hq, same (fun x => .int .i64 x.first) (fun _ _ => rfl)]
  · intro q hq; rw [hc, h.len q hq, same (fun x => .int .i64 x.len) (fun _ _ => rfl)]
  · intro q hq; rw [hc, h.rights q hq, same (fun x => .int .i64 x.rights) (fun _ _ => rfl)]
  · intro q hq
    rw [hc, h.bytes q hq, sx]
    by_cases e : q = r
    · rw [if_pos e, e]
      show _ = some (bytesV bs (bl r))
      rw [bytesV_some _ hne, bytesV_some _ hbs, hlen]
    · rw [if_neg e]
  · intro q hq
    rw [sx]
    by_cases e : q = r
    · rw [if_pos e, e]
      exact fun _ => ⟨Nat.lt_of_lt_of_le q1 hf.size, q2, hrow⟩
    · rw [if_neg e]
      intro hb
      obtain ⟨h1, h2, h3⟩ := h.row q hq hb
      exact ⟨Nat.lt_of_lt_of_le h1 hf.size, h2, (hf.block _ h1 (fun e2 => e (h.inj q r hq hr hb hne e2))).trans h3⟩
  · intro a b ha hb
    have bn : ∀ q, ((M.set r ((M.s r).withBytes bs)).s q).bytes ≠ [] → (M.s q).bytes ≠ [] := by
      intro q
      rw [sx]
      by_cases e : q = r
      · rw [if_pos e, e]; exact fun _ => hne
      · rw [if_neg e]; exact id
    exact fun h1 h2 h3 => h.inj a b ha hb (bn a h1) (bn b h2) h3

set_option maxHeartbeats 1600000 in
theorem write_any {g : Nat} {M : Mach} {bl : Nat → Nat} {w : World} (p o : Nat) (d : ByteArray) (h : HAt w g M bl) (inv : M.Inv) (hp : p < 64) (hfull : (M.s p).full = true) (ho : o ≤ 65535) (hd : d.size ≤ 64) :
    Calls Try.prog 78 #[.pointer (some ⟨g, 0, none⟩), .int .i64 (p : Int), .int .i64 (o : Int), .string d] w fun e w' => e = .returned (.int .i64 (M.writeE p o d)) ∧ HAt w' g (M.write p o d) bl ∧ Frm (HFoot g M bl) w w' := by
  have c2 := h.frm p hp
  have c3 := h.root p hp
  have c4 := h.first p hp
  have c5 := h.len p hp
  have c6 := h.rights p hp
  have hr := inv.rights p
  have ha := and_2 hr
  obtain ⟨r, e1, e2, e3, e4, e5, e6, e7⟩ := inv.top p hfull
  have hby := inv.ok.bytes r
  have hne : (M.s r).bytes ≠ [] := inv.root_bytes e3 e4
  have HH : Hid (HAt w g M bl) := h
  clear h inv
  by_cases h1 : (M.s p).rights / 2 % 2 = 0
  · have h2 : Hid (M.writeE p o d = 5 ∧ M.write p o d = M) := by
      have q : M.writeE p o d = 5 := by unfold Mach.writeE; rw [if_pos h1]
      refine ⟨q, ?_⟩
      unfold Mach.write; rw [q]; rfl
    rw [h1] at ha
    clear h1 hr
    go_enter Try.func78, Try.ntmps78
    go_wp2
    go_ret
    exact ⟨by rw [h2.out.1]; rfl, by rw [h2.out.2]; exact HH.out.below ((Below.refl _ _).alloc (Nat.le_refl _) _), Frm.alloc _ _ _⟩
  · have h1' : (M.s p).rights / 2 % 2 = 1 := by omega
    rw [h1'] at ha
    by_cases h5 : (M.s p).len < (o : Int) + (d.size : Int)
    · have h2 : Hid (M.writeE p o d = 6 ∧ M.write p o d = M) := by
        have q : M.writeE p o d = 6 := by unfold Mach.writeE; rw [if_neg h1, if_pos h5]
        refine ⟨q, ?_⟩
        unfold Mach.write; rw [q]; rfl
      clear h1 h1' hr
      go_enter Try.func78, Try.ntmps78
      go_wp2
      go_ret
      exact ⟨by rw [h2.out.1]; rfl, by rw [h2.out.2]; exact HH.out.below ((Below.refl _ _).alloc (Nat.le_refl _) _), Frm.alloc _ _ _⟩
    · obtain ⟨f, hf⟩ : ∃ f : Nat, (M.s p).first = (f : Int) := ⟨(M.s p).first.toNat, by omega⟩
      have h2 : Hid (M.writeE p o d = 0 ∧ M.write p o d = M.set r ((M.s r).withBytes (spl (M.s r).bytes (f + o) d d.size))) := by
        have q : M.writeE p o d = 0 := by unfold Mach.writeE; rw [if_neg h1, if_neg (by omega)]
        refine ⟨q, ?_⟩
        unfold Mach.write
        rw [if_pos q, e1, hf]
        have q1 : ((f : Int) + (o : Int)).toNat = f + o := by omega
        rw [q1]
        rfl
      obtain ⟨b1, b2, b3⟩ := HH.out.row r e2 hne
      have c7 := HH.out.bytes r e2
      rw [bytesV_some _ hne] at c7
      rw [e1] at c3
      rw [hf] at c4 e7 e5
      have hb : f + o + d.size ≤ (M.s r).bytes.length := by omega
      have hg := HH.out.lt
      obtain ⟨N, hN⟩ : ∃ N, N = (Obj.cells #[.int .i64 (M.s p).frm, .int .i64 (r : Int), .int .i64 (f : Int), .int .i64 (M.s p).len, .int .i64 (M.s p).rights] 110) := ⟨_, rfl⟩
      have HB : Hid (w.heap[bl r]? = some (.cells (byteCells (M.s r).bytes) 5 (0, 0)) ∧ bl r ≠ g ∧ N = (Obj.cells #[.int .i64 (M.s p).frm, .int .i64 (r : Int), .int .i64 (f : Int), .int .i64 (M.s p).len, .int .i64 (M.s p).rights] 110)) := ⟨b3, b2, hN⟩
      clear h1 h1' hr hf e1 b2 b3 hN
      go_enter Try.func78, Try.ntmps78
      go_wp2
      go_loopw [11] (fun i W => ∃ k : Nat, k ≤ d.size ∧ i = .int .i64 (k : Int) ∧ Frm (· = bl r) (w.alloc N) W ∧ W.heap[bl r]? = some (.cells (byteCells (spl (M.s r).bytes (f + o) d k)) 5 (0, 0))) (fun i _ => d.size - (intOf i).toNat)
      case atStart =>
        refine ⟨0, by omega, rfl, ?_, ?_⟩
        · rw [HB.out.2.2]; exact Frm.refl _ _
        · exact (Below.heap_alloc _ _ _ b1).trans HB.out.1
      case round =>
        obtain ⟨k, hk, rfl, hF, hR⟩ := hrel
        by_cases hlt : k < d.size
        · have hlt2 : (k : Int) < (d.size : Int) := by omega
          have nw := newRowAt w N
          have k1 : wr.cell? ⟨w.heap.size, 1, none⟩ = some (.int .i64 (r : Int)) := by
            rw [hF.cell (p := ⟨w.heap.size, 1, none⟩) (by rw [sizeAlloc]; exact Nat.lt_succ_self _) (by show ¬ w.heap.size = bl r; omega)]
            rw [HB.out.2.2] at nw ⊢
            exact rowCell nw 1
          have k2 : wr.cell? ⟨g, 3 + r * 8 + 7, none⟩ = some (.slice (some ⟨bl r, 0, none⟩) (M.s r).bytes.length (M.s r).bytes.length) := by
            rw [hF.cell (p := ⟨g, 3 + r * 8 + 7, none⟩) (by rw [sizeAlloc]; exact Nat.lt_succ_of_lt hg) (fun e => HB.out.2.1 e.symm)]
            rw [((Below.refl w.heap.size w).alloc (Nat.le_refl _) N).cell (p := ⟨g, 3 + r * 8 + 7, none⟩) hg]
            exact c7
          have hl : (spl (M.s r).bytes (f + o) d k).length = (M.s r).bytes.length := spl_len _ _ _ _
          have k3 : wr.cell? ⟨bl r, f + o + k, none⟩ = some (.int .u8 ((spl (M.s r).bytes (f + o) d k).getD (f + o + k) 0)) := by
            rw [rowCell hR, byteCells_get _ _ (by omega)]
          have k4 := rowFree hR (f + o + k)
          have HW : Hid (Frm (· = bl r) (w.alloc N) wr ∧ wr.heap[bl r]? = some (.cells (byteCells (spl (M.s r).bytes (f + o) d k)) 5 (0, 0))) := ⟨hF, hR⟩
          clear hF hR nw hl c2 c3 c4 c5 c6 c7
          go_wp2
          go_region
          all_goals go_wp2
          all_goals go_roundw
          case rel =>
            refine ⟨k + 1, by omega, rfl, ?_, ?_⟩
            · exact (HW.out.1.trans (Frm.setCell (· = bl r) _ ⟨bl r, f + o + k, none⟩ _ rfl) (fun _ _ h => h)).trans (Frm.drew (fun _ => False) _) (fun _ _ h => h.elim)
            · show ((wr.setCell ⟨bl r, f + o + k, none⟩ _).heap[bl r]?) = _
              have := Go.Joins.block_setCell (i := f + o + k) HW.out.2 (.int .u8 (byt d k))
              rw [byteCells_set] at this
              rw [byt_in hlt]
              exact this
          case measure => simp [intOf]; omega
        · obtain rfl : k = d.size := by omega
          have HW : Hid (Frm (· = bl r) (w.alloc N) wr ∧ wr.heap[bl r]? = some (.cells (byteCells (spl (M.s r).bytes (f + o) d d.size)) 5 (0, 0))) := ⟨hF, hR⟩
          clear hF hR
          go_wp2
          go_ret
          have F2 : Frm (· = bl r) w wr := ((Frm.alloc (fun _ => False) w N).mono (fun _ _ h => h.elim)).trans HW.out.1 (fun _ _ h => h)
          exact ⟨by rw [h2.out.1]; rfl, by rw [h2.out.2]; exact HH.out.bytesTurn _ e2 hne (spl_len _ _ _ _) F2 HW.out.2, F2.mono (fun k _ hk => Or.inr ⟨r, e2, hne, hk⟩)⟩

end Go.Proofs.Ytkjjamigaamllaa
