/-
  A thing is laid, by the document's house.
-/
import Derived.Test.YtkjjamigaamllaaRefRead
import Derived.Test.YtkjjamigaamllaaAppendMine
namespace Go.Proofs.Ytkjjamigaamllaa
open Go.RowKit
set_option linter.unusedSimpArgs false

def RH.push (R : RH) (x : RThing) : RH := { R with nT := R.nT + 1, T := fun i => if i = R.nT then x else R.T i }
def RL.push (L : RL) (n : Nat) (v : Value) (b : Nat) : RL := { L with vt := v, th := fun i => if i = n then b else L.th i }
/-- the number of a tenant's next slot -/
def RH.next (R : RH) (t : Int) : Option Nat := firstN (fun s => !R.holds t (s : Int) && decide (R.count t (s : Int) ≤ 4095)) R.ns

theorem ptrs_push (f : Nat → Nat) (n b : Nat) : ptrs (fun i => if i = n then b else f i) (n + 1) = ptrs f n ++ [.pointer (some ⟨b, 0, none⟩)] := by
  unfold ptrs
  rw [List.range_succ, List.map_append]
  congr 1
  · apply List.map_congr_left
    intro i hi
    rw [List.mem_range] at hi
    simp [show i ≠ n by omega]
  · simp
theorem ptrs_congr {f f' : Nat → Nat} {n : Nat} (h : ∀ i, i < n → f i = f' i) : ptrs f n = ptrs f' n := by
  unfold ptrs
  apply List.map_congr_left
  intro i hi
  rw [List.mem_range] at hi
  rw [h i hi]

/-- behind the append and the store -/
theorem RAt.pushed {w w1 : World} {g : Nat} {R : RH} {L : RL} {x : RThing} {N : Obj} {k cap : Nat} (h : RAt w g R L)
    (hown : w1.ownsRow 0 131 1 (.slice (some ⟨k, 0, none⟩) (R.nT + 1) cap) (R.nT + 1) (ptrs L.th R.nT ++ [.pointer (some ⟨w.heap.size, 0, none⟩)]))
    (hgr : ((w.alloc (.cells x.cells 130)).alloc N).grownBy w1 L.vt.ownBlock) (hk : some k = L.vt.ownBlock ∨ w.heap.size + 2 ≤ k) :
    RAt (w1.setCell ⟨g, 4, none⟩ (.slice (some ⟨k, 0, none⟩) (R.nT + 1) cap)) g (R.push x) (L.push R.nT (.slice (some ⟨k, 0, none⟩) (R.nT + 1) cap) w.heap.size) ∧
      Frm (RFoot g R L) w (w1.setCell ⟨g, 4, none⟩ (.slice (some ⟨k, 0, none⟩) (R.nT + 1) cap)) ∧
      ∀ j, RFoot g (R.push x) (L.push R.nT (.slice (some ⟨k, 0, none⟩) (R.nT + 1) cap) w.heap.size) j → RFoot g R L j ∨ w.heap.size ≤ j := by
  obtain ⟨V, hV⟩ : ∃ V, V = (.slice (some ⟨k, 0, none⟩) (R.nT + 1) cap : Value) := ⟨_, rfl⟩
  rw [← hV] at hown ⊢
  have hVk : V.ownBlock = some k := by rw [hV]; rfl
  have hg := lt_of_row h.row
  have hsz : ((w.alloc (.cells x.cells 130)).alloc N).heap.size = w.heap.size + 2 := by simp
  have hgv : some g ≠ L.vt.ownBlock := fun e => by
    obtain ⟨_, cur, hc⟩ := owns_lt h.ts e
    exact ne_of_type h.row hc (by decide) rfl
  have old : ∀ j, j < w.heap.size → some j ≠ L.vt.ownBlock → w1.heap[j]? = w.heap[j]? := fun j hj hne => by
    rw [hgr.block j (by omega) hne, Below.heap_alloc _ _ _ (by simp; omega), Below.heap_alloc _ _ _ hj]
  have old2 : ∀ j, j < w.heap.size → some j ≠ L.vt.ownBlock → j ≠ g → (w1.setCell ⟨g, 4, none⟩ V).heap[j]? = w.heap[j]? := fun j hj hne hjg => by
    rw [Below.heap_setCell _ _ _ _ hjg]; exact old j hj hne
  have hvt : ∀ j, some j = L.vt.ownBlock → j < w.heap.size := fun j hj => (owns_lt h.ts hj).1
  have hkg : k ≠ g := by
    rcases hk with hk | hk
    · exact fun e => hgv (e ▸ hk)
    · omega
  have hB : w1.heap[w.heap.size]? = some (.cells x.cells 130 (0, 0)) := by
    rw [hgr.block _ (by omega) (fun e => by have := hvt _ e; omega), Below.heap_alloc _ _ _ (by simp)]
    exact newRowAt _ _
  have nv : ∀ (a : Nat) (cs : Array Value) (ty : TypeId), w.heap[a]? = some (.cells cs ty (0, 0)) → ty ≠ 131 → some a ≠ L.vt.ownBlock := fun a cs ty ha hne e => by
    obtain ⟨_, cur, hc⟩ := owns_lt h.ts e
    exact ne_of_type ha hc hne rfl
  have sT : ∀ i, (L.push R.nT V w.heap.size).th i = if i = R.nT then w.heap.size else L.th i := fun i => rfl
  have sX : ∀ i, (R.push x).T i = if i = R.nT then x else R.T i := fun i => rfl
  refine ⟨⟨?_, ?_, ?_, ?_, ?_, ?_, h.oInj, h.bInj, ?_⟩, ?_, ?_⟩
  · have h1 : w1.heap[g]? = some (.cells #[.int .i64 (R.nt : Int), .int .i64 (R.ns : Int), .int .i64 (R.nc : Int), L.vo, L.vt] 102 (0, 0)) := (old g hg hgv).trans h.row
    have := Go.Joins.block_setCell (i := 4) h1 V
    exact this
  · refine owns_frame h.os (fun j hj => ?_)
    obtain ⟨h1, cur, h2⟩ := owns_lt h.os hj
    exact old2 j h1 (nv j cur _ h2 (by decide)) (fun e => ne_of_type h.row (e ▸ h2) (by decide) rfl)
  · have : ptrs (L.push R.nT V w.heap.size).th (R.nT + 1) = ptrs L.th R.nT ++ [.pointer (some ⟨w.heap.size, 0, none⟩)] := ptrs_push _ _ _
    show World.ownsRow _ 0 _ 1 V (R.nT + 1) (ptrs (L.push R.nT V w.heap.size).th (R.nT + 1))
    rw [this]
    refine owns_frame hown (fun j hj => ?_)
    rw [hVk] at hj
    injection hj with hj
    exact Below.heap_setCell _ _ _ _ (by rw [hj]; exact hkg)
  · intro i hi
    have h1 := h.oAt i hi
    exact (old2 _ (lt_of_row h1) (nv _ _ _ h1 (by decide)) (fun e => ne_of_type h.row (e ▸ h1) (by decide) rfl)).trans h1
  · intro i hi
    have h1 := h.bAt i hi
    exact (old2 _ (lt_of_row h1) (nv _ _ _ h1 (by decide)) (fun e => ne_of_type h.row (e ▸ h1) (by decide) rfl)).trans h1
  · intro i hi
    rw [sT, sX]
    by_cases e : i = R.nT
    · rw [if_pos e, if_pos e, Below.heap_setCell _ _ _ _ (by show w.heap.size ≠ g; omega)]
      exact hB
    · rw [if_neg e, if_neg e]
      have hi2 : i < R.nT + 1 := hi
      have h1 := h.tAt i (by omega)
      exact (old2 _ (lt_of_row h1) (nv _ _ _ h1 (by decide)) (fun e => ne_of_type h.row (e ▸ h1) (by decide) rfl)).trans h1
  · intro i j hi hj
    have hi2 : i < R.nT + 1 := hi
    have hj2 : j < R.nT + 1 := hj
    rw [sT, sT]
    by_cases e : i = R.nT <;> by_cases e2 : j = R.nT
    · intros; omega
    · rw [if_pos e, if_neg e2]
      intro e3
      have := lt_of_row (h.tAt j (by omega))
      omega
    · rw [if_neg e, if_pos e2]
      intro e3
      have := lt_of_row (h.tAt i (by omega))
      omega
    · rw [if_neg e, if_neg e2]
      exact h.tInj i j (by omega) (by omega)
  · refine ⟨hgr.os, hgr.tape, hgr.output, ?_, fun j hj hn => ?_⟩
    · have := hgr.size
      rw [hsz] at this
      simp
      omega
    · exact old2 j hj (fun e => hn (Or.inr (Or.inr (Or.inl e)))) (fun e => hn (Or.inl e))
  · rintro j (rfl | hj | hj | hj | ⟨i, hi, hj⟩)
    · exact Or.inl (Or.inl rfl)
    · exact Or.inl (Or.inr (Or.inl hj))
    · have hj : some j = V.ownBlock := hj
      rw [hVk] at hj
      injection hj with hj
      subst hj
      rcases hk with hk | hk
      · exact Or.inl (Or.inr (Or.inr (Or.inl hk)))
      · exact Or.inr (by omega)
    · exact Or.inl (Or.inr (Or.inr (Or.inr (Or.inl hj))))
    · rw [sT] at hj
      have hi2 : i < R.nT + 1 := hi
      by_cases e : i = R.nT
      · rw [if_pos e] at hj; exact Or.inr (by omega)
      · rw [if_neg e] at hj; exact Or.inl (Or.inr (Or.inr (Or.inr (Or.inr ⟨i, by omega, hj⟩))))

theorem newCell2 (w : World) (o : Obj) (cs : Array Value) (t : TypeId) (i : Nat) : ((w.alloc o).alloc (.cells cs t)).cell? ⟨w.heap.size + 1, i, none⟩ = cs[i]? := by
  have h0 := newRowAt (w.alloc o) (.cells cs t)
  rw [sizeAlloc] at h0
  exact rowCell h0 i

/-- ahead of the store -/
theorem RAt.pushing {w w1 : World} {g : Nat} {R : RH} {L : RL} {cs : Array Value} {ty : TypeId} {N : Obj} (h : RAt w g R L) (hgr : ((w.alloc (.cells cs ty)).alloc N).grownBy w1 L.vt.ownBlock) :
    w1.heap[g]? = some (.cells #[.int .i64 (R.nt : Int), .int .i64 (R.ns : Int), .int .i64 (R.nc : Int), L.vo, L.vt] 102 (0, 0)) ∧ w1.heap[w.heap.size]? = some (.cells cs ty (0, 0)) ∧ w.heap.size < w1.heap.size := by
  have hg := lt_of_row h.row
  have hsz : ((w.alloc (.cells cs ty)).alloc N).heap.size = w.heap.size + 2 := by simp
  refine ⟨?_, ?_, by have := hgr.size; omega⟩
  · rw [hgr.block g (by omega) (fun e => by
      obtain ⟨_, cur, hc⟩ := owns_lt h.ts e
      exact ne_of_type h.row hc (by decide) rfl), Below.heap_alloc _ _ _ (by simp; omega), Below.heap_alloc _ _ _ hg]
    exact h.row
  · rw [hgr.block _ (by omega) (fun e => by have := (owns_lt h.ts e).1; omega), Below.heap_alloc _ _ _ (by simp)]
    exact newRowAt _ _

/-- what laid answers -/
def RH.laidE (R : RH) (t : Int) : Int := match R.next t with
  | some _ => 0
  | none => 8
def RH.laidS (R : RH) (t : Int) : ByteArray := match R.next t with
  | some s => twoW (16 * (R.count t (s : Int) : Int) + (s : Int))
  | none => ⟨#[]⟩
def RH.laid (R : RH) (t : Int) (f o a l m : Int) : RH := match R.next t with
  | some s => R.push ⟨t, (s : Int), 16 * (R.count t (s : Int) : Int) + (s : Int), f, o, a, l, m, false⟩
  | none => R

set_option maxHeartbeats 1600000 in
theorem laid_any {g : Nat} {R : RH} {L : RL} {w : World} (t f o a l m : Int) (h : RAt w g R L) (ok : R.Ok) :
    Calls Try.prog 100 #[.pointer (some ⟨g, 0, none⟩), .int .i64 t, .agg #[.int .i64 0, .int .i64 0, .int .i64 0, .int .i64 f, .int .i64 o, .int .i64 a, .int .i64 l, .int .i64 m, .bool false]] w
      fun e w' => e = .returned (.tuple #[.string (R.laidS t), .int .i64 (R.laidE t)]) ∧ ∃ L', RAt w' g (R.laid t f o a l m) L' ∧ Frm (RFoot g R L) w w' ∧ (∀ j, RFoot g (R.laid t f o a l m) L' j → RFoot g R L j ∨ w.heap.size ≤ j) ∧ L'.vo = L.vo ∧ ∀ i, i < R.nT → L'.th i = L.th i := by
  have hns := ok.ns
  have hnT := ok.nT
  have hg := lt_of_row h.row
  have c1 : w.cell? ⟨g, 1, none⟩ = some (.int .i64 (R.ns : Int)) := rowCell h.row 1
  obtain ⟨va, vc, hv, _⟩ := h.thing
  have c4 : w.cell? ⟨g, 4, none⟩ = some (.slice va R.nT vc) := by rw [← hv]; exact rowCell h.row 4
  have hf4 := rowFree h.row 4
  have HH : Hid (RAt w g R L ∧ R.Ok ∧ L.vt = .slice va R.nT vc) := ⟨h, ok, hv⟩
  have hA : Hid (∀ N, RAt (w.alloc N) g R L) := fun N => h.below ((Below.refl _ _).alloc (Nat.le_refl _) _)
  clear h ok hv
  go_enter Try.func100, Try.ntmps100
  go_wp2
  go_loop [8] (fun i => ∃ k : Nat, k ≤ R.ns ∧ i = .int .i64 (k : Int) ∧ ∀ j, j < k → (!R.holds t (j : Int) && decide (R.count t (j : Int) ≤ 4095)) = false) (fun i => R.ns - (intOf i).toNat)
  case atStart => exact ⟨0, by omega, rfl, fun j hj => by omega⟩
  case round =>
    obtain ⟨k, hk, rfl, hno⟩ := hrel
    have HN : Hid (∀ j, j < k → (!R.holds t (j : Int) && decide (R.count t (j : Int) ≤ 4095)) = false) := hno
    clear hno
    have next : Hid ((!R.holds t (k : Int) && decide (R.count t (k : Int) ≤ 4095)) = false → ∀ j, j < k + 1 → (!R.holds t (j : Int) && decide (R.count t (j : Int) ≤ 4095)) = false) := by
      intro hf j hj
      by_cases hj2 : j < k
      · exact HN.out j hj2
      · obtain rfl : j = k := by omega
        exact hf
    by_cases hlt : k < R.ns
    · have hlt2 : (k : Int) < (R.ns : Int) := by omega
      have hct : R.count t (k : Int) ≤ 262144 := by have := count_bd (R := R) t (k : Int) R.nT; unfold RH.count; omega
      cases hh : R.holds t (k : Int) with
      | true =>
        have HQ : Hid (∀ j, j < k + 1 → (!R.holds t (j : Int) && decide (R.count t (j : Int) ≤ 4095)) = false) := next.out (by simp [hh])
        go_wp2_with fail
        refine (slot_any t (k : Int) (hA.out _) HH.out.2.1).mono ?_
        rintro e w1 ⟨rfl, rfl⟩
        rw [hh]
        go_wp2
        go_round
        case rel => exact ⟨k + 1, by omega, rfl, HQ.out⟩
        case measure => simp [intOf]; omega
      | false =>
        by_cases hc : R.count t (k : Int) ≤ 4095
        · have hc2 : ¬ (4095 : Int) < (R.count t (k : Int) : Int) := by omega
          have HX : Hid (R.next t = some k) := firstN_some hlt (by simp [hh, hc]) HN.out
          go_wp2_with fail
          refine (slot_any t (k : Int) (hA.out _) HH.out.2.1).mono ?_
          rintro e w1 ⟨rfl, rfl⟩
          rw [hh]
          go_wp2_with (first
            | (at_builtin
               refine wpList_append_mine _ rfl _ _ 100 rfl 131 Try.t131 (.pointer none) 8 Try.underlying100 (by kernel_rfl) (by kernel_rfl) (by kernel_rfl) (by kernel_rfl) rfl (.slice va R.nT vc) R.nT (ptrs L.th R.nT) rfl ?c1 ⟨w.heap.size + 1, 0, none⟩ (.pointer (some ⟨w.heap.size, 0, none⟩)) rfl ?c2 rfl ?c3 ?c4 ?_
               rotate_left 4
               intro kk cap w3 hown hgr hkk
               obtain ⟨r1, r2, r3⟩ := HH.out.1.pushing (by rw [HH.out.2.2]; exact hgr)
               have HP : Hid _ := HH.out.1.pushed (x := ⟨t, (k : Int), 16 * (R.count t (k : Int) : Int) + (k : Int), f, o, a, l, m, false⟩) hown (by rw [HH.out.2.2]; exact hgr) (by rw [HH.out.2.2]; simpa using hkk)
               have d4 := rowCell r1 4
               have e4 := rowFree r1 4
               have d2 := rowCell r2 2
               clear hown hgr hkk r1 r2))
          case c1 => exact owns_frame (HH.out.2.2 ▸ HH.out.1.ts) (fun j hj => by
            have hj2 := (owns_lt HH.out.1.ts (by rw [HH.out.2.2]; exact hj)).1
            rw [Below.heap_alloc _ _ _ (by simp; omega), Below.heap_alloc _ _ _ hj2])
          case c2 => exact newCell2 _ _ _ _ 0
          case c3 => unfold maxLen; omega
          case c4 => omega
          refine (two_any _ _).mono ?_
          rintro e w4 ⟨rfl, hb4⟩
          have HB : Hid (Below (w3.setCell ⟨g, 4, none⟩ (.slice (some ⟨kk, 0, none⟩) (R.nT + 1) cap)).heap.size (w3.setCell ⟨g, 4, none⟩ (.slice (some ⟨kk, 0, none⟩) (R.nT + 1) cap)) w4) := hb4
          clear hb4
          go_wp2
          go_ret2
          have e1 : R.laidE t = 0 := by unfold RH.laidE; rw [HX.out]
          have e2 : R.laidS t = twoW (16 * (R.count t (k : Int) : Int) + (k : Int)) := by unfold RH.laidS; rw [HX.out]
          have e3 : R.laid t f o a l m = R.push ⟨t, (k : Int), 16 * (R.count t (k : Int) : Int) + (k : Int), f, o, a, l, m, false⟩ := by unfold RH.laid; rw [HX.out]
          obtain ⟨p1, p2, p3⟩ := HP.out
          exact ⟨by rw [e1, e2]; rfl, L.push R.nT (.slice (some ⟨kk, 0, none⟩) (R.nT + 1) cap) w.heap.size, by rw [e3]; exact p1.below HB.out, p2.trans (Frm.ofBelow (F := fun _ => False) HB.out) (fun _ _ h => h.elim), by rw [e3]; exact p3, rfl, fun i hi => if_neg (by omega)⟩
        · have HQ : Hid (∀ j, j < k + 1 → (!R.holds t (j : Int) && decide (R.count t (j : Int) ≤ 4095)) = false) := next.out (by simp [hc])
          have hc2 : (4095 : Int) < (R.count t (k : Int) : Int) := by omega
          go_wp2_with fail
          refine (slot_any t (k : Int) (hA.out _) HH.out.2.1).mono ?_
          rintro e w1 ⟨rfl, rfl⟩
          rw [hh]
          go_wp2
          go_round
          case rel => exact ⟨k + 1, by omega, rfl, HQ.out⟩
          case measure => simp [intOf]; omega
    · obtain rfl : k = R.ns := by omega
      have HX : Hid (R.next t = none) := firstN_none HN.out
      go_wp2
      go_ret2
      have e1 : R.laidE t = 8 := by unfold RH.laidE; rw [HX.out]
      have e2 : R.laidS t = ⟨#[]⟩ := by unfold RH.laidS; rw [HX.out]
      have e3 : R.laid t f o a l m = R := by unfold RH.laid; rw [HX.out]
      exact ⟨by rw [e1, e2]; rfl, L, by rw [e3]; exact hA.out _, Frm.alloc _ _ _, fun j hj => Or.inl (by rw [e3] at hj; exact hj), rfl, fun _ _ => rfl⟩

end Go.Proofs.Ytkjjamigaamllaa
