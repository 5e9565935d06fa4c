/-
  A house that is played, as the laws without the document's answer keep it.
-/
import Derived.Test.YtkjjamigaamllaaKeepLeaves
import Derived.Test.YtkjjamigaamllaaHouseAsk
import Derived.Test.YtkjjamigaamllaaAppendMine
namespace Go.Proofs.Ytkjjamigaamllaa
open Go.RowKit
set_option linter.unusedSimpArgs false

structure KRun where
  gx : Nat
  M : Mach
  bl : Nat → Nat
  gb : Nat
  gv : Nat → Value
  gl : Nat → List Int
  ok : Bool
  shares : Bool
  grants : Bool
  apart : Int
  but : Int
  hv : Value
  hl : List ByteArray

/-- the run's own cells -/
def KRun.cells (K : KRun) : Array Value := #[.pointer (some ⟨K.gx, 0, none⟩), .int .i64 (K.M.nt : Int), .int .i64 (K.M.ns : Int), .int .i64 (K.M.nc : Int), .slice (some ⟨K.gb, 0, none⟩) K.M.nt K.M.nt, .bool K.ok, .bool K.shares, .bool K.grants, .int .i64 K.apart, .int .i64 K.but, K.hv]
def KRun.gcells (K : KRun) : Array Value := ((List.range K.M.nt).map K.gv).toArray

structure KAt (B0 : Nat) (w : World) (rb : Nat) (K : KRun) : Prop where
  row : w.heap[rb]? = some (.cells K.cells 56 (0, 0))
  garr : w.heap[K.gb]? = some (.cells K.gcells 44 (0, 0))
  gown : ∀ i, i < K.M.nt → w.ownsRow 0 3 1 (K.gv i) (K.gl i).length ((K.gl i).map (Value.int .i64))
  hown : w.ownsRow 0 9 1 K.hv K.hl.length (K.hl.map Value.string)
  x : HAt w K.gx K.M K.bl
  inv : K.M.Inv
  gne : ∀ i j, i < K.M.nt → j < K.M.nt → i ≠ j → ∀ k, some k = (K.gv i).ownBlock → some k ≠ (K.gv j).ownBlock
  fr : ¬ HFoot K.gx K.M K.bl rb
  fg : ¬ HFoot K.gx K.M K.bl K.gb
  fv : ∀ i, i < K.M.nt → ∀ k, some k = (K.gv i).ownBlock → ¬ HFoot K.gx K.M K.bl k
  fh : ∀ k, some k = K.hv.ownBlock → ¬ HFoot K.gx K.M K.bl k
  b0 : B0 ≤ rb
  g0 : B0 ≤ K.gb
  v0 : ∀ i, i < K.M.nt → ∀ k, some k = (K.gv i).ownBlock → B0 ≤ k
  h0 : ∀ k, some k = K.hv.ownBlock → B0 ≤ k
  x0 : ∀ k, HFoot K.gx K.M K.bl k → B0 ≤ k

/-- all that is not the house's -/
def KFoot (rb : Nat) (K : KRun) (k : Nat) : Prop := k = rb ∨ k = K.gb ∨ (∃ i, i < K.M.nt ∧ some k = (K.gv i).ownBlock) ∨ some k = K.hv.ownBlock

theorem KAt.lt {B0 : Nat} {w : World} {rb : Nat} {K : KRun} (h : KAt B0 w rb K) : B0 ≤ w.heap.size := by
  have := lt_of_row h.row
  have := h.b0
  omega
theorem KAt.kfoot_lt {B0 : Nat} {w : World} {rb : Nat} {K : KRun} (h : KAt B0 w rb K) {k : Nat} (hk : KFoot rb K k) : k < w.heap.size ∧ ¬ HFoot K.gx K.M K.bl k := by
  rcases hk with rfl | rfl | ⟨i, hi, hk⟩ | hk
  · exact ⟨lt_of_row h.row, h.fr⟩
  · exact ⟨lt_of_row h.garr, h.fg⟩
  · exact ⟨(owns_lt (h.gown i hi) hk).1, h.fv i hi k hk⟩
  · exact ⟨(owns_lt h.hown hk).1, h.fh k hk⟩

/-- all that is the run's -/
def KOwn (rb : Nat) (K : KRun) (k : Nat) : Prop := KFoot rb K k ∨ HFoot K.gx K.M K.bl k
/-- WHAT A CALL TURNS of a world in which a run lies: the run's own blocks, and new ones -/
structure KTo (rb : Nat) (K K' : KRun) (w w' : World) : Prop where
  fr : Frm (KOwn rb K) w w'
  foot : ∀ k, KOwn rb K' k → KOwn rb K k ∨ w.heap.size ≤ k
theorem KTo.trans {rb : Nat} {K K1 K2 : KRun} {w w1 w2 : World} (a : KTo rb K K1 w w1) (b : KTo rb K1 K2 w1 w2) : KTo rb K K2 w w2 :=
  ⟨a.fr.trans b.fr (fun i hi h => (a.foot i h).resolve_right (by omega)), fun k hk => (b.foot k hk).elim (fun h => a.foot k h) (fun h => Or.inr (Nat.le_trans a.fr.size h))⟩
theorem KTo.ofBelow {rb : Nat} {K : KRun} {w w' : World} (h : Below w.heap.size w w') : KTo rb K K w w' := ⟨Frm.ofBelow h, fun _ h => Or.inl h⟩
theorem KAt.own_ge {B0 : Nat} {w : World} {rb : Nat} {K : KRun} (h : KAt B0 w rb K) {k : Nat} (hk : KOwn rb K k) : B0 ≤ k := by
  rcases hk with (rfl | rfl | ⟨i, hi, hk⟩ | hk) | hk
  · exact h.b0
  · exact h.g0
  · exact h.v0 i hi k hk
  · exact h.h0 k hk
  · exact h.x0 k hk
theorem KTo.below {B0 : Nat} {rb : Nat} {K K' : KRun} {w w' : World} (t : KTo rb K K' w w') (h : KAt B0 w rb K) : Below B0 w w' := t.fr.below h.lt (fun _ hk => h.own_ge hk)

/-- the house goes a step: the rest stands -/
theorem KAt.step {B0 : Nat} {w w' : World} {rb : Nat} {K : KRun} (h : KAt B0 w rb K) {M' : Mach} {bl' : Nat → Nat} (hx : HAt w' K.gx M' bl') (inv : M'.Inv) (hnt : M'.nt = K.M.nt) (hns : M'.ns = K.M.ns) (hnc : M'.nc = K.M.nc)
    (fr : Frm (HFoot K.gx K.M K.bl) w w') (ft : ∀ k, HFoot K.gx M' bl' k → HFoot K.gx K.M K.bl k ∨ w.heap.size ≤ k) :
    KAt B0 w' rb { K with M := M', bl := bl' } ∧ KTo rb K { K with M := M', bl := bl' } w w' := by
  have same : ∀ k, KFoot rb K k → w'.heap[k]? = w.heap[k]? := fun k hk => fr.block k (h.kfoot_lt hk).1 (h.kfoot_lt hk).2
  have nf : ∀ k, KFoot rb K k → ¬ HFoot K.gx M' bl' k := fun k hk hh => by
    rcases ft k hh with h1 | h1
    · exact (h.kfoot_lt hk).2 h1
    · have := (h.kfoot_lt hk).1; omega
  have hl := h.lt
  refine ⟨⟨?_, ?_, fun i hi => ?_, ?_, hx, inv, fun i j hi hj => ?_, nf rb (Or.inl rfl), nf K.gb (Or.inr (Or.inl rfl)), fun i hi k hk => ?_, fun k hk => nf k (Or.inr (Or.inr (Or.inr hk))), h.b0, h.g0, fun i hi => ?_, h.h0, fun k hk => ?_⟩, ?_⟩
  · rw [same rb (Or.inl rfl), h.row]
    show some (Obj.cells K.cells _ _) = some (Obj.cells (KRun.cells { K with M := M', bl := bl' }) _ _)
    unfold KRun.cells
    rw [hnt, hns, hnc]
  · show w'.heap[K.gb]? = some (Obj.cells (KRun.gcells { K with M := M', bl := bl' }) _ _)
    rw [same K.gb (Or.inr (Or.inl rfl)), h.garr]
    unfold KRun.gcells
    rw [hnt]
  · have hi : i < K.M.nt := hnt ▸ hi
    exact owns_frame (h.gown i hi) (fun k hk => same k (Or.inr (Or.inr (Or.inl ⟨i, hi, hk⟩))))
  · exact owns_frame h.hown (fun k hk => same k (Or.inr (Or.inr (Or.inr hk))))
  · exact h.gne i j (hnt ▸ hi) (hnt ▸ hj)
  · have hi : i < K.M.nt := hnt ▸ hi
    exact nf k (Or.inr (Or.inr (Or.inl ⟨i, hi, hk⟩)))
  · exact h.v0 i (hnt ▸ hi)
  · rcases ft k hk with h1 | h1
    · exact h.x0 k h1
    · omega
  · refine ⟨fr.mono (fun k _ hk => Or.inr hk), fun k hk => ?_⟩
    rcases hk with (e | e | ⟨i, hi, e⟩ | e) | hk
    · exact Or.inl (Or.inl (Or.inl e))
    · exact Or.inl (Or.inl (Or.inr (Or.inl e)))
    · exact Or.inl (Or.inl (Or.inr (Or.inr (Or.inl ⟨i, hnt ▸ hi, e⟩))))
    · exact Or.inl (Or.inl (Or.inr (Or.inr (Or.inr e))))
    · exact (ft k hk).imp Or.inr id

theorem KAt.below {B0 : Nat} {w w' : World} {rb : Nat} {K : KRun} (h : KAt B0 w rb K) (hb : Below w.heap.size w w') : KAt B0 w' rb K :=
  (h.step (h.x.below hb) h.inv rfl rfl rfl (Frm.ofBelow hb) (fun _ h => Or.inl h)).1

/-- a step keeps what is true of a house, and its numbers -/
theorem StepS.inv {M M' : Mach} {t : Nat} {s : ByteArray} {e : Int} {m : ByteArray} (inv : M.Inv) (ht : t < M.nt) (h : StepS M t s e m M') : M'.Inv ∧ M'.nt = M.nt ∧ M'.ns = M.ns ∧ M'.nc = M.nc := by
  have nx : ∀ {u n : Nat}, M.next u = some n → n < M.ns ∧ (M.s (16 * u + n)).full = false ∧ (M.s (16 * u + n)).uses ≤ 4095 := by
    intro u n hn
    rcases firstN_spec (fun n => !(M.s (16 * u + n)).full && decide ((M.s (16 * u + n)).uses ≤ 4095)) M.ns with ⟨h5, _⟩ | ⟨k, h5, h6, h7, _⟩
    · rw [show M.next u = none from h5] at hn; cases hn
    · rw [show M.next u = some k from h5] at hn
      injection hn with e
      subst e
      simp at h7
      exact ⟨h6, h7.1, h7.2⟩
  have lay : ∀ (u p : Nat) (a l r : Int), u < M.nt → (M.s p).full = true → (M.s p).first ≤ a → a + l ≤ (M.s p).first + (M.s p).len → 0 ≤ l → (0 ≤ r ∧ r ≤ 7) → (M.lay u p a l r).Inv ∧ (M.lay u p a l r).nt = M.nt ∧ (M.lay u p a l r).ns = M.ns ∧ (M.lay u p a l r).nc = M.nc := by
    intro u p a l r hu hp h1 h2 h3 h4
    unfold Mach.lay
    cases hn : M.next u with
    | none => exact ⟨inv, rfl, rfl, rfl⟩
    | some n =>
      obtain ⟨g1, g2, g3⟩ := nx hn
      exact ⟨inv_lay inv hu g1 g2 g3 hp h1 h2 h3 h4, rfl, rfl, rfl⟩
  rcases h with ⟨_, _, _, rfl⟩ | ⟨op, x, o, l, r, to, d, hd, a1⟩
  · exact ⟨inv, rfl, rfl, rfl⟩
  · obtain ⟨hok⟩ : Nonempty (okB op x o l r to d.size = true) := by
      rcases dec_cases s with h0 | ⟨op2, x2, o2, l2, r2, to2, d2, h0, hok, _⟩
      · exact absurd (h0.symm.trans hd) noV_ne
      · obtain ⟨rfl, rfl, rfl, rfl, rfl, rfl, rfl⟩ := yesV_inj (h0.symm.trans hd)
        exact ⟨hok⟩
    obtain ⟨_, ⟨o0, _⟩, ⟨l0, _⟩, ⟨r0, _⟩, ⟨to0, _⟩, _⟩ := ok_bd hok
    rcases a1 with ⟨_, _, _, rfl⟩ | ⟨_, _, _, _, rfl⟩ | ⟨_, n, hf, a2⟩
    · unfold Mach.alloc
      split
      · exact ⟨inv, rfl, rfl, rfl⟩
      · rename_i hl
        split
        · exact ⟨inv, rfl, rfl, rfl⟩
        · cases hn : M.next t with
          | none => exact ⟨inv, rfl, rfl, rfl⟩
          | some n =>
            obtain ⟨g1, g2, g3⟩ := nx hn
            exact ⟨inv_alloc inv ht g1 g2 g3 (by omega), rfl, rfl, rfl⟩
    · exact ⟨inv, rfl, rfl, rfl⟩
    · obtain ⟨hn, hfull⟩ := find_lt hf
      rcases a2 with ⟨_, h⟩ | ⟨_, h⟩ | ⟨_, h⟩ | ⟨_, h⟩ | ⟨_, h⟩ | ⟨_, h⟩ | ⟨_, h⟩ | ⟨_, h⟩
      · rcases h with ⟨_, _, _, rfl⟩ | ⟨_, _, _, G⟩
        · exact ⟨inv, rfl, rfl, rfl⟩
        · exact ⟨inv_left inv G, G.nt, G.ns, G.nc⟩
      · rw [h.2.2]; exact ⟨inv, rfl, rfl, rfl⟩
      · rw [h.2.2]
        unfold Mach.write
        split
        · exact ⟨inv_turn inv (spl_len _ _ _ _) (spl_byte (inv.byte _) _ _ _), rfl, rfl, rfl⟩
        · exact ⟨inv, rfl, rfl, rfl⟩
      · obtain ⟨r1, _, _, _, _, f0, _⟩ := inv.top _ hfull
        rcases h with ⟨_, _, _, rfl⟩ | ⟨_, _, _, _, rfl⟩ | ⟨hs, hl, _, _, rfl⟩
        · exact ⟨inv, rfl, rfl, rfl⟩
        · exact ⟨inv, rfl, rfl, rfl⟩
        · unfold shareB at hs
          simp only [Bool.and_eq_true, decide_eq_true_eq] at hs
          exact lay t _ _ _ _ ht hfull (by omega) (by omega) l0 ⟨r0, hs.1.1.2⟩
      · obtain ⟨r1, _, _, _, _, f0, g0, _⟩ := inv.top _ hfull
        rcases h with ⟨_, _, _, rfl⟩ | ⟨_, _, _, _, rfl⟩ | ⟨hs, hl, _, _, rfl⟩
        · exact ⟨inv, rfl, rfl, rfl⟩
        · exact ⟨inv, rfl, rfl, rfl⟩
        · exact lay to.toNat _ _ _ _ (by omega) hfull (by omega) (by omega) g0 (inv.rights _)
      · exact ⟨inv_below inv h.2.2, h.2.2.nt, h.2.2.ns, h.2.2.nc⟩
      · rcases h with ⟨_, _, _, rfl⟩ | ⟨_, _, _, G⟩
        · exact ⟨inv, rfl, rfl, rfl⟩
        · exact ⟨inv_left inv G, G.nt, G.ns, G.nc⟩
      · rw [h.2.2]; exact ⟨inv, rfl, rfl, rfl⟩

end Go.Proofs.Ytkjjamigaamllaa
