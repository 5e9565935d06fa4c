/-
  A block beside a run.
-/
import Derived.Test.YtkjjamigaamllaaKeepEcho
namespace Go.Proofs.Ytkjjamigaamllaa
open Go.RowKit
set_option linter.unusedSimpArgs false

/-- a block that is not the run's -/
def KRow (lb : Nat) (X : Obj) (w : World) (rb : Nat) (K : KRun) : Prop := w.heap[lb]? = some X ∧ ¬ KOwn rb K lb
theorem KRow.below {lb : Nat} {X : Obj} {w w' : World} {rb : Nat} {K : KRun} (h : KRow lb X w rb K) (hb : Below w.heap.size w w') : KRow lb X w' rb K :=
  ⟨(hb.block lb (lt_of_row h.1)).trans h.1, h.2⟩
theorem KRow.to {lb : Nat} {X : Obj} {w w' : World} {rb : Nat} {K K' : KRun} (h : KRow lb X w rb K) (t : KTo rb K K' w w') : KRow lb X w' rb K' := by
  have hl := lt_of_row h.1
  refine ⟨(t.fr.block lb hl h.2).trans h.1, fun hk => ?_⟩
  rcases t.foot lb hk with h1 | h1
  · exact h.2 h1
  · omega
theorem klive_ask2 {w0 w : World} {rb : Nat} {K : KRun} (t : Nat) {op x o l r to : Int} {d : ByteArray} (hok : okB op x o l r to d.size = true) (h : KLive w0 w rb K) (ht : t < K.M.nt) (lb : Nat) (X : Obj) (hr : KRow lb X w rb K) :
    Calls Try.prog 29 #[.pointer (some ⟨rb, 0, none⟩), .int .i64 t, .string (bodyS op x o l r to d)] w fun e w' =>
      ∃ (er : Int) (m : ByteArray) (K' : KRun), e = .returned (.string (oneC er ++ m)) ∧ KStep K t op x o l r to d er m K' ∧ KLive w0 w' rb K' ∧ KRow lb X w' rb K' := by
  refine (kask_any t hok h.run h.good ht).mono ?_
  rintro e w' ⟨er, m, K', rfl, st, hk, hg, hT⟩
  exact ⟨er, m, K', rfl, st, ⟨hk, hg, h.fits.step h.run.inv st.q, st.ok.trans h.ok, h.b.trans (hT.below h.run)⟩, hr.to hT⟩
theorem klive_left2 {w0 w : World} {rb : Nat} {K : KRun} (t : Nat) (h : KLive w0 w rb K) (ht : t < K.M.nt) (lb : Nat) (X : Obj) (hr : KRow lb X w rb K) :
    Calls Try.prog 46 #[.pointer (some ⟨rb, 0, none⟩), .int .i64 (t : Int)] w fun e w' => e = .returned (.tuple #[.int .i64 ((K.M.ns : Int) - (K.M.used t : Int)), .int .i64 ((K.M.nc : Int) - (K.M.taken t : Int)), .bool true]) ∧ KLive w0 w' rb K ∧ KRow lb X w' rb K := by
  refine (kleft_any t h.run ht (used_le _ _) (h.fits t)).mono ?_
  rintro e w' ⟨rfl, hb⟩
  exact ⟨rfl, h.below hb, hr.below hb⟩

theorem KStep.plain {K K' : KRun} {t : Nat} {op x o l r to : Int} {d : ByteArray} {er : Int} {m : ByteArray} (st : KStep K t op x o l r to d er m K') (h1 : op ≠ 1) (h5 : op ≠ 5) (h6 : op ≠ 6) (hM : K'.M = K.M) : KSame K K' :=
  st.same hM (by rw [st.gl]; exact gave_plain _ _ _ _ _ _ h1 h5 h6)

end Go.Proofs.Ytkjjamigaamllaa
