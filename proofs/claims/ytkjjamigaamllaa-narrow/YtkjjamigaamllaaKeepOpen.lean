/-
  The arguments of a law on a run, opened: a configuration, a script.
-/
import Derived.Test.YtkjjamigaamllaaKeepScript
import Derived.ProofKit
import Derived.OpenShut
import Derived.ShutString
import Derived.ChangeOld
import Derived.SizedLaws
namespace Go.Proofs.Ytkjjamigaamllaa
open Go.ChangeShapes Go.WideShapes Go.ChangeAt Go.RowKit

theorem own : ownKnob Try.prog.godebug = none := by kernel_rfl
theorem laidOut : laidOutB Try.prog = true := by kernel_rfl
theorem cellsConf : Try.prog.cellsOf 32 = 3 := by kernel_rfl

theorem array3 {α : Type} {cs : Array α} (h : cs.size = 3) : ∃ c0 c1 c2, cs = #[c0, c1, c2] := by
  obtain ⟨l⟩ := cs
  match l, h with
  | [c0, c1, c2], _ => exact ⟨c0, c1, c2, rfl⟩

set_option maxRecDepth 100000 in
/-- a configuration among the arguments, opened -/
theorem open_conf {H : Type} {enc : TypeId × Value → H} {w : World} {base : Nat} {spare : Nat → Bool} {held : Bool} {rr : Reach} {b0 : Nat} {v : Value} {dd : DataW H} {pp : List MemPlace}
    (hv : Value.okWide Try.prog w rr b0 32 v) (hh : DataW.Trod enc Try.prog w base spare held 32 v dd pp) :
    ∃ (t s c : Int), v = .agg #[.int .i64 t, .int .i64 s, .int .i64 c] ∧ inR t ∧ inR s ∧ inR c := by
  obtain ⟨cs, rfl, hsz⟩ := okWide_struct Try.underlying32 hv
  obtain ⟨c0, c1, c2, rfl⟩ := array3 (hsz.trans cellsConf)
  obtain ⟨fuel, hf⟩ := hh
  obtain ⟨xs, n, _, hx, _, hlen, hfs⟩ := DataW.trod_struct Try.underlying32 hf
  match xs, hlen with
  | [y0, y1, y2], _ =>
    have g0 := hfs 0 _ rfl
    have g1 := hfs 1 _ rfl
    have g2 := hfs 2 _ rfl
    have k3 : Try.prog.cellsOf 3 = 1 := by kernel_rfl
    simp [Value.cells, k3] at g0 g1 g2
    obtain ⟨n0, e0, rfl, w0⟩ := DataW.trod_int Try.underlying3 g0
    obtain ⟨n1, e1, rfl, w1⟩ := DataW.trod_int Try.underlying3 g1
    obtain ⟨n2, e2, rfl, w2⟩ := DataW.trod_int Try.underlying3 g2
    simp at e0 e1 e2
    subst e0 e1 e2
    exact ⟨n0, n1, n2, rfl, bounds_i64 w0, bounds_i64 w1, bounds_i64 w2⟩

theorem KScrAt.below {w w' : World} {a : Option Addr} {len : Nat} {f : Nat → KOp} (h : KScrAt w a len f) (hb : Below w.heap.size w w') : KScrAt w' a len f := by
  intro k hk
  obtain ⟨b, o, e, h0, h1, h2, h3, h4, h5, h6, hl, ok⟩ := h k hk
  have q : ∀ i, w'.cell? ⟨b, i, none⟩ = w.cell? ⟨b, i, none⟩ := fun i => hb.cell (p := ⟨b, i, none⟩) hl
  exact ⟨b, o, e, by rw [q]; exact h0, by rw [q]; exact h1, by rw [q]; exact h2, by rw [q]; exact h3, by rw [q]; exact h4, by rw [q]; exact h5, by rw [q]; exact h6, Nat.lt_of_lt_of_le hl hb.size, ok⟩

end Go.Proofs.Ytkjjamigaamllaa
