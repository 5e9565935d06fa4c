/- The law Encodes holds of every request: wire.Encode gives the bytes and the error that the document's answer gives. No condition beside the form's own. -/
import Derived.Test.YtkjjamigaamllaaRows
import Derived.Test.YtkjjamigaamllaaLawEnc
import Derived.ProofKit
import Derived.OpenShut
import Derived.ShutString
import Derived.ChangeOld
import Derived.SizedLaws
namespace Go.Proofs.Ytkjjamigaamllaa
open Go.ChangeShapes Go.WideShapes Go.ChangeAt Go.RowKit
open Go.ChangeMaps (open_string shut_string)

theorem own : ownKnob Try.prog.godebug = none := by kernel_rfl
theorem laidOut : laidOutB Try.prog = true := by kernel_rfl
theorem cellsReq : Try.prog.cellsOf 23 = 7 := by kernel_rfl

theorem array7 {α : Type} {cs : Array α} (h : cs.size = 7) : ∃ c0 c1 c2 c3 c4 c5 c6, cs = #[c0, c1, c2, c3, c4, c5, c6] := by
  obtain ⟨l⟩ := cs
  match l, h with
  | [c0, c1, c2, c3, c4, c5, c6], _ => exact ⟨c0, c1, c2, c3, c4, c5, c6, rfl⟩

set_option maxRecDepth 100000 in
/-- a request among the arguments, opened -/
theorem open_req {H : Type} {enc : TypeId × Value → H} {w : World} {base : Nat} {spare : Nat → Bool} {held : Bool} {rr : Reach} {b0 : Nat} {v : Value} {dd : DataW H} {pp : List MemPlace}
    (hv : Value.okWide Try.prog w rr b0 23 v) (hh : DataW.Trod enc Try.prog w base spare held 23 v dd pp) :
    ∃ (op h o l r t : Int) (d : ByteArray), v = .agg #[.int .i64 op, .int .i64 h, .int .i64 o, .int .i64 l, .int .i64 r, .int .i64 t, .string d] ∧
      dd = .agg [.lit (.int .i64 op), .lit (.int .i64 h), .lit (.int .i64 o), .lit (.int .i64 l), .lit (.int .i64 r), .lit (.int .i64 t), .lit (.string d.data.toList)] ∧ pp = [] := by
  obtain ⟨cs, rfl, hsz⟩ := okWide_struct Try.underlying23 hv
  obtain ⟨c0, c1, c2, c3, c4, c5, c6, rfl⟩ := array7 (hsz.trans cellsReq)
  obtain ⟨fuel, hf⟩ := hh
  obtain ⟨xs, n, _, hx, _, hlen, hfs⟩ := DataW.trod_struct Try.underlying23 hf
  have hone := Go.Deep.hone_of (P := Try.prog) (fs := Try.prog.fieldsOf 23) (by kernel_rfl)
  match xs, hlen with
  | [y0, y1, y2, y3, y4, y5, y6], _ =>
    have g0 := hfs 0 _ rfl
    have g1 := hfs 1 _ rfl
    have g2 := hfs 2 _ rfl
    have g3 := hfs 3 _ rfl
    have g4 := hfs 4 _ rfl
    have g5 := hfs 5 _ rfl
    have g6 := hfs 6 _ rfl
    have k3 : Try.prog.cellsOf 3 = 1 := by kernel_rfl
    have k9 : Try.prog.cellsOf 9 = 1 := by kernel_rfl
    simp [Value.cells, k3, k9] at g0 g1 g2 g3 g4 g5 g6
    obtain ⟨n0, e0, rfl, _⟩ := DataW.trod_int Try.underlying3 g0
    obtain ⟨n1, e1, rfl, _⟩ := DataW.trod_int Try.underlying3 g1
    obtain ⟨n2, e2, rfl, _⟩ := DataW.trod_int Try.underlying3 g2
    obtain ⟨n3, e3, rfl, _⟩ := DataW.trod_int Try.underlying3 g3
    obtain ⟨n4, e4, rfl, _⟩ := DataW.trod_int Try.underlying3 g4
    obtain ⟨n5, e5, rfl, _⟩ := DataW.trod_int Try.underlying3 g5
    obtain ⟨s6, e6, rfl, _⟩ := DataW.trod_string Try.underlying9 g6
    simp at e0 e1 e2 e3 e4 e5 e6
    subst e0 e1 e2 e3 e4 e5 e6
    simp only [Prod.mk.injEq] at hx
    exact ⟨n0, n1, n2, n3, n4, n5, s6, rfl, by rw [hx.1]; rfl, by rw [hx.2]; rfl⟩

set_option maxRecDepth 100000 in
theorem encodes_lifted (os : Os) (started : os.Started) (H : Type) (enc : TypeId × Value → H) :
    ReturnsInHanded {} Try.checked os 3 .any (Rows.encodesSpec.pre6 enc Try.prog Try.f3 Rows.encodesRow.domain false) (Rows.encodesSpec.post enc Try.prog Try.f3 false true false false) := by
  refine returnsInHanded_of_change_sized (C := Try.checked) own started (by kernel_rfl) Try.func3
    (ChangeSpec.witness6 (enc := enc) (C := Try.checked) false ⟨#[], #[.agg #[.int .i64 0, .int .i64 0, .int .i64 0, .int .i64 0, .int .i64 0, .int .i64 0, .string ByteArray.empty]], []⟩ 8 (by kernel_rfl) (by kernel_rfl) (by kernel_rfl) (by kernel_rfl)) ?_
  intro W base args ds gs before hval0 hW hcnd hsz0 _
  have hval : ∀ (j : Nat) t v, Try.f3.params[j]? = some t → args[j]? = some v → Value.okWide Try.prog W .any base t v := hval0
  have hsz : (DataW.weightsEach Try.prog (Try.f3.params.toList ++ Rows.encodesSpec.plain.varTypes Try.prog) (ds ++ gs)).all (· ≤ reachBytes) = true := hsz0
  have hW' := hW
  obtain ⟨p, q, hA0, hV, rfl, hfz, hnd⟩ := hW
  have hA : DataW.TrodAll enc Try.prog W 0 (fun _ => true) true Try.f3.params.toList args.toList ds p := hA0
  rw [Try.params3] at hA hval hsz
  obtain ⟨v0, vs0, d0, ds0, p0, q0, hargs, rfl, rfl, h0, r0⟩ := trodAll_cons hA
  obtain ⟨rfl, rfl, rfl⟩ := trodAll_nil r0
  obtain rfl : args = #[v0] := by cases args; simp_all
  obtain ⟨rfl, rfl⟩ := trodVars_none hV
  have k0 := h0
  have lt0 : ∀ x ∈ p0, x.block < W.heap.size := by obtain ⟨m, hm⟩ := k0; exact DataW.trod_lt m _ _ _ hm
  obtain ⟨op, h, o, l, r, t, d, rfl, rfl, rfl⟩ := open_req (hval 0 23 v0 rfl rfl) h0
  have hd : d.size ≤ 140737488355328 := by
    have h1 : (DataW.weightsEach Try.prog [23] [(DataW.agg [.lit (.int .i64 op), .lit (.int .i64 h), .lit (.int .i64 o), .lit (.int .i64 l), .lit (.int .i64 r), .lit (.int .i64 t), .lit (.string d.data.toList)] : DataW H)]).all (fun x => decide (x ≤ reachBytes)) = true := hsz
    simp [DataW.weightsEach, DataW.weights, Try.underlying23, reachBytes] at h1
    have h2 := of_decide_eq_true h1
    omega
  clear hA0 hval0
  refine (encodes_any op h o l r t d W hd).mono fun e W' ⟨he, bel⟩ => ?_
  subst he
  exact ⟨_, rfl, _, _, _, [], _, [], hW', trodAll_mk1 (shut_bool Try.underlying4 _), (trodAll_cons_mk (Below.trod laidOut (by kernel_rfl) (of_decide_eq_true (by kernel_rfl)) k0 bel lt0) trodAll_mk0), rfl, bel.frame _, fun h => by cases h⟩

theorem encodes_holds : Rows.EncodesSaid :=
  OpenClaim.holds_of_wide 3 Try.f3 rfl rfl rfl rfl rfl rfl rfl ⟨rfl, rfl, rfl, rfl, rfl⟩ rfl rfl rfl rfl rfl (by kernel_rfl) Try.func3 (by kernel_rfl)
    (of_decide_eq_true (by kernel_rfl)) (by unfold Func.isWrapper; first | (rw [if_pos (by decide +kernel)]; kernel_rfl) | (rw [if_neg (by decide +kernel)]; exact ⟨rfl, rfl⟩))
    (fun os started H enc _ => encodes_lifted os started H enc)

end Go.Proofs.Ytkjjamigaamllaa
