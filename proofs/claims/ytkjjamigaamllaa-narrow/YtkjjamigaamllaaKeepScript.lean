/-
  A script of steps among the arguments, opened.
-/
import Derived.Test.YtkjjamigaamllaaKeepRequest
import Derived.ProofKit
import Derived.OpenShut
import Derived.ShutString
import Derived.ChangeOld
import Derived.SizedLaws
import Derived.Deep.Slices
namespace Go.Proofs.Ytkjjamigaamllaa
open Go.ChangeShapes Go.WideShapes Go.ChangeAt Go.RowKit

/-- how a step lies in memory -/
structure KOpAt (W : World) (b o : Nat) (x : KOp) : Prop where
  c0 : W.cell? ⟨b, o, none⟩ = some (.int .i64 x.op)
  c1 : W.cell? ⟨b, o + 1, none⟩ = some (.int .i64 x.tenant)
  c2 : W.cell? ⟨b, o + 2, none⟩ = some (.int .i64 x.which)
  c3 : W.cell? ⟨b, o + 3, none⟩ = some (.int .i64 x.a)
  c4 : W.cell? ⟨b, o + 4, none⟩ = some (.int .i64 x.b)
  c5 : W.cell? ⟨b, o + 5, none⟩ = some (.int .i64 x.c)
  c6 : W.cell? ⟨b, o + 6, none⟩ = some (.string x.s)
  lt : b < W.heap.size
  ok : x.Ok

/-- a script in memory -/
def KScrAt (W : World) (a : Option Addr) (len : Nat) (f : Nat → KOp) : Prop := ∀ k, k < len → ∃ b o, a = some ⟨b, o, none⟩ ∧ KOpAt W b (o + k * 7) (f k)

theorem kweights_mem {H : Type} {P : Program} {e : TypeId} {ds : List (DataW H)} {d : DataW H} (h : d ∈ ds) {n : Nat} (hn : n ∈ d.weights P e) : n ∈ DataW.weightsAll P e ds := by
  induction ds with
  | nil => cases h
  | cons x r ih =>
    rw [DataW.weightsAll]
    rcases List.mem_cons.1 h with h | h
    · subst h; exact List.mem_append_left _ hn
    · exact List.mem_append_right _ (ih h)

theorem klist7 {α : Type} {l : List α} (h : l.length = 7) : ∃ c0 c1 c2 c3 c4 c5 c6, l = [c0, c1, c2, c3, c4, c5, c6] := by
  match l, h with
  | [c0, c1, c2, c3, c4, c5, c6], _ => exact ⟨c0, c1, c2, c3, c4, c5, c6, rfl⟩

theorem cellsStep : Try.prog.cellsOf 119 = 7 := by kernel_rfl
theorem bytesStep : Try.prog.bytesOf 119 = 64 := by kernel_rfl

set_option maxRecDepth 100000 in
set_option maxHeartbeats 1600000 in
theorem open_step {H : Type} {enc : TypeId × Value → H} {w : World} {base : Nat} {spare : Nat → Bool} {held : Bool} {n : Nat} {cs : List Value} {x : DataW H × List MemPlace}
    (hf : DataW.trod enc Try.prog w base spare held n 119 cs = some x) :
    ∃ y : KOp, cs = [.int .i64 y.op, .int .i64 y.tenant, .int .i64 y.which, .int .i64 y.a, .int .i64 y.b, .int .i64 y.c, .string y.s] ∧ inR y.tenant ∧ inR y.which ∧ inR y.a ∧ inR y.b ∧ inR y.c ∧ y.s.size ∈ x.1.weights Try.prog 119 := by
  obtain ⟨xs, m, _, hx, hl, hlen, hfs⟩ := DataW.trod_struct Try.underlying119 hf
  obtain ⟨c0, c1, c2, c3, c4, c5, c6, rfl⟩ := klist7 (hl.trans cellsStep)
  match xs, hlen with
  | [y0, y1, y2, y3, y4, y5, y6], _ =>
    have g0 := hfs 0 _ rfl
    have g1 := hfs 1 _ rfl
    have g2 := hfs 2 _ rfl
    have g3 := hfs 3 _ rfl
    have g4 := hfs 4 _ rfl
    have g5 := hfs 5 _ rfl
    have g6 := hfs 6 _ rfl
    have k3 : Try.prog.cellsOf 3 = 1 := by kernel_rfl
    have k9 : Try.prog.cellsOf 9 = 1 := by kernel_rfl
    simp [k3, k9] at g0 g1 g2 g3 g4 g5 g6
    obtain ⟨n0, e0, rfl, _⟩ := DataW.trod_int Try.underlying3 g0
    obtain ⟨n1, e1, rfl, w1⟩ := DataW.trod_int Try.underlying3 g1
    obtain ⟨n2, e2, rfl, w2⟩ := DataW.trod_int Try.underlying3 g2
    obtain ⟨n3, e3, rfl, w3⟩ := DataW.trod_int Try.underlying3 g3
    obtain ⟨n4, e4, rfl, w4⟩ := DataW.trod_int Try.underlying3 g4
    obtain ⟨n5, e5, rfl, w5⟩ := DataW.trod_int Try.underlying3 g5
    obtain ⟨s6, e6, rfl, _⟩ := DataW.trod_string Try.underlying9 g6
    simp at e0 e1 e2 e3 e4 e5 e6
    subst e0 e1 e2 e3 e4 e5 e6
    refine ⟨⟨n0, n1, n2, n3, n4, n5, s6⟩, rfl, bounds_i64 w1, bounds_i64 w2, bounds_i64 w3, bounds_i64 w4, bounds_i64 w5, ?_⟩
    rw [hx]
    simp [DataW.weights, DataW.weightsEach, Try.underlying119]

set_option maxRecDepth 100000 in
theorem open_steps {H : Type} {enc : TypeId × Value → H} {w : World} {base : Nat} {spare : Nat → Bool} {held : Bool} {a : Option Addr} {len cap : Nat} {dd : DataW H} {pp : List MemPlace}
    (hh : DataW.Trod enc Try.prog w base spare held 48 (.slice a len cap) dd pp) (hsz : ∀ n ∈ dd.weights Try.prog 48, n ≤ reachBytes) :
    ∃ f, KScrAt w a len f ∧ len ≤ 2199023255552 := by
  obtain ⟨fuel, hf⟩ := hh
  have inh : Inhabited KOp := ⟨⟨0, 0, 0, 0, 0, 0, ⟨#[]⟩⟩⟩
  rcases Go.Deep.open_slice Try.underlying48 hf with ⟨hcs, _⟩ | ⟨ad, l, c, m, n, D, Pl, hcs, _, hlc, _, hm, hx, hel⟩
  · simp [Value.cells] at hcs
    obtain ⟨rfl, rfl, rfl⟩ := hcs
    exact ⟨fun _ => inh.default, fun k hk => absurd hk (Nat.not_lt_zero _), by omega⟩
  · simp [Value.cells] at hcs
    obtain ⟨rfl, rfl, rfl⟩ := hcs
    simp only [Prod.mk.injEq] at hx
    obtain ⟨rfl, _⟩ := hx
    have hlm : len ≤ m := by rw [hm]; split <;> omega
    rw [cellsStep] at hel
    have hw : ∀ n ∈ ((List.range len).map D).length * 0 :: DataW.weightsAll Try.prog 119 ((List.range len).map D), n ≤ reachBytes := by
      intro q hq
      rcases List.mem_cons.1 hq with hq | hq
      · simp at hq; omega
      · refine hsz q ?_
        simp only [DataW.weights, Try.underlying48]
        exact List.mem_cons_of_mem _ (List.mem_append_left _ hq)
    have hbig : (((List.range len).map D).length + ((List.range (m - len)).map fun j => D (len + j)).length) * Try.prog.bytesOf 119 ≤ reachBytes := by
      refine hsz _ ?_
      simp only [DataW.weights, Try.underlying48]
      exact List.mem_cons_self
    rw [bytesStep] at hbig
    simp only [List.length_map, List.length_range, reachBytes] at hbig
    have hspot : 0 < len → ad.spot = none := fun h0 => by
      obtain ⟨cs', h1, h2⟩ := hel 0 (by omega)
      obtain ⟨y, rfl, _⟩ := open_step h2
      obtain ⟨_, _, hc⟩ := World.cells?_some h1
      simpa [Addr.add] using World.cell?_spot (hc 0 (by omega))
    have each : ∀ k, k < len → ∃ y : KOp, ∃ b o, ad = ⟨b, o, none⟩ ∧ KOpAt w b (o + k * 7) y := by
      intro k hk
      obtain ⟨cs', h1, h2⟩ := hel k (by omega)
      obtain ⟨y, rfl, hr1, hr2, hr3, hr4, hr5, hs⟩ := open_step h2
      obtain ⟨_, _, hc⟩ := World.cells?_some h1
      have hblk := World.cells?_block h1 (by omega)
      have hss : y.s.size ≤ reachBytes := hw _ (List.mem_cons_of_mem _ (kweights_mem (List.mem_map.2 ⟨k, List.mem_range.2 hk, rfl⟩) hs))
      obtain ⟨b, o, spot⟩ := ad
      obtain rfl : spot = none := hspot (by omega)
      refine ⟨y, b, o, rfl, ?_⟩
      have at_ : ∀ j (hj : j < 7), w.cell? ⟨b, o + k * 7 + j, none⟩ = [Value.int .i64 y.op, .int .i64 y.tenant, .int .i64 y.which, .int .i64 y.a, .int .i64 y.b, .int .i64 y.c, .string y.s][j]? := fun j hj => by
        have := hc j hj
        rw [Go.Deep.add_add, Go.WideShapes.add_plain, ← Nat.add_assoc] at this
        exact this
      have hb2 : b < w.heap.size := by
        have e : ((⟨b, o, none⟩ : Addr).add (k * 7)).block = b := by rw [Go.WideShapes.add_plain]
        rw [e] at hblk
        exact hblk
      refine ⟨at_ 0 (by omega), at_ 1 (by omega), at_ 2 (by omega), at_ 3 (by omega), at_ 4 (by omega), at_ 5 (by omega), at_ 6 (by omega), hb2, hr1, hr2, hr3, hr4, hr5, ?_⟩
      simp only [reachBytes] at hss
      omega
    obtain ⟨f, hf2⟩ := Go.Deep.choose_lt each
    refine ⟨f, fun k hk => ?_, by omega⟩
    obtain ⟨b, o, e, hO⟩ := hf2 k hk
    exact ⟨b, o, by rw [e], hO⟩

end Go.Proofs.Ytkjjamigaamllaa
