/-
  No cell of these rows narrows 'for every input' (looked for: loops, veiled, ifaces, maps, wideKeys, modest, calm, conditions, laid).
  DERIVED. THE GIVEN ROWS OF THIS SEAT. 12 by the template 'for every input the law returns true; each argument reads behind the call as it read before'; 0 by the template 'total and deterministic' (their statements: YtkjjamigaamllaaTotals.lean).
  GIVEN WITH THE SEED: the statements are not yours to turn. If you find one false, say at which input.
  Laid BY PROGRAM, IN A SANDBOX (cutbox-rows.mjs): the forced cells as the released guide's own fill.sh prints them over the translation 2ee63bebd41cbf04… (all of the seat's roots in one cut). By AI agents, Wed Nov 11 2026. No macro, syntax, notation, axiom, sorry.
-/
import Derived.Test.YtkjjamigaamllaaChecked
import GoSem.Claim
import GoSem.ClaimJoined
import GoSem.ClaimMapViews
import Derived.JoinedTies
import Derived.KernelRfl
namespace Go.Proofs.Ytkjjamigaamllaa
/- THE CELL 'sum', in the pinned program and in every row, IS THE sha256 OF THE DUMP (.gsa) THAT YtkjjamigaamllaaProg.lean LOADS. Nothing in Lean hashes anything: it is a label: what it is worth is what the hold of that sum in a sandbox is worth. -/
noncomputable def Try.pinned : Pinned := { name := "ytkjjamigaamllaa", sum := "2ee63bebd41cbf04cf86bc8fef1d7b86ca3d3f2dcb543a3118ac16191f140414", checked := Try.checked }
namespace Rows
def none {H : Type} : Left H := { results := [], args := [] }

/-- 'tenurelaw.Encodes': WHATEVER THE INPUT: true; the input reads as it did. -/
def encodesSpec : ChangeSpec := { name := "encodes", fn := fun _ => fun
  | [d] => { results := [.lit (.bool true)], args := [d] }
  | _ => none }
def encodesRow : OpenClaim := { program := "ytkjjamigaamllaa", sum := "2ee63bebd41cbf04cf86bc8fef1d7b86ca3d3f2dcb543a3118ac16191f140414", func := "tenure/tenurelaw.Encodes", spec := "encodes", apart := false }
def EncodesSaid : Prop := encodesRow.holds Try.pinned (OpenSpec.ofChange encodesSpec)

/-- ITS FALSE NEIGHBOUR: 'it returns false'. Refute it at one input. -/
def encodesWrong : ChangeSpec := { name := "encodes", fn := fun _ => fun
  | [d] => { results := [.lit (.bool false)], args := [d] }
  | _ => none }
def EncodesWrongFalsely : Prop := encodesRow.holds Try.pinned (OpenSpec.ofChange encodesWrong)

/-- 'tenurelaw.Decodes': WHATEVER THE INPUT: true; the input reads as it did. -/
def decodesSpec : ChangeSpec := { name := "decodes", fn := fun _ => fun
  | [d] => { results := [.lit (.bool true)], args := [d] }
  | _ => none }
def decodesRow : OpenClaim := { program := "ytkjjamigaamllaa", sum := "2ee63bebd41cbf04cf86bc8fef1d7b86ca3d3f2dcb543a3118ac16191f140414", func := "tenure/tenurelaw.Decodes", spec := "decodes", apart := false }
def DecodesSaid : Prop := decodesRow.holds Try.pinned (OpenSpec.ofChange decodesSpec)

/-- ITS FALSE NEIGHBOUR: 'it returns false'. Refute it at one input. -/
def decodesWrong : ChangeSpec := { name := "decodes", fn := fun _ => fun
  | [d] => { results := [.lit (.bool false)], args := [d] }
  | _ => none }
def DecodesWrongFalsely : Prop := decodesRow.holds Try.pinned (OpenSpec.ofChange decodesWrong)

/-- 'tenurelaw.Opens': WHATEVER THE INPUT: true; the input reads as it did. -/
def opensSpec : ChangeSpec := { name := "opens", fn := fun _ => fun
  | [d] => { results := [.lit (.bool true)], args := [d] }
  | _ => none }
def opensRow : OpenClaim := { program := "ytkjjamigaamllaa", sum := "2ee63bebd41cbf04cf86bc8fef1d7b86ca3d3f2dcb543a3118ac16191f140414", func := "tenure/tenurelaw.Opens", spec := "opens", apart := false }
def OpensSaid : Prop := opensRow.holds Try.pinned (OpenSpec.ofChange opensSpec)

/-- ITS FALSE NEIGHBOUR: 'it returns false'. Refute it at one input. -/
def opensWrong : ChangeSpec := { name := "opens", fn := fun _ => fun
  | [d] => { results := [.lit (.bool false)], args := [d] }
  | _ => none }
def OpensWrongFalsely : Prop := opensRow.holds Try.pinned (OpenSpec.ofChange opensWrong)

/-- 'tenurelaw.Objects': WHATEVER THE INPUT: true; the input reads as it did. -/
def objectsSpec : ChangeSpec := { name := "objects", fn := fun _ => fun
  | [d] => { results := [.lit (.bool true)], args := [d] }
  | _ => none }
def objectsRow : OpenClaim := { program := "ytkjjamigaamllaa", sum := "2ee63bebd41cbf04cf86bc8fef1d7b86ca3d3f2dcb543a3118ac16191f140414", func := "tenure/tenurelaw.Objects", spec := "objects", recurses := true, apart := false }
def ObjectsSaid : Prop := objectsRow.holds Try.pinned (OpenSpec.ofChange objectsSpec)

/-- ITS FALSE NEIGHBOUR: 'it returns false'. Refute it at one input. -/
def objectsWrong : ChangeSpec := { name := "objects", fn := fun _ => fun
  | [d] => { results := [.lit (.bool false)], args := [d] }
  | _ => none }
def ObjectsWrongFalsely : Prop := objectsRow.holds Try.pinned (OpenSpec.ofChange objectsWrong)

/-- 'tenurelaw.Derives': WHATEVER THE INPUT: true; the input reads as it did. -/
def derivesSpec : ChangeSpec := { name := "derives", fn := fun _ => fun
  | [d] => { results := [.lit (.bool true)], args := [d] }
  | _ => none }
def derivesRow : OpenClaim := { program := "ytkjjamigaamllaa", sum := "2ee63bebd41cbf04cf86bc8fef1d7b86ca3d3f2dcb543a3118ac16191f140414", func := "tenure/tenurelaw.Derives", spec := "derives", recurses := true, apart := false }
def DerivesSaid : Prop := derivesRow.holds Try.pinned (OpenSpec.ofChange derivesSpec)

/-- ITS FALSE NEIGHBOUR: 'it returns false'. Refute it at one input. -/
def derivesWrong : ChangeSpec := { name := "derives", fn := fun _ => fun
  | [d] => { results := [.lit (.bool false)], args := [d] }
  | _ => none }
def DerivesWrongFalsely : Prop := derivesRow.holds Try.pinned (OpenSpec.ofChange derivesWrong)

/-- 'tenurelaw.All': WHATEVER THE INPUT: true; the input reads as it did. -/
def allSpec : ChangeSpec := { name := "all", fn := fun _ => fun
  | [d] => { results := [.lit (.bool true)], args := [d] }
  | _ => none }
def allRow : OpenClaim := { program := "ytkjjamigaamllaa", sum := "2ee63bebd41cbf04cf86bc8fef1d7b86ca3d3f2dcb543a3118ac16191f140414", func := "tenure/tenurelaw.All", spec := "all", recurses := true, apart := false }
def AllSaid : Prop := allRow.holds Try.pinned (OpenSpec.ofChange allSpec)

/-- ITS FALSE NEIGHBOUR: 'it returns false'. Refute it at one input. -/
def allWrong : ChangeSpec := { name := "all", fn := fun _ => fun
  | [d] => { results := [.lit (.bool false)], args := [d] }
  | _ => none }
def AllWrongFalsely : Prop := allRow.holds Try.pinned (OpenSpec.ofChange allWrong)

/-- 'tenurekeep.Back': WHATEVER THE INPUT: true; the input reads as it did. -/
def backSpec : ChangeSpec := { name := "back", fn := fun _ => fun
  | [d1, d2, d3] => { results := [.lit (.bool true)], args := [d1, d2, d3] }
  | _ => none }
def backRow : OpenClaim := { program := "ytkjjamigaamllaa", sum := "2ee63bebd41cbf04cf86bc8fef1d7b86ca3d3f2dcb543a3118ac16191f140414", func := "tenure/tenurekeep.Back", spec := "back", apart := false }
def BackSaid : Prop := backRow.holds Try.pinned (OpenSpec.ofChange backSpec)

/-- ITS FALSE NEIGHBOUR: 'it returns false'. Refute it at one input. -/
def backWrong : ChangeSpec := { name := "back", fn := fun _ => fun
  | [d1, d2, d3] => { results := [.lit (.bool false)], args := [d1, d2, d3] }
  | _ => none }
def BackWrongFalsely : Prop := backRow.holds Try.pinned (OpenSpec.ofChange backWrong)

/-- 'tenurekeep.Echo': WHATEVER THE INPUT: true; the input reads as it did. -/
def echoSpec : ChangeSpec := { name := "echo", fn := fun _ => fun
  | [d1, d2, d3, d4, d5, d6, d7] => { results := [.lit (.bool true)], args := [d1, d2, d3, d4, d5, d6, d7] }
  | _ => none }
def echoRow : OpenClaim := { program := "ytkjjamigaamllaa", sum := "2ee63bebd41cbf04cf86bc8fef1d7b86ca3d3f2dcb543a3118ac16191f140414", func := "tenure/tenurekeep.Echo", spec := "echo", recurses := true, apart := false }
def EchoSaid : Prop := echoRow.holds Try.pinned (OpenSpec.ofChange echoSpec)

/-- ITS FALSE NEIGHBOUR: 'it returns false'. Refute it at one input. -/
def echoWrong : ChangeSpec := { name := "echo", fn := fun _ => fun
  | [d1, d2, d3, d4, d5, d6, d7] => { results := [.lit (.bool false)], args := [d1, d2, d3, d4, d5, d6, d7] }
  | _ => none }
def EchoWrongFalsely : Prop := echoRow.holds Try.pinned (OpenSpec.ofChange echoWrong)

/-- 'tenurekeep.Narrow': WHATEVER THE INPUT: true; the input reads as it did. -/
def narrowSpec : ChangeSpec := { name := "narrow", fn := fun _ => fun
  | [d1, d2, d3, d4] => { results := [.lit (.bool true)], args := [d1, d2, d3, d4] }
  | _ => none }
def narrowRow : OpenClaim := { program := "ytkjjamigaamllaa", sum := "2ee63bebd41cbf04cf86bc8fef1d7b86ca3d3f2dcb543a3118ac16191f140414", func := "tenure/tenurekeep.Narrow", spec := "narrow", recurses := true, apart := false }
def NarrowSaid : Prop := narrowRow.holds Try.pinned (OpenSpec.ofChange narrowSpec)

/-- ITS FALSE NEIGHBOUR: 'it returns false'. Refute it at one input. -/
def narrowWrong : ChangeSpec := { name := "narrow", fn := fun _ => fun
  | [d1, d2, d3, d4] => { results := [.lit (.bool false)], args := [d1, d2, d3, d4] }
  | _ => none }
def NarrowWrongFalsely : Prop := narrowRow.holds Try.pinned (OpenSpec.ofChange narrowWrong)

/-- 'tenurekeep.Known': WHATEVER THE INPUT: true; the input reads as it did. -/
def knownSpec : ChangeSpec := { name := "known", fn := fun _ => fun
  | [d] => { results := [.lit (.bool true)], args := [d] }
  | _ => none }
def knownRow : OpenClaim := { program := "ytkjjamigaamllaa", sum := "2ee63bebd41cbf04cf86bc8fef1d7b86ca3d3f2dcb543a3118ac16191f140414", func := "tenure/tenurekeep.Known", spec := "known", recurses := true, apart := false }
def KnownSaid : Prop := knownRow.holds Try.pinned (OpenSpec.ofChange knownSpec)

/-- ITS FALSE NEIGHBOUR: 'it returns false'. Refute it at one input. -/
def knownWrong : ChangeSpec := { name := "known", fn := fun _ => fun
  | [d] => { results := [.lit (.bool false)], args := [d] }
  | _ => none }
def KnownWrongFalsely : Prop := knownRow.holds Try.pinned (OpenSpec.ofChange knownWrong)

/-- 'tenurekeep.Room': WHATEVER THE INPUT: true; the input reads as it did. -/
def roomSpec : ChangeSpec := { name := "room", fn := fun _ => fun
  | [d1, d2, d3, d4, d5] => { results := [.lit (.bool true)], args := [d1, d2, d3, d4, d5] }
  | _ => none }
def roomRow : OpenClaim := { program := "ytkjjamigaamllaa", sum := "2ee63bebd41cbf04cf86bc8fef1d7b86ca3d3f2dcb543a3118ac16191f140414", func := "tenure/tenurekeep.Room", spec := "room", recurses := true, apart := false }
def RoomSaid : Prop := roomRow.holds Try.pinned (OpenSpec.ofChange roomSpec)

/-- ITS FALSE NEIGHBOUR: 'it returns false'. Refute it at one input. -/
def roomWrong : ChangeSpec := { name := "room", fn := fun _ => fun
  | [d1, d2, d3, d4, d5] => { results := [.lit (.bool false)], args := [d1, d2, d3, d4, d5] }
  | _ => none }
def RoomWrongFalsely : Prop := roomRow.holds Try.pinned (OpenSpec.ofChange roomWrong)

/-- 'tenurekeep.Held': WHATEVER THE INPUT: true; the input reads as it did. -/
def heldSpec : ChangeSpec := { name := "held", fn := fun _ => fun
  | [d1, d2, d3, d4] => { results := [.lit (.bool true)], args := [d1, d2, d3, d4] }
  | _ => none }
def heldRow : OpenClaim := { program := "ytkjjamigaamllaa", sum := "2ee63bebd41cbf04cf86bc8fef1d7b86ca3d3f2dcb543a3118ac16191f140414", func := "tenure/tenurekeep.Held", spec := "held", recurses := true, apart := false }
def HeldSaid : Prop := heldRow.holds Try.pinned (OpenSpec.ofChange heldSpec)

/-- ITS FALSE NEIGHBOUR: 'it returns false'. Refute it at one input. -/
def heldWrong : ChangeSpec := { name := "held", fn := fun _ => fun
  | [d1, d2, d3, d4] => { results := [.lit (.bool false)], args := [d1, d2, d3, d4] }
  | _ => none }
def HeldWrongFalsely : Prop := heldRow.holds Try.pinned (OpenSpec.ofChange heldWrong)

/- THE SECOND FORM. 'bulk': how many values and letters a reading holds, each counted each time it is reached (what is shared counts as often as it is met; a slice's spare places count too). A statement '..UptoSaid' is the law's where the arguments, and the package variables that the reading takes, are together of bulk at most 1048576: NARROWER than '..Said'. Prove '..Said' where nothing that the law and all that it calls make is longer than what came in: it says more and counts as full. Else prove '..UptoSaid'. A law counts once. -/
mutual
def uptoBulk {H : Type} : DataW H → Nat
  | .lit (.string bytes) => bytes.length + 1
  | .lit _ => 1
  | .nil => 1
  | .ptr d => uptoBulk d + 1
  | .slice elems spare => uptoBulkAll elems + uptoBulkAll spare + 1
  | .agg parts => uptoBulkAll parts + 1
  | .iface _ d => uptoBulk d + 1
  | .map entries => uptoBulkEntries entries + 1
  | .held _ => 1
def uptoBulkAll {H : Type} : List (DataW H) → Nat
  | [] => 0
  | d :: r => uptoBulk d + uptoBulkAll r
def uptoBulkEntries {H : Type} : List (Lit × DataW H) → Nat
  | [] => 0
  | x :: r => uptoBulkEntry x + uptoBulkEntries r
def uptoBulkEntry {H : Type} : Lit × DataW H → Nat
  | (.string bytes, d) => bytes.length + uptoBulk d + 1
  | (_, d) => uptoBulk d + 1
 end
def uptoSmall : (H : Type) → List (DataW H) → Bool := fun _ ds => decide (uptoBulkAll ds ≤ 1048576)
def OpenSpec.upto (s : _root_.Go.ChangeSpec) : _root_.Go.OpenSpec := { _root_.Go.OpenSpec.ofChange s with cond := some uptoSmall }

/-- 'tenurelaw.Encodes', WHERE WHAT IT READS IS OF BULK AT MOST 1048576: true; the input reads as it did. -/
def encodesUptoRow : OpenClaim := { program := "ytkjjamigaamllaa", sum := "2ee63bebd41cbf04cf86bc8fef1d7b86ca3d3f2dcb543a3118ac16191f140414", func := "tenure/tenurelaw.Encodes", spec := "encodes", apart := false, narrowed := true }
def EncodesUptoSaid : Prop := encodesUptoRow.holds Try.pinned (OpenSpec.upto encodesSpec)

/-- 'tenurelaw.Decodes', WHERE WHAT IT READS IS OF BULK AT MOST 1048576: true; the input reads as it did. -/
def decodesUptoRow : OpenClaim := { program := "ytkjjamigaamllaa", sum := "2ee63bebd41cbf04cf86bc8fef1d7b86ca3d3f2dcb543a3118ac16191f140414", func := "tenure/tenurelaw.Decodes", spec := "decodes", apart := false, narrowed := true }
def DecodesUptoSaid : Prop := decodesUptoRow.holds Try.pinned (OpenSpec.upto decodesSpec)

/-- 'tenurelaw.Opens', WHERE WHAT IT READS IS OF BULK AT MOST 1048576: true; the input reads as it did. -/
def opensUptoRow : OpenClaim := { program := "ytkjjamigaamllaa", sum := "2ee63bebd41cbf04cf86bc8fef1d7b86ca3d3f2dcb543a3118ac16191f140414", func := "tenure/tenurelaw.Opens", spec := "opens", apart := false, narrowed := true }
def OpensUptoSaid : Prop := opensUptoRow.holds Try.pinned (OpenSpec.upto opensSpec)

/-- 'tenurelaw.Objects', WHERE WHAT IT READS IS OF BULK AT MOST 1048576: true; the input reads as it did. -/
def objectsUptoRow : OpenClaim := { program := "ytkjjamigaamllaa", sum := "2ee63bebd41cbf04cf86bc8fef1d7b86ca3d3f2dcb543a3118ac16191f140414", func := "tenure/tenurelaw.Objects", spec := "objects", recurses := true, apart := false, narrowed := true }
def ObjectsUptoSaid : Prop := objectsUptoRow.holds Try.pinned (OpenSpec.upto objectsSpec)

/-- 'tenurelaw.Derives', WHERE WHAT IT READS IS OF BULK AT MOST 1048576: true; the input reads as it did. -/
def derivesUptoRow : OpenClaim := { program := "ytkjjamigaamllaa", sum := "2ee63bebd41cbf04cf86bc8fef1d7b86ca3d3f2dcb543a3118ac16191f140414", func := "tenure/tenurelaw.Derives", spec := "derives", recurses := true, apart := false, narrowed := true }
def DerivesUptoSaid : Prop := derivesUptoRow.holds Try.pinned (OpenSpec.upto derivesSpec)

/-- 'tenurelaw.All', WHERE WHAT IT READS IS OF BULK AT MOST 1048576: true; the input reads as it did. -/
def allUptoRow : OpenClaim := { program := "ytkjjamigaamllaa", sum := "2ee63bebd41cbf04cf86bc8fef1d7b86ca3d3f2dcb543a3118ac16191f140414", func := "tenure/tenurelaw.All", spec := "all", recurses := true, apart := false, narrowed := true }
def AllUptoSaid : Prop := allUptoRow.holds Try.pinned (OpenSpec.upto allSpec)

/-- 'tenurekeep.Back', WHERE WHAT IT READS IS OF BULK AT MOST 1048576: true; the input reads as it did. -/
def backUptoRow : OpenClaim := { program := "ytkjjamigaamllaa", sum := "2ee63bebd41cbf04cf86bc8fef1d7b86ca3d3f2dcb543a3118ac16191f140414", func := "tenure/tenurekeep.Back", spec := "back", apart := false, narrowed := true }
def BackUptoSaid : Prop := backUptoRow.holds Try.pinned (OpenSpec.upto backSpec)

/-- 'tenurekeep.Echo', WHERE WHAT IT READS IS OF BULK AT MOST 1048576: true; the input reads as it did. -/
def echoUptoRow : OpenClaim := { program := "ytkjjamigaamllaa", sum := "2ee63bebd41cbf04cf86bc8fef1d7b86ca3d3f2dcb543a3118ac16191f140414", func := "tenure/tenurekeep.Echo", spec := "echo", recurses := true, apart := false, narrowed := true }
def EchoUptoSaid : Prop := echoUptoRow.holds Try.pinned (OpenSpec.upto echoSpec)

/-- 'tenurekeep.Narrow', WHERE WHAT IT READS IS OF BULK AT MOST 1048576: true; the input reads as it did. -/
def narrowUptoRow : OpenClaim := { program := "ytkjjamigaamllaa", sum := "2ee63bebd41cbf04cf86bc8fef1d7b86ca3d3f2dcb543a3118ac16191f140414", func := "tenure/tenurekeep.Narrow", spec := "narrow", recurses := true, apart := false, narrowed := true }
def NarrowUptoSaid : Prop := narrowUptoRow.holds Try.pinned (OpenSpec.upto narrowSpec)

/-- 'tenurekeep.Known', WHERE WHAT IT READS IS OF BULK AT MOST 1048576: true; the input reads as it did. -/
def knownUptoRow : OpenClaim := { program := "ytkjjamigaamllaa", sum := "2ee63bebd41cbf04cf86bc8fef1d7b86ca3d3f2dcb543a3118ac16191f140414", func := "tenure/tenurekeep.Known", spec := "known", recurses := true, apart := false, narrowed := true }
def KnownUptoSaid : Prop := knownUptoRow.holds Try.pinned (OpenSpec.upto knownSpec)

/-- 'tenurekeep.Room', WHERE WHAT IT READS IS OF BULK AT MOST 1048576: true; the input reads as it did. -/
def roomUptoRow : OpenClaim := { program := "ytkjjamigaamllaa", sum := "2ee63bebd41cbf04cf86bc8fef1d7b86ca3d3f2dcb543a3118ac16191f140414", func := "tenure/tenurekeep.Room", spec := "room", recurses := true, apart := false, narrowed := true }
def RoomUptoSaid : Prop := roomUptoRow.holds Try.pinned (OpenSpec.upto roomSpec)

/-- 'tenurekeep.Held', WHERE WHAT IT READS IS OF BULK AT MOST 1048576: true; the input reads as it did. -/
def heldUptoRow : OpenClaim := { program := "ytkjjamigaamllaa", sum := "2ee63bebd41cbf04cf86bc8fef1d7b86ca3d3f2dcb543a3118ac16191f140414", func := "tenure/tenurekeep.Held", spec := "held", recurses := true, apart := false, narrowed := true }
def HeldUptoSaid : Prop := heldUptoRow.holds Try.pinned (OpenSpec.upto heldSpec)

end Rows
end Go.Proofs.Ytkjjamigaamllaa
