/-
  What tenureref.Encode returns.
-/
import Derived.Test.YtkjjamigaamllaaJoinWire
import Derived.Lib.SmallJoins
import Derived.Deep.RegionHeld3
import Derived.Deep.DrawnRows
namespace Go.Proofs.Ytkjjamigaamllaa
open Go.RowKit

/-- a store into a block that is known whole -/
theorem setRow {w : World} {g i : Nat} {cs cs' : Array Value} {t : TypeId} {v : Value} (h : w.heap[g]? = some (.cells cs t (0, 0))) (hc : cs.setIfInBounds i v = cs') : (w.setCell ⟨g, i, none⟩ v).heap[g]? = some (.cells cs' t (0, 0)) := by
  rw [← hc]; exact Go.Joins.block_setCell h v
theorem setOther {w : World} {g k i : Nat} {o : Obj} {v : Value} (h : w.heap[k]? = some o) (hk : k ≠ g) : (w.setCell ⟨g, i, none⟩ v).heap[k]? = some o := by
  rw [Below.heap_setCell _ _ _ _ hk]; exact h
theorem setSize (w : World) (a : Addr) (v : Value) : (w.setCell a v).heap.size = w.heap.size := by simp [World.setCell]
theorem setRow7 {w : World} {g : Nat} {t : TypeId} {c0 c1 c2 c3 c4 c5 c6 : Value} (v0 v1 v2 v3 v4 v5 v6 : Value) (h : w.heap[g]? = some (.cells #[c0, c1, c2, c3, c4, c5, c6] t (0, 0))) :
    (((((((w.setCell ⟨g, 0, none⟩ v0).setCell ⟨g, 1, none⟩ v1).setCell ⟨g, 2, none⟩ v2).setCell ⟨g, 3, none⟩ v3).setCell ⟨g, 4, none⟩ v4).setCell ⟨g, 5, none⟩ v5).setCell ⟨g, 6, none⟩ v6).heap[g]? = some (.cells #[v0, v1, v2, v3, v4, v5, v6] t (0, 0)) :=
  by
    have h0 : (w.setCell ⟨g, 0, none⟩ v0).heap[g]? = some (.cells #[v0, c1, c2, c3, c4, c5, c6] t (0, 0)) := setRow h (by simp)
    have h1 : ((w.setCell ⟨g, 0, none⟩ v0).setCell ⟨g, 1, none⟩ v1).heap[g]? = some (.cells #[v0, v1, c2, c3, c4, c5, c6] t (0, 0)) := setRow h0 (by simp)
    have h2 : (((w.setCell ⟨g, 0, none⟩ v0).setCell ⟨g, 1, none⟩ v1).setCell ⟨g, 2, none⟩ v2).heap[g]? = some (.cells #[v0, v1, v2, c3, c4, c5, c6] t (0, 0)) := setRow h1 (by simp)
    have h3 : ((((w.setCell ⟨g, 0, none⟩ v0).setCell ⟨g, 1, none⟩ v1).setCell ⟨g, 2, none⟩ v2).setCell ⟨g, 3, none⟩ v3).heap[g]? = some (.cells #[v0, v1, v2, v3, c4, c5, c6] t (0, 0)) := setRow h2 (by simp)
    have h4 : (((((w.setCell ⟨g, 0, none⟩ v0).setCell ⟨g, 1, none⟩ v1).setCell ⟨g, 2, none⟩ v2).setCell ⟨g, 3, none⟩ v3).setCell ⟨g, 4, none⟩ v4).heap[g]? = some (.cells #[v0, v1, v2, v3, v4, c5, c6] t (0, 0)) := setRow h3 (by simp)
    have h5 : ((((((w.setCell ⟨g, 0, none⟩ v0).setCell ⟨g, 1, none⟩ v1).setCell ⟨g, 2, none⟩ v2).setCell ⟨g, 3, none⟩ v3).setCell ⟨g, 4, none⟩ v4).setCell ⟨g, 5, none⟩ v5).heap[g]? = some (.cells #[v0, v1, v2, v3, v4, v5, c6] t (0, 0)) := setRow h4 (by simp)
    have h6 : (((((((w.setCell ⟨g, 0, none⟩ v0).setCell ⟨g, 1, none⟩ v1).setCell ⟨g, 2, none⟩ v2).setCell ⟨g, 3, none⟩ v3).setCell ⟨g, 4, none⟩ v4).setCell ⟨g, 5, none⟩ v5).setCell ⟨g, 6, none⟩ v6).heap[g]? = some (.cells #[v0, v1, v2, v3, v4, v5, v6] t (0, 0)) := setRow h5 (by simp)
    exact h6
theorem setOther7 {w : World} {g k : Nat} {o : Obj} (v0 v1 v2 v3 v4 v5 v6 : Value) (h : w.heap[k]? = some o) (hk : k ≠ g) :
    (((((((w.setCell ⟨g, 0, none⟩ v0).setCell ⟨g, 1, none⟩ v1).setCell ⟨g, 2, none⟩ v2).setCell ⟨g, 3, none⟩ v3).setCell ⟨g, 4, none⟩ v4).setCell ⟨g, 5, none⟩ v5).setCell ⟨g, 6, none⟩ v6).heap[k]? = some o :=
  setOther (setOther (setOther (setOther (setOther (setOther (setOther h hk) hk) hk) hk) hk) hk) hk
theorem setBelow7 {w w0 : World} {g B : Nat} (v0 v1 v2 v3 v4 v5 v6 : Value) (h : Below B w0 w) (hg : B ≤ g) :
    Below B w0 (((((((w.setCell ⟨g, 0, none⟩ v0).setCell ⟨g, 1, none⟩ v1).setCell ⟨g, 2, none⟩ v2).setCell ⟨g, 3, none⟩ v3).setCell ⟨g, 4, none⟩ v4).setCell ⟨g, 5, none⟩ v5).setCell ⟨g, 6, none⟩ v6) :=
  ((((((h.setCell hg _).setCell hg _).setCell hg _).setCell hg _).setCell hg _).setCell hg _).setCell hg _

/-- where the document's Encode stands in mid-walk: the request and 'only' lie in two blocks of its own -/
structure St (w : World) (qs os : Array Value) (w' : World) : Prop where
  q : w'.heap[w.heap.size]? = some (.cells qs 23 (0, 0))
  o : w'.heap[w.heap.size + 1]? = some (.cells os 23 (0, 0))
  b : Below w.heap.size w w'
  z : w.heap.size + 1 < w'.heap.size
theorem St.at {w w' : World} {qs os : Array Value} (h : St w qs os w') (i : Nat) {v : Value} (hv : qs[i]? = some v) : w'.cell? ⟨w.heap.size, i, none⟩ = some v := (rowCell h.q i).trans hv
theorem St.drew {w w' : World} {qs os : Array Value} (h : St w qs os w') : St w qs os w'.drew := ⟨h.q, h.o, h.b.drew, h.z⟩
theorem St.alloc {w w' : World} {qs os : Array Value} (h : St w qs os w') (o : Obj) : St w qs os (w'.alloc o) :=
  ⟨(Below.heap_alloc _ _ _ (by have := h.z; omega)).trans h.q, (Below.heap_alloc _ _ _ h.z).trans h.o, h.b.alloc (by have := h.z; omega) _, by have := h.z; rw [sizeAlloc]; omega⟩
/-- what is held may be strengthened in the midst of a region -/
theorem wpAnyH_stronger {P : Program} {md : Region.Mode} {ops : Array Oper} {Q : Exit → Act → World → Prop} {S S2 : World → Prop} (hi : ∀ w, S2 w → S w) :
    ∀ (fuel : Nat) (listed : Array Bool) (a : Act) (w : World), wpAnyH P md ops Q S2 fuel listed a w → wpAnyH P md ops Q S fuel listed a w
  | 0, _, _, _, h => h
  | fuel + 1, _, _, _, h => ⟨h.1, fun i hm => wpOp_mono (fun a' w' h' => ⟨hi _ h'.1, wpAnyH_stronger hi fuel _ a' w' h'.2⟩) (h.2 i hm)⟩

/-- string([]byte{a}) of a row that is known -/
theorem convRow (wx : World) (a : Int) (g : Nat) (h : wx.heap[g]? = some (.cells #[.int .u8 a] 5 (0, 0))) :
    (convert 90 9 (.slice (some ⟨g, 0, none⟩) 1 1)).run Try.prog wx = .ok (.string (oneS a)) wx :=
  run_convert_bytes_arg (P := Try.prog) wx 90 5 Try.underlying90 Try.underlying5 g 0 1 1 [a] rfl
    (fun i hi => by obtain rfl : i = 0 := by omega
                    rw [rowCell h]; rfl) 9 Try.underlying9

theorem takeH {P : Program} {md : Region.Mode} {ops : Array Oper} {Q : Exit → Act → World → Prop} {S : World → Prop} {i : Nat} {oi : Oper} {v : Value} {fuel : Nat} {listed : Array Bool} {a : Act} {w : World} (dd : Option Tmp) (hi : ops[i]? = some oi) (hdd : oi.dst = dd)
    (hs : Region.noSelect ops = true) (hf : Region.free md ops listed i = true) (hr : (Region.ready md ops listed).contains i = true)
    (hQ : ∀ c a w, Q (.panic c) (a.put dd v) w → Q (.panic c) a w) (hy : YieldsIf P ops S oi v a) (hS : S w)
    (h : wpAnyH P md ops Q S fuel (listed.setIfInBounds i true) (a.put dd v) w) : wpAnyH P md ops Q S (fuel + 1) listed a w := by
  subst hdd
  exact wpAnyH_take hi hs hf hr hQ hy hS h

theorem dnil {d : ByteArray} : d = ByteArray.empty ↔ d.toList = [] := by
  rw [ByteArray.toList_eq]
  constructor
  · rintro rfl; rfl
  · intro h; exact ByteArray.ext (by simpa using h)

theorem enc_end_bad {op h o l r t : Int} {d : ByteArray} (hn : okB op h o l r t d.size = false) :
    Ending.returned (.tuple #[.string ⟨#[]⟩, .int .i64 1]) = .returned (.tuple #[.string (encS op h o l r t d), .int .i64 (encE op h o l r t d)]) := by
  unfold encS encE; rw [hn]; rfl
theorem enc_end_good {op h o l r t : Int} {d s : ByteArray} (hy : okB op h o l r t d.size = true) (hs : s = bodyS op h o l r t d) :
    Ending.returned (.tuple #[.string s, .int .i64 0]) = .returned (.tuple #[.string (encS op h o l r t d), .int .i64 (encE op h o l r t d)]) := by
  unfold encS encE; rw [hy, hs]; rfl

end Go.Proofs.Ytkjjamigaamllaa
