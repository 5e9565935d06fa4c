/-
  What tenureref.Encode returns.
-/
import Derived.Test.YtkjjamigaamllaaWireEncAll
import Derived.Lib.SmallJoins
import Derived.Deep.RegionHeld3
import Derived.Deep.DrawnRows
namespace Go.Proofs.Ytkjjamigaamllaa
open Go.RowKit

/-- a store into a block that is known whole -/
theorem setRow {w : World} {g i : Nat} {cs cs' : Array Value} {t : TypeId} {v : Value} (h : w.heap[g]? = some (.cells cs t (0, 0))) (hc : cs.setIfInBounds i v = cs') : (w.setCell ⟨g, i, none⟩ v).heap[g]? = some (.cells cs' t (0, 0)) := by
  rw [← hc]; exact Go.Joins.block_setCell h v
theorem setOther {w : World} {g k i : Nat} {o : Obj} {v : Value} (h : w.heap[k]? = some o) (hk : k ≠ g) : (w.setCell ⟨g, i, none⟩ v).heap[k]? = some o := by
  rw [Below.heap_setCell _ _ _ _ hk]; exact h
theorem setSize (w : World) (a : Addr) (v : Value) : (w.setCell a v).heap.size = w.heap.size := by simp [World.setCell]
theorem setRow7 {w : World} {g : Nat} {t : TypeId} {c0 c1 c2 c3 c4 c5 c6 : Value} (v0 v1 v2 v3 v4 v5 v6 : Value) (h : w.heap[g]? = some (.cells #[c0, c1, c2, c3, c4, c5, c6] t (0, 0))) :
    (((((((w.setCell ⟨g, 0, none⟩ v0).setCell ⟨g, 1, none⟩ v1).setCell ⟨g, 2, none⟩ v2).setCell ⟨g, 3, none⟩ v3).setCell ⟨g, 4, none⟩ v4).setCell ⟨g, 5, none⟩ v5).setCell ⟨g, 6, none⟩ v6).heap[g]? = some (.cells #[v0, v1, v2, v3, v4, v5, v6] t (0, 0)) :=
  by
    have h0 : (w.setCell ⟨g, 0, none⟩ v0).heap[g]? = some (.cells #[v0, c1, c2, c3, c4, c5, c6] t (0, 0)) := setRow h (by simp)
    have h1 : ((w.setCell ⟨g, 0, none⟩ v0).setCell ⟨g, 1, none⟩ v1).heap[g]? = some (.cells #[v0, v1, c2, c3, c4, c5, c6] t (0, 0)) := setRow h0 (by simp)
    have h2 : (((w.setCell ⟨g, 0, none⟩ v0).setCell ⟨g, 1, none⟩ v1).setCell ⟨g, 2, none⟩ v2).heap[g]? = some (.cells #[v0, v1, v2, c3, c4, c5, c6] t (0, 0)) := setRow h1 (by simp)
    have h3 : ((((w.setCell ⟨g, 0, none⟩ v0).setCell ⟨g, 1, none⟩ v1).setCell ⟨g, 2, none⟩ v2).setCell ⟨g, 3, none⟩ v3).heap[g]? = some (.cells #[v0, v1, v2, v3, c4, c5, c6] t (0, 0)) := setRow h2 (by simp)
    have h4 : (((((w.setCell ⟨g, 0, none⟩ v0).setCell ⟨g, 1, none⟩ v1).setCell ⟨g, 2, none⟩ v2).setCell ⟨g, 3, none⟩ v3).setCell ⟨g, 4, none⟩ v4).heap[g]? = some (.cells #[v0, v1, v2, v3, v4, c5, c6] t (0, 0)) := setRow h3 (by simp)
    have h5 : ((((((w.setCell ⟨g, 0, none⟩ v0).setCell ⟨g, 1, none⟩ v1).setCell ⟨g, 2, none⟩ v2).setCell ⟨g, 3, none⟩ v3).setCell ⟨g, 4, none⟩ v4).setCell ⟨g, 5, none⟩ v5).heap[g]? = some (.cells #[v0, v1, v2, v3, v4, v5, c6] t (0, 0)) := setRow h4 (by simp)
    have h6 : (((((((w.setCell ⟨g, 0, none⟩ v0).setCell ⟨g, 1, none⟩ v1).setCell ⟨g, 2, none⟩ v2).setCell ⟨g, 3, none⟩ v3).setCell ⟨g, 4, none⟩ v4).setCell ⟨g, 5, none⟩ v5).setCell ⟨g, 6, none⟩ v6).heap[g]? = some (.cells #[v0, v1, v2, v3, v4, v5, v6] t (0, 0)) := setRow h5 (by simp)
    exact h6
theorem setOther7 {w : World} {g k : Nat} {o : Obj} (v0 v1 v2 v3 v4 v5 v6 : Value) (h : w.heap[k]? = some o) (hk : k ≠ g) :
    (((((((w.setCell ⟨g, 0, none⟩ v0).setCell ⟨g, 1, none⟩ v1).setCell ⟨g, 2, none⟩ v2).setCell ⟨g, 3, none⟩ v3).setCell ⟨g, 4, none⟩ v4).setCell ⟨g, 5, none⟩ v5).setCell ⟨g, 6, none⟩ v6).heap[k]? = some o :=
  setOther (setOther (setOther (setOther (setOther (setOther (setOther h hk) hk) hk) hk) hk) hk) hk
theorem setBelow7 {w w0 : World} {g B : Nat} (v0 v1 v2 v3 v4 v5 v6 : Value) (h : Below B w0 w) (hg : B ≤ g) :
    Below B w0 (((((((w.setCell ⟨g, 0, none⟩ v0).setCell ⟨g, 1, none⟩ v1).setCell ⟨g, 2, none⟩ v2).setCell ⟨g, 3, none⟩ v3).setCell ⟨g, 4, none⟩ v4).setCell ⟨g, 5, none⟩ v5).setCell ⟨g, 6, none⟩ v6) :=
  ((((((h.setCell hg _).setCell hg _).setCell hg _).setCell hg _).setCell hg _).setCell hg _).setCell hg _

/-- where the document's Encode stands in mid-walk: the request and 'only' lie in two blocks of its own -/
structure St (w : World) (qs os : Array Value) (w' : World) : Prop where
  q : w'.heap[w.heap.size]? = some (.cells qs 23 (0, 0))
  o : w'.heap[w.heap.size + 1]? = some (.cells os 23 (0, 0))
  b : Below w.heap.size w w'
  z : w.heap.size + 1 < w'.heap.size
theorem St.at {w w' : World} {qs os : Array Value} (h : St w qs os w') (i : Nat) {v : Value} (hv : qs[i]? = some v) : w'.cell? ⟨w.heap.size, i, none⟩ = some v := (rowCell h.q i).trans hv
theorem St.drew {w w' : World} {qs os : Array Value} (h : St w qs os w') : St w qs os w'.drew := ⟨h.q, h.o, h.b.drew, h.z⟩
theorem St.alloc {w w' : World} {qs os : Array Value} (h : St w qs os w') (o : Obj) : St w qs os (w'.alloc o) :=
  ⟨(Below.heap_alloc _ _ _ (by have := h.z; omega)).trans h.q, (Below.heap_alloc _ _ _ h.z).trans h.o, h.b.alloc (by have := h.z; omega) _, by have := h.z; rw [sizeAlloc]; omega⟩
theorem two_st (n : Int) {w W : World} {qs os : Array Value} (h : St w qs os W) :
    Calls Try.prog 52 #[.int .i64 n] W fun e w' => e = .returned (.string (twoW n)) ∧ St w qs os w' := by
  refine (two_any n W).mono ?_
  rintro e w' ⟨rfl, hb⟩
  have hz := h.z
  have hz2 := hb.size
  exact ⟨rfl, keepRow hb (by omega) h.q, keepRow hb (by omega) h.o, h.b.trans (hb.mono (by omega)), by omega⟩

theorem two_at (w : World) (qs os : Array Value) (n : Int) {W : World} (h : St w qs os W) :
    Calls Try.prog 52 #[.int .i64 n] W fun e w' => e = .returned (.string (twoW n)) ∧ St w qs os w' := two_st n h

/-- what is held may be strengthened in the midst of a region -/
theorem wpAnyH_stronger {P : Program} {md : Region.Mode} {ops : Array Oper} {Q : Exit → Act → World → Prop} {S S2 : World → Prop} (hi : ∀ w, S2 w → S w) :
    ∀ (fuel : Nat) (listed : Array Bool) (a : Act) (w : World), wpAnyH P md ops Q S2 fuel listed a w → wpAnyH P md ops Q S fuel listed a w
  | 0, _, _, _, h => h
  | fuel + 1, _, _, _, h => ⟨h.1, fun i hm => wpOp_mono (fun a' w' h' => ⟨hi _ h'.1, wpAnyH_stronger hi fuel _ a' w' h'.2⟩) (h.2 i hm)⟩

theorem two_row (w : World) (qs os : Array Value) (n : Int) {W : World} {g : Nat} {o : Obj} (h : St w qs os W) (hr : W.heap[g]? = some o) :
    Calls Try.prog 52 #[.int .i64 n] W fun e w' => e = .returned (.string (twoW n)) ∧ St w qs os w' ∧ w'.heap[g]? = some o := by
  have hg : g < W.heap.size := by
    rcases Nat.lt_or_ge g W.heap.size with h | h
    · exact h
    · rw [Array.getElem?_eq_none h] at hr; cases hr
  refine (two_any n W).mono ?_
  rintro e w' ⟨rfl, hb⟩
  have hz := h.z
  have hz2 := hb.size
  exact ⟨rfl, ⟨keepRow hb (by omega) h.q, keepRow hb (by omega) h.o, h.b.trans (hb.mono (by omega)), by omega⟩, (hb.block g hg).trans hr⟩

/-- string([]byte{a}) of a row that is known -/
theorem convRow (wx : World) (a : Int) (g : Nat) (h : wx.heap[g]? = some (.cells #[.int .u8 a] 5 (0, 0))) :
    (convert 90 9 (.slice (some ⟨g, 0, none⟩) 1 1)).run Try.prog wx = .ok (.string (oneS a)) wx :=
  run_convert_bytes_arg (P := Try.prog) wx 90 5 Try.underlying90 Try.underlying5 g 0 1 1 [a] rfl
    (fun i hi => by obtain rfl : i = 0 := by omega
                    rw [rowCell h]; rfl) 9 Try.underlying9

theorem takeH {P : Program} {md : Region.Mode} {ops : Array Oper} {Q : Exit → Act → World → Prop} {S : World → Prop} {i : Nat} {oi : Oper} {v : Value} {fuel : Nat} {listed : Array Bool} {a : Act} {w : World} (dd : Option Tmp) (hi : ops[i]? = some oi) (hdd : oi.dst = dd)
    (hs : Region.noSelect ops = true) (hf : Region.free md ops listed i = true) (hr : (Region.ready md ops listed).contains i = true)
    (hQ : ∀ c a w, Q (.panic c) (a.put dd v) w → Q (.panic c) a w) (hy : YieldsIf P ops S oi v a) (hS : S w)
    (h : wpAnyH P md ops Q S fuel (listed.setIfInBounds i true) (a.put dd v) w) : wpAnyH P md ops Q S (fuel + 1) listed a w := by
  subst hdd
  exact wpAnyH_take hi hs hf hr hQ hy hS h

theorem dnil {d : ByteArray} : d = ByteArray.empty ↔ d.toList = [] := by
  rw [ByteArray.toList_eq]
  constructor
  · rintro rfl; rfl
  · intro h; exact ByteArray.ext (by simpa using h)

theorem enc_end_bad {op h o l r t : Int} {d : ByteArray} (hn : okB op h o l r t d.size = false) :
    Ending.returned (.tuple #[.string ⟨#[]⟩, .int .i64 1]) = .returned (.tuple #[.string (encS op h o l r t d), .int .i64 (encE op h o l r t d)]) := by
  unfold encS encE; rw [hn]; rfl
theorem enc_end_good {op h o l r t : Int} {d s : ByteArray} (hy : okB op h o l r t d.size = true) (hs : s = bodyS op h o l r t d) :
    Ending.returned (.tuple #[.string s, .int .i64 0]) = .returned (.tuple #[.string (encS op h o l r t d), .int .i64 (encE op h o l r t d)]) := by
  unfold encS encE; rw [hy, hs]; rfl

set_option maxRecDepth 100000 in
set_option maxHeartbeats 1000000 in
theorem ref_unknown (op h o l r t : Int) (d : ByteArray) (w : World) (_hd : d.size ≤ 140737488355328) (hk : op < 1 ∨ 9 < op) :
    Calls Try.prog 16 #[.agg #[.int .i64 op, .int .i64 h, .int .i64 o, .int .i64 l, .int .i64 r, .int .i64 t, .string d]] w
      fun e w' => e = .returned (.tuple #[.string ByteArray.empty, .int .i64 1]) ∧ Below w.heap.size w w' := by
  have g1 : (op == 1) = false := beq_eq_false_iff_ne.2 (by omega)
  have g2 : (op == 2) = false := beq_eq_false_iff_ne.2 (by omega)
  have g3 : (op == 3) = false := beq_eq_false_iff_ne.2 (by omega)
  have g4 : (op == 4) = false := beq_eq_false_iff_ne.2 (by omega)
  have g5 : (op == 5) = false := beq_eq_false_iff_ne.2 (by omega)
  have g6 : (op == 6) = false := beq_eq_false_iff_ne.2 (by omega)
  have g7 : (op == 7) = false := beq_eq_false_iff_ne.2 (by omega)
  have g8 : (op == 8) = false := beq_eq_false_iff_ne.2 (by omega)
  have g9 : (op == 9) = false := beq_eq_false_iff_ne.2 (by omega)
  clear hk
  have c1 := conv1
  go_enter Try.func16, Try.ntmps16
  go_wp2_with (go_at_call 51; refine (word_any _ _).mono ?_; rintro e w' ⟨rfl, rfl⟩)
  refine (two_any _ _).mono ?_
  rintro e w1 ⟨rfl, hb1⟩
  have s1 := twoW_size h
  have n1 := newRowAt w (.cells #[.int .i64 op, .int .i64 h, .int .i64 o, .int .i64 l, .int .i64 r, .int .i64 t, .string d] 23)
  have q1 := keepRow hb1 (by simp; omega) ((Below.heap_alloc _ _ _ (by simp; omega)).trans ((Below.heap_alloc _ _ _ (by simp)).trans n1))
  have o1 := keepRow hb1 (by simp) ((Below.heap_alloc _ _ _ (by simp)).trans (newRowAt _ _))
  have B1 := ((((Below.refl w.heap.size w).alloc (Nat.le_refl _) _).alloc (by simp) _).alloc (by simp; omega) _).trans (hb1.mono (by simp; omega))
  simp only [sizeAlloc] at o1
  have qc1 := rowCell q1
  have oc1 := rowCell o1
  have of1 := rowFree o1
  have hz1 : w.heap.size + 1 < w1.heap.size := by have hz := hb1.size; simp only [sizeAlloc] at hz; omega
  clear hb1 n1 q1 o1
  have s0 := oneS_size (op.tmod 256 % 256)
  go_wp2_with fail
  go_ret2
  exact ⟨rfl, B1⟩

end Go.Proofs.Ytkjjamigaamllaa
