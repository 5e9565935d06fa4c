/-
  The functions of the landed house behind the requests: free, read, write, info; bytes of numbers.
-/
import Derived.Test.YtkjjamigaamllaaHouseSpec
import Derived.Lib.SmallJoins
import Derived.Deep.RegionHeld3
import Derived.Deep.DrawnRows
namespace Go.Proofs.Ytkjjamigaamllaa
open Go.RowKit
set_option linter.unusedSimpArgs false

set_option maxHeartbeats 400000 in
theorem oneByte_any (n : Int) (w : World) :
    Calls Try.prog 65 #[.int .i64 n] w fun e w' => e = .returned (.string (oneC n)) ∧ Below w.heap.size w w' := by
  have c1 := conv1
  go_enter Try.func65, Try.ntmps65
  go_wp2
  go_ret
  exact ⟨rfl, (Below.refl _ _).alloc (Nat.le_refl _) _⟩

set_option maxHeartbeats 400000 in
theorem twoBytes_any (n : Int) (w : World) :
    Calls Try.prog 92 #[.int .i64 n] w fun e w' => e = .returned (.string (twoW n)) ∧ Below w.heap.size w w' := by
  have c2 := conv2
  go_enter Try.func92, Try.ntmps92
  go_wp2
  go_ret
  exact ⟨rfl, (Below.refl _ _).alloc (Nat.le_refl _) _⟩

set_option maxHeartbeats 400000 in
theorem free_any {g : Nat} {M : Mach} {bl : Nat → Nat} {w : World} (p : Nat) (h : HAt w g M bl) (hp : p < 64) (hfull : (M.s p).full = true) :
    Calls Try.prog 76 #[.pointer (some ⟨g, 0, none⟩), .int .i64 (p : Int)] w fun e w' =>
      ((M.s p).frm ≠ -1 ∧ e = .returned (.int .i64 9) ∧ w' = w) ∨
      ((M.s p).frm = -1 ∧ e = .returned (.int .i64 0) ∧ ∃ M', HAt w' g M' bl ∧ Gone (fun x => x = p ∨ Under M p x) M M' ∧ Frm (· = g) w w') := by
  have cf := h.frm p hp
  have HH : Hid (HAt w g M bl) := h
  clear h
  by_cases he : (M.s p).frm = -1
  · rw [he] at cf
    go_enter Try.func76, Try.ntmps76
    go_wp2_with fail
    refine (empty_any p HH.out hp hfull).mono ?_
    rintro e w1 ⟨rfl, M', hM, hG, hF⟩
    have HX : Hid (∃ M', HAt w1 g M' bl ∧ Gone (fun x => x = p ∨ Under M p x) M M' ∧ Frm (· = g) w w1) := ⟨M', hM, hG, hF⟩
    clear hM hG hF
    go_wp2
    go_ret
    exact Or.inr ⟨he, rfl, HX.out⟩
  · have he2 : ((M.s p).frm == -1) = false := by simp [he]
    go_enter Try.func76, Try.ntmps76
    go_wp2
    go_ret
    exact Or.inl ⟨he, rfl, rfl⟩

theorem and_1 {r : Int} (h : 0 ≤ r ∧ r ≤ 7) : bits BinOp.and IntKind.i64 r 1 = r % 2 := by
  have : r = 0 ∨ r = 1 ∨ r = 2 ∨ r = 3 ∨ r = 4 ∨ r = 5 ∨ r = 6 ∨ r = 7 := by omega
  rcases this with rfl | rfl | rfl | rfl | rfl | rfl | rfl | rfl <;> decide
theorem and_2 {r : Int} (h : 0 ≤ r ∧ r ≤ 7) : bits BinOp.and IntKind.i64 r 2 = 2 * (r / 2 % 2) := by
  have : r = 0 ∨ r = 1 ∨ r = 2 ∨ r = 3 ∨ r = 4 ∨ r = 5 ∨ r = 6 ∨ r = 7 := by omega
  rcases this with rfl | rfl | rfl | rfl | rfl | rfl | rfl | rfl <;> decide

theorem byteCells_size (l : List Int) : (byteCells l).size = l.length := by simp [byteCells]
theorem byteCells_get (l : List Int) (i : Nat) (h : i < l.length) : (byteCells l)[i]? = some (.int .u8 (l.getD i 0)) := by
  simp [byteCells, List.getD_eq_getElem?_getD, List.getElem?_eq_getElem h]

/-- string(b[a : a+l]) of a row of bytes -/
theorem conv_part {w : World} {b : Nat} {bs : List Int} (h : w.heap[b]? = some (.cells (byteCells bs) 5 (0, 0))) (a l c : Nat) (hl : a + l ≤ bs.length) :
    (convert 90 9 (.slice (some ⟨b, a, none⟩) l c)).run Try.prog w = .ok (.string (strOfNums ((bs.drop a).take l))) w := by
  refine run_convert_bytes_arg (P := Try.prog) w 90 5 Try.underlying90 Try.underlying5 b a l c ((bs.drop a).take l) (by simp; omega) ?_ 9 Try.underlying9
  intro i hi
  rw [rowCell h, byteCells_get _ _ (by omega)]
  have e : ((bs.drop a).take l).getD i 0 = bs.getD (a + i) 0 := by
    simp [List.getD_eq_getElem?_getD, List.getElem?_take, hi]
  rw [e]

/-- the same, as the walk spells a slice that may begin at its row's end -/
theorem conv_cut {w : World} {b : Nat} {bs : List Int} (h : w.heap[b]? = some (.cells (byteCells bs) 5 (0, 0))) (a l c : Nat) (hl : a + l ≤ bs.length) :
    (convert 90 9 (.slice (if bs.length = a then some ⟨b, 0, none⟩ else some ⟨b, a, none⟩) (a + l - a) c)).run Try.prog w = .ok (.string (strOfNums ((bs.drop a).take l))) w := by
  rw [Nat.add_sub_cancel_left]
  by_cases e : bs.length = a
  · obtain rfl : l = 0 := by omega
    rw [if_pos e]
    have := conv_part h 0 0 c (by omega)
    simpa using this
  · rw [if_neg e]
    exact conv_part h a l c hl

set_option maxHeartbeats 800000 in
theorem read_any {g : Nat} {M : Mach} {bl : Nat → Nat} {w : World} (p o l : Nat) (h : HAt w g M bl) (inv : M.Inv) (hp : p < 64) (hfull : (M.s p).full = true) (ho : o ≤ 65535) (hl : l ≤ 65535) :
    Calls Try.prog 77 #[.pointer (some ⟨g, 0, none⟩), .int .i64 (p : Int), .int .i64 (o : Int), .int .i64 (l : Int)] w fun e w' => e = .returned (.tuple #[.string (M.read p o l).2, .int .i64 (M.read p o l).1]) ∧ Below w.heap.size w w' := by
  have c2 := h.frm p hp
  have c3 := h.root p hp
  have c4 := h.first p hp
  have c5 := h.len p hp
  have c6 := h.rights p hp
  have hr := inv.rights p
  have ha := and_1 hr
  obtain ⟨r, e1, e2, e3, e4, e5, e6, e7⟩ := inv.top p hfull
  have hby := inv.ok.bytes r
  have hne : (M.s r).bytes ≠ [] := inv.root_bytes e3 e4
  have HH : Hid (HAt w g M bl) := h
  clear h inv
  by_cases h1 : (M.s p).rights % 2 = 0
  · have h2 : Hid (M.read p o l = (5, nilS)) := by show _ = _; unfold Mach.read; rw [if_pos h1]
    rw [h1] at ha
    clear h1 hr
    go_enter Try.func77, Try.ntmps77
    go_wp2
    go_ret2
    exact ⟨by rw [h2.out]; rfl, (Below.refl _ _).alloc (Nat.le_refl _) _⟩
  · have h1' : (M.s p).rights % 2 = 1 := by omega
    rw [h1'] at ha
    by_cases h3 : 64 < l
    · have h2 : Hid (M.read p o l = (6, nilS)) := by show _ = _; unfold Mach.read; rw [if_neg h1, if_pos (Or.inl (by omega))]
      have h4 : (64 : Int) < (l : Int) := by omega
      clear h1 h1' hr
      go_enter Try.func77, Try.ntmps77
      go_wp2
      go_ret2
      exact ⟨by rw [h2.out]; rfl, (Below.refl _ _).alloc (Nat.le_refl _) _⟩
    · have h4 : ¬ (64 : Int) < (l : Int) := by omega
      by_cases h5 : (M.s p).len < (o : Int) + (l : Int)
      · have h2 : Hid (M.read p o l = (6, nilS)) := by show _ = _; unfold Mach.read; rw [if_neg h1, if_pos (Or.inr h5)]
        clear h1 h1' hr
        go_enter Try.func77, Try.ntmps77
        go_wp2
        go_ret2
        exact ⟨by rw [h2.out]; rfl, (Below.refl _ _).alloc (Nat.le_refl _) _⟩
      · have h2 : Hid (M.read p o l = (0, strOfNums (M.part p o l))) := by show _ = _; unfold Mach.read; rw [if_neg h1, if_neg (by omega)]
        obtain ⟨f, hf⟩ : ∃ f : Nat, (M.s p).first = (f : Int) := ⟨(M.s p).first.toNat, by omega⟩
        obtain ⟨b1, b2, b3⟩ := HH.out.row r e2 hne
        have c7 := HH.out.bytes r e2
        rw [bytesV_some _ hne] at c7
        rw [e1] at c3
        rw [hf] at c4 e7 e5
        have hb : f + o + l ≤ (M.s r).bytes.length := by omega
        have HP : Hid (strOfNums (((M.s r).bytes.drop (f + o)).take l) = strOfNums (M.part p o l)) := by
          show _ = _
          unfold Mach.part
          rw [e1, hf]
          have q1 : ((f : Int) + (o : Int)).toNat = f + o := by omega
          rw [q1]
          rfl
        have hg := HH.out.lt
        have hz : f + o + l - (f + o) = l := Nat.add_sub_cancel_left _ _
        by_cases hend : (M.s r).bytes.length = f + o
        · obtain rfl : l = 0 := by omega
          have HQ : Hid (strOfNums [] = strOfNums (M.part p o ((0 : Nat) : Int))) := by
            show _ = _
            rw [← HP.out]
            simp
          have cv : ∀ (N : Obj) (c : Nat), (convert 90 9 (.slice (some ⟨bl r, 0, none⟩) 0 c)).run Try.prog (w.alloc N).drew = .ok (.string (strOfNums [])) (w.alloc N).drew := fun N c => by
            have := conv_part (w := (w.alloc N).drew) ((Below.heap_alloc w N _ b1).trans b3) 0 0 c (by omega)
            simpa using this
          clear h1 h1' hr hf e1 b2 b3 HP
          go_enter Try.func77, Try.ntmps77
          go_wp2
          go_region
          all_goals go_wp2
          all_goals go_ret2
          all_goals exact ⟨by rw [h2.out, ← HQ.out]; rfl, ((Below.refl _ _).alloc (Nat.le_refl _) _).drew⟩
        · have cv : ∀ (N : Obj) (c : Nat), (convert 90 9 (.slice (some ⟨bl r, f + o, none⟩) l c)).run Try.prog (w.alloc N).drew = .ok (.string (strOfNums (((M.s r).bytes.drop (f + o)).take l))) (w.alloc N).drew := fun N c =>
            conv_part (w := (w.alloc N).drew) ((Below.heap_alloc w N _ b1).trans b3) (f + o) l c hb
          clear h1 h1' hr hf e1 b2 b3
          go_enter Try.func77, Try.ntmps77
          go_wp2
          go_region
          all_goals go_wp2
          all_goals go_ret2
          all_goals exact ⟨by rw [h2.out, ← HP.out]; rfl, ((Below.refl _ _).alloc (Nat.le_refl _) _).drew⟩
/-- what a region of calls that only make blocks of their own holds -/
structure Keeps (w W : World) (k : Nat) (cs : Array Value) (ty : TypeId) : Prop where
  row : W.heap[k]? = some (.cells cs ty (0, 0))
  lt : k < W.heap.size
  b : Below w.heap.size w W
theorem Keeps.drew {w W : World} {k : Nat} {cs : Array Value} {ty : TypeId} (h : Keeps w W k cs ty) : Keeps w W.drew k cs ty := ⟨h.row, h.lt, h.b.drew⟩
theorem Keeps.at {w W : World} {k : Nat} {cs : Array Value} {ty : TypeId} (h : Keeps w W k cs ty) (i : Nat) {v : Value} (hv : cs[i]? = some v) : W.cell? ⟨k, i, none⟩ = some v := (rowCell h.row i).trans hv
theorem Keeps.step {w W W' : World} {k : Nat} {cs : Array Value} {ty : TypeId} (h : Keeps w W k cs ty) (hb : Below W.heap.size W W') : Keeps w W' k cs ty :=
  ⟨keepRow hb h.lt h.row, Nat.lt_of_lt_of_le h.lt hb.size, h.b.trans (hb.mono h.b.size)⟩
theorem oneByte_k (w : World) (k : Nat) (cs : Array Value) (ty : TypeId) (n : Int) {W : World} (h : Keeps w W k cs ty) :
    Calls Try.prog 65 #[.int .i64 n] W fun e w' => e = .returned (.string (oneC n)) ∧ Keeps w w' k cs ty :=
  (oneByte_any n W).mono fun _ _ ⟨he, hb⟩ => ⟨he, h.step hb⟩
theorem twoBytes_k (w : World) (k : Nat) (cs : Array Value) (ty : TypeId) (n : Int) {W : World} (h : Keeps w W k cs ty) :
    Calls Try.prog 92 #[.int .i64 n] W fun e w' => e = .returned (.string (twoW n)) ∧ Keeps w w' k cs ty :=
  (twoBytes_any n W).mono fun _ _ ⟨he, hb⟩ => ⟨he, h.step hb⟩

set_option maxHeartbeats 800000 in
theorem info_any {g : Nat} {M : Mach} {bl : Nat → Nat} {w : World} (p : Nat) (h : HAt w g M bl) (hp : p < 64) :
    Calls Try.prog 83 #[.pointer (some ⟨g, 0, none⟩), .int .i64 (p : Int)] w fun e w' => e = .returned (.string (M.info p)) ∧ Below w.heap.size w w' := by
  have c2 := h.frm p hp
  have c3 := h.root p hp
  have c4 := h.first p hp
  have c5 := h.len p hp
  have c6 := h.rights p hp
  have s1 := twoW_size
  have s0 : ∀ n, (oneC n).size = 1 := fun n => strOfNums_size _
  have hst : Keeps w ((w.alloc (.cells #[.int .i64 (M.s p).frm, .int .i64 (M.s p).root, .int .i64 (M.s p).first, .int .i64 (M.s p).len, .int .i64 (M.s p).rights] 110))) w.heap.size #[.int .i64 (M.s p).frm, .int .i64 (M.s p).root, .int .i64 (M.s p).first, .int .i64 (M.s p).len, .int .i64 (M.s p).rights] 110 :=
    ⟨newRowAt _ _, by simp, (Below.refl _ _).alloc (Nat.le_refl _) _⟩
  have hst0 := hst
  replace hst := hst.drew
  clear h
  go_enter Try.func83, Try.ntmps83
  go_wp2
  go_region_held3 (fun w' => w'.cell? ⟨w.heap.size, 3, none⟩ = some (.int .i64 (M.s p).len) ∧ w'.cell? ⟨w.heap.size, 4, none⟩ = some (.int .i64 (M.s p).rights) ∧ Keeps w w' w.heap.size #[.int .i64 (M.s p).frm, .int .i64 (M.s p).root, .int .i64 (M.s p).first, .int .i64 (M.s p).len, .int .i64 (M.s p).rights] 110)
      (first | exact ⟨hst.at 3 rfl, hst.at 4 rfl, hst⟩ | exact ⟨hst0.at 3 rfl, hst0.at 4 rfl, hst0⟩)
      (first | (go_at_call 92; refine (twoBytes_k w w.heap.size #[.int .i64 (M.s p).frm, .int .i64 (M.s p).root, .int .i64 (M.s p).first, .int .i64 (M.s p).len, .int .i64 (M.s p).rights] 110 _ hst).mono ?_; rintro e w2 ⟨rfl, hst⟩) | (go_at_call 65; refine (oneByte_k w w.heap.size #[.int .i64 (M.s p).frm, .int .i64 (M.s p).root, .int .i64 (M.s p).first, .int .i64 (M.s p).len, .int .i64 (M.s p).rights] 110 _ hst).mono ?_; rintro e w2 ⟨rfl, hst⟩))
  all_goals go_wp2_with fail
  all_goals go_ret
  all_goals exact ⟨rfl, hst.b⟩

end Go.Proofs.Ytkjjamigaamllaa
