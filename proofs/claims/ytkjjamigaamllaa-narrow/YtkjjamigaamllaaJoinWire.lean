/-
  Joined: WireMath, WireLeaves, WireShape, WireEnc, WireEncAll.
-/
import Derived.Laws.BytesArg
import Derived.RowKit
import Derived.Test.YtkjjamigaamllaaProg
import Derived.WalkKit
import Derived.WalkSpells
import Derived.WalkLawsBesides
namespace Go.Proofs.Ytkjjamigaamllaa
open Go.RowKit

/- WireMath -/

/-- may it stand in two bytes? -/
def wd (n : Int) : Bool := decide (0 ≤ n) && decide (n ≤ 65535)
/-- may it stand in one byte? -/
def bt (n : Int) : Bool := decide (0 ≤ n) && decide (n ≤ 255)
/-- is it zero? -/
def zr (n : Int) : Bool := n == 0
/-- a number of two bytes -/
def twoS (n : Int) : ByteArray := strOfNums [n / 256, n % 256]
/-- a number of one byte -/
def oneS (n : Int) : ByteArray := strOfNums [n]

/-- a number of two bytes, whatever the number is -/
def twoW (n : Int) : ByteArray := strOfNums [wrap64 (n.tdiv 256) % 256, n.tmod 256 % 256]
/-- a number of one byte, whatever the number is -/
def oneW (n : Int) : ByteArray := strOfNums [n.tmod 256 % 256]
/-- wire.fits -/
def fitsB (n b : Int) : Bool := if b = 1 then bt n else if b = 2 then wd n else zr n
/-- wire.number -/
def numS (n b : Int) : ByteArray := if b = 1 then oneS n else if b = 2 then twoS n else ByteArray.empty

/-- wire.shapeOf: of each field how many bytes, of Data how many at most -/
def shH (op : Int) : Int := if op = 2 ∨ op = 7 ∨ op = 8 ∨ op = 9 ∨ op = 3 ∨ op = 4 ∨ op = 5 ∨ op = 6 then 2 else 0
def shO (op : Int) : Int := if op = 3 ∨ op = 4 ∨ op = 5 then 2 else 0
def shL (op : Int) : Int := if op = 1 ∨ op = 3 ∨ op = 5 then 2 else 0
def shR (op : Int) : Int := if op = 5 then 1 else 0
def shT (op : Int) : Int := if op = 6 then 1 else 0
def shD (op : Int) : Int := if op = 4 then 64 else 0
def knw (op : Int) : Bool := decide (1 ≤ op) && decide (op ≤ 9)

/-- is a request one, by its Op's row? -/
def okB (op h o l r t : Int) (d : Nat) : Bool :=
  if op = 1 then zr h && zr o && wd l && zr r && zr t && decide (d = 0)
  else if op = 2 ∨ op = 7 ∨ op = 8 ∨ op = 9 then wd h && zr o && zr l && zr r && zr t && decide (d = 0)
  else if op = 3 then wd h && wd o && wd l && zr r && zr t && decide (d = 0)
  else if op = 4 then wd h && wd o && zr l && zr r && zr t && decide (d ≤ 64)
  else if op = 5 then wd h && wd o && wd l && bt r && zr t && decide (d = 0)
  else if op = 6 then wd h && zr o && zr l && zr r && bt t && decide (d = 0)
  else false

/-- the bytes of a request that is one -/
def bodyS (op h o l r t : Int) (d : ByteArray) : ByteArray :=
  if op = 1 then oneS op ++ twoS l
  else if op = 3 then oneS op ++ twoS h ++ twoS o ++ twoS l
  else if op = 4 then oneS op ++ twoS h ++ twoS o ++ d
  else if op = 5 then oneS op ++ twoS h ++ twoS o ++ twoS l ++ oneS r
  else if op = 6 then oneS op ++ twoS h ++ oneS t
  else oneS op ++ twoS h

def encS (op h o l r t : Int) (d : ByteArray) : ByteArray := if okB op h o l r t d.size = true then bodyS op h o l r t d else ByteArray.empty
def encE (op h o l r t : Int) (d : ByteArray) : Int := if okB op h o l r t d.size = true then 0 else 1

theorem wd_pos {n : Int} (h : 0 ≤ n) : decide (n ≤ 65535) = wd n := by simp [wd, h]
theorem wd_neg {n : Int} (h : n < 0) : false = wd n := by simp [wd]; omega
theorem bt_pos {n : Int} (h : 0 ≤ n) : decide (n ≤ 255) = bt n := by simp [bt, h]
theorem bt_neg {n : Int} (h : n < 0) : false = bt n := by simp [bt]; omega
theorem wd_iff {n : Int} : wd n = true ↔ 0 ≤ n ∧ n ≤ 65535 := by simp [wd]
theorem bt_iff {n : Int} : bt n = true ↔ 0 ≤ n ∧ n ≤ 255 := by simp [bt]
theorem zr_iff {n : Int} : zr n = true ↔ n = 0 := by simp [zr]
theorem fitsB1 (n : Int) : fitsB n 1 = bt n := rfl
theorem fitsB2 (n : Int) : fitsB n 2 = wd n := rfl
theorem fitsB0 (n : Int) : fitsB n 0 = zr n := rfl
theorem fitsBx (n b : Int) (h1 : ¬ b = 1) (h2 : ¬ b = 2) : fitsB n b = zr n := by unfold fitsB; rw [if_neg h1, if_neg h2]
theorem twoW_eq {n : Int} (h : wd n = true) : twoW n = twoS n := by
  rw [wd_iff] at h
  unfold twoW twoS
  rw [Int.tdiv_eq_ediv_of_nonneg h.1, Int.tmod_eq_emod_of_nonneg h.1]
  have e1 : wrap64 (n / 256) % 256 = n / 256 := by unfold wrap64; omega
  have e2 : n % 256 % 256 = n % 256 := by omega
  rw [e1, e2]
theorem oneW_eq {n : Int} (h : bt n = true) : oneW n = oneS n := by
  rw [bt_iff] at h
  unfold oneW oneS
  rw [Int.tmod_eq_emod_of_nonneg h.1]
  have e2 : n % 256 % 256 = n := by omega
  rw [e2]
theorem oneS_bt {n : Int} (h0 : 0 ≤ n) (h1 : n ≤ 255) : oneS (n % 256) = oneS n := by
  have e : n % 256 = n := by omega
  rw [e]
theorem bt_yes {n : Int} (h0 : 0 ≤ n) (h1 : n ≤ 255) : bt n = true := bt_iff.2 ⟨h0, h1⟩
theorem bt_lo {n : Int} (h : n < 0) : bt n = false := (bt_neg h).symm
theorem bt_hi {n : Int} (h : 255 < n) : bt n = false := by simp [bt]; omega
theorem twoW_size (n : Int) : (twoW n).size = 2 := strOfNums_size _
theorem oneW_size (n : Int) : (oneW n).size = 1 := strOfNums_size _
theorem oneS_size (n : Int) : (oneS n).size = 1 := strOfNums_size _
theorem twoS_size (n : Int) : (twoS n).size = 2 := strOfNums_size _

/- WireLeaves -/

theorem ret_bool {a b : Bool} (h : a = b) : Ending.returned (.bool a) = .returned (.bool b) := by rw [h]

theorem bcell {W w1 : World} (hb : Below W.heap.size W w1) : (∀ b o, b < W.heap.size → w1.cell? ⟨b, o, none⟩ = W.cell? ⟨b, o, none⟩) ∧ (∀ b o, b < W.heap.size → w1.frozen? ⟨b, o, none⟩ = W.frozen? ⟨b, o, none⟩) :=
  ⟨fun b o h => hb.cell (p := ⟨b, o, none⟩) h, fun b o h => hb.frozen (p := ⟨b, o, none⟩) h⟩

/-- a block that a call does not reach stands -/
theorem keepRow {B g : Nat} {w w' : World} {cs : Array Value} {t : TypeId} (hb : Below B w w') (hg : g < B) (h : w.heap[g]? = some (.cells cs t (0, 0))) : w'.heap[g]? = some (.cells cs t (0, 0)) := by
  rw [hb.block g hg]; exact h
theorem rowCell {g : Nat} {w : World} {cs : Array Value} {t : TypeId} (h : w.heap[g]? = some (.cells cs t (0, 0))) : ∀ i, w.cell? ⟨g, i, none⟩ = cs[i]? := fun i => by simp [World.cell?, h]
theorem rowFree {g : Nat} {w : World} {cs : Array Value} {t : TypeId} (h : w.heap[g]? = some (.cells cs t (0, 0))) : ∀ i, w.frozen? ⟨g, i, none⟩ = false := fun i => by simp [World.frozen?, h]
theorem newRowAt (w : World) (o : Obj) : (w.alloc o).heap[w.heap.size]? = some o := by
  show (w.heap.push o)[w.heap.size]? = _
  simp
theorem sizeAlloc (w : World) (o : Obj) : (w.alloc o).heap.size = w.heap.size + 1 := by simp

/-- string([]byte{a}) of a new row -/
theorem conv1 (w : World) (a : Int) (g : Nat) (hg : g = w.heap.size) :
    (convert 90 9 (.slice (some ⟨g, 0, none⟩) 1 1)).run Try.prog (w.alloc (.cells #[.int .u8 a] 5)) = .ok (.string (oneS a)) (w.alloc (.cells #[.int .u8 a] 5)) := by
  subst hg
  exact run_convert_bytes_arg (P := Try.prog) (w.alloc (.cells #[.int .u8 a] 5)) 90 5 Try.underlying90 Try.underlying5 w.heap.size 0 1 1 [a] rfl
    (fun i hi => by obtain rfl : i = 0 := by omega
                    simp [World.cell?_alloc_mark]) 9 Try.underlying9

/-- string([]byte{a, b}) of a new row -/
theorem conv2 (w : World) (a b : Int) (g : Nat) (hg : g = w.heap.size) :
    (convert 90 9 (.slice (some ⟨g, 0, none⟩) 2 2)).run Try.prog (w.alloc (.cells #[.int .u8 a, .int .u8 b] 5)) = .ok (.string (strOfNums [a, b])) (w.alloc (.cells #[.int .u8 a, .int .u8 b] 5)) := by
  subst hg
  exact run_convert_bytes_arg (P := Try.prog) (w.alloc (.cells #[.int .u8 a, .int .u8 b] 5)) 90 5 Try.underlying90 Try.underlying5 w.heap.size 0 2 2 [a, b] rfl
    (fun i hi => by
      have : i = 0 ∨ i = 1 := by omega
      rcases this with rfl | rfl <;> simp [World.cell?_alloc_mark]) 9 Try.underlying9

set_option maxHeartbeats 400000 in
theorem fits_any (n b : Int) (w : World) :
    Calls Try.prog 68 #[.int .i64 n, .int .i64 b] w fun e w' => e = .returned (.bool (fitsB n b)) ∧ w' = w := by
  by_cases h1 : b = 1
  · subst h1
    by_cases h : 0 ≤ n <;>
    · go_enter Try.func68, Try.ntmps68
      go_wp2
      go_ret
      first | exact ⟨ret_bool (bt_pos h), rfl⟩ | exact ⟨ret_bool (bt_neg h), rfl⟩
  · by_cases h2 : b = 2
    · subst h2
      by_cases h : 0 ≤ n <;>
      · go_enter Try.func68, Try.ntmps68
        go_wp2
        go_ret
        first | exact ⟨ret_bool (wd_pos h), rfl⟩ | exact ⟨ret_bool (wd_neg h), rfl⟩
    · have g1 : (b == 1) = false := by simp [h1]
      have g2 : (b == 2) = false := by simp [h2]
      go_enter Try.func68, Try.ntmps68
      go_wp2
      go_ret
      exact ⟨ret_bool (fitsBx n b h1 h2).symm, rfl⟩

set_option maxHeartbeats 400000 in
theorem number_any (n b : Int) (w : World) (hb : b = 0 ∨ b = 1 ∨ b = 2) (h : fitsB n b = true) :
    Calls Try.prog 50 #[.int .i64 n, .int .i64 b] w fun e w' => e = .returned (.string (numS n b)) ∧ Below w.heap.size w w' := by
  have c1 := conv1
  have c2 := conv2
  rcases hb with rfl | rfl | rfl
  · clear h
    go_enter Try.func50, Try.ntmps50
    go_wp2
    go_ret
    exact ⟨by simp [numS]; rfl, Below.refl _ _⟩
  · simp [fitsB, bt] at h
    obtain ⟨h0, h1⟩ := h
    go_enter Try.func50, Try.ntmps50
    go_wp2
    go_ret
    exact ⟨by simp [numS], (Below.refl _ _).alloc (Nat.le_refl _) _⟩
  · simp [fitsB, wd] at h
    obtain ⟨h0, h1⟩ := h
    go_enter Try.func50, Try.ntmps50
    go_wp2
    go_ret
    exact ⟨by simp [numS, twoS], (Below.refl _ _).alloc (Nat.le_refl _) _⟩

/- WireShape -/

set_option maxHeartbeats 400000 in
theorem shape_no (op : Int) (w : World) (h : op < 1 ∨ 9 < op) :
    Calls Try.prog 48 #[.int .i64 op] w fun e w' => e = .returned (.tuple #[.agg #[.int .i64 0, .int .i64 0, .int .i64 0, .int .i64 0, .int .i64 0, .int .i64 0], .bool false]) ∧ Below w.heap.size w w' := by
  have g1 : (op == 1) = false := beq_eq_false_iff_ne.2 (by omega)
  have g2 : (op == 2) = false := beq_eq_false_iff_ne.2 (by omega)
  have g3 : (op == 3) = false := beq_eq_false_iff_ne.2 (by omega)
  have g4 : (op == 4) = false := beq_eq_false_iff_ne.2 (by omega)
  have g5 : (op == 5) = false := beq_eq_false_iff_ne.2 (by omega)
  have g6 : (op == 6) = false := beq_eq_false_iff_ne.2 (by omega)
  have g7 : (op == 7) = false := beq_eq_false_iff_ne.2 (by omega)
  have g8 : (op == 8) = false := beq_eq_false_iff_ne.2 (by omega)
  have g9 : (op == 9) = false := beq_eq_false_iff_ne.2 (by omega)
  clear h
  go_enter Try.func48, Try.ntmps48
  go_wp2
  exact bodyPost_ret (v := .tuple #[.agg #[.int .i64 0, .int .i64 0, .int .i64 0, .int .i64 0, .int .i64 0, .int .i64 0], .bool false]) (by simp [results, Try.results48, go_sem]) rfl ⟨rfl, (Below.refl _ _).alloc (Nat.le_refl _) _⟩

set_option maxHeartbeats 400000 in
theorem shape_any (op : Int) (w : World) :
    Calls Try.prog 48 #[.int .i64 op] w fun e w' => e = .returned (.tuple #[.agg #[.int .i64 (shH op), .int .i64 (shO op), .int .i64 (shL op), .int .i64 (shR op), .int .i64 (shT op), .int .i64 (shD op)], .bool (knw op)]) ∧ Below w.heap.size w w' := by
  by_cases hr : 1 ≤ op ∧ op ≤ 9
  · have hc : op = 1 ∨ op = 2 ∨ op = 3 ∨ op = 4 ∨ op = 5 ∨ op = 6 ∨ op = 7 ∨ op = 8 ∨ op = 9 := by omega
    clear hr
    rcases hc with rfl | rfl | rfl | rfl | rfl | rfl | rfl | rfl | rfl <;>
    · go_enter Try.func48, Try.ntmps48
      go_wp2
      exact bodyPost_ret (by simp [results, Try.results48, go_sem]; decide) rfl ⟨rfl, (Below.refl _ _).alloc (Nat.le_refl _) _⟩
  · have := shape_no op w (by omega)
    refine this.mono ?_
    rintro e w' ⟨rfl, hb⟩
    refine ⟨?_, hb⟩
    have e1 : shH op = 0 := if_neg (by omega)
    have e2 : shO op = 0 := if_neg (by omega)
    have e3 : shL op = 0 := if_neg (by omega)
    have e4 : shR op = 0 := if_neg (by omega)
    have e5 : shT op = 0 := if_neg (by omega)
    have e6 : shD op = 0 := if_neg (by omega)
    have e7 : knw op = false := by unfold knw; by_cases h : 1 ≤ op <;> simp [h]; omega
    rw [e1, e2, e3, e4, e5, e6, e7]

def hsB (h o l r t : Int) (d : Nat) (fh fo fl fr ft fd : Int) : Bool :=
  fitsB h fh && (fitsB o fo && (fitsB l fl && (fitsB r fr && (fitsB t ft && decide ((d : Int) ≤ fd)))))

set_option maxHeartbeats 1000000 in
theorem hasShape_any (op h o l r t : Int) (d : ByteArray) (fh fo fl fr ft fd : Int) (w : World) (_hd : d.size ≤ 140737488355328) :
    Calls Try.prog 49 #[.agg #[.int .i64 op, .int .i64 h, .int .i64 o, .int .i64 l, .int .i64 r, .int .i64 t, .string d], .agg #[.int .i64 fh, .int .i64 fo, .int .i64 fl, .int .i64 fr, .int .i64 ft, .int .i64 fd]] w
      fun e w' => e = .returned (.bool (hsB h o l r t d.size fh fo fl fr ft fd)) ∧ Below w.heap.size w w' := by
  go_enter Try.func49, Try.ntmps49
  go_wp2_with (go_at_call 68; refine (fits_any _ _ _).mono ?_; rintro e w' ⟨rfl, rfl⟩)
  all_goals go_ret
  all_goals exact ⟨ret_bool (by simp [hsB, *]), ((Below.refl _ _).alloc (Nat.le_refl _) _).alloc (by simp) _⟩

/- WireEnc -/

theorem sh_range (op : Int) : (shH op = 0 ∨ shH op = 1 ∨ shH op = 2) ∧ (shO op = 0 ∨ shO op = 1 ∨ shO op = 2) ∧ (shL op = 0 ∨ shL op = 1 ∨ shL op = 2) ∧ (shR op = 0 ∨ shR op = 1 ∨ shR op = 2) ∧ (shT op = 0 ∨ shT op = 1 ∨ shT op = 2) := by
  unfold shH shO shL shR shT
  refine ⟨?_, ?_, ?_, ?_, ?_⟩ <;> split <;> simp

theorem numS_size (n b : Int) : (numS n b).size ≤ 2 := by
  unfold numS
  split
  · rw [oneS_size]; omega
  · split
    · rw [twoS_size]; omega
    · simp

set_option maxHeartbeats 1000000 in
theorem enc_unknown (op h o l r t : Int) (d : ByteArray) (w : World) (_hd : d.size ≤ 140737488355328) (hk : knw op = false) :
    Calls Try.prog 15 #[.agg #[.int .i64 op, .int .i64 h, .int .i64 o, .int .i64 l, .int .i64 r, .int .i64 t, .string d]] w
      fun e w' => e = .returned (.tuple #[.string ByteArray.empty, .int .i64 1]) ∧ Below w.heap.size w w' := by
  go_enter Try.func15, Try.ntmps15
  go_wp2_with fail
  refine (shape_any _ _).mono ?_
  rintro e w1 ⟨rfl, hb1⟩
  rw [sizeAlloc] at hb1
  go_wp2
  go_ret2
  refine ⟨rfl, ?_⟩
  have hz := hb1.size
  rw [sizeAlloc] at hz
  exact (((Below.refl _ _).alloc (Nat.le_refl _) _).trans (hb1.mono (by omega))).alloc (by omega) _

set_option maxHeartbeats 1000000 in
theorem enc_bad (op h o l r t : Int) (d : ByteArray) (w : World) (hd : d.size ≤ 140737488355328) (hk : knw op = true)
    (hs : hsB h o l r t d.size (shH op) (shO op) (shL op) (shR op) (shT op) (shD op) = false) :
    Calls Try.prog 15 #[.agg #[.int .i64 op, .int .i64 h, .int .i64 o, .int .i64 l, .int .i64 r, .int .i64 t, .string d]] w
      fun e w' => e = .returned (.tuple #[.string ByteArray.empty, .int .i64 1]) ∧ Below w.heap.size w w' := by
  go_enter Try.func15, Try.ntmps15
  go_wp2_with fail
  refine (shape_any _ _).mono ?_
  rintro e w1 ⟨rfl, hb1⟩
  have q1 := keepRow hb1 (by simp) (newRowAt _ _)
  rw [sizeAlloc] at hb1
  have qc := rowCell q1
  have hz := hb1.size
  rw [sizeAlloc] at hz
  have hz1 : w.heap.size < w1.heap.size := by omega
  go_wp2_with fail
  refine (hasShape_any _ _ _ _ _ _ _ _ _ _ _ _ _ _ hd).mono ?_
  rintro e w2 ⟨rfl, hb2⟩
  rw [sizeAlloc] at hb2
  go_wp2
  go_ret2
  refine ⟨rfl, ?_⟩
  exact ((((Below.refl _ _).alloc (Nat.le_refl _) _).trans (hb1.mono (by omega))).alloc (by omega) _).trans (hb2.mono (by omega))

set_option maxHeartbeats 2000000 in
theorem enc_good (op h o l r t : Int) (d : ByteArray) (w : World) (hd : d.size ≤ 140737488355328) (hk : knw op = true) (hop : fitsB op 1 = true)
    (hs : hsB h o l r t d.size (shH op) (shO op) (shL op) (shR op) (shT op) (shD op) = true) :
    Calls Try.prog 15 #[.agg #[.int .i64 op, .int .i64 h, .int .i64 o, .int .i64 l, .int .i64 r, .int .i64 t, .string d]] w
      fun e w' => e = .returned (.tuple #[.string (numS op 1 ++ numS h (shH op) ++ numS o (shO op) ++ numS l (shL op) ++ numS r (shR op) ++ numS t (shT op) ++ d), .int .i64 0]) ∧ Below w.heap.size w w' := by
  have hs' := hs
  simp only [hsB, Bool.and_eq_true] at hs'
  obtain ⟨fh, fo, fl, fr, ft, _⟩ := hs'
  have z0 := numS_size op 1
  have z1 := numS_size h (shH op)
  have z2 := numS_size o (shO op)
  have z3 := numS_size l (shL op)
  have z4 := numS_size r (shR op)
  have z5 := numS_size t (shT op)
  go_enter Try.func15, Try.ntmps15
  go_wp2_with fail
  refine (shape_any _ _).mono ?_
  rintro e w1 ⟨rfl, hb1⟩
  have q1 := keepRow hb1 (by simp) (newRowAt _ _)
  rw [sizeAlloc] at hb1
  have qc1 := rowCell q1
  have hz1 : w.heap.size < w1.heap.size := by have hz := hb1.size; rw [sizeAlloc] at hz; omega
  go_wp2_with fail
  refine (hasShape_any _ _ _ _ _ _ _ _ _ _ _ _ _ _ hd).mono ?_
  rintro e w2 ⟨rfl, hb2⟩
  have f2 := keepRow hb2 (by simp) (newRowAt _ _)
  have q2 := keepRow hb2 (by simp; omega) ((Below.heap_alloc _ _ _ hz1).trans q1)
  rw [sizeAlloc] at hb2
  clear qc1 q1
  have qc2 := rowCell q2
  have fc2 := rowCell f2
  have hz2 : w1.heap.size < w2.heap.size := by have hz := hb2.size; rw [sizeAlloc] at hz; omega
  have B2 := ((((Below.refl w.heap.size w).alloc (Nat.le_refl _) _).trans (hb1.mono (Nat.le_succ _))).alloc (Nat.le_of_lt hz1) _).trans (hb2.mono (by omega))
  clear hb1 hb2
  go_wp2_with fail
  refine (number_any _ _ _ (Or.inr (Or.inl rfl)) hop).mono ?_
  rintro e w3 ⟨rfl, hb3⟩
  have f3 := keepRow hb3 (by omega) f2
  have q3 := keepRow hb3 (by omega) q2
  clear qc2 fc2 f2 q2
  have qc3 := rowCell q3
  have fc3 := rowCell f3
  have hz3 : w1.heap.size < w3.heap.size := by have hz := hb3.size; omega
  have B3 := B2.trans (hb3.mono (by omega))
  clear hb3 B2 hz2
  go_wp2_with fail
  refine (number_any _ _ _ (sh_range op).1 fh).mono ?_
  rintro e w4 ⟨rfl, hb4⟩
  have f4 := keepRow hb4 (by omega) f3
  have q4 := keepRow hb4 (by omega) q3
  clear qc3 fc3 f3 q3
  have qc4 := rowCell q4
  have fc4 := rowCell f4
  have hz4 : w1.heap.size < w4.heap.size := by have hz := hb4.size; omega
  have B4 := B3.trans (hb4.mono (by omega))
  clear hb4 B3 hz3
  go_wp2_with fail
  refine (number_any _ _ _ (sh_range op).2.1 fo).mono ?_
  rintro e w5 ⟨rfl, hb5⟩
  have f5 := keepRow hb5 (by omega) f4
  have q5 := keepRow hb5 (by omega) q4
  clear qc4 fc4 f4 q4
  have qc5 := rowCell q5
  have fc5 := rowCell f5
  have hz5 : w1.heap.size < w5.heap.size := by have hz := hb5.size; omega
  have B5 := B4.trans (hb5.mono (by omega))
  clear hb5 B4 hz4
  go_wp2_with fail
  refine (number_any _ _ _ (sh_range op).2.2.1 fl).mono ?_
  rintro e w6 ⟨rfl, hb6⟩
  have f6 := keepRow hb6 (by omega) f5
  have q6 := keepRow hb6 (by omega) q5
  clear qc5 fc5 f5 q5
  have qc6 := rowCell q6
  have fc6 := rowCell f6
  have hz6 : w1.heap.size < w6.heap.size := by have hz := hb6.size; omega
  have B6 := B5.trans (hb6.mono (by omega))
  clear hb6 B5 hz5
  go_wp2_with fail
  refine (number_any _ _ _ (sh_range op).2.2.2.1 fr).mono ?_
  rintro e w7 ⟨rfl, hb7⟩
  have f7 := keepRow hb7 (by omega) f6
  have q7 := keepRow hb7 (by omega) q6
  clear qc6 fc6 f6 q6
  have qc7 := rowCell q7
  have fc7 := rowCell f7
  have hz7 : w1.heap.size < w7.heap.size := by have hz := hb7.size; omega
  have B7 := B6.trans (hb7.mono (by omega))
  clear hb7 B6 hz6
  go_wp2_with fail
  refine (number_any _ _ _ (sh_range op).2.2.2.2 ft).mono ?_
  rintro e w8 ⟨rfl, hb8⟩
  have f8 := keepRow hb8 (by omega) f7
  have q8 := keepRow hb8 (by omega) q7
  clear qc7 fc7 f7 q7
  have qc8 := rowCell q8
  have fc8 := rowCell f8
  have hz8 : w1.heap.size < w8.heap.size := by have hz := hb8.size; omega
  have B8 := B7.trans (hb8.mono (by omega))
  clear hb8 B7 hz7
  go_wp2
  go_ret2
  exact ⟨rfl, B8⟩

/- WireEncAll -/

theorem knw_cases {op : Int} (h : knw op = true) : op = 1 ∨ op = 2 ∨ op = 3 ∨ op = 4 ∨ op = 5 ∨ op = 6 ∨ op = 7 ∨ op = 8 ∨ op = 9 := by
  simp [knw] at h; omega

theorem ok_unknown {op : Int} (h o l r t : Int) (d : Nat) (hk : knw op = false) : okB op h o l r t d = false := by
  have hn : ¬ (1 ≤ op ∧ op ≤ 9) := by
    intro hc
    simp [knw] at hk
    omega
  unfold okB
  rw [if_neg (by omega), if_neg (by omega), if_neg (by omega), if_neg (by omega), if_neg (by omega), if_neg (by omega)]

theorem hs_ok {op : Int} (h o l r t : Int) (d : Nat) (hk : knw op = true) : hsB h o l r t d (shH op) (shO op) (shL op) (shR op) (shT op) (shD op) = okB op h o l r t d := by
  have hd2 : decide ((d : Int) ≤ 64) = decide (d ≤ 64) := by rw [Bool.eq_iff_iff]; simp; omega
  rcases knw_cases hk with rfl | rfl | rfl | rfl | rfl | rfl | rfl | rfl | rfl <;>
    simp [hsB, okB, shH, shO, shL, shR, shT, shD, fitsB, hd2, Bool.and_assoc]

theorem body_eq {op : Int} (h o l r t : Int) (d : ByteArray) (hk : knw op = true) (hs : okB op h o l r t d.size = true) :
    numS op 1 ++ numS h (shH op) ++ numS o (shO op) ++ numS l (shL op) ++ numS r (shR op) ++ numS t (shT op) ++ d = bodyS op h o l r t d := by
  rcases knw_cases hk with rfl | rfl | rfl | rfl | rfl | rfl | rfl | rfl | rfl <;>
    simp [okB] at hs <;>
    first
    | (have hx := hs.2; subst hx; simp [numS, bodyS, shH, shO, shL, shR, shT, ByteArray.append_empty]; done)
    | (simp [numS, bodyS, shH, shO, shL, shR, shT, ByteArray.append_empty]; done)

theorem op_fits {op : Int} (hk : knw op = true) : fitsB op 1 = true := by
  rcases knw_cases hk with rfl | rfl | rfl | rfl | rfl | rfl | rfl | rfl | rfl <;> decide

theorem enc_any (op h o l r t : Int) (d : ByteArray) (w : World) (hd : d.size ≤ 140737488355328) :
    Calls Try.prog 15 #[.agg #[.int .i64 op, .int .i64 h, .int .i64 o, .int .i64 l, .int .i64 r, .int .i64 t, .string d]] w
      fun e w' => e = .returned (.tuple #[.string (encS op h o l r t d), .int .i64 (encE op h o l r t d)]) ∧ Below w.heap.size w w' := by
  cases hk : knw op with
  | false =>
    have hn := ok_unknown h o l r t d.size hk
    unfold encS encE
    rw [hn]
    exact enc_unknown op h o l r t d w hd hk
  | true =>
    cases hs : okB op h o l r t d.size with
    | false =>
      unfold encS encE
      rw [hs]
      exact enc_bad op h o l r t d w hd hk (by rw [hs_ok h o l r t d.size hk]; exact hs)
    | true =>
      unfold encS encE
      rw [hs]
      have hb := body_eq h o l r t d hk hs
      have := enc_good op h o l r t d w hd hk (op_fits hk) (by rw [hs_ok h o l r t d.size hk]; exact hs)
      rw [hb] at this
      exact this

end Go.Proofs.Ytkjjamigaamllaa
