/-
  Joined: RefAsk, RefAskMore, RefAskAll.
-/
import Derived.Test.YtkjjamigaamllaaJoinSim
import Derived.Test.YtkjjamigaamllaaJoinServed
import Derived.Test.YtkjjamigaamllaaRefServedThree
import Derived.Test.YtkjjamigaamllaaRefServedFour
import Derived.Test.YtkjjamigaamllaaRefServedNine
import Derived.Test.YtkjjamigaamllaaRefServedFiveA
import Derived.Test.YtkjjamigaamllaaRefServedFiveB
import Derived.Test.YtkjjamigaamllaaJoinFiveA
import Derived.Test.YtkjjamigaamllaaJoinFiveB
import Derived.Test.YtkjjamigaamllaaRefServedSix
namespace Go.Proofs.Ytkjjamigaamllaa
open Go.RowKit
set_option linter.unusedSimpArgs false

/- RefAsk -/

/-- the document's house behind a step -/
def RPost (Q : Int → ByteArray → Mach → Prop) (R : RH) (L : RL) (g : Nat) (w w' : World) (e : Int) (m : ByteArray) : Prop :=
  ∃ R' L' M', Q e m M' ∧ Sim R' M' ∧ RAt w' g R' L' ∧ Frm (RFoot g R L) w w' ∧ ∀ k, RFoot g R' L' k → RFoot g R L k ∨ w.heap.size ≤ k

theorem rfoot_eq {g : Nat} {R R' : RH} {L : RL} (h1 : R'.nO = R.nO) (h2 : R'.nT = R.nT) {w : World} : ∀ k, RFoot g R' L k → RFoot g R L k ∨ w.heap.size ≤ k := by
  rintro k (h | h | h | ⟨i, hi, h⟩ | ⟨i, hi, h⟩)
  · exact Or.inl (Or.inl h)
  · exact Or.inl (Or.inr (Or.inl h))
  · exact Or.inl (Or.inr (Or.inr (Or.inl h)))
  · exact Or.inl (Or.inr (Or.inr (Or.inr (Or.inl ⟨i, by omega, h⟩))))
  · exact Or.inl (Or.inr (Or.inr (Or.inr (Or.inr ⟨i, by omega, h⟩))))

theorem frm_root {R : RH} {M : Mach} {i : Nat} (m : Mate R M i) : (R.T i).frm = -1 ↔ (M.s (plc (R.T i))).frm = -1 := by
  rcases m.frm with ⟨h1, h2⟩ | ⟨j, _, h1, _, h2⟩
  · exact ⟨fun _ => h2, fun _ => h1⟩
  · rw [h1, h2]; constructor <;> intro h <;> omega

theorem ok_2 {x o l r to : Int} {n : Nat} (h : okB 2 x o l r to n = true) : o = 0 ∧ l = 0 ∧ r = 0 ∧ to = 0 ∧ n = 0 := by simp [okB, zr] at h; omega
theorem ok_9 {x o l r to : Int} {n : Nat} (h : okB 9 x o l r to n = true) : o = 0 ∧ l = 0 ∧ r = 0 ∧ to = 0 ∧ n = 0 := by simp [okB, zr] at h; omega
theorem ok_3 {x o l r to : Int} {n : Nat} (h : okB 3 x o l r to n = true) : r = 0 ∧ to = 0 ∧ n = 0 := by simp [okB, zr] at h; omega
theorem ok_4 {x o l r to : Int} {n : Nat} (h : okB 4 x o l r to n = true) : l = 0 ∧ r = 0 ∧ to = 0 := by simp [okB, zr] at h; omega

/-- the requests of objects alone -/
def served0 (op : Int) : Prop := op = 1 ∨ op = 2 ∨ op = 3 ∨ op = 4 ∨ op = 9

/-- what the document's house answers is what the machine answers -/
theorem served_step {g : Nat} {R : RH} {L : RL} {M : Mach} {w : World} (t : Nat) {op x o l r to : Int} {d : ByteArray} (h : RAt w g R L) (S : Sim R M) (ht : t < M.nt) (hok : okB op x o l r to d.size = true) (hop : served0 op) :
    Calls Try.prog 86 #[.pointer (some ⟨g, 0, none⟩), .int .i64 (t : Int), .agg #[.int .i64 op, .int .i64 x, .int .i64 o, .int .i64 l, .int .i64 r, .int .i64 to, .string d]] w
      fun e w' => ∃ (er : Int) (m : ByteArray), e = .returned (.tuple #[.string m, .int .i64 er]) ∧ RPost (StepQ M t op x o l r to d) R L g w w' er m := by
  obtain ⟨⟨b1, b2⟩, ⟨b3, b4⟩, ⟨b5, b6⟩, ⟨b7, b8⟩, _, b11⟩ := ok_bd hok
  by_cases h1 : op = 1
  · subst h1
    obtain ⟨l', rfl⟩ : ∃ l' : Nat, l = (l' : Int) := ⟨l.toNat, by omega⟩
    refine (served_1 t l' x o r to d h S.rinv (by omega)).mono ?_
    rintro e w' ⟨rfl, L', h2, hF, hJ⟩
    obtain ⟨s1, s2, s3⟩ := sim_alloc S ht (l' : Int)
    exact ⟨_, _, rfl, _, L', _, Or.inl ⟨rfl, s2, s3, rfl⟩, s1, h2, hF, hJ⟩
  · cases hf : M.find t x with
    | none =>
      refine (served_stale t op x o l r to d h S.rinv h1 (S.find_none hf)).mono ?_
      rintro e w' ⟨rfl, hb⟩
      exact ⟨4, nilS, rfl, R, L, M, Or.inr (Or.inl ⟨h1, hf, rfl, rfl, rfl⟩), S, h.below hb, Frm.ofBelow hb, fun k hk => Or.inl hk⟩
    | some n =>
      obtain ⟨i, i1, i2, i3, i4, i5⟩ := S.find_some hf
      have mi := S.mate i i2 i3
      have stp : ∀ er m M', StepP M t (16 * t + n) op o l r to d er m M' → StepQ M t op x o l r to d er m M' := fun er m M' h => Or.inr (Or.inr ⟨h1, n, hf, h⟩)
      rw [← i4] at stp
      rcases hop with rfl | rfl | rfl | rfl | rfl
      · exact absurd rfl h1
      · obtain ⟨rfl, rfl, rfl, rfl, hd0⟩ := ok_2 hok
        obtain rfl := dzero hd0
        refine (served_2 t i x h S.rinv i1).mono ?_
        rintro e w' (⟨hr, rfl, hb⟩ | ⟨hr, rfl, h2, hF⟩)
        · have hr2 : (M.s (plc (R.T i))).frm ≠ -1 := fun e => hr ⟨fun _ => rfl, fun _ => (frm_root mi).2 e⟩
          exact ⟨9, nilS, rfl, R, L, M, stp _ _ _ (Or.inl ⟨rfl, Or.inl ⟨hr2, rfl, rfl, rfl⟩⟩), S, h.below hb, Frm.ofBelow hb, fun k hk => Or.inl hk⟩
        · have hr1 : (R.T i).frm = -1 := hr.2 rfl
          obtain ⟨M', G⟩ := Gone.ex (fun x => x = plc (R.T i) ∨ Under M (plc (R.T i)) x) M
          refine ⟨0, nilS, rfl, _, L, M', stp _ _ _ (Or.inl ⟨rfl, Or.inr ⟨(frm_root mi).1 hr1, rfl, rfl, G⟩⟩), sim_free S i2 i3 hr1 G, h2, hF, ?_⟩
          have e := (clr_T R i R.nT).1
          refine rfoot_eq ?_ ?_
          · unfold RH.left; rw [if_pos rfl]; show (clr R i R.nT).1.nO = _; rw [e]
          · unfold RH.left; rw [if_pos rfl]; show (clr R i R.nT).1.nT = _; rw [e]
      · obtain ⟨rfl, rfl, hd0⟩ := ok_3 hok
        obtain rfl := dzero hd0
        obtain ⟨o', rfl⟩ : ∃ o' : Nat, o = (o' : Int) := ⟨o.toNat, by omega⟩
        obtain ⟨l', rfl⟩ : ∃ l' : Nat, l = (l' : Int) := ⟨l.toNat, by omega⟩
        refine (served_3 t i x o' l' h S.rinv i1 (by omega) (by omega)).mono ?_
        rintro e w' ⟨rfl, hb⟩
        have er : R.read i (o' : Int) (l' : Int) = M.read (plc (R.T i)) (o' : Int) (l' : Int) := by
          obtain ⟨j, j1, j2, j3, j4, j5⟩ := mi.root
          have mj := (S.mate j j1 j2).bytes j3
          unfold RH.read readV Mach.read Mach.part
          have e1 : (M.s (plc (R.T i))).root.toNat = plc (R.T j) := by rw [j5]; rfl
          rw [mi.rights, mi.size, mi.first, e1, mj.1, j4]
        exact ⟨_, _, rfl, R, L, M, stp _ _ _ (Or.inr (Or.inl ⟨rfl, by rw [er], by rw [er], rfl⟩)), S, h.below hb, Frm.ofBelow hb, fun k hk => Or.inl hk⟩
      · obtain ⟨rfl, rfl, rfl⟩ := ok_4 hok
        obtain ⟨o', rfl⟩ : ∃ o' : Nat, o = (o' : Int) := ⟨o.toNat, by omega⟩
        refine (served_4 t i x o' d h S.rinv i1 (by omega) b11).mono ?_
        rintro e w' ⟨rfl, h2, hF⟩
        have ee : R.writeE i (o' : Int) d = M.writeE (plc (R.T i)) (o' : Int) d := by
          unfold RH.writeE writeE Mach.writeE
          rw [mi.rights, mi.size]
        refine ⟨_, nilS, rfl, _, L, M.write (plc (R.T i)) (o' : Int) d, stp _ _ _ (Or.inr (Or.inr (Or.inl ⟨rfl, ee, rfl, rfl⟩))), ?_, h2, hF, ?_⟩
        · by_cases h0 : M.writeE (plc (R.T i)) (o' : Int) d = 0
          · have eR : R.write i (o' : Int) d = R.turn (R.T i).obj.toNat (spl (R.O (R.T i).obj.toNat).bytes ((R.T i).first + (o' : Int)).toNat d d.size) := by unfold RH.write; rw [if_pos (ee.trans h0)]
            have eM : M.write (plc (R.T i)) (o' : Int) d = M.set (M.s (plc (R.T i))).root.toNat ((M.s (M.s (plc (R.T i))).root.toNat).withBytes (spl (M.s (M.s (plc (R.T i))).root.toNat).bytes ((M.s (plc (R.T i))).first + (o' : Int)).toNat d d.size)) := by unfold Mach.write; rw [if_pos h0]
            obtain ⟨k, hk, hkl⟩ := S.rinv.obj i i2
            have hbytes : (M.s (M.s (plc (R.T i))).root.toNat).bytes = (R.O (R.T i).obj.toNat).bytes := (sim_write S i2 i3 (bs := (R.O (R.T i).obj.toNat).bytes) rfl (by
              obtain ⟨j, j1, j2, j3, j4, j5⟩ := mi.root
              have mj := (S.mate j j1 j2).bytes j3
              rw [← j4, ← mj.1]
              exact S.inv.byte _)).2
            rw [eR, eM, hbytes, ← mi.first]
            exact (sim_write S i2 i3 (by rw [spl_len]) (spl_byte (by
              rw [← hbytes]
              exact S.inv.byte _) _ _ _)).1
          · have eR : R.write i (o' : Int) d = R := by unfold RH.write; rw [if_neg (by rw [ee]; exact h0)]
            have eM : M.write (plc (R.T i)) (o' : Int) d = M := by unfold Mach.write; rw [if_neg h0]
            rw [eR, eM]
            exact S
        · refine rfoot_eq ?_ ?_
          · unfold RH.write; split <;> rfl
          · unfold RH.write; split <;> rfl
      · obtain ⟨rfl, rfl, rfl, rfl, hd0⟩ := ok_9 hok
        obtain rfl := dzero hd0
        refine (served_9 t i x h S.rinv i1).mono ?_
        rintro e w' ⟨rfl, hb⟩
        have er : R.info i = M.info (plc (R.T i)) := by
          unfold RH.info Mach.info
          rw [mi.rights, mi.size]
        exact ⟨0, _, rfl, R, L, M, stp _ _ _ (Or.inr (Or.inr (Or.inr (Or.inr (Or.inr (Or.inr (Or.inr ⟨rfl, rfl, er, rfl⟩))))))), S, h.below hb, Frm.ofBelow hb, fun k hk => Or.inl hk⟩

/- RefAskMore -/

theorem sim_lay {R : RH} {M : Mach} (S : Sim R M) {t i : Nat} (ht : t < M.nt) (hi : i < R.nT) (hd : (R.T i).dead = false) {a l m : Int}
    (h1 : (R.T i).first ≤ a) (h2 : a + l ≤ (R.T i).first + (R.T i).size) (h3 : 0 ≤ l) (h4 : 0 ≤ m ∧ m ≤ 7) :
    Sim (R.laid (t : Int) (i : Int) (R.T i).obj a l m) (M.lay t (plc (R.T i)) a l m) ∧ R.laidE (t : Int) = M.layE t ∧ R.laidS (t : Int) = M.layS t := by
  cases hn : M.next t with
  | none =>
    obtain ⟨e1, e2, e3⟩ := sim_full S ht hn (i : Int) (R.T i).obj a l m
    have f1 : M.lay t (plc (R.T i)) a l m = M := by unfold Mach.lay; rw [hn]
    have f2 : M.layE t = 8 := by unfold Mach.layE; rw [hn]
    have f3 : M.layS t = nilS := by unfold Mach.layS; rw [hn]
    rw [e1, e2, e3, f1, f2, f3]
    exact ⟨S, rfl, rfl⟩
  | some n =>
    obtain ⟨s1, s2, s3⟩ := sim_down S ht hn hi hd h1 h2 h3 h4
    have f1 : M.lay t (plc (R.T i)) a l m = M.set (16 * t + n) ((M.s (16 * t + n)).laid (plc (R.T i) : Int) (M.s (plc (R.T i))).root a l m) := by unfold Mach.lay; rw [hn]
    have f2 : M.layE t = 0 := by unfold Mach.layE; rw [hn]
    have f3 : M.layS t = twoW (16 * ((M.s (16 * t + n)).uses : Int) + (n : Int)) := by unfold Mach.layS; rw [hn]
    rw [s2, s3, f1, f2, f3]
    exact ⟨s1, rfl, rfl⟩

theorem ok_5 {x o l r to : Int} {n : Nat} (h : okB 5 x o l r to n = true) : to = 0 ∧ n = 0 := by simp [okB, zr] at h; omega
theorem ok_6 {x o l r to : Int} {n : Nat} (h : okB 6 x o l r to n = true) : o = 0 ∧ l = 0 ∧ r = 0 ∧ n = 0 := by simp [okB, zr] at h; omega
theorem ok_7 {x o l r to : Int} {n : Nat} (h : okB 7 x o l r to n = true) : o = 0 ∧ l = 0 ∧ r = 0 ∧ to = 0 ∧ n = 0 := by simp [okB, zr] at h; omega
theorem ok_8 {x o l r to : Int} {n : Nat} (h : okB 8 x o l r to n = true) : o = 0 ∧ l = 0 ∧ r = 0 ∧ to = 0 ∧ n = 0 := by simp [okB, zr] at h; omega

theorem served_5 {g : Nat} {R : RH} {L : RL} {w : World} (t n : Nat) (x : Int) (o l r : Nat) (h : RAt w g R L) (inv : R.Inv) (hn : R.held (t : Int) x = some n) (ho : o ≤ 65535) (hl : l ≤ 65535) (hr : r ≤ 255) :
    Calls Try.prog 86 #[.pointer (some ⟨g, 0, none⟩), .int .i64 (t : Int), .agg #[.int .i64 5, .int .i64 x, .int .i64 (o : Int), .int .i64 (l : Int), .int .i64 (r : Int), .int .i64 0, .string ⟨#[]⟩]] w
      fun e w' => e = .returned (.tuple #[.string (R.deriveS t n o l r), .int .i64 (R.deriveE t n o l r)]) ∧ ∃ L', RAt w' g (R.derive t n o l r) L' ∧ Frm (RFoot g R L) w w' ∧ (∀ j, RFoot g (R.derive t n o l r) L' j → RFoot g R L j ∨ w.heap.size ≤ j) := by
  cases hsh : R.shareE n r with
  | false => exact served_5no t n x o l r h inv hn ho hl hr hsh
  | true =>
    by_cases h5 : (R.T n).size < (o : Int) + (l : Int)
    · exact served_5range t n x o l r h inv hn ho hl hr hsh h5
    · cases hr1 : ((r : Int) % 2 == 1) <;> cases hr2 : ((r : Int) / 2 % 2 == 1)
      · exact served_5laida t n x o l r h inv hn ho hl hr hsh h5 hr1 hr2
      · exact served_5laidb t n x o l r h inv hn ho hl hr hsh h5 hr1 hr2
      · exact served_5laidc t n x o l r h inv hn ho hl hr hsh h5 hr1 hr2
      · exact served_5laidd t n x o l r h inv hn ho hl hr hsh h5 hr1 hr2

/-- what the document's house answers is what the machine answers, of every request -/
theorem served_steps {g : Nat} {R : RH} {L : RL} {M : Mach} {w : World} (t : Nat) {op x o l r to : Int} {d : ByteArray} (h : RAt w g R L) (S : Sim R M) (ht : t < M.nt) (hok : okB op x o l r to d.size = true) :
    Calls Try.prog 86 #[.pointer (some ⟨g, 0, none⟩), .int .i64 (t : Int), .agg #[.int .i64 op, .int .i64 x, .int .i64 o, .int .i64 l, .int .i64 r, .int .i64 to, .string d]] w
      fun e w' => ∃ (er : Int) (m : ByteArray), e = .returned (.tuple #[.string m, .int .i64 er]) ∧ RPost (StepQ M t op x o l r to d) R L g w w' er m := by
  by_cases hs2 : served0 op
  · exact served_step t h S ht hok hs2
  have hop : op = 5 ∨ op = 6 ∨ op = 7 ∨ op = 8 := by
    unfold served0 at hs2
    rcases knw_cases (ok_known hok) with h | h | h | h | h | h | h | h | h <;> omega
  have h1 : op ≠ 1 := by omega
  obtain ⟨⟨b1, b2⟩, ⟨b3, b4⟩, ⟨b5, b6⟩, ⟨b7, b8⟩, ⟨b9, b10⟩, b11⟩ := ok_bd hok
  cases hf : M.find t x with
  | none =>
    refine (served_stale t op x o l r to d h S.rinv h1 (S.find_none hf)).mono ?_
    rintro e w' ⟨rfl, hb⟩
    exact ⟨4, nilS, rfl, R, L, M, Or.inr (Or.inl ⟨h1, hf, rfl, rfl, rfl⟩), S, h.below hb, Frm.ofBelow hb, fun k hk => Or.inl hk⟩
  | some n =>
    obtain ⟨i, i1, i2, i3, i4, i5⟩ := S.find_some hf
    have mi := S.mate i i2 i3
    obtain ⟨p1, p2, p3⟩ := S.rinv.part i i2
    have pr := S.rinv.rights i i2
    have stp : ∀ er m M', StepP M t (16 * t + n) op o l r to d er m M' → StepQ M t op x o l r to d er m M' := fun er m M' h => Or.inr (Or.inr ⟨h1, n, hf, h⟩)
    rw [← i4] at stp
    rcases hop with rfl | rfl | rfl | rfl
    · obtain ⟨rfl, hd0⟩ := ok_5 hok
      obtain rfl := dzero hd0
      obtain ⟨o', rfl⟩ : ∃ o' : Nat, o = (o' : Int) := ⟨o.toNat, by omega⟩
      obtain ⟨l', rfl⟩ : ∃ l' : Nat, l = (l' : Int) := ⟨l.toNat, by omega⟩
      obtain ⟨r', rfl⟩ : ∃ r' : Nat, r = (r' : Int) := ⟨r.toNat, by omega⟩
      refine (served_5 t i x o' l' r' h S.rinv i1 (by omega) (by omega) (by omega)).mono ?_
      rintro e w' ⟨rfl, L', h2, hF, hJ⟩
      refine ⟨_, _, rfl, R.derive t i o' l' r', L', ?_⟩
      have es : R.shareE i (r' : Int) = shareB (M.s (plc (R.T i))).rights (r' : Int) := by unfold RH.shareE; rw [mi.rights]
      by_cases hs : R.shareE i (r' : Int) = true
      · by_cases h5 : (R.T i).size < (o' : Int) + (l' : Int)
        · have e1 : R.deriveE t i o' l' r' = 6 := by unfold RH.deriveE; rw [if_neg (fun h => h hs), if_pos h5]
          have e2 : R.deriveS t i o' l' r' = nilS := by unfold RH.deriveS; rw [if_neg (fun h => h hs), if_pos h5]; rfl
          have e3 : R.derive t i o' l' r' = R := by unfold RH.derive; rw [if_neg (fun h => h hs), if_pos h5]
          refine ⟨M, stp _ _ _ (Or.inr (Or.inr (Or.inr (Or.inl ⟨rfl, Or.inr (Or.inl ⟨es ▸ hs, ?_, e1, e2, rfl⟩)⟩)))), by rw [e3]; exact S, h2, hF, hJ⟩
          rw [← mi.size]; exact h5
        · have e1 : R.deriveE t i o' l' r' = R.laidE t := by unfold RH.deriveE; rw [if_neg (fun h => h hs), if_neg h5]
          have e2 : R.deriveS t i o' l' r' = R.laidS t := by unfold RH.deriveS; rw [if_neg (fun h => h hs), if_neg h5]
          have e3 : R.derive t i o' l' r' = R.laid t (i : Int) (R.T i).obj ((R.T i).first + o') l' r' := by unfold RH.derive; rw [if_neg (fun h => h hs), if_neg h5]
          have hr7 : (r' : Int) ≤ 7 := by
            have := hs
            unfold RH.shareE shareB at this
            simp only [Bool.and_eq_true, decide_eq_true_eq] at this
            exact this.1.1.2
          obtain ⟨s1, s2, s3⟩ := sim_lay S ht i2 i3 (a := (R.T i).first + o') (l := l') (m := r') (by omega) (by omega) (by omega) ⟨by omega, hr7⟩
          refine ⟨_, stp _ _ _ (Or.inr (Or.inr (Or.inr (Or.inl ⟨rfl, Or.inr (Or.inr ⟨es ▸ hs, ?_, e1.trans s2, e2.trans s3, rfl⟩)⟩)))), ?_, h2, hF, hJ⟩
          · rw [← mi.size]; exact h5
          · rw [e3, ← mi.first]; exact s1
      · have e1 : R.deriveE t i o' l' r' = 5 := by unfold RH.deriveE; rw [if_pos hs]
        have e2 : R.deriveS t i o' l' r' = nilS := by unfold RH.deriveS; rw [if_pos hs]; rfl
        have e3 : R.derive t i o' l' r' = R := by unfold RH.derive; rw [if_pos hs]
        exact ⟨M, stp _ _ _ (Or.inr (Or.inr (Or.inr (Or.inl ⟨rfl, Or.inl ⟨es ▸ hs, e1, e2, rfl⟩⟩)))), by rw [e3]; exact S, h2, hF, hJ⟩
    · obtain ⟨rfl, rfl, rfl, hd0⟩ := ok_6 hok
      obtain rfl := dzero hd0
      obtain ⟨u, rfl⟩ : ∃ u : Nat, to = (u : Int) := ⟨to.toNat, by omega⟩
      refine (served_6 t i x u h S.rinv i1 (by omega)).mono ?_
      rintro e w' ⟨rfl, L', h2, hF, hJ⟩
      refine ⟨_, _, rfl, R.grant i u, L', ?_⟩
      have es : (R.T i).rights = (M.s (plc (R.T i))).rights := mi.rights
      by_cases hs : (R.T i).rights / 4 = 1
      · by_cases h5 : (R.nt : Int) ≤ (u : Int)
        · have e1 : R.grantE i u = 3 := by unfold RH.grantE; rw [if_neg (fun h => h hs), if_pos h5]
          have e2 : R.grantS i u = nilS := by unfold RH.grantS; rw [if_neg (fun h => h hs), if_pos h5]; rfl
          have e3 : R.grant i u = R := by unfold RH.grant; rw [if_neg (fun h => h hs), if_pos h5]
          refine ⟨M, stp _ _ _ (Or.inr (Or.inr (Or.inr (Or.inr (Or.inl ⟨rfl, Or.inr (Or.inl ⟨es ▸ hs, ?_, e1, e2, rfl⟩)⟩))))), by rw [e3]; exact S, h2, hF, hJ⟩
          rw [← S.nt]; exact h5
        · have e1 : R.grantE i u = R.laidE u := by unfold RH.grantE; rw [if_neg (fun h => h hs), if_neg h5]
          have e2 : R.grantS i u = R.laidS u := by unfold RH.grantS; rw [if_neg (fun h => h hs), if_neg h5]
          have e3 : R.grant i u = R.laid u (i : Int) (R.T i).obj (R.T i).first (R.T i).size (R.T i).rights := by unfold RH.grant; rw [if_neg (fun h => h hs), if_neg h5]
          have hu : u < M.nt := by rw [← S.nt]; omega
          obtain ⟨s1, s2, s3⟩ := sim_lay S hu i2 i3 (a := (R.T i).first) (l := (R.T i).size) (m := (R.T i).rights) (by omega) (by omega) (by omega) pr
          refine ⟨_, stp _ _ _ (Or.inr (Or.inr (Or.inr (Or.inr (Or.inl ⟨rfl, Or.inr (Or.inr ⟨es ▸ hs, ?_, e1.trans s2, e2.trans s3, rfl⟩)⟩))))), ?_, h2, hF, hJ⟩
          · rw [← S.nt]; exact h5
          · rw [e3, ← mi.first, ← mi.size, ← mi.rights]; exact s1
      · have e1 : R.grantE i u = 5 := by unfold RH.grantE; rw [if_pos hs]
        have e2 : R.grantS i u = nilS := by unfold RH.grantS; rw [if_pos hs]; rfl
        have e3 : R.grant i u = R := by unfold RH.grant; rw [if_pos hs]
        exact ⟨M, stp _ _ _ (Or.inr (Or.inr (Or.inr (Or.inr (Or.inl ⟨rfl, Or.inl ⟨es ▸ hs, e1, e2, rfl⟩⟩))))), by rw [e3]; exact S, h2, hF, hJ⟩
    · obtain ⟨rfl, rfl, rfl, rfl, hd0⟩ := ok_7 hok
      obtain rfl := dzero hd0
      refine (served_7 t i x h S.rinv i1).mono ?_
      rintro e w' ⟨rfl, h2, hF⟩
      obtain ⟨M', G⟩ := Gone.ex (Under M (plc (R.T i))) M
      refine ⟨0, nilS, rfl, _, L, M', stp _ _ _ (Or.inr (Or.inr (Or.inr (Or.inr (Or.inr (Or.inl ⟨rfl, rfl, rfl, G⟩)))))), sim_revoke S i2 i3 G, h2, hF, ?_⟩
      have e := (clr_T R i R.nT).1
      exact rfoot_eq (by rw [e]) (by rw [e])
    · obtain ⟨rfl, rfl, rfl, rfl, hd0⟩ := ok_8 hok
      obtain rfl := dzero hd0
      refine (served_8 t i x h S.rinv i1).mono ?_
      rintro e w' (⟨hr, rfl, hb⟩ | ⟨hr, rfl, h2, hF⟩)
      · have hr2 : (M.s (plc (R.T i))).frm = -1 := by
          by_cases hh : (R.T i).frm = -1
          · exact (frm_root mi).1 hh
          · exact absurd ⟨fun e => absurd e hh, fun e => absurd e (by decide)⟩ hr
        exact ⟨9, nilS, rfl, R, L, M, stp _ _ _ (Or.inr (Or.inr (Or.inr (Or.inr (Or.inr (Or.inr (Or.inl ⟨rfl, Or.inl ⟨hr2, rfl, rfl, rfl⟩⟩))))))), S, h.below hb, Frm.ofBelow hb, fun k hk => Or.inl hk⟩
      · have hr1 : (R.T i).frm ≠ -1 := fun e => absurd (hr.1 e) (by decide)
        obtain ⟨M', G⟩ := Gone.ex (fun x => x = plc (R.T i) ∨ Under M (plc (R.T i)) x) M
        refine ⟨0, nilS, rfl, _, L, M', stp _ _ _ (Or.inr (Or.inr (Or.inr (Or.inr (Or.inr (Or.inr (Or.inl ⟨rfl, Or.inr ⟨fun e => hr1 ((frm_root mi).2 e), rfl, rfl, G⟩⟩))))))), sim_drop S i2 i3 hr1 G, h2, hF, ?_⟩
        have e := (clr_T R i R.nT).1
        refine rfoot_eq ?_ ?_
        · unfold RH.left; rw [if_neg (by decide)]; show (clr R i R.nT).1.nO = _; rw [e]
        · unfold RH.left; rw [if_neg (by decide)]; show (clr R i R.nT).1.nT = _; rw [e]

/- RefAskAll -/

theorem u8_small {e : Int} (h0 : 0 ≤ e) (h9 : e ≤ 9) : IntKind.u8.wrap e = e := by
  have : e = 0 ∨ e = 1 ∨ e = 2 ∨ e = 3 ∨ e = 4 ∨ e = 5 ∨ e = 6 ∨ e = 7 ∨ e = 8 ∨ e = 9 := by omega
  rcases this with rfl | rfl | rfl | rfl | rfl | rfl | rfl | rfl | rfl | rfl <;> decide
theorem oneC_small {e : Int} (h0 : 0 ≤ e) (h9 : e ≤ 9) : oneC e = oneS e := by
  unfold oneC oneS
  rw [show e % 256 = e by omega]
theorem oneS_size' (n : Int) : (oneS n).size = 1 := strOfNums_size _

set_option maxHeartbeats 1600000 in
set_option maxRecDepth 100000 in
theorem rask_no {g : Nat} {R : RH} {L : RL} {M : Mach} {w : World} (t : Int) (s : ByteArray) (h : RAt w g R L) (S : Sim R M) (hs : s.size ≤ 140737488355328) (ht : hasB M.nt t = true) (hd : decV s = noV) :
    Calls Try.prog 70 #[.pointer (some ⟨g, 0, none⟩), .int .i64 t, .string s] w fun e w' => ∃ (er : Int) (m : ByteArray), e = .returned (.tuple #[.string (oneC er ++ m), .int .i64 0]) ∧ RPost (StepS M t.toNat s) R L g w w' er m := by
  have c1 := conv1
  have c0 : w.cell? ⟨g, 0, none⟩ = some (.int .i64 (R.nt : Int)) := rowCell h.row 0
  have hT : 0 ≤ t ∧ t < (R.nt : Int) := by rw [S.nt]; simp [hasB] at ht; exact ht
  obtain ⟨t0, t1⟩ := hT
  have HH : Hid (RAt w g R L ∧ Sim R M) := ⟨h, S⟩
  clear h S
  go_enter Try.func70, Try.ntmps70
  go_wp2_with fail
  refine (rdec_any s w hs).mono ?_
  rintro e w1 ⟨rfl, hb⟩
  rw [hd, show noV = .tuple #[.agg #[.int .i64 0, .int .i64 0, .int .i64 0, .int .i64 0, .int .i64 0, .int .i64 0, .string ⟨#[]⟩], .int .i64 1] from rfl]
  have HB : Hid (Below w.heap.size w w1 ∧ decV s = noV) := ⟨hb, hd⟩
  have s1 := oneS_size'
  clear hb hd
  go_wp2
  go_ret2
  have hz := HB.out.1.size
  have hb2 := (HB.out.1.alloc hz (.cells #[.int .i64 0, .int .i64 0, .int .i64 0, .int .i64 0, .int .i64 0, .int .i64 0, .string ⟨#[]⟩] 23)).alloc (by simp; omega) (.cells #[.int .u8 1] 5)
  refine ⟨1, nilS, ?_, R, L, M, Or.inl ⟨HB.out.2, rfl, rfl, rfl⟩, HH.out.2, HH.out.1.below hb2, Frm.ofBelow hb2, fun k hk => Or.inl hk⟩
  rw [oneC_small (by decide) (by decide)]
  rfl

set_option maxHeartbeats 1600000 in
set_option maxRecDepth 100000 in
theorem rask_yes {g : Nat} {R : RH} {L : RL} {M : Mach} {w : World} (t : Int) (s : ByteArray) (h : RAt w g R L) (S : Sim R M) (hs : s.size ≤ 140737488355328) (ht : hasB M.nt t = true) {op x o l r to : Int} {d : ByteArray} (hd : decV s = yesV op x o l r to d)
    (hserve : ∀ w, RAt w g R L → Calls Try.prog 86 #[.pointer (some ⟨g, 0, none⟩), .int .i64 t, .agg #[.int .i64 op, .int .i64 x, .int .i64 o, .int .i64 l, .int .i64 r, .int .i64 to, .string d]] w
      fun e w' => ∃ (er : Int) (m : ByteArray), e = .returned (.tuple #[.string m, .int .i64 er]) ∧ RPost (StepQ M t.toNat op x o l r to d) R L g w w' er m) :
    Calls Try.prog 70 #[.pointer (some ⟨g, 0, none⟩), .int .i64 t, .string s] w fun e w' => ∃ (er : Int) (m : ByteArray), e = .returned (.tuple #[.string (oneC er ++ m), .int .i64 0]) ∧ RPost (StepS M t.toNat s) R L g w w' er m := by
  have c1 := conv1
  have c0 : w.cell? ⟨g, 0, none⟩ = some (.int .i64 (R.nt : Int)) := rowCell h.row 0
  have hT : 0 ≤ t ∧ t < (R.nt : Int) := by rw [S.nt]; simp [hasB] at ht; exact ht
  obtain ⟨t0, t1⟩ := hT
  have HS : Hid (∀ w, RAt w g R L → Calls Try.prog 86 #[.pointer (some ⟨g, 0, none⟩), .int .i64 t, .agg #[.int .i64 op, .int .i64 x, .int .i64 o, .int .i64 l, .int .i64 r, .int .i64 to, .string d]] w
      fun e w' => ∃ (er : Int) (m : ByteArray), e = .returned (.tuple #[.string m, .int .i64 er]) ∧ RPost (StepQ M t.toNat op x o l r to d) R L g w w' er m) := hserve
  have HH : Hid (RAt w g R L ∧ Sim R M) := ⟨h, S⟩
  clear h S hserve
  go_enter Try.func70, Try.ntmps70
  go_wp2_with fail
  refine (rdec_any s w hs).mono ?_
  rintro e w1 ⟨rfl, hb⟩
  rw [hd, show yesV op x o l r to d = .tuple #[.agg #[.int .i64 op, .int .i64 x, .int .i64 o, .int .i64 l, .int .i64 r, .int .i64 to, .string d], .int .i64 0] from rfl]
  have HB : Hid (Below w.heap.size w (w1.alloc (.cells #[.int .i64 op, .int .i64 x, .int .i64 o, .int .i64 l, .int .i64 r, .int .i64 to, .string d] 23)) ∧ decV s = yesV op x o l r to d) := ⟨hb.alloc hb.size _, hd⟩
  clear hb hd
  go_wp2_with fail
  refine (HS.out _ (HH.out.1.below HB.out.1)).mono ?_
  rintro e w2 ⟨er, m, rfl, R', L', M', q1, q2, q3, q4, q5⟩
  have hst : StepS M t.toNat s er m M' := Or.inr ⟨op, x, o, l, r, to, d, HB.out.2, q1⟩
  obtain ⟨e0, e9, en⟩ := hst.err
  have hms := hst.size
  have hwr := u8_small e0 e9
  have HP : Hid (RPost (StepS M t.toNat s) R L g w w2 er m) := by
    refine ⟨R', L', M', hst, q2, q3, (Frm.ofBelow (F := RFoot g R L) HB.out.1).trans q4 (fun _ _ h => h), fun k hk => ?_⟩
    have := HB.out.1.size
    rcases q5 k hk with h | h
    · exact Or.inl h
    · exact Or.inr (by omega)
  have HO : Hid (oneC er = oneS er) := oneC_small e0 e9
  have HE : Hid (er ≠ 0 → m = nilS ∧ M' = M) := en
  have s1 := oneS_size'
  have fin : Hid (∀ V, Below w2.heap.size w2 V → RPost (StepS M t.toNat s) R L g w V er m) := by
    intro V hV
    obtain ⟨R', L', M', a1, a2, a3, a4, a5⟩ := HP.out
    exact ⟨R', L', M', a1, a2, a3.below hV, a4.trans (Frm.ofBelow (F := fun _ => False) hV) (fun _ _ h => h.elim), a5⟩
  clear q1 q2 q3 q4 q5 hst en HS e0 e9
  by_cases h0 : er = 0
  · subst h0
    go_wp2
    go_ret2
    exact ⟨0, m, by rw [HO.out]; rfl, fin.out _ ((Below.refl _ _).alloc (Nat.le_refl _) _)⟩
  · have h0b : (er == 0) = false := by simp [h0]
    have hm : Hid (m = nilS) := (HE.out h0).1
    clear h0
    go_wp2
    go_ret2
    refine ⟨er, m, ?_, fin.out _ ((Below.refl _ _).alloc (Nat.le_refl _) _)⟩
    rw [HO.out, hm.out]
    rfl

set_option maxHeartbeats 400000 in
theorem rask_none {g : Nat} {R : RH} {L : RL} {w : World} (t : Int) (s : ByteArray) (h : RAt w g R L) (ht : hasB R.nt t = false) :
    Calls Try.prog 70 #[.pointer (some ⟨g, 0, none⟩), .int .i64 t, .string s] w fun e w' => e = .returned (.tuple #[.string ⟨#[]⟩, .int .i64 3]) ∧ w' = w := by
  have c0 : w.cell? ⟨g, 0, none⟩ = some (.int .i64 (R.nt : Int)) := rowCell h.row 0
  clear h
  by_cases h1 : t < 0
  · go_enter Try.func70, Try.ntmps70
    go_wp2
    go_ret2
    exact ⟨rfl, rfl⟩
  · have h2 : (R.nt : Int) ≤ t := by simp [hasB] at ht; omega
    go_enter Try.func70, Try.ntmps70
    go_wp2
    go_ret2
    exact ⟨rfl, rfl⟩

/-- Ask of the document's house -/
theorem rask_any {g : Nat} {R : RH} {L : RL} {M : Mach} {w : World} (t : Int) (s : ByteArray) (h : RAt w g R L) (S : Sim R M) (hs : s.size ≤ 140737488355328) (ht : hasB M.nt t = true) :
    Calls Try.prog 70 #[.pointer (some ⟨g, 0, none⟩), .int .i64 t, .string s] w fun e w' => ∃ (er : Int) (m : ByteArray), e = .returned (.tuple #[.string (oneC er ++ m), .int .i64 0]) ∧ RPost (StepS M t.toNat s) R L g w w' er m := by
  rcases dec_cases s with hd | ⟨op, x, o, l, r, to, d, hd, hok, _⟩
  · exact rask_no t s h S hs ht hd
  · refine rask_yes t s h S hs ht hd (fun w hw => ?_)
    obtain ⟨n, rfl⟩ : ∃ n : Nat, t = (n : Int) := ⟨t.toNat, by simp [hasB] at ht; omega⟩
    exact served_steps n hw S (by simp [hasB] at ht; omega) hok

end Go.Proofs.Ytkjjamigaamllaa
