/-
  The bytes that a step of a script speaks of.
-/
import Derived.Test.YtkjjamigaamllaaKeepNamed
namespace Go.Proofs.Ytkjjamigaamllaa
open Go.RowKit
set_option linter.unusedSimpArgs false

/-- a step of a script -/
structure KOp where
  op : Int
  tenant : Int
  which : Int
  a : Int
  b : Int
  c : Int
  s : ByteArray
def KOp.cells (o : KOp) : Array Value := #[.int .i64 o.op, .int .i64 o.tenant, .int .i64 o.which, .int .i64 o.a, .int .i64 o.b, .int .i64 o.c, .string o.s]
structure KOp.Ok (o : KOp) : Prop where
  tenant : inR o.tenant
  which : inR o.which
  a : inR o.a
  b : inR o.b
  c : inR o.c
  s : o.s.size ≤ 140737488355328

/-- at most 64 bytes of a string -/
def cutS (s : ByteArray) : ByteArray := if s.size ≤ 64 then s else s.extract 0 64
theorem cutS_le (s : ByteArray) : (cutS s).size ≤ 64 := by
  unfold cutS
  split
  · assumption
  · rw [ByteArray.size_extract]; omega

/-- the request that a step speaks of -/
structure KReq where
  op : Int
  x : Int
  o : Int
  l : Int
  r : Int
  to : Int
  d : ByteArray
def KReq.bytes (q : KReq) : ByteArray := bodyS q.op q.x q.o q.l q.r q.to q.d
def KReq.ok (q : KReq) : Prop := okB q.op q.x q.o q.l q.r q.to q.d.size = true

def reqQ (gl : List Int) (shares grants : Bool) (apart : Int) (t : Nat) (o : KOp) : Option KReq :=
  if o.op = 1 then some ⟨1, 0, 0, pickK o.a 260, 0, 0, ⟨#[]⟩⟩
  else if o.op = 2 then some ⟨2, namedV gl o.which, 0, 0, 0, 0, ⟨#[]⟩⟩
  else if o.op = 3 then some ⟨3, namedV gl o.which, pickK o.a 260, pickK o.b 70, 0, 0, ⟨#[]⟩⟩
  else if o.op = 4 then some ⟨4, namedV gl o.which, pickK o.a 260, 0, 0, 0, cutS o.s⟩
  else if o.op = 9 then some ⟨9, namedV gl o.which, 0, 0, 0, 0, ⟨#[]⟩⟩
  else if shares = false then none
  else if o.op = 5 then some ⟨5, namedV gl o.which, pickK o.a 260, pickK o.b 260, pickK o.c 9, 0, ⟨#[]⟩⟩
  else if o.op = 7 then some ⟨7, namedV gl o.which, 0, 0, 0, 0, ⟨#[]⟩⟩
  else if o.op = 8 then some ⟨8, namedV gl o.which, 0, 0, 0, 0, ⟨#[]⟩⟩
  else if o.op = 6 then (if grants = true ∧ kindV apart (pickK o.a 5).toNat = kindV apart t then some ⟨6, namedV gl o.which, 0, 0, 0, pickK o.a 5, ⟨#[]⟩⟩ else none)
  else none
def reqS (q : Option KReq) : ByteArray := match q with
  | some q => q.bytes
  | none => ⟨#[]⟩

theorem reqQ_ok {gl : List Int} (hg : ∀ x ∈ gl, wd x = true) {shares grants : Bool} {apart : Int} {t : Nat} {o : KOp} {q : KReq} (h : reqQ gl shares grants apart t o = some q) : q.ok := by
  have hn := namedV_wd hg o.which
  have p260 : ∀ c, wd (pickK c 260) = true := fun c => wd_iff.2 (by have := pickK_bd c (m := 260) (by decide); omega)
  have p70 : ∀ c, wd (pickK c 70) = true := fun c => wd_iff.2 (by have := pickK_bd c (m := 70) (by decide); omega)
  have p9 : ∀ c, bt (pickK c 9) = true := fun c => bt_iff.2 (by have := pickK_bd c (m := 9) (by decide); omega)
  have p5 : ∀ c, bt (pickK c 5) = true := fun c => bt_iff.2 (by have := pickK_bd c (m := 5) (by decide); omega)
  have hs := cutS_le o.s
  unfold reqQ at h
  have fin : ∀ {q2 : KReq}, some q2 = some q → q2.ok → q.ok := fun e hk => by injection e with e; exact e ▸ hk
  by_cases e1 : o.op = 1
  · rw [if_pos e1] at h; exact fin h (by simp [KReq.ok, okB, zr, hn, p260, p70, hs] <;> rfl)
  rw [if_neg e1] at h
  by_cases e2 : o.op = 2
  · rw [if_pos e2] at h; exact fin h (by simp [KReq.ok, okB, zr, hn, p260, p70, hs] <;> rfl)
  rw [if_neg e2] at h
  by_cases e3 : o.op = 3
  · rw [if_pos e3] at h; exact fin h (by simp [KReq.ok, okB, zr, hn, p260, p70, hs] <;> rfl)
  rw [if_neg e3] at h
  by_cases e4 : o.op = 4
  · rw [if_pos e4] at h; exact fin h (by simp [KReq.ok, okB, zr, hn, p260, p70, hs] <;> rfl)
  rw [if_neg e4] at h
  by_cases e9 : o.op = 9
  · rw [if_pos e9] at h; exact fin h (by simp [KReq.ok, okB, zr, hn, p260, p70, hs] <;> rfl)
  rw [if_neg e9] at h
  by_cases es : shares = false
  · rw [if_pos es] at h; cases h
  rw [if_neg es] at h
  by_cases e5 : o.op = 5
  · rw [if_pos e5] at h; exact fin h (by simp [KReq.ok, okB, zr, hn, p260, p9] <;> rfl)
  rw [if_neg e5] at h
  by_cases e7 : o.op = 7
  · rw [if_pos e7] at h; exact fin h (by simp [KReq.ok, okB, zr, hn, p260, p9] <;> rfl)
  rw [if_neg e7] at h
  by_cases e8 : o.op = 8
  · rw [if_pos e8] at h; exact fin h (by simp [KReq.ok, okB, zr, hn, p260, p9] <;> rfl)
  rw [if_neg e8] at h
  by_cases e6 : o.op = 6
  · rw [if_pos e6] at h
    by_cases eg : grants = true ∧ kindV apart (pickK o.a 5).toNat = kindV apart t
    · rw [if_pos eg] at h; exact fin h (by simp [KReq.ok, okB, zr, hn, p5] <;> rfl)
    · rw [if_neg eg] at h; cases h
  rw [if_neg e6] at h
  cases h

theorem picks_bd : (∀ c, wd (pickK c 260) = true) ∧ (∀ c, wd (pickK c 70) = true) ∧ (∀ c, bt (pickK c 9) = true) ∧ (∀ c, bt (pickK c 5) = true) :=
  ⟨fun c => wd_iff.2 (by have := pickK_bd c (m := 260) (by decide); omega), fun c => wd_iff.2 (by have := pickK_bd c (m := 70) (by decide); omega),
    fun c => bt_iff.2 (by have := pickK_bd c (m := 9) (by decide); omega), fun c => bt_iff.2 (by have := pickK_bd c (m := 5) (by decide); omega)⟩
theorem kpick_k (w : World) (k : Nat) (cs : Array Value) (ty : TypeId) (c m : Int) {W : World} (hc : inR c) (h0 : 0 < m) (h1 : m ≤ 8796093022210) (hk : Keeps w W k cs ty) :
    Calls Try.prog 27 #[.int .i64 c, .int .i64 m] W fun e w' => e = .returned (.int .i64 (pickK c m)) ∧ Keeps w w' k cs ty :=
  (kpick_any c m W hc h0 h1).mono fun _ _ ⟨he, hb⟩ => ⟨he, hb ▸ hk⟩
theorem kalloc_k (w : World) (k : Nat) (cs : Array Value) (ty : TypeId) (l : Int) {W : World} (hl : wd l = true) (h0 : Keeps w W k cs ty) :
    Calls Try.prog 31 #[.int .i64 l] W fun e w' => e = .returned (.string (bodyS 1 0 0 l 0 0 ⟨#[]⟩)) ∧ Keeps w w' k cs ty :=
  (kalloc_any l W hl).mono fun _ _ ⟨he, hb⟩ => ⟨he, h0.step hb⟩
theorem kfree_k (w : World) (k : Nat) (cs : Array Value) (ty : TypeId) (h : Int) {W : World} (hh : wd h = true) (h0 : Keeps w W k cs ty) :
    Calls Try.prog 62 #[.int .i64 h] W fun e w' => e = .returned (.string (bodyS 2 h 0 0 0 0 ⟨#[]⟩)) ∧ Keeps w w' k cs ty :=
  (kfree_any h W hh).mono fun _ _ ⟨he, hb⟩ => ⟨he, h0.step hb⟩
theorem kread_k (w : World) (k : Nat) (cs : Array Value) (ty : TypeId) (h : Int) (o : Int) (l : Int) {W : World} (hh : wd h = true) (ho : wd o = true) (hl : wd l = true) (h0 : Keeps w W k cs ty) :
    Calls Try.prog 30 #[.int .i64 h, .int .i64 o, .int .i64 l] W fun e w' => e = .returned (.string (bodyS 3 h o l 0 0 ⟨#[]⟩)) ∧ Keeps w w' k cs ty :=
  (kread_any h o l W hh ho hl).mono fun _ _ ⟨he, hb⟩ => ⟨he, h0.step hb⟩
theorem kwrite_k (w : World) (k : Nat) (cs : Array Value) (ty : TypeId) (h : Int) (o : Int) (d : ByteArray) {W : World} (hh : wd h = true) (ho : wd o = true) (hd : d.size ≤ 64) (h0 : Keeps w W k cs ty) :
    Calls Try.prog 33 #[.int .i64 h, .int .i64 o, .string d] W fun e w' => e = .returned (.string (bodyS 4 h o 0 0 0 d)) ∧ Keeps w w' k cs ty :=
  (kwrite_any h o d W hh ho hd).mono fun _ _ ⟨he, hb⟩ => ⟨he, h0.step hb⟩
theorem kderive_k (w : World) (k : Nat) (cs : Array Value) (ty : TypeId) (h : Int) (o : Int) (l : Int) (r : Int) {W : World} (hh : wd h = true) (ho : wd o = true) (hl : wd l = true) (hr : bt r = true) (h0 : Keeps w W k cs ty) :
    Calls Try.prog 39 #[.int .i64 h, .int .i64 o, .int .i64 l, .int .i64 r] W fun e w' => e = .returned (.string (bodyS 5 h o l r 0 ⟨#[]⟩)) ∧ Keeps w w' k cs ty :=
  (kderive_any h o l r W hh ho hl hr).mono fun _ _ ⟨he, hb⟩ => ⟨he, h0.step hb⟩
theorem kgrant_k (w : World) (k : Nat) (cs : Array Value) (ty : TypeId) (h : Int) (t : Int) {W : World} (hh : wd h = true) (ht : bt t = true) (h0 : Keeps w W k cs ty) :
    Calls Try.prog 89 #[.int .i64 h, .int .i64 t] W fun e w' => e = .returned (.string (bodyS 6 h 0 0 0 t ⟨#[]⟩)) ∧ Keeps w w' k cs ty :=
  (kgrant_any h t W hh ht).mono fun _ _ ⟨he, hb⟩ => ⟨he, h0.step hb⟩
theorem krevoke_k (w : World) (k : Nat) (cs : Array Value) (ty : TypeId) (h : Int) {W : World} (hh : wd h = true) (h0 : Keeps w W k cs ty) :
    Calls Try.prog 87 #[.int .i64 h] W fun e w' => e = .returned (.string (bodyS 7 h 0 0 0 0 ⟨#[]⟩)) ∧ Keeps w w' k cs ty :=
  (krevoke_any h W hh).mono fun _ _ ⟨he, hb⟩ => ⟨he, h0.step hb⟩
theorem kdrop_k (w : World) (k : Nat) (cs : Array Value) (ty : TypeId) (h : Int) {W : World} (hh : wd h = true) (h0 : Keeps w W k cs ty) :
    Calls Try.prog 88 #[.int .i64 h] W fun e w' => e = .returned (.string (bodyS 8 h 0 0 0 0 ⟨#[]⟩)) ∧ Keeps w w' k cs ty :=
  (kdrop_any h W hh).mono fun _ _ ⟨he, hb⟩ => ⟨he, h0.step hb⟩
theorem kinfo_k (w : World) (k : Nat) (cs : Array Value) (ty : TypeId) (h : Int) {W : World} (hh : wd h = true) (h0 : Keeps w W k cs ty) :
    Calls Try.prog 40 #[.int .i64 h] W fun e w' => e = .returned (.string (bodyS 9 h 0 0 0 0 ⟨#[]⟩)) ∧ Keeps w w' k cs ty :=
  (kinfo_any h W hh).mono fun _ _ ⟨he, hb⟩ => ⟨he, h0.step hb⟩

set_option maxHeartbeats 1600000 in
theorem krequest_1 {B0 : Nat} {w : World} {rb : Nat} {K : KRun} (t : Nat) (o : KOp) (ho : o.Ok) (h : KAt B0 w rb K) (hg : KGood K.M K.gl) (ht : t < K.M.nt) (hop : o.op = 1) :
    Calls Try.prog 72 #[.pointer (some ⟨rb, 0, none⟩), .int .i64 (t : Int), .agg o.cells] w fun e w' => e = .returned (.string (reqS (reqQ (K.gl t) K.shares K.grants K.apart t o))) ∧ Below w.heap.size w w' := by
  obtain ⟨op, tenant, which, a, b, c, s⟩ := o
  obtain ⟨o2, o3, o4, o5, o6, o7⟩ := ho
  simp only at hop o2 o3 o4 o5 o6 o7
  subst hop
  have HO : Hid (inR which ∧ inR a ∧ inR b ∧ inR c) := ⟨o3, o4, o5, o6⟩
  have HH : Hid (KAt B0 w rb K ∧ KGood K.M K.gl) := ⟨h, hg⟩
  have HN : Hid (wd (namedV (K.gl t) which) = true) := namedV_wd (hg.num t) which
  have HP : Hid ((∀ c, wd (pickK c 260) = true) ∧ (∀ c, wd (pickK c 70) = true) ∧ (∀ c, bt (pickK c 9) = true) ∧ (∀ c, bt (pickK c 5) = true)) := picks_bd
  clear h hg o2 o3 o4 o5 o6
  unfold KOp.cells
  have hst : Keeps w (w.alloc (.cells #[.int .i64 1, .int .i64 tenant, .int .i64 which, .int .i64 a, .int .i64 b, .int .i64 c, .string s] 119)) w.heap.size #[.int .i64 1, .int .i64 tenant, .int .i64 which, .int .i64 a, .int .i64 b, .int .i64 c, .string s] 119 := ⟨newRowAt _ _, by simp, (Below.refl _ _).alloc (Nat.le_refl _) _⟩
  go_enter Try.func72, Try.ntmps72
  go_wp2_with fail
  refine (knamed_any t which (HH.out.1.below ((Below.refl _ _).alloc (Nat.le_refl _) _)) HH.out.2 ht HO.out.1).mono ?_
  rintro e w1 ⟨rfl, rfl⟩
  go_wp2_with (first | (go_at_call 27; refine (kpick_k w w.heap.size #[.int .i64 1, .int .i64 tenant, .int .i64 which, .int .i64 a, .int .i64 b, .int .i64 c, .string s] 119 _ _ (by first | exact HO.out.2.1 | exact HO.out.2.2.1 | exact HO.out.2.2.2) (by decide) (by decide) hst).mono ?_; rintro e w2 ⟨rfl, hst⟩) | (go_at_call 31; refine (kalloc_k w w.heap.size #[.int .i64 1, .int .i64 tenant, .int .i64 which, .int .i64 a, .int .i64 b, .int .i64 c, .string s] 119 _ (by first | exact HN.out | exact HP.out.1 _ | exact HP.out.2.1 _ | decide) hst).mono ?_; rintro e w2 ⟨rfl, hst⟩))
  go_ret
  exact ⟨rfl, hst.b⟩

set_option maxHeartbeats 1600000 in
theorem krequest_2 {B0 : Nat} {w : World} {rb : Nat} {K : KRun} (t : Nat) (o : KOp) (ho : o.Ok) (h : KAt B0 w rb K) (hg : KGood K.M K.gl) (ht : t < K.M.nt) (hop : o.op = 2) :
    Calls Try.prog 72 #[.pointer (some ⟨rb, 0, none⟩), .int .i64 (t : Int), .agg o.cells] w fun e w' => e = .returned (.string (reqS (reqQ (K.gl t) K.shares K.grants K.apart t o))) ∧ Below w.heap.size w w' := by
  obtain ⟨op, tenant, which, a, b, c, s⟩ := o
  obtain ⟨o2, o3, o4, o5, o6, o7⟩ := ho
  simp only at hop o2 o3 o4 o5 o6 o7
  subst hop
  have HO : Hid (inR which ∧ inR a ∧ inR b ∧ inR c) := ⟨o3, o4, o5, o6⟩
  have HH : Hid (KAt B0 w rb K ∧ KGood K.M K.gl) := ⟨h, hg⟩
  have HN : Hid (wd (namedV (K.gl t) which) = true) := namedV_wd (hg.num t) which
  have HP : Hid ((∀ c, wd (pickK c 260) = true) ∧ (∀ c, wd (pickK c 70) = true) ∧ (∀ c, bt (pickK c 9) = true) ∧ (∀ c, bt (pickK c 5) = true)) := picks_bd
  clear h hg o2 o3 o4 o5 o6
  unfold KOp.cells
  have hst : Keeps w (w.alloc (.cells #[.int .i64 2, .int .i64 tenant, .int .i64 which, .int .i64 a, .int .i64 b, .int .i64 c, .string s] 119)) w.heap.size #[.int .i64 2, .int .i64 tenant, .int .i64 which, .int .i64 a, .int .i64 b, .int .i64 c, .string s] 119 := ⟨newRowAt _ _, by simp, (Below.refl _ _).alloc (Nat.le_refl _) _⟩
  go_enter Try.func72, Try.ntmps72
  go_wp2_with fail
  refine (knamed_any t which (HH.out.1.below ((Below.refl _ _).alloc (Nat.le_refl _) _)) HH.out.2 ht HO.out.1).mono ?_
  rintro e w1 ⟨rfl, rfl⟩
  go_wp2_with (first | (go_at_call 62; refine (kfree_k w w.heap.size #[.int .i64 2, .int .i64 tenant, .int .i64 which, .int .i64 a, .int .i64 b, .int .i64 c, .string s] 119 _ (by first | exact HN.out | exact HP.out.1 _ | exact HP.out.2.1 _ | decide) hst).mono ?_; rintro e w2 ⟨rfl, hst⟩))
  go_ret
  exact ⟨rfl, hst.b⟩

set_option maxHeartbeats 1600000 in
theorem krequest_3 {B0 : Nat} {w : World} {rb : Nat} {K : KRun} (t : Nat) (o : KOp) (ho : o.Ok) (h : KAt B0 w rb K) (hg : KGood K.M K.gl) (ht : t < K.M.nt) (hop : o.op = 3) :
    Calls Try.prog 72 #[.pointer (some ⟨rb, 0, none⟩), .int .i64 (t : Int), .agg o.cells] w fun e w' => e = .returned (.string (reqS (reqQ (K.gl t) K.shares K.grants K.apart t o))) ∧ Below w.heap.size w w' := by
  obtain ⟨op, tenant, which, a, b, c, s⟩ := o
  obtain ⟨o2, o3, o4, o5, o6, o7⟩ := ho
  simp only at hop o2 o3 o4 o5 o6 o7
  subst hop
  have HO : Hid (inR which ∧ inR a ∧ inR b ∧ inR c) := ⟨o3, o4, o5, o6⟩
  have HH : Hid (KAt B0 w rb K ∧ KGood K.M K.gl) := ⟨h, hg⟩
  have HN : Hid (wd (namedV (K.gl t) which) = true) := namedV_wd (hg.num t) which
  have HP : Hid ((∀ c, wd (pickK c 260) = true) ∧ (∀ c, wd (pickK c 70) = true) ∧ (∀ c, bt (pickK c 9) = true) ∧ (∀ c, bt (pickK c 5) = true)) := picks_bd
  clear h hg o2 o3 o4 o5 o6
  unfold KOp.cells
  have hst : Keeps w (w.alloc (.cells #[.int .i64 3, .int .i64 tenant, .int .i64 which, .int .i64 a, .int .i64 b, .int .i64 c, .string s] 119)) w.heap.size #[.int .i64 3, .int .i64 tenant, .int .i64 which, .int .i64 a, .int .i64 b, .int .i64 c, .string s] 119 := ⟨newRowAt _ _, by simp, (Below.refl _ _).alloc (Nat.le_refl _) _⟩
  have hst0 := hst
  replace hst := hst.drew
  go_enter Try.func72, Try.ntmps72
  go_wp2_with fail
  refine (knamed_any t which (HH.out.1.below ((Below.refl _ _).alloc (Nat.le_refl _) _)) HH.out.2 ht HO.out.1).mono ?_
  rintro e w1 ⟨rfl, rfl⟩
  go_wp2_with fail
  go_region_held3 (fun w' => w'.cell? ⟨w.heap.size, 3, none⟩ = some (.int .i64 a) ∧ w'.cell? ⟨w.heap.size, 4, none⟩ = some (.int .i64 b) ∧ w'.cell? ⟨w.heap.size, 5, none⟩ = some (.int .i64 c) ∧ Keeps w w' w.heap.size #[.int .i64 3, .int .i64 tenant, .int .i64 which, .int .i64 a, .int .i64 b, .int .i64 c, .string s] 119)
      (first | exact ⟨hst.at 3 rfl, hst.at 4 rfl, hst.at 5 rfl, hst⟩ | exact ⟨hst0.at 3 rfl, hst0.at 4 rfl, hst0.at 5 rfl, hst0⟩)
      (first | (go_at_call 27; refine (kpick_k w w.heap.size #[.int .i64 3, .int .i64 tenant, .int .i64 which, .int .i64 a, .int .i64 b, .int .i64 c, .string s] 119 _ _ (by first | exact HO.out.2.1 | exact HO.out.2.2.1 | exact HO.out.2.2.2) (by decide) (by decide) hst).mono ?_; rintro e w2 ⟨rfl, hst⟩) | (go_at_call 30; refine (kread_k w w.heap.size #[.int .i64 3, .int .i64 tenant, .int .i64 which, .int .i64 a, .int .i64 b, .int .i64 c, .string s] 119 _ _ _ (by first | exact HN.out | exact HP.out.1 _ | exact HP.out.2.1 _ | decide) (by first | exact HN.out | exact HP.out.1 _ | exact HP.out.2.1 _ | decide) (by first | exact HN.out | exact HP.out.1 _ | exact HP.out.2.1 _ | decide) hst).mono ?_; rintro e w2 ⟨rfl, hst⟩))
  all_goals go_wp2_with fail
  go_ret
  exact ⟨rfl, hst.b⟩

set_option maxHeartbeats 1600000 in
theorem krequest_9 {B0 : Nat} {w : World} {rb : Nat} {K : KRun} (t : Nat) (o : KOp) (ho : o.Ok) (h : KAt B0 w rb K) (hg : KGood K.M K.gl) (ht : t < K.M.nt) (hop : o.op = 9) :
    Calls Try.prog 72 #[.pointer (some ⟨rb, 0, none⟩), .int .i64 (t : Int), .agg o.cells] w fun e w' => e = .returned (.string (reqS (reqQ (K.gl t) K.shares K.grants K.apart t o))) ∧ Below w.heap.size w w' := by
  obtain ⟨op, tenant, which, a, b, c, s⟩ := o
  obtain ⟨o2, o3, o4, o5, o6, o7⟩ := ho
  simp only at hop o2 o3 o4 o5 o6 o7
  subst hop
  have HO : Hid (inR which ∧ inR a ∧ inR b ∧ inR c) := ⟨o3, o4, o5, o6⟩
  have HH : Hid (KAt B0 w rb K ∧ KGood K.M K.gl) := ⟨h, hg⟩
  have HN : Hid (wd (namedV (K.gl t) which) = true) := namedV_wd (hg.num t) which
  have HP : Hid ((∀ c, wd (pickK c 260) = true) ∧ (∀ c, wd (pickK c 70) = true) ∧ (∀ c, bt (pickK c 9) = true) ∧ (∀ c, bt (pickK c 5) = true)) := picks_bd
  clear h hg o2 o3 o4 o5 o6
  unfold KOp.cells
  have hst : Keeps w (w.alloc (.cells #[.int .i64 9, .int .i64 tenant, .int .i64 which, .int .i64 a, .int .i64 b, .int .i64 c, .string s] 119)) w.heap.size #[.int .i64 9, .int .i64 tenant, .int .i64 which, .int .i64 a, .int .i64 b, .int .i64 c, .string s] 119 := ⟨newRowAt _ _, by simp, (Below.refl _ _).alloc (Nat.le_refl _) _⟩
  go_enter Try.func72, Try.ntmps72
  go_wp2_with fail
  refine (knamed_any t which (HH.out.1.below ((Below.refl _ _).alloc (Nat.le_refl _) _)) HH.out.2 ht HO.out.1).mono ?_
  rintro e w1 ⟨rfl, rfl⟩
  go_wp2_with (first | (go_at_call 40; refine (kinfo_k w w.heap.size #[.int .i64 9, .int .i64 tenant, .int .i64 which, .int .i64 a, .int .i64 b, .int .i64 c, .string s] 119 _ (by first | exact HN.out | exact HP.out.1 _ | exact HP.out.2.1 _ | decide) hst).mono ?_; rintro e w2 ⟨rfl, hst⟩))
  go_ret
  exact ⟨rfl, hst.b⟩

set_option maxHeartbeats 1600000 in
theorem krequest_4a {B0 : Nat} {w : World} {rb : Nat} {K : KRun} (t : Nat) (o : KOp) (ho : o.Ok) (h : KAt B0 w rb K) (hg : KGood K.M K.gl) (ht : t < K.M.nt) (hop : o.op = 4) (hz : o.s.size ≤ 64) :
    Calls Try.prog 72 #[.pointer (some ⟨rb, 0, none⟩), .int .i64 (t : Int), .agg o.cells] w fun e w' => e = .returned (.string (reqS (reqQ (K.gl t) K.shares K.grants K.apart t o))) ∧ Below w.heap.size w w' := by
  obtain ⟨op, tenant, which, a, b, c, s⟩ := o
  obtain ⟨o2, o3, o4, o5, o6, o7⟩ := ho
  simp only at hop o2 o3 o4 o5 o6 o7
  subst hop
  have HO : Hid (inR which ∧ inR a ∧ inR b ∧ inR c) := ⟨o3, o4, o5, o6⟩
  have HH : Hid (KAt B0 w rb K ∧ KGood K.M K.gl) := ⟨h, hg⟩
  have HN : Hid (wd (namedV (K.gl t) which) = true) := namedV_wd (hg.num t) which
  have HP : Hid ((∀ c, wd (pickK c 260) = true) ∧ (∀ c, wd (pickK c 70) = true) ∧ (∀ c, bt (pickK c 9) = true) ∧ (∀ c, bt (pickK c 5) = true)) := picks_bd
  have hz : s.size ≤ 64 := hz
  have HC : Hid (s.size ≤ 64) := hz
  have h64 : ¬ (64 : Int) < (s.size : Int) := by omega
  have HE : Hid (reqS (reqQ (K.gl t) K.shares K.grants K.apart t ⟨4, tenant, which, a, b, c, s⟩) = bodyS 4 (namedV (K.gl t) which) (pickK a 260) 0 0 0 s) := by
    show bodyS 4 _ _ 0 0 0 (cutS s) = _
    unfold cutS
    rw [if_pos hz]
  clear h hg o2 o3 o4 o5 o6
  unfold KOp.cells
  have hst : Keeps w (w.alloc (.cells #[.int .i64 4, .int .i64 tenant, .int .i64 which, .int .i64 a, .int .i64 b, .int .i64 c, .string s] 119)) w.heap.size #[.int .i64 4, .int .i64 tenant, .int .i64 which, .int .i64 a, .int .i64 b, .int .i64 c, .string s] 119 := ⟨newRowAt _ _, by simp, (Below.refl _ _).alloc (Nat.le_refl _) _⟩
  go_enter Try.func72, Try.ntmps72
  go_wp2_with fail
  refine (knamed_any t which (HH.out.1.below ((Below.refl _ _).alloc (Nat.le_refl _) _)) HH.out.2 ht HO.out.1).mono ?_
  rintro e w1 ⟨rfl, rfl⟩
  go_wp2_with (first | (go_at_call 27; refine (kpick_k w w.heap.size #[.int .i64 4, .int .i64 tenant, .int .i64 which, .int .i64 a, .int .i64 b, .int .i64 c, .string s] 119 _ _ (by first | exact HO.out.2.1 | exact HO.out.2.2.1 | exact HO.out.2.2.2) (by decide) (by decide) hst).mono ?_; rintro e w2 ⟨rfl, hst⟩) | (go_at_call 33; refine (kwrite_k w w.heap.size #[.int .i64 4, .int .i64 tenant, .int .i64 which, .int .i64 a, .int .i64 b, .int .i64 c, .string s] 119 _ _ _ (by first | exact HN.out | exact HP.out.1 _ | exact HP.out.2.1 _ | decide) (by first | exact HN.out | exact HP.out.1 _ | exact HP.out.2.1 _ | decide) HC.out hst).mono ?_; rintro e w2 ⟨rfl, hst⟩))
  go_ret
  exact ⟨by rw [HE.out]; rfl, hst.b⟩

set_option maxHeartbeats 1600000 in
theorem krequest_4b {B0 : Nat} {w : World} {rb : Nat} {K : KRun} (t : Nat) (o : KOp) (ho : o.Ok) (h : KAt B0 w rb K) (hg : KGood K.M K.gl) (ht : t < K.M.nt) (hop : o.op = 4) (hz : 64 < o.s.size) :
    Calls Try.prog 72 #[.pointer (some ⟨rb, 0, none⟩), .int .i64 (t : Int), .agg o.cells] w fun e w' => e = .returned (.string (reqS (reqQ (K.gl t) K.shares K.grants K.apart t o))) ∧ Below w.heap.size w w' := by
  obtain ⟨op, tenant, which, a, b, c, s⟩ := o
  obtain ⟨o2, o3, o4, o5, o6, o7⟩ := ho
  simp only at hop o2 o3 o4 o5 o6 o7
  subst hop
  have HO : Hid (inR which ∧ inR a ∧ inR b ∧ inR c) := ⟨o3, o4, o5, o6⟩
  have HH : Hid (KAt B0 w rb K ∧ KGood K.M K.gl) := ⟨h, hg⟩
  have HN : Hid (wd (namedV (K.gl t) which) = true) := namedV_wd (hg.num t) which
  have HP : Hid ((∀ c, wd (pickK c 260) = true) ∧ (∀ c, wd (pickK c 70) = true) ∧ (∀ c, bt (pickK c 9) = true) ∧ (∀ c, bt (pickK c 5) = true)) := picks_bd
  have hz : 64 < s.size := hz
  have HC : Hid ((s.extract 0 64).size ≤ 64) := by show _ ≤ _; rw [ByteArray.size_extract]; omega
  have h64 : (64 : Int) < (s.size : Int) := by omega
  have HE : Hid (reqS (reqQ (K.gl t) K.shares K.grants K.apart t ⟨4, tenant, which, a, b, c, s⟩) = bodyS 4 (namedV (K.gl t) which) (pickK a 260) 0 0 0 (s.extract 0 64)) := by
    show bodyS 4 _ _ 0 0 0 (cutS s) = _
    unfold cutS
    rw [if_neg (by omega)]
  clear h hg o2 o3 o4 o5 o6
  unfold KOp.cells
  have hst : Keeps w (w.alloc (.cells #[.int .i64 4, .int .i64 tenant, .int .i64 which, .int .i64 a, .int .i64 b, .int .i64 c, .string s] 119)) w.heap.size #[.int .i64 4, .int .i64 tenant, .int .i64 which, .int .i64 a, .int .i64 b, .int .i64 c, .string s] 119 := ⟨newRowAt _ _, by simp, (Below.refl _ _).alloc (Nat.le_refl _) _⟩
  go_enter Try.func72, Try.ntmps72
  go_wp2_with fail
  refine (knamed_any t which (HH.out.1.below ((Below.refl _ _).alloc (Nat.le_refl _) _)) HH.out.2 ht HO.out.1).mono ?_
  rintro e w1 ⟨rfl, rfl⟩
  go_wp2_with (first | (go_at_call 27; refine (kpick_k w w.heap.size #[.int .i64 4, .int .i64 tenant, .int .i64 which, .int .i64 a, .int .i64 b, .int .i64 c, .string s] 119 _ _ (by first | exact HO.out.2.1 | exact HO.out.2.2.1 | exact HO.out.2.2.2) (by decide) (by decide) hst).mono ?_; rintro e w2 ⟨rfl, hst⟩) | (go_at_call 33; refine (kwrite_k w w.heap.size #[.int .i64 4, .int .i64 tenant, .int .i64 which, .int .i64 a, .int .i64 b, .int .i64 c, .string s] 119 _ _ _ (by first | exact HN.out | exact HP.out.1 _ | exact HP.out.2.1 _ | decide) (by first | exact HN.out | exact HP.out.1 _ | exact HP.out.2.1 _ | decide) HC.out hst).mono ?_; rintro e w2 ⟨rfl, hst⟩))
  go_ret
  exact ⟨by rw [HE.out]; rfl, hst.b⟩

set_option maxHeartbeats 1600000 in
theorem krequest_5 {B0 : Nat} {w : World} {rb : Nat} {K : KRun} (t : Nat) (o : KOp) (ho : o.Ok) (h : KAt B0 w rb K) (hg : KGood K.M K.gl) (ht : t < K.M.nt) (hop : o.op = 5) (hsh : K.shares = true) :
    Calls Try.prog 72 #[.pointer (some ⟨rb, 0, none⟩), .int .i64 (t : Int), .agg o.cells] w fun e w' => e = .returned (.string (reqS (reqQ (K.gl t) K.shares K.grants K.apart t o))) ∧ Below w.heap.size w w' := by
  obtain ⟨op, tenant, which, a, b, c, s⟩ := o
  obtain ⟨o2, o3, o4, o5, o6, o7⟩ := ho
  simp only at hop o2 o3 o4 o5 o6 o7
  subst hop
  have HO : Hid (inR which ∧ inR a ∧ inR b ∧ inR c) := ⟨o3, o4, o5, o6⟩
  have HH : Hid (KAt B0 w rb K ∧ KGood K.M K.gl) := ⟨h, hg⟩
  have HN : Hid (wd (namedV (K.gl t) which) = true) := namedV_wd (hg.num t) which
  have HP : Hid ((∀ c, wd (pickK c 260) = true) ∧ (∀ c, wd (pickK c 70) = true) ∧ (∀ c, bt (pickK c 9) = true) ∧ (∀ c, bt (pickK c 5) = true)) := picks_bd
  have cs6 : (w.alloc (.cells #[.int .i64 5, .int .i64 tenant, .int .i64 which, .int .i64 a, .int .i64 b, .int .i64 c, .string s] 119)).cell? ⟨rb, 6, none⟩ = some (.bool true) := by rw [← hsh]; exact rowCell (h.below ((Below.refl _ _).alloc (Nat.le_refl _) _)).row 6
  have HE : Hid (reqQ (K.gl t) K.shares K.grants K.apart t ⟨5, tenant, which, a, b, c, s⟩ = reqQ (K.gl t) true K.grants K.apart t ⟨5, tenant, which, a, b, c, s⟩) := by show _ = _; rw [hsh]
  clear h hg o2 o3 o4 o5 o6
  unfold KOp.cells
  have hst : Keeps w (w.alloc (.cells #[.int .i64 5, .int .i64 tenant, .int .i64 which, .int .i64 a, .int .i64 b, .int .i64 c, .string s] 119)) w.heap.size #[.int .i64 5, .int .i64 tenant, .int .i64 which, .int .i64 a, .int .i64 b, .int .i64 c, .string s] 119 := ⟨newRowAt _ _, by simp, (Below.refl _ _).alloc (Nat.le_refl _) _⟩
  have hst0 := hst
  replace hst := hst.drew
  go_enter Try.func72, Try.ntmps72
  go_wp2_with fail
  refine (knamed_any t which (HH.out.1.below ((Below.refl _ _).alloc (Nat.le_refl _) _)) HH.out.2 ht HO.out.1).mono ?_
  rintro e w1 ⟨rfl, rfl⟩
  go_wp2_with fail
  go_region_held3 (fun w' => w'.cell? ⟨w.heap.size, 3, none⟩ = some (.int .i64 a) ∧ w'.cell? ⟨w.heap.size, 4, none⟩ = some (.int .i64 b) ∧ w'.cell? ⟨w.heap.size, 5, none⟩ = some (.int .i64 c) ∧ Keeps w w' w.heap.size #[.int .i64 5, .int .i64 tenant, .int .i64 which, .int .i64 a, .int .i64 b, .int .i64 c, .string s] 119)
      (first | exact ⟨hst.at 3 rfl, hst.at 4 rfl, hst.at 5 rfl, hst⟩ | exact ⟨hst0.at 3 rfl, hst0.at 4 rfl, hst0.at 5 rfl, hst0⟩)
      (first | (go_at_call 27; refine (kpick_k w w.heap.size #[.int .i64 5, .int .i64 tenant, .int .i64 which, .int .i64 a, .int .i64 b, .int .i64 c, .string s] 119 _ _ (by first | exact HO.out.2.1 | exact HO.out.2.2.1 | exact HO.out.2.2.2) (by decide) (by decide) hst).mono ?_; rintro e w2 ⟨rfl, hst⟩) | (go_at_call 39; refine (kderive_k w w.heap.size #[.int .i64 5, .int .i64 tenant, .int .i64 which, .int .i64 a, .int .i64 b, .int .i64 c, .string s] 119 _ _ _ _ (by first | exact HN.out | exact HP.out.1 _ | exact HP.out.2.1 _ | decide) (by first | exact HN.out | exact HP.out.1 _ | exact HP.out.2.1 _ | decide) (by first | exact HN.out | exact HP.out.1 _ | exact HP.out.2.1 _ | decide) (HP.out.2.2.1 _) hst).mono ?_; rintro e w2 ⟨rfl, hst⟩))
  all_goals go_wp2_with fail
  go_ret
  exact ⟨by rw [HE.out]; rfl, hst.b⟩

set_option maxHeartbeats 1600000 in
theorem krequest_7 {B0 : Nat} {w : World} {rb : Nat} {K : KRun} (t : Nat) (o : KOp) (ho : o.Ok) (h : KAt B0 w rb K) (hg : KGood K.M K.gl) (ht : t < K.M.nt) (hop : o.op = 7) (hsh : K.shares = true) :
    Calls Try.prog 72 #[.pointer (some ⟨rb, 0, none⟩), .int .i64 (t : Int), .agg o.cells] w fun e w' => e = .returned (.string (reqS (reqQ (K.gl t) K.shares K.grants K.apart t o))) ∧ Below w.heap.size w w' := by
  obtain ⟨op, tenant, which, a, b, c, s⟩ := o
  obtain ⟨o2, o3, o4, o5, o6, o7⟩ := ho
  simp only at hop o2 o3 o4 o5 o6 o7
  subst hop
  have HO : Hid (inR which ∧ inR a ∧ inR b ∧ inR c) := ⟨o3, o4, o5, o6⟩
  have HH : Hid (KAt B0 w rb K ∧ KGood K.M K.gl) := ⟨h, hg⟩
  have HN : Hid (wd (namedV (K.gl t) which) = true) := namedV_wd (hg.num t) which
  have HP : Hid ((∀ c, wd (pickK c 260) = true) ∧ (∀ c, wd (pickK c 70) = true) ∧ (∀ c, bt (pickK c 9) = true) ∧ (∀ c, bt (pickK c 5) = true)) := picks_bd
  have cs6 : (w.alloc (.cells #[.int .i64 7, .int .i64 tenant, .int .i64 which, .int .i64 a, .int .i64 b, .int .i64 c, .string s] 119)).cell? ⟨rb, 6, none⟩ = some (.bool true) := by rw [← hsh]; exact rowCell (h.below ((Below.refl _ _).alloc (Nat.le_refl _) _)).row 6
  have HE : Hid (reqQ (K.gl t) K.shares K.grants K.apart t ⟨7, tenant, which, a, b, c, s⟩ = reqQ (K.gl t) true K.grants K.apart t ⟨7, tenant, which, a, b, c, s⟩) := by show _ = _; rw [hsh]
  clear h hg o2 o3 o4 o5 o6
  unfold KOp.cells
  have hst : Keeps w (w.alloc (.cells #[.int .i64 7, .int .i64 tenant, .int .i64 which, .int .i64 a, .int .i64 b, .int .i64 c, .string s] 119)) w.heap.size #[.int .i64 7, .int .i64 tenant, .int .i64 which, .int .i64 a, .int .i64 b, .int .i64 c, .string s] 119 := ⟨newRowAt _ _, by simp, (Below.refl _ _).alloc (Nat.le_refl _) _⟩
  go_enter Try.func72, Try.ntmps72
  go_wp2_with fail
  refine (knamed_any t which (HH.out.1.below ((Below.refl _ _).alloc (Nat.le_refl _) _)) HH.out.2 ht HO.out.1).mono ?_
  rintro e w1 ⟨rfl, rfl⟩
  go_wp2_with (first | (go_at_call 87; refine (krevoke_k w w.heap.size #[.int .i64 7, .int .i64 tenant, .int .i64 which, .int .i64 a, .int .i64 b, .int .i64 c, .string s] 119 _ (by first | exact HN.out | exact HP.out.1 _ | exact HP.out.2.1 _ | decide) hst).mono ?_; rintro e w2 ⟨rfl, hst⟩))
  go_ret
  exact ⟨by rw [HE.out]; rfl, hst.b⟩

set_option maxHeartbeats 1600000 in
theorem krequest_8 {B0 : Nat} {w : World} {rb : Nat} {K : KRun} (t : Nat) (o : KOp) (ho : o.Ok) (h : KAt B0 w rb K) (hg : KGood K.M K.gl) (ht : t < K.M.nt) (hop : o.op = 8) (hsh : K.shares = true) :
    Calls Try.prog 72 #[.pointer (some ⟨rb, 0, none⟩), .int .i64 (t : Int), .agg o.cells] w fun e w' => e = .returned (.string (reqS (reqQ (K.gl t) K.shares K.grants K.apart t o))) ∧ Below w.heap.size w w' := by
  obtain ⟨op, tenant, which, a, b, c, s⟩ := o
  obtain ⟨o2, o3, o4, o5, o6, o7⟩ := ho
  simp only at hop o2 o3 o4 o5 o6 o7
  subst hop
  have HO : Hid (inR which ∧ inR a ∧ inR b ∧ inR c) := ⟨o3, o4, o5, o6⟩
  have HH : Hid (KAt B0 w rb K ∧ KGood K.M K.gl) := ⟨h, hg⟩
  have HN : Hid (wd (namedV (K.gl t) which) = true) := namedV_wd (hg.num t) which
  have HP : Hid ((∀ c, wd (pickK c 260) = true) ∧ (∀ c, wd (pickK c 70) = true) ∧ (∀ c, bt (pickK c 9) = true) ∧ (∀ c, bt (pickK c 5) = true)) := picks_bd
  have cs6 : (w.alloc (.cells #[.int .i64 8, .int .i64 tenant, .int .i64 which, .int .i64 a, .int .i64 b, .int .i64 c, .string s] 119)).cell? ⟨rb, 6, none⟩ = some (.bool true) := by rw [← hsh]; exact rowCell (h.below ((Below.refl _ _).alloc (Nat.le_refl _) _)).row 6
  have HE : Hid (reqQ (K.gl t) K.shares K.grants K.apart t ⟨8, tenant, which, a, b, c, s⟩ = reqQ (K.gl t) true K.grants K.apart t ⟨8, tenant, which, a, b, c, s⟩) := by show _ = _; rw [hsh]
  clear h hg o2 o3 o4 o5 o6
  unfold KOp.cells
  have hst : Keeps w (w.alloc (.cells #[.int .i64 8, .int .i64 tenant, .int .i64 which, .int .i64 a, .int .i64 b, .int .i64 c, .string s] 119)) w.heap.size #[.int .i64 8, .int .i64 tenant, .int .i64 which, .int .i64 a, .int .i64 b, .int .i64 c, .string s] 119 := ⟨newRowAt _ _, by simp, (Below.refl _ _).alloc (Nat.le_refl _) _⟩
  go_enter Try.func72, Try.ntmps72
  go_wp2_with fail
  refine (knamed_any t which (HH.out.1.below ((Below.refl _ _).alloc (Nat.le_refl _) _)) HH.out.2 ht HO.out.1).mono ?_
  rintro e w1 ⟨rfl, rfl⟩
  go_wp2_with (first | (go_at_call 88; refine (kdrop_k w w.heap.size #[.int .i64 8, .int .i64 tenant, .int .i64 which, .int .i64 a, .int .i64 b, .int .i64 c, .string s] 119 _ (by first | exact HN.out | exact HP.out.1 _ | exact HP.out.2.1 _ | decide) hst).mono ?_; rintro e w2 ⟨rfl, hst⟩))
  go_ret
  exact ⟨by rw [HE.out]; rfl, hst.b⟩

set_option maxHeartbeats 1600000 in
theorem krequest_n {B0 : Nat} {w : World} {rb : Nat} {K : KRun} (t : Nat) (o : KOp) (ho : o.Ok) (h : KAt B0 w rb K) (hg : KGood K.M K.gl) (ht : t < K.M.nt) (hop : o.op ≠ 1 ∧ o.op ≠ 2 ∧ o.op ≠ 3 ∧ o.op ≠ 4 ∧ o.op ≠ 9) (hsh : K.shares = false) :
    Calls Try.prog 72 #[.pointer (some ⟨rb, 0, none⟩), .int .i64 (t : Int), .agg o.cells] w fun e w' => e = .returned (.string (reqS (reqQ (K.gl t) K.shares K.grants K.apart t o))) ∧ Below w.heap.size w w' := by
  obtain ⟨op, tenant, which, a, b, c, s⟩ := o
  obtain ⟨o2, o3, o4, o5, o6, o7⟩ := ho
  simp only at hop o2 o3 o4 o5 o6 o7
  have HO : Hid (inR which ∧ inR a ∧ inR b ∧ inR c) := ⟨o3, o4, o5, o6⟩
  have HH : Hid (KAt B0 w rb K ∧ KGood K.M K.gl) := ⟨h, hg⟩
  have HN : Hid (wd (namedV (K.gl t) which) = true) := namedV_wd (hg.num t) which
  have HP : Hid ((∀ c, wd (pickK c 260) = true) ∧ (∀ c, wd (pickK c 70) = true) ∧ (∀ c, bt (pickK c 9) = true) ∧ (∀ c, bt (pickK c 5) = true)) := picks_bd
  have cs6 : (w.alloc (.cells #[.int .i64 op, .int .i64 tenant, .int .i64 which, .int .i64 a, .int .i64 b, .int .i64 c, .string s] 119)).cell? ⟨rb, 6, none⟩ = some (.bool false) := by rw [← hsh]; exact rowCell (h.below ((Below.refl _ _).alloc (Nat.le_refl _) _)).row 6
  have b1 : (op == 1) = false := by simp; omega
  have b2 : (op == 2) = false := by simp; omega
  have b3 : (op == 3) = false := by simp; omega
  have b4 : (op == 4) = false := by simp; omega
  have b9 : (op == 9) = false := by simp; omega
  have HE : Hid (reqQ (K.gl t) K.shares K.grants K.apart t ⟨op, tenant, which, a, b, c, s⟩ = none) := by show _ = _; unfold reqQ; rw [if_neg hop.1, if_neg hop.2.1, if_neg hop.2.2.1, if_neg hop.2.2.2.1, if_neg hop.2.2.2.2, if_pos hsh]
  clear h hg o2 o3 o4 o5 o6
  unfold KOp.cells
  have hst : Keeps w (w.alloc (.cells #[.int .i64 op, .int .i64 tenant, .int .i64 which, .int .i64 a, .int .i64 b, .int .i64 c, .string s] 119)) w.heap.size #[.int .i64 op, .int .i64 tenant, .int .i64 which, .int .i64 a, .int .i64 b, .int .i64 c, .string s] 119 := ⟨newRowAt _ _, by simp, (Below.refl _ _).alloc (Nat.le_refl _) _⟩
  go_enter Try.func72, Try.ntmps72
  go_wp2_with fail
  refine (knamed_any t which (HH.out.1.below ((Below.refl _ _).alloc (Nat.le_refl _) _)) HH.out.2 ht HO.out.1).mono ?_
  rintro e w1 ⟨rfl, rfl⟩
  go_wp2_with fail
  go_ret
  exact ⟨by rw [HE.out]; rfl, hst.b⟩

set_option maxHeartbeats 1600000 in
theorem krequest_6n {B0 : Nat} {w : World} {rb : Nat} {K : KRun} (t : Nat) (o : KOp) (ho : o.Ok) (h : KAt B0 w rb K) (hg : KGood K.M K.gl) (ht : t < K.M.nt) (hop : o.op = 6) (hsh : K.shares = true) (hgr : K.grants = false) :
    Calls Try.prog 72 #[.pointer (some ⟨rb, 0, none⟩), .int .i64 (t : Int), .agg o.cells] w fun e w' => e = .returned (.string (reqS (reqQ (K.gl t) K.shares K.grants K.apart t o))) ∧ Below w.heap.size w w' := by
  obtain ⟨op, tenant, which, a, b, c, s⟩ := o
  obtain ⟨o2, o3, o4, o5, o6, o7⟩ := ho
  simp only at hop o2 o3 o4 o5 o6 o7
  subst hop
  have HO : Hid (inR which ∧ inR a ∧ inR b ∧ inR c) := ⟨o3, o4, o5, o6⟩
  have HH : Hid (KAt B0 w rb K ∧ KGood K.M K.gl) := ⟨h, hg⟩
  have HN : Hid (wd (namedV (K.gl t) which) = true) := namedV_wd (hg.num t) which
  have HP : Hid ((∀ c, wd (pickK c 260) = true) ∧ (∀ c, wd (pickK c 70) = true) ∧ (∀ c, bt (pickK c 9) = true) ∧ (∀ c, bt (pickK c 5) = true)) := picks_bd
  have cs6 : (w.alloc (.cells #[.int .i64 6, .int .i64 tenant, .int .i64 which, .int .i64 a, .int .i64 b, .int .i64 c, .string s] 119)).cell? ⟨rb, 6, none⟩ = some (.bool true) := by rw [← hsh]; exact rowCell (h.below ((Below.refl _ _).alloc (Nat.le_refl _) _)).row 6
  have cs7 : (w.alloc (.cells #[.int .i64 6, .int .i64 tenant, .int .i64 which, .int .i64 a, .int .i64 b, .int .i64 c, .string s] 119)).cell? ⟨rb, 7, none⟩ = some (.bool false) := by rw [← hgr]; exact rowCell (h.below ((Below.refl _ _).alloc (Nat.le_refl _) _)).row 7
  have HE : Hid (reqQ (K.gl t) K.shares K.grants K.apart t ⟨6, tenant, which, a, b, c, s⟩ = none) := by show _ = _; rw [hsh, hgr]; rfl
  clear h hg o2 o3 o4 o5 o6
  unfold KOp.cells
  have hst : Keeps w (w.alloc (.cells #[.int .i64 6, .int .i64 tenant, .int .i64 which, .int .i64 a, .int .i64 b, .int .i64 c, .string s] 119)) w.heap.size #[.int .i64 6, .int .i64 tenant, .int .i64 which, .int .i64 a, .int .i64 b, .int .i64 c, .string s] 119 := ⟨newRowAt _ _, by simp, (Below.refl _ _).alloc (Nat.le_refl _) _⟩
  go_enter Try.func72, Try.ntmps72
  go_wp2_with fail
  refine (knamed_any t which (HH.out.1.below ((Below.refl _ _).alloc (Nat.le_refl _) _)) HH.out.2 ht HO.out.1).mono ?_
  rintro e w1 ⟨rfl, rfl⟩
  go_wp2_with fail
  refine (kpick_any a 5 _ HO.out.2.1 (by decide) (by decide)).mono ?_
  rintro e w1 ⟨rfl, rfl⟩
  go_wp2_with fail
  go_ret
  exact ⟨by rw [HE.out]; rfl, hst.b⟩

set_option maxHeartbeats 1600000 in
theorem krequest_6y {B0 : Nat} {w : World} {rb : Nat} {K : KRun} (t : Nat) (o : KOp) (ho : o.Ok) (h : KAt B0 w rb K) (hg : KGood K.M K.gl) (ht : t < K.M.nt) (hop : o.op = 6) (hsh : K.shares = true) (hgr : K.grants = true) (ha : 0 ≤ K.apart ∧ K.apart ≤ 15) (hk : kindV K.apart (pickK o.a 5).toNat = kindV K.apart t) :
    Calls Try.prog 72 #[.pointer (some ⟨rb, 0, none⟩), .int .i64 (t : Int), .agg o.cells] w fun e w' => e = .returned (.string (reqS (reqQ (K.gl t) K.shares K.grants K.apart t o))) ∧ Below w.heap.size w w' := by
  obtain ⟨op, tenant, which, a, b, c, s⟩ := o
  obtain ⟨o2, o3, o4, o5, o6, o7⟩ := ho
  simp only at hop o2 o3 o4 o5 o6 o7
  subst hop
  have HO : Hid (inR which ∧ inR a ∧ inR b ∧ inR c) := ⟨o3, o4, o5, o6⟩
  have HH : Hid (KAt B0 w rb K ∧ KGood K.M K.gl) := ⟨h, hg⟩
  have HN : Hid (wd (namedV (K.gl t) which) = true) := namedV_wd (hg.num t) which
  have HP : Hid ((∀ c, wd (pickK c 260) = true) ∧ (∀ c, wd (pickK c 70) = true) ∧ (∀ c, bt (pickK c 9) = true) ∧ (∀ c, bt (pickK c 5) = true)) := picks_bd
  have cs6 : (w.alloc (.cells #[.int .i64 6, .int .i64 tenant, .int .i64 which, .int .i64 a, .int .i64 b, .int .i64 c, .string s] 119)).cell? ⟨rb, 6, none⟩ = some (.bool true) := by rw [← hsh]; exact rowCell (h.below ((Below.refl _ _).alloc (Nat.le_refl _) _)).row 6
  have cs7 : (w.alloc (.cells #[.int .i64 6, .int .i64 tenant, .int .i64 which, .int .i64 a, .int .i64 b, .int .i64 c, .string s] 119)).cell? ⟨rb, 7, none⟩ = some (.bool true) := by rw [← hgr]; exact rowCell (h.below ((Below.refl _ _).alloc (Nat.le_refl _) _)).row 7
  have HA : Hid (0 ≤ K.apart ∧ K.apart ≤ 15) := ha
  obtain ⟨u, hu⟩ : ∃ u : Nat, pickK a 5 = (u : Int) := ⟨(pickK a 5).toNat, by have := pickK_bd a (m := 5) (by decide); omega⟩
  have hu5 : u < 5 := by have := pickK_bd a (m := 5) (by decide); omega
  have HT : Hid (u ≤ 4 ∧ t ≤ 4) := ⟨by omega, by have := h.inv.ok.nt; omega⟩
  have HU : Hid (pickK a 5 = (u : Int)) := hu
  have HB6 : Hid (bt (u : Int) = true) := bt_iff.2 (by omega)
  have hk : kindV K.apart (pickK a 5).toNat = kindV K.apart t := hk
  have HE : Hid (reqS (reqQ (K.gl t) K.shares K.grants K.apart t ⟨6, tenant, which, a, b, c, s⟩) = bodyS 6 (namedV (K.gl t) which) 0 0 0 (u : Int) ⟨#[]⟩) := by
    show reqS (if _ then _ else _) = _
    rw [hsh, hgr, hu] at *
    show reqS (if true = true ∧ _ then _ else _) = _
    rw [if_pos ⟨rfl, by simpa using hk⟩]
    rfl
  have hkb : (kindV K.apart u == kindV K.apart t) = true := by rw [hu] at hk; simp at hk ⊢; exact hk
  clear hk hu
  clear h hg o2 o3 o4 o5 o6
  unfold KOp.cells
  have hst : Keeps w (w.alloc (.cells #[.int .i64 6, .int .i64 tenant, .int .i64 which, .int .i64 a, .int .i64 b, .int .i64 c, .string s] 119)) w.heap.size #[.int .i64 6, .int .i64 tenant, .int .i64 which, .int .i64 a, .int .i64 b, .int .i64 c, .string s] 119 := ⟨newRowAt _ _, by simp, (Below.refl _ _).alloc (Nat.le_refl _) _⟩
  go_enter Try.func72, Try.ntmps72
  go_wp2_with fail
  refine (knamed_any t which (HH.out.1.below ((Below.refl _ _).alloc (Nat.le_refl _) _)) HH.out.2 ht HO.out.1).mono ?_
  rintro e w1 ⟨rfl, rfl⟩
  go_wp2_with fail
  refine (kpick_any a 5 _ HO.out.2.1 (by decide) (by decide)).mono ?_
  rintro e w1 ⟨rfl, rfl⟩
  rw [HU.out]
  go_wp2_with fail
  refine (kkind_any u (HH.out.1.below ((Below.refl _ _).alloc (Nat.le_refl _) _)) HA.out HT.out.1).mono ?_
  rintro e w1 ⟨rfl, rfl⟩
  go_wp2_with fail
  refine (kkind_any t (HH.out.1.below ((Below.refl _ _).alloc (Nat.le_refl _) _)) HA.out HT.out.2).mono ?_
  rintro e w1 ⟨rfl, rfl⟩
  go_wp2_with (first | (go_at_call 89; refine (kgrant_k w w.heap.size #[.int .i64 6, .int .i64 tenant, .int .i64 which, .int .i64 a, .int .i64 b, .int .i64 c, .string s] 119 _ _ (by first | exact HN.out | exact HP.out.1 _ | exact HP.out.2.1 _ | decide) HB6.out hst).mono ?_; rintro e w2 ⟨rfl, hst⟩))
  go_ret
  exact ⟨by rw [HE.out]; rfl, hst.b⟩

set_option maxHeartbeats 1600000 in
theorem krequest_6k {B0 : Nat} {w : World} {rb : Nat} {K : KRun} (t : Nat) (o : KOp) (ho : o.Ok) (h : KAt B0 w rb K) (hg : KGood K.M K.gl) (ht : t < K.M.nt) (hop : o.op = 6) (hsh : K.shares = true) (hgr : K.grants = true) (ha : 0 ≤ K.apart ∧ K.apart ≤ 15) (hk : ¬ kindV K.apart (pickK o.a 5).toNat = kindV K.apart t) :
    Calls Try.prog 72 #[.pointer (some ⟨rb, 0, none⟩), .int .i64 (t : Int), .agg o.cells] w fun e w' => e = .returned (.string (reqS (reqQ (K.gl t) K.shares K.grants K.apart t o))) ∧ Below w.heap.size w w' := by
  obtain ⟨op, tenant, which, a, b, c, s⟩ := o
  obtain ⟨o2, o3, o4, o5, o6, o7⟩ := ho
  simp only at hop o2 o3 o4 o5 o6 o7
  subst hop
  have HO : Hid (inR which ∧ inR a ∧ inR b ∧ inR c) := ⟨o3, o4, o5, o6⟩
  have HH : Hid (KAt B0 w rb K ∧ KGood K.M K.gl) := ⟨h, hg⟩
  have HN : Hid (wd (namedV (K.gl t) which) = true) := namedV_wd (hg.num t) which
  have HP : Hid ((∀ c, wd (pickK c 260) = true) ∧ (∀ c, wd (pickK c 70) = true) ∧ (∀ c, bt (pickK c 9) = true) ∧ (∀ c, bt (pickK c 5) = true)) := picks_bd
  have cs6 : (w.alloc (.cells #[.int .i64 6, .int .i64 tenant, .int .i64 which, .int .i64 a, .int .i64 b, .int .i64 c, .string s] 119)).cell? ⟨rb, 6, none⟩ = some (.bool true) := by rw [← hsh]; exact rowCell (h.below ((Below.refl _ _).alloc (Nat.le_refl _) _)).row 6
  have cs7 : (w.alloc (.cells #[.int .i64 6, .int .i64 tenant, .int .i64 which, .int .i64 a, .int .i64 b, .int .i64 c, .string s] 119)).cell? ⟨rb, 7, none⟩ = some (.bool true) := by rw [← hgr]; exact rowCell (h.below ((Below.refl _ _).alloc (Nat.le_refl _) _)).row 7
  have HA : Hid (0 ≤ K.apart ∧ K.apart ≤ 15) := ha
  obtain ⟨u, hu⟩ : ∃ u : Nat, pickK a 5 = (u : Int) := ⟨(pickK a 5).toNat, by have := pickK_bd a (m := 5) (by decide); omega⟩
  have hu5 : u < 5 := by have := pickK_bd a (m := 5) (by decide); omega
  have HT : Hid (u ≤ 4 ∧ t ≤ 4) := ⟨by omega, by have := h.inv.ok.nt; omega⟩
  have HU : Hid (pickK a 5 = (u : Int)) := hu
  have HB6 : Hid (bt (u : Int) = true) := bt_iff.2 (by omega)
  have hk : ¬ kindV K.apart (pickK a 5).toNat = kindV K.apart t := hk
  have HE : Hid (reqQ (K.gl t) K.shares K.grants K.apart t ⟨6, tenant, which, a, b, c, s⟩ = none) := by
    show _ = _
    unfold reqQ
    rw [if_neg (by simp), if_neg (by simp), if_neg (by simp), if_neg (by simp), if_neg (by simp), if_neg (by rw [hsh]; simp), if_neg (by simp), if_neg (by simp), if_neg (by simp), if_pos rfl, if_neg (fun h => hk h.2)]
  have hkb : (kindV K.apart u == kindV K.apart t) = false := by rw [hu] at hk; simp at hk ⊢; exact hk
  clear hk hu
  clear h hg o2 o3 o4 o5 o6
  unfold KOp.cells
  have hst : Keeps w (w.alloc (.cells #[.int .i64 6, .int .i64 tenant, .int .i64 which, .int .i64 a, .int .i64 b, .int .i64 c, .string s] 119)) w.heap.size #[.int .i64 6, .int .i64 tenant, .int .i64 which, .int .i64 a, .int .i64 b, .int .i64 c, .string s] 119 := ⟨newRowAt _ _, by simp, (Below.refl _ _).alloc (Nat.le_refl _) _⟩
  go_enter Try.func72, Try.ntmps72
  go_wp2_with fail
  refine (knamed_any t which (HH.out.1.below ((Below.refl _ _).alloc (Nat.le_refl _) _)) HH.out.2 ht HO.out.1).mono ?_
  rintro e w1 ⟨rfl, rfl⟩
  go_wp2_with fail
  refine (kpick_any a 5 _ HO.out.2.1 (by decide) (by decide)).mono ?_
  rintro e w1 ⟨rfl, rfl⟩
  rw [HU.out]
  go_wp2_with fail
  refine (kkind_any u (HH.out.1.below ((Below.refl _ _).alloc (Nat.le_refl _) _)) HA.out HT.out.1).mono ?_
  rintro e w1 ⟨rfl, rfl⟩
  go_wp2_with fail
  refine (kkind_any t (HH.out.1.below ((Below.refl _ _).alloc (Nat.le_refl _) _)) HA.out HT.out.2).mono ?_
  rintro e w1 ⟨rfl, rfl⟩
  go_wp2_with fail
  go_ret
  exact ⟨by rw [HE.out]; rfl, hst.b⟩

set_option maxHeartbeats 1600000 in
theorem krequest_o {B0 : Nat} {w : World} {rb : Nat} {K : KRun} (t : Nat) (o : KOp) (ho : o.Ok) (h : KAt B0 w rb K) (hg : KGood K.M K.gl) (ht : t < K.M.nt) (hop : knw o.op = false) (hsh : K.shares = true) :
    Calls Try.prog 72 #[.pointer (some ⟨rb, 0, none⟩), .int .i64 (t : Int), .agg o.cells] w fun e w' => e = .returned (.string (reqS (reqQ (K.gl t) K.shares K.grants K.apart t o))) ∧ Below w.heap.size w w' := by
  obtain ⟨op, tenant, which, a, b, c, s⟩ := o
  obtain ⟨o2, o3, o4, o5, o6, o7⟩ := ho
  simp only at hop o2 o3 o4 o5 o6 o7
  have HO : Hid (inR which ∧ inR a ∧ inR b ∧ inR c) := ⟨o3, o4, o5, o6⟩
  have HH : Hid (KAt B0 w rb K ∧ KGood K.M K.gl) := ⟨h, hg⟩
  have HN : Hid (wd (namedV (K.gl t) which) = true) := namedV_wd (hg.num t) which
  have HP : Hid ((∀ c, wd (pickK c 260) = true) ∧ (∀ c, wd (pickK c 70) = true) ∧ (∀ c, bt (pickK c 9) = true) ∧ (∀ c, bt (pickK c 5) = true)) := picks_bd
  have cs6 : (w.alloc (.cells #[.int .i64 op, .int .i64 tenant, .int .i64 which, .int .i64 a, .int .i64 b, .int .i64 c, .string s] 119)).cell? ⟨rb, 6, none⟩ = some (.bool true) := by rw [← hsh]; exact rowCell (h.below ((Below.refl _ _).alloc (Nat.le_refl _) _)).row 6
  have hop : ¬ (1 ≤ op ∧ op ≤ 9) := by simp [knw] at hop; omega
  have b1 : (op == 1) = false := by simp; omega
  have b2 : (op == 2) = false := by simp; omega
  have b3 : (op == 3) = false := by simp; omega
  have b4 : (op == 4) = false := by simp; omega
  have b5 : (op == 5) = false := by simp; omega
  have b6 : (op == 6) = false := by simp; omega
  have b7 : (op == 7) = false := by simp; omega
  have b8 : (op == 8) = false := by simp; omega
  have b9 : (op == 9) = false := by simp; omega
  have HE : Hid (reqQ (K.gl t) K.shares K.grants K.apart t ⟨op, tenant, which, a, b, c, s⟩ = none) := by
    show _ = _
    unfold reqQ
    rw [if_neg (by simp; omega), if_neg (by simp; omega), if_neg (by simp; omega), if_neg (by simp; omega), if_neg (by simp; omega), if_neg (by rw [hsh]; simp), if_neg (by simp; omega), if_neg (by simp; omega), if_neg (by simp; omega), if_neg (by simp; omega)]
  clear h hg o2 o3 o4 o5 o6
  unfold KOp.cells
  have hst : Keeps w (w.alloc (.cells #[.int .i64 op, .int .i64 tenant, .int .i64 which, .int .i64 a, .int .i64 b, .int .i64 c, .string s] 119)) w.heap.size #[.int .i64 op, .int .i64 tenant, .int .i64 which, .int .i64 a, .int .i64 b, .int .i64 c, .string s] 119 := ⟨newRowAt _ _, by simp, (Below.refl _ _).alloc (Nat.le_refl _) _⟩
  go_enter Try.func72, Try.ntmps72
  go_wp2_with fail
  refine (knamed_any t which (HH.out.1.below ((Below.refl _ _).alloc (Nat.le_refl _) _)) HH.out.2 ht HO.out.1).mono ?_
  rintro e w1 ⟨rfl, rfl⟩
  go_wp2_with fail
  go_ret
  exact ⟨by rw [HE.out]; rfl, hst.b⟩

/-- the bytes that a step speaks of -/
theorem krequest_any {B0 : Nat} {w : World} {rb : Nat} {K : KRun} (t : Nat) (o : KOp) (ho : o.Ok) (h : KAt B0 w rb K) (hg : KGood K.M K.gl) (ht : t < K.M.nt) (ha : 0 ≤ K.apart ∧ K.apart ≤ 15) :
    Calls Try.prog 72 #[.pointer (some ⟨rb, 0, none⟩), .int .i64 (t : Int), .agg o.cells] w fun e w' => e = .returned (.string (reqS (reqQ (K.gl t) K.shares K.grants K.apart t o))) ∧ Below w.heap.size w w' := by
  by_cases e1 : o.op = 1
  · exact krequest_1 t o ho h hg ht e1
  by_cases e2 : o.op = 2
  · exact krequest_2 t o ho h hg ht e2
  by_cases e3 : o.op = 3
  · exact krequest_3 t o ho h hg ht e3
  by_cases e4 : o.op = 4
  · by_cases hz : o.s.size ≤ 64
    · exact krequest_4a t o ho h hg ht e4 hz
    · exact krequest_4b t o ho h hg ht e4 (by omega)
  by_cases e9 : o.op = 9
  · exact krequest_9 t o ho h hg ht e9
  cases hsh : K.shares with
  | false => rw [← hsh]; exact krequest_n t o ho h hg ht ⟨e1, e2, e3, e4, e9⟩ hsh
  | true =>
    rw [← hsh]
    by_cases e5 : o.op = 5
    · exact krequest_5 t o ho h hg ht e5 hsh
    by_cases e7 : o.op = 7
    · exact krequest_7 t o ho h hg ht e7 hsh
    by_cases e8 : o.op = 8
    · exact krequest_8 t o ho h hg ht e8 hsh
    by_cases e6 : o.op = 6
    · cases hgr : K.grants with
      | false => rw [← hgr]; exact krequest_6n t o ho h hg ht e6 hsh hgr
      | true =>
        rw [← hgr]
        by_cases hk : kindV K.apart (pickK o.a 5).toNat = kindV K.apart t
        · exact krequest_6y t o ho h hg ht e6 hsh hgr ha hk
        · exact krequest_6k t o ho h hg ht e6 hsh hgr ha hk
    exact krequest_o t o ho h hg ht (by simp [knw]; omega) hsh

end Go.Proofs.Ytkjjamigaamllaa
