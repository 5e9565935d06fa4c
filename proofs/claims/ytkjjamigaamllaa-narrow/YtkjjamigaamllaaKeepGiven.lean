/-
  A request that gives a handle, as the laws without the document's answer ask it.
-/
import Derived.Test.YtkjjamigaamllaaKeepAsk
import Derived.Test.YtkjjamigaamllaaKeepPush
import Derived.Test.YtkjjamigaamllaaKeepGood
import Derived.Test.YtkjjamigaamllaaRefEncHead
import Derived.Deep.RegionHeld3
import Derived.Deep.DrawnRows
namespace Go.Proofs.Ytkjjamigaamllaa
open Go.RowKit
set_option linter.unusedSimpArgs false

theorem newCell1 (w : World) (v : Value) (ty : TypeId) : (w.alloc (.cells #[v] ty)).drew.cell? ⟨w.heap.size, 0, none⟩ = some v := rowCell (newRowAt w (.cells #[v] ty)) 0

theorem wrap_h {x y : Nat} (hx : (x : Int) ≤ 255) (hy : (y : Int) ≤ 255) : IntKind.i64.wrap (IntKind.i64.wrap ((256 : Int) * (x : Int)) + (y : Int)) = (256 : Int) * (x : Int) + (y : Int) := by
  rw [Go.IntWalk.i64_in ((256 : Int) * (x : Int)) (by omega), Go.IntWalk.i64_in ((256 : Int) * (x : Int) + (y : Int)) (by omega)]

/-- an int more, as one step of a region that draws its order -/
theorem step_append_int {ops : Array Oper} {o : Oper} {A : Act} {w : World} {K : Act → World → Prop} {Q : Exit → Act → World → Prop} {E : Prop}
    (hgd : o.guard = none) (s x : Operand) (ho : o.op = .call { callee := .builtin .append, args := #[s, x], argTypes := #[44, 44] })
    (v : Value) (n : Nat) (xs : List Value) (hs : A.eval s = v) (hown : w.ownsRow 0 3 1 v n xs) (hn : n ≤ 65536)
    (a : Addr) (y : Int) (hx : A.eval x = .slice (some a) 1 1) (hnews : w.cell? a = some (.int .i64 y))
    (h : ∀ k cap w', w'.ownsRow 0 3 1 (.slice (some ⟨k, 0, none⟩) (n + 1) cap) (n + 1) (xs ++ [.int .i64 y]) → w.grownBy w' v.ownBlock → (some k = v.ownBlock ∨ w.heap.size ≤ k) → K (A.put o.dst (.slice (some ⟨k, 0, none⟩) (n + 1) cap)) w') :
    if Region.wanted o (yielded ops A.tmps) = true then Oper.wp Try.prog o A w K Q else E :=
  step_append_mine hgd s x 44 ho 3 Try.t3 (.int .i64 0) 8 Try.underlying44 (by kernel_rfl) (by kernel_rfl) (by kernel_rfl) (by kernel_rfl) rfl v n xs hs hown a _ hx hnews rfl (by unfold maxLen; omega) (by omega) h

/-- the run's cells while a handle is noted -/
theorem KAt.pushingG {B0 : Nat} {w V w3 : World} {rb : Nat} {K : KRun} (h : KAt B0 w rb K) (hV : Below w.heap.size w V) {to : Nat} (hto : to < K.M.nt) (hgr : V.grownBy w3 (K.gv to).ownBlock) :
    w3.heap[rb]? = some (.cells K.cells 56 (0, 0)) ∧ w3.heap[K.gb]? = some (.cells K.gcells 44 (0, 0)) := by
  have h2 := h.below hV
  have ownT : ∀ {j : Nat}, some j = (K.gv to).ownBlock → j < V.heap.size ∧ ∃ cur, V.heap[j]? = some (.cells cur 3 (0, 0)) := fun hj => owns_lt (h2.gown to hto) hj
  refine ⟨(hgr.block rb (lt_of_row h2.row) (fun e => ?_)).trans h2.row, (hgr.block K.gb (lt_of_row h2.garr) (fun e => ?_)).trans h2.garr⟩
  · obtain ⟨_, cur, hc⟩ := ownT e
    exact ne_of_type h2.row hc (by decide) rfl
  · obtain ⟨_, cur, hc⟩ := ownT e
    exact ne_of_type h2.garr hc (by decide) rfl

set_option maxHeartbeats 3200000 in
set_option maxRecDepth 100000 in
theorem kask_given {B0 : Nat} {w : World} {rb : Nat} {K : KRun} (t u : Nat) (s : ByteArray) (h : KAt B0 w rb K) (ht : t < K.M.nt) (m a : ByteArray) (op : Int)
    (hask : Calls Try.prog 44 #[.pointer (some ⟨K.gx, 0, none⟩), .int .i64 t, .string s] w fun e w' => e = .returned (.tuple #[.string a, .int .i64 0]) ∧ HPost K.M K.bl K.gx t w s w' 0 m)
    (hsz : a.size = 3) (hb0 : byt a 0 = 0) (hs : 0 < s.size) (hs0 : byt s 0 = op) (hop : (op = 1 ∧ u = t) ∨ (op = 5 ∧ u = t) ∨ (op = 6 ∧ 3 < s.size ∧ byt s 3 = (u : Int))) (hu : u < K.M.nt) (hlen : (K.gl u).length ≤ 65536) :
    Calls Try.prog 29 #[.pointer (some ⟨rb, 0, none⟩), .int .i64 t, .string s] w fun e w' => e = .returned (.string a) ∧ ∃ M' bl' v, StepS K.M t s 0 m M' ∧ KAt B0 w' rb (KRun.pushG { K with M := M', bl := bl' } u (256 * byt a 1 + byt a 2) v) ∧ KTo rb K (KRun.pushG { K with M := M', bl := bl' } u (256 * byt a 1 + byt a 2) v) w w' := by
  have c0 : w.cell? ⟨rb, 0, none⟩ = some (.pointer (some ⟨K.gx, 0, none⟩)) := rowCell h.row 0
  have HA : Hid (Calls Try.prog 44 #[.pointer (some ⟨K.gx, 0, none⟩), .int .i64 t, .string s] w fun e w' => e = .returned (.tuple #[.string a, .int .i64 0]) ∧ HPost K.M K.bl K.gx t w s w' 0 m) := hask
  have HH : Hid (KAt B0 w rb K) := h
  have h0z : 0 < a.size := by omega
  have h1z : 1 < a.size := by omega
  have h2z : 2 < a.size := by omega
  have h0 : ((a[0].toNat : Int) == 0) = true := by rw [byte_of h0z hb0]; rfl
  have z0 := ne_empty h0z
  have z3 : ((a.size : Int) == 3) = true := by simp; omega
  have b1 := i64_byte
  have g1 : (a[1].toNat : Int) ≤ 255 := by have := a[1].toNat_lt; omega
  have g2 : (a[2].toNat : Int) ≤ 255 := by have := a[2].toNat_lt; omega
  have E : Hid (IntKind.i64.wrap (IntKind.i64.wrap ((256 : Int) * (a[1].toNat : Int)) + (a[2].toNat : Int)) = (256 : Int) * byt a 1 + byt a 2) := by
    show _ = _
    rw [wrap_h g1 g2, byt_in h1z, byt_in h2z]
  have hu2 : (u : Int) < (K.M.nt : Int) := by omega
  have hopv : (((s[0].toNat : Int) == 1) = true ∧ ((s[0].toNat : Int) == 6) = false ∧ u = t) ∨ (((s[0].toNat : Int) == 1) = false ∧ ((s[0].toNat : Int) == 5) = true ∧ ((s[0].toNat : Int) == 6) = false ∧ u = t) ∨
      (((s[0].toNat : Int) == 1) = false ∧ ((s[0].toNat : Int) == 5) = false ∧ ((s[0].toNat : Int) == 6) = true ∧ 3 < s.size ∧ byt s 3 = (u : Int)) := by
    rw [byte_of hs hs0]
    rcases hop with ⟨rfl, e⟩ | ⟨rfl, e⟩ | ⟨rfl, e1, e2⟩
    · exact Or.inl ⟨rfl, rfl, e⟩
    · exact Or.inr (Or.inl ⟨rfl, rfl, rfl, e⟩)
    · exact Or.inr (Or.inr ⟨rfl, rfl, rfl, e1, e2⟩)
  clear h hask hb0 hs0 hop
  go_enter Try.func29, Try.ntmps29
  go_wp2_with fail
  refine HA.out.mono ?_
  rintro e w2 ⟨rfl, M', bl', st, hx, fr, ft⟩
  obtain ⟨i1, i2, i3, i4⟩ := st.inv HH.out.inv ht
  obtain ⟨k1, k2⟩ := HH.out.step hx i1 i2 i3 i4 fr ft
  have c1 : w2.cell? ⟨rb, 1, none⟩ = some (.int .i64 (K.M.nt : Int)) := by rw [← i2]; exact rowCell k1.row 1
  have r4 := lt_of_row k1.row
  have rg := lt_of_row k1.garr
  have c4 : ∀ N, (w2.alloc N).cell? ⟨rb, 4, none⟩ = some (.slice (some ⟨K.gb, 0, none⟩) K.M.nt K.M.nt) := fun N => by
    rw [((Below.refl w2.heap.size w2).alloc (Nat.le_refl _) N).cell (p := ⟨rb, 4, none⟩) r4, ← i2]; exact rowCell k1.row 4
  have c4' : w2.cell? ⟨rb, 4, none⟩ = some (.slice (some ⟨K.gb, 0, none⟩) K.M.nt K.M.nt) := by rw [← i2]; exact rowCell k1.row 4
  have cg' : w2.cell? ⟨K.gb, u, none⟩ = some (K.gv u) := by
    have hnt : u < M'.nt := by omega
    rw [rowCell k1.garr, gcells_get, if_pos hnt]
  have cg : ∀ N, (w2.alloc N).cell? ⟨K.gb, u, none⟩ = some (K.gv u) := fun N => by
    rw [((Below.refl w2.heap.size w2).alloc (Nat.le_refl _) N).cell (p := ⟨K.gb, u, none⟩) rg]; exact cg'
  have hrg : (⟨K.gb, u, none⟩ : Addr) ≠ ⟨rb, 4, none⟩ := fun e => ne_of_type k1.row k1.garr (by decide) (by injection e with e1; exact e1.symm)
  have HK : Hid (StepS K.M t s 0 m M' ∧ KAt B0 w2 rb { K with M := M', bl := bl' } ∧ KTo rb K { K with M := M', bl := bl' } w w2 ∧ M'.nt = K.M.nt) := ⟨st, k1, k2, i2⟩
  have HG : Hid (∀ N, (w2.alloc N).drew.ownsRow 0 3 1 (K.gv u) (K.gl u).length ((K.gl u).map (Value.int .i64))) := fun N => (k1.below (((Below.refl w2.heap.size w2).alloc (Nat.le_refl _) N).drew)).gown u (by show u < M'.nt; omega)
  have HP0 : Hid (∀ (N : Obj) (kk cap : Nat) (w3 : World) {x : Int}, w3.ownsRow 0 3 1 (.slice (some ⟨kk, 0, none⟩) ((K.gl u).length + 1) cap) ((K.gl u).length + 1) ((K.gl u).map (Value.int .i64) ++ [.int .i64 x]) → (w2.alloc N).drew.grownBy w3 (K.gv u).ownBlock → (some kk = (K.gv u).ownBlock ∨ (w2.alloc N).drew.heap.size ≤ kk) →
      Hid (KAt B0 (w3.setCell ⟨K.gb, u, none⟩ (.slice (some ⟨kk, 0, none⟩) ((K.gl u).length + 1) cap)) rb (KRun.pushG { K with M := M', bl := bl' } u x (.slice (some ⟨kk, 0, none⟩) ((K.gl u).length + 1) cap)) ∧ KTo rb { K with M := M', bl := bl' } (KRun.pushG { K with M := M', bl := bl' } u x (.slice (some ⟨kk, 0, none⟩) ((K.gl u).length + 1) cap)) w2 (w3.setCell ⟨K.gb, u, none⟩ (.slice (some ⟨kk, 0, none⟩) ((K.gl u).length + 1) cap))) ∧
      w3.cell? ⟨rb, 4, none⟩ = some (.slice (some ⟨K.gb, 0, none⟩) K.M.nt K.M.nt) ∧ w3.cell? ⟨K.gb, u, none⟩ = some (K.gv u) ∧ w3.frozen? ⟨K.gb, u, none⟩ = false) := by
    intro N kk cap w3 x hown hgr hkk
    have hu3 : u < M'.nt := by omega
    obtain ⟨r1, r2⟩ := k1.pushingG (((Below.refl w2.heap.size w2).alloc (Nat.le_refl _) N).drew) hu3 hgr
    exact ⟨k1.pushedG (((Below.refl w2.heap.size w2).alloc (Nat.le_refl _) N).drew) hu3 x hown hgr hkk, by rw [← i2]; exact rowCell r1 4, by rw [rowCell r2, gcells_get, if_pos hu3], rowFree r2 u⟩
  clear st hx fr ft i1 i2 i3 i4 k1 k2 HA
  rcases hopv with ⟨o1, o6, rfl⟩ | ⟨o1, o5, o6, rfl⟩ | ⟨o1, o5, o6, o3, oe⟩
  · go_wp2_with fail
    refine wp_region_held_drew (S := fun W => W.cell? ⟨rb, 4, none⟩ = some (.slice (some ⟨K.gb, 0, none⟩) K.M.nt K.M.nt)) (by kernel_rfl) c4' (fun hHeld => ?_)
    refine takeH (i := 0) (v := ?_) (some 80) rfl rfl (by kernel_rfl) (by kernel_rfl) (by kernel_rfl) (fun _ _ _ h => h) (Or.inl ⟨by rfl, ?_⟩) hHeld ?_
    rotate_left 1
    · intro wx hSw; (try dsimp only at hSw); go_simp; with_reducible rfl
    simp only [Act.put, List.setIfInBounds_toArray, List.set_cons_zero, List.set_cons_succ]
    refine takeH (i := 1) (v := ?_) (some 81) rfl rfl (by kernel_rfl) (by kernel_rfl) (by kernel_rfl) (fun _ _ _ h => h) (Or.inl ⟨by rfl, ?_⟩) hHeld ?_
    rotate_left 1
    · intro wx hSw; (try dsimp only at hSw); go_simp; with_reducible rfl
    simp only [Act.put, List.setIfInBounds_toArray, List.set_cons_zero, List.set_cons_succ]
    refine takeH (i := 2) (v := ?_) (some 82) rfl rfl (by kernel_rfl) (by kernel_rfl) (by kernel_rfl) (fun _ _ _ h => h) (Or.inl ⟨by rfl, ?_⟩) hHeld ?_
    rotate_left 1
    · intro wx hSw; (try dsimp only at hSw); go_simp; with_reducible rfl
    simp only [Act.put, List.setIfInBounds_toArray, List.set_cons_zero, List.set_cons_succ]
    refine takeH (i := 3) (v := ?_) (some 83) rfl rfl (by kernel_rfl) (by kernel_rfl) (by kernel_rfl) (fun _ _ _ h => h) (Or.inl ⟨by rfl, ?_⟩) hHeld ?_
    rotate_left 1
    · intro wx hSw; (try dsimp only at hSw); go_simp; with_reducible rfl
    simp only [Act.put, List.setIfInBounds_toArray, List.set_cons_zero, List.set_cons_succ]
    refine takeH (i := 4) (v := ?_) (some 84) rfl rfl (by kernel_rfl) (by kernel_rfl) (by kernel_rfl) (fun _ _ _ h => h) (Or.inl ⟨by rfl, ?_⟩) hHeld ?_
    rotate_left 1
    · intro wx hSw; (try dsimp only at hSw); go_simp; with_reducible rfl
    simp only [Act.put, List.setIfInBounds_toArray, List.set_cons_zero, List.set_cons_succ]
    refine takeH (i := 5) (v := ?_) (some 85) rfl rfl (by kernel_rfl) (by kernel_rfl) (by kernel_rfl) (fun _ _ _ h => h) (Or.inl ⟨by rfl, ?_⟩) hHeld ?_
    rotate_left 1
    · intro wx hSw; (try dsimp only at hSw); go_simp; with_reducible rfl
    simp only [Act.put, List.setIfInBounds_toArray, List.set_cons_zero, List.set_cons_succ]
    refine takeH (i := 6) (v := ?_) (some 86) rfl rfl (by kernel_rfl) (by kernel_rfl) (by kernel_rfl) (fun _ _ _ h => h) (Or.inl ⟨by rfl, ?_⟩) hHeld ?_
    rotate_left 1
    · intro wx hSw; (try dsimp only at hSw); go_simp; with_reducible rfl
    simp only [Act.put, List.setIfInBounds_toArray, List.set_cons_zero, List.set_cons_succ]
    refine takeH (i := 7) (v := ?_) (some 87) rfl rfl (by kernel_rfl) (by kernel_rfl) (by kernel_rfl) (fun _ _ _ h => h) (Or.inl ⟨by rfl, ?_⟩) hHeld ?_
    rotate_left 1
    · intro wx hSw; (try dsimp only at hSw); go_simp; with_reducible rfl
    simp only [Act.put, List.setIfInBounds_toArray, List.set_cons_zero, List.set_cons_succ]
    refine takeH (i := 8) (v := ?_) (some 88) rfl rfl (by kernel_rfl) (by kernel_rfl) (by kernel_rfl) (fun _ _ _ h => h) (Or.inl ⟨by rfl, ?_⟩) hHeld ?_
    rotate_left 1
    · intro wx hSw; (try dsimp only at hSw); go_simp; with_reducible rfl
    simp only [Act.put, List.setIfInBounds_toArray, List.set_cons_zero, List.set_cons_succ]
    refine takeH (i := 9) (v := ?_) (some 89) rfl rfl (by kernel_rfl) (by kernel_rfl) (by kernel_rfl) (fun _ _ _ h => h) (Or.inl ⟨by rfl, ?_⟩) hHeld ?_
    rotate_left 1
    · intro wx hSw; (try dsimp only at hSw); go_simp; with_reducible rfl
    simp only [Act.put, List.setIfInBounds_toArray, List.set_cons_zero, List.set_cons_succ]
    refine takeH (i := 10) (v := ?_) (some 90) rfl rfl (by kernel_rfl) (by kernel_rfl) (by kernel_rfl) (fun _ _ _ h => h) (Or.inl ⟨by rfl, ?_⟩) hHeld ?_
    rotate_left 1
    · intro wx hSw; (try dsimp only at hSw); go_simp; with_reducible rfl
    simp only [Act.put, List.setIfInBounds_toArray, List.set_cons_zero, List.set_cons_succ]
    refine takeH (i := 12) (v := ?_) (some 92) rfl rfl (by kernel_rfl) (by kernel_rfl) (by kernel_rfl) (fun _ _ _ h => h) (Or.inl ⟨by rfl, ?_⟩) hHeld ?_
    rotate_left 1
    · intro wx hSw; (try dsimp only at hSw); go_simp; with_reducible rfl
    simp only [Act.put, List.setIfInBounds_toArray, List.set_cons_zero, List.set_cons_succ]
    refine takeH (i := 13) (v := ?_) (some 93) rfl rfl (by kernel_rfl) (by kernel_rfl) (by kernel_rfl) (fun _ _ _ h => h) (Or.inl ⟨by rfl, ?_⟩) hHeld ?_
    rotate_left 1
    · intro wx hSw; (try dsimp only at hSw); go_simp; with_reducible rfl
    simp only [Act.put, List.setIfInBounds_toArray, List.set_cons_zero, List.set_cons_succ]
    refine takeH (i := 14) (v := ?_) (some 94) rfl rfl (by kernel_rfl) (by kernel_rfl) (by kernel_rfl) (fun _ _ _ h => h) (Or.inl ⟨by rfl, ?_⟩) hHeld ?_
    rotate_left 1
    · intro wx hSw; (try dsimp only at hSw); go_simp; with_reducible rfl
    simp only [Act.put, List.setIfInBounds_toArray, List.set_cons_zero, List.set_cons_succ]
    refine takeH (i := 15) (v := ?_) (some 95) rfl rfl (by kernel_rfl) (by kernel_rfl) (by kernel_rfl) (fun _ _ _ h => h) (Or.inl ⟨by rfl, ?_⟩) hHeld ?_
    rotate_left 1
    · intro wx hSw; (try dsimp only at hSw); go_simp; with_reducible rfl
    simp only [Act.put, List.setIfInBounds_toArray, List.set_cons_zero, List.set_cons_succ]
    refine takeH (i := 16) (v := ?_) (some 96) rfl rfl (by kernel_rfl) (by kernel_rfl) (by kernel_rfl) (fun _ _ _ h => h) (Or.inl ⟨by rfl, ?_⟩) hHeld ?_
    rotate_left 1
    · intro wx hSw; (try dsimp only at hSw); go_simp; with_reducible rfl
    simp only [Act.put, List.setIfInBounds_toArray, List.set_cons_zero, List.set_cons_succ]
    refine takeH (i := 17) (v := ?_) (some 97) rfl rfl (by kernel_rfl) (by kernel_rfl) (by kernel_rfl) (fun _ _ _ h => h) (Or.inl ⟨by rfl, ?_⟩) hHeld ?_
    rotate_left 1
    · intro wx hSw; (try dsimp only at hSw); go_simp; with_reducible rfl
    simp only [Act.put, List.setIfInBounds_toArray, List.set_cons_zero, List.set_cons_succ]
    refine takeH (i := 18) (v := ?_) (some 98) rfl rfl (by kernel_rfl) (by kernel_rfl) (by kernel_rfl) (fun _ _ _ h => h) (Or.inl ⟨by rfl, ?_⟩) hHeld ?_
    rotate_left 1
    · intro wx hSw; (try dsimp only at hSw); go_simp; with_reducible rfl
    simp only [Act.put, List.setIfInBounds_toArray, List.set_cons_zero, List.set_cons_succ]
    refine takeH (i := 19) (v := ?_) (some 99) rfl rfl (by kernel_rfl) (by kernel_rfl) (by kernel_rfl) (fun _ _ _ h => h) (Or.inl ⟨by rfl, ?_⟩) hHeld ?_
    rotate_left 1
    · intro wx hSw; (try dsimp only at hSw); go_simp; with_reducible rfl
    simp only [Act.put, List.setIfInBounds_toArray, List.set_cons_zero, List.set_cons_succ]
    refine wpAnyH_ready (rs := [11, 20]) (by kernel_rfl) (by simp) (AllReadyH.cons rfl (fun C hC => ?_) (AllReadyH.cons rfl (fun C hC => ?_) AllReadyH.nil))
    · go_simp
      refine hC.out _ _ (by first | exact c4' | exact c4 _) (fun hHeld => ?_)
      clear hC C
      refine wpAnyH_ready (rs := [20]) (by kernel_rfl) (by simp) (AllReadyH.cons rfl (fun C hC => ?_) AllReadyH.nil)
      go_simp
      refine hC.out _ _ (by first | exact c4' | exact c4 _) (fun hHeld => ?_)
      clear hC C
      refine wpAnyH_ready (rs := [21]) (by kernel_rfl) (by simp) (AllReadyH.cons rfl (fun C hC => ?_) AllReadyH.nil)
      refine step_append_int rfl _ _ rfl (K.gv u) (K.gl u).length ((K.gl u).map (Value.int .i64)) rfl (HG.out _) hlen ⟨w2.heap.size, 0, none⟩ _ rfl (newCell1 _ _ _) ?_
      intro kk cap w3 hown hgr hkk
      obtain ⟨HP, d4, dg, eg⟩ := HP0.out _ kk cap w3 hown hgr hkk
      clear hown hgr hkk
      refine hC.out _ _ d4 (fun hHeld => ?_)
      clear hC C
      simp only [Act.put, List.setIfInBounds_toArray, List.set_cons_zero, List.set_cons_succ]
      refine takeH (i := 22) (v := ?_) (some 102) rfl rfl (by kernel_rfl) (by kernel_rfl) (by kernel_rfl) (fun _ _ _ h => h) (Or.inl ⟨by rfl, ?_⟩) hHeld ?_
      rotate_left 1
      · intro wx hSw; (try dsimp only at hSw); go_simp; with_reducible rfl
      simp only [Act.put, List.setIfInBounds_toArray, List.set_cons_zero, List.set_cons_succ]
      refine wpAnyH_ready (rs := [23]) (by kernel_rfl) (by simp) (AllReadyH.cons rfl (fun C hC => ?_) AllReadyH.nil)
      go_simp
      refine hC.out _ _ ((World.cell?_setCell_other _ _ _ _ hrg).trans d4) (fun hHeld => ?_)
      clear hC C
      refine wpAnyH_done (by kernel_rfl) ?_ _
      go_wp2
      go_ret
      obtain ⟨q1, q2⟩ := HP.out
      rw [E.out] at q1 q2
      exact ⟨rfl, M', bl', _, HK.out.1, q1, HK.out.2.2.1.trans q2⟩
    · go_simp
      refine hC.out _ _ (by first | exact c4' | exact c4 _) (fun hHeld => ?_)
      clear hC C
      refine wpAnyH_ready (rs := [11]) (by kernel_rfl) (by simp) (AllReadyH.cons rfl (fun C hC => ?_) AllReadyH.nil)
      go_simp
      refine hC.out _ _ (by first | exact c4' | exact c4 _) (fun hHeld => ?_)
      clear hC C
      refine wpAnyH_ready (rs := [21]) (by kernel_rfl) (by simp) (AllReadyH.cons rfl (fun C hC => ?_) AllReadyH.nil)
      refine step_append_int rfl _ _ rfl (K.gv u) (K.gl u).length ((K.gl u).map (Value.int .i64)) rfl (HG.out _) hlen ⟨w2.heap.size, 0, none⟩ _ rfl (newCell1 _ _ _) ?_
      intro kk cap w3 hown hgr hkk
      obtain ⟨HP, d4, dg, eg⟩ := HP0.out _ kk cap w3 hown hgr hkk
      clear hown hgr hkk
      refine hC.out _ _ d4 (fun hHeld => ?_)
      clear hC C
      simp only [Act.put, List.setIfInBounds_toArray, List.set_cons_zero, List.set_cons_succ]
      refine takeH (i := 22) (v := ?_) (some 102) rfl rfl (by kernel_rfl) (by kernel_rfl) (by kernel_rfl) (fun _ _ _ h => h) (Or.inl ⟨by rfl, ?_⟩) hHeld ?_
      rotate_left 1
      · intro wx hSw; (try dsimp only at hSw); go_simp; with_reducible rfl
      simp only [Act.put, List.setIfInBounds_toArray, List.set_cons_zero, List.set_cons_succ]
      refine wpAnyH_ready (rs := [23]) (by kernel_rfl) (by simp) (AllReadyH.cons rfl (fun C hC => ?_) AllReadyH.nil)
      go_simp
      refine hC.out _ _ ((World.cell?_setCell_other _ _ _ _ hrg).trans d4) (fun hHeld => ?_)
      clear hC C
      refine wpAnyH_done (by kernel_rfl) ?_ _
      go_wp2
      go_ret
      obtain ⟨q1, q2⟩ := HP.out
      rw [E.out] at q1 q2
      exact ⟨rfl, M', bl', _, HK.out.1, q1, HK.out.2.2.1.trans q2⟩
  · go_wp2_with fail
    refine wp_region_held_drew (S := fun W => W.cell? ⟨rb, 4, none⟩ = some (.slice (some ⟨K.gb, 0, none⟩) K.M.nt K.M.nt)) (by kernel_rfl) c4' (fun hHeld => ?_)
    refine takeH (i := 0) (v := ?_) (some 80) rfl rfl (by kernel_rfl) (by kernel_rfl) (by kernel_rfl) (fun _ _ _ h => h) (Or.inl ⟨by rfl, ?_⟩) hHeld ?_
    rotate_left 1
    · intro wx hSw; (try dsimp only at hSw); go_simp; with_reducible rfl
    simp only [Act.put, List.setIfInBounds_toArray, List.set_cons_zero, List.set_cons_succ]
    refine takeH (i := 1) (v := ?_) (some 81) rfl rfl (by kernel_rfl) (by kernel_rfl) (by kernel_rfl) (fun _ _ _ h => h) (Or.inl ⟨by rfl, ?_⟩) hHeld ?_
    rotate_left 1
    · intro wx hSw; (try dsimp only at hSw); go_simp; with_reducible rfl
    simp only [Act.put, List.setIfInBounds_toArray, List.set_cons_zero, List.set_cons_succ]
    refine takeH (i := 2) (v := ?_) (some 82) rfl rfl (by kernel_rfl) (by kernel_rfl) (by kernel_rfl) (fun _ _ _ h => h) (Or.inl ⟨by rfl, ?_⟩) hHeld ?_
    rotate_left 1
    · intro wx hSw; (try dsimp only at hSw); go_simp; with_reducible rfl
    simp only [Act.put, List.setIfInBounds_toArray, List.set_cons_zero, List.set_cons_succ]
    refine takeH (i := 3) (v := ?_) (some 83) rfl rfl (by kernel_rfl) (by kernel_rfl) (by kernel_rfl) (fun _ _ _ h => h) (Or.inl ⟨by rfl, ?_⟩) hHeld ?_
    rotate_left 1
    · intro wx hSw; (try dsimp only at hSw); go_simp; with_reducible rfl
    simp only [Act.put, List.setIfInBounds_toArray, List.set_cons_zero, List.set_cons_succ]
    refine takeH (i := 4) (v := ?_) (some 84) rfl rfl (by kernel_rfl) (by kernel_rfl) (by kernel_rfl) (fun _ _ _ h => h) (Or.inl ⟨by rfl, ?_⟩) hHeld ?_
    rotate_left 1
    · intro wx hSw; (try dsimp only at hSw); go_simp; with_reducible rfl
    simp only [Act.put, List.setIfInBounds_toArray, List.set_cons_zero, List.set_cons_succ]
    refine takeH (i := 5) (v := ?_) (some 85) rfl rfl (by kernel_rfl) (by kernel_rfl) (by kernel_rfl) (fun _ _ _ h => h) (Or.inl ⟨by rfl, ?_⟩) hHeld ?_
    rotate_left 1
    · intro wx hSw; (try dsimp only at hSw); go_simp; with_reducible rfl
    simp only [Act.put, List.setIfInBounds_toArray, List.set_cons_zero, List.set_cons_succ]
    refine takeH (i := 6) (v := ?_) (some 86) rfl rfl (by kernel_rfl) (by kernel_rfl) (by kernel_rfl) (fun _ _ _ h => h) (Or.inl ⟨by rfl, ?_⟩) hHeld ?_
    rotate_left 1
    · intro wx hSw; (try dsimp only at hSw); go_simp; with_reducible rfl
    simp only [Act.put, List.setIfInBounds_toArray, List.set_cons_zero, List.set_cons_succ]
    refine takeH (i := 7) (v := ?_) (some 87) rfl rfl (by kernel_rfl) (by kernel_rfl) (by kernel_rfl) (fun _ _ _ h => h) (Or.inl ⟨by rfl, ?_⟩) hHeld ?_
    rotate_left 1
    · intro wx hSw; (try dsimp only at hSw); go_simp; with_reducible rfl
    simp only [Act.put, List.setIfInBounds_toArray, List.set_cons_zero, List.set_cons_succ]
    refine takeH (i := 8) (v := ?_) (some 88) rfl rfl (by kernel_rfl) (by kernel_rfl) (by kernel_rfl) (fun _ _ _ h => h) (Or.inl ⟨by rfl, ?_⟩) hHeld ?_
    rotate_left 1
    · intro wx hSw; (try dsimp only at hSw); go_simp; with_reducible rfl
    simp only [Act.put, List.setIfInBounds_toArray, List.set_cons_zero, List.set_cons_succ]
    refine takeH (i := 9) (v := ?_) (some 89) rfl rfl (by kernel_rfl) (by kernel_rfl) (by kernel_rfl) (fun _ _ _ h => h) (Or.inl ⟨by rfl, ?_⟩) hHeld ?_
    rotate_left 1
    · intro wx hSw; (try dsimp only at hSw); go_simp; with_reducible rfl
    simp only [Act.put, List.setIfInBounds_toArray, List.set_cons_zero, List.set_cons_succ]
    refine takeH (i := 10) (v := ?_) (some 90) rfl rfl (by kernel_rfl) (by kernel_rfl) (by kernel_rfl) (fun _ _ _ h => h) (Or.inl ⟨by rfl, ?_⟩) hHeld ?_
    rotate_left 1
    · intro wx hSw; (try dsimp only at hSw); go_simp; with_reducible rfl
    simp only [Act.put, List.setIfInBounds_toArray, List.set_cons_zero, List.set_cons_succ]
    refine takeH (i := 12) (v := ?_) (some 92) rfl rfl (by kernel_rfl) (by kernel_rfl) (by kernel_rfl) (fun _ _ _ h => h) (Or.inl ⟨by rfl, ?_⟩) hHeld ?_
    rotate_left 1
    · intro wx hSw; (try dsimp only at hSw); go_simp; with_reducible rfl
    simp only [Act.put, List.setIfInBounds_toArray, List.set_cons_zero, List.set_cons_succ]
    refine takeH (i := 13) (v := ?_) (some 93) rfl rfl (by kernel_rfl) (by kernel_rfl) (by kernel_rfl) (fun _ _ _ h => h) (Or.inl ⟨by rfl, ?_⟩) hHeld ?_
    rotate_left 1
    · intro wx hSw; (try dsimp only at hSw); go_simp; with_reducible rfl
    simp only [Act.put, List.setIfInBounds_toArray, List.set_cons_zero, List.set_cons_succ]
    refine takeH (i := 14) (v := ?_) (some 94) rfl rfl (by kernel_rfl) (by kernel_rfl) (by kernel_rfl) (fun _ _ _ h => h) (Or.inl ⟨by rfl, ?_⟩) hHeld ?_
    rotate_left 1
    · intro wx hSw; (try dsimp only at hSw); go_simp; with_reducible rfl
    simp only [Act.put, List.setIfInBounds_toArray, List.set_cons_zero, List.set_cons_succ]
    refine takeH (i := 15) (v := ?_) (some 95) rfl rfl (by kernel_rfl) (by kernel_rfl) (by kernel_rfl) (fun _ _ _ h => h) (Or.inl ⟨by rfl, ?_⟩) hHeld ?_
    rotate_left 1
    · intro wx hSw; (try dsimp only at hSw); go_simp; with_reducible rfl
    simp only [Act.put, List.setIfInBounds_toArray, List.set_cons_zero, List.set_cons_succ]
    refine takeH (i := 16) (v := ?_) (some 96) rfl rfl (by kernel_rfl) (by kernel_rfl) (by kernel_rfl) (fun _ _ _ h => h) (Or.inl ⟨by rfl, ?_⟩) hHeld ?_
    rotate_left 1
    · intro wx hSw; (try dsimp only at hSw); go_simp; with_reducible rfl
    simp only [Act.put, List.setIfInBounds_toArray, List.set_cons_zero, List.set_cons_succ]
    refine takeH (i := 17) (v := ?_) (some 97) rfl rfl (by kernel_rfl) (by kernel_rfl) (by kernel_rfl) (fun _ _ _ h => h) (Or.inl ⟨by rfl, ?_⟩) hHeld ?_
    rotate_left 1
    · intro wx hSw; (try dsimp only at hSw); go_simp; with_reducible rfl
    simp only [Act.put, List.setIfInBounds_toArray, List.set_cons_zero, List.set_cons_succ]
    refine takeH (i := 18) (v := ?_) (some 98) rfl rfl (by kernel_rfl) (by kernel_rfl) (by kernel_rfl) (fun _ _ _ h => h) (Or.inl ⟨by rfl, ?_⟩) hHeld ?_
    rotate_left 1
    · intro wx hSw; (try dsimp only at hSw); go_simp; with_reducible rfl
    simp only [Act.put, List.setIfInBounds_toArray, List.set_cons_zero, List.set_cons_succ]
    refine takeH (i := 19) (v := ?_) (some 99) rfl rfl (by kernel_rfl) (by kernel_rfl) (by kernel_rfl) (fun _ _ _ h => h) (Or.inl ⟨by rfl, ?_⟩) hHeld ?_
    rotate_left 1
    · intro wx hSw; (try dsimp only at hSw); go_simp; with_reducible rfl
    simp only [Act.put, List.setIfInBounds_toArray, List.set_cons_zero, List.set_cons_succ]
    refine wpAnyH_ready (rs := [11, 20]) (by kernel_rfl) (by simp) (AllReadyH.cons rfl (fun C hC => ?_) (AllReadyH.cons rfl (fun C hC => ?_) AllReadyH.nil))
    · go_simp
      refine hC.out _ _ (by first | exact c4' | exact c4 _) (fun hHeld => ?_)
      clear hC C
      refine wpAnyH_ready (rs := [20]) (by kernel_rfl) (by simp) (AllReadyH.cons rfl (fun C hC => ?_) AllReadyH.nil)
      go_simp
      refine hC.out _ _ (by first | exact c4' | exact c4 _) (fun hHeld => ?_)
      clear hC C
      refine wpAnyH_ready (rs := [21]) (by kernel_rfl) (by simp) (AllReadyH.cons rfl (fun C hC => ?_) AllReadyH.nil)
      refine step_append_int rfl _ _ rfl (K.gv u) (K.gl u).length ((K.gl u).map (Value.int .i64)) rfl (HG.out _) hlen ⟨w2.heap.size, 0, none⟩ _ rfl (newCell1 _ _ _) ?_
      intro kk cap w3 hown hgr hkk
      obtain ⟨HP, d4, dg, eg⟩ := HP0.out _ kk cap w3 hown hgr hkk
      clear hown hgr hkk
      refine hC.out _ _ d4 (fun hHeld => ?_)
      clear hC C
      simp only [Act.put, List.setIfInBounds_toArray, List.set_cons_zero, List.set_cons_succ]
      refine takeH (i := 22) (v := ?_) (some 102) rfl rfl (by kernel_rfl) (by kernel_rfl) (by kernel_rfl) (fun _ _ _ h => h) (Or.inl ⟨by rfl, ?_⟩) hHeld ?_
      rotate_left 1
      · intro wx hSw; (try dsimp only at hSw); go_simp; with_reducible rfl
      simp only [Act.put, List.setIfInBounds_toArray, List.set_cons_zero, List.set_cons_succ]
      refine wpAnyH_ready (rs := [23]) (by kernel_rfl) (by simp) (AllReadyH.cons rfl (fun C hC => ?_) AllReadyH.nil)
      go_simp
      refine hC.out _ _ ((World.cell?_setCell_other _ _ _ _ hrg).trans d4) (fun hHeld => ?_)
      clear hC C
      refine wpAnyH_done (by kernel_rfl) ?_ _
      go_wp2
      go_ret
      obtain ⟨q1, q2⟩ := HP.out
      rw [E.out] at q1 q2
      exact ⟨rfl, M', bl', _, HK.out.1, q1, HK.out.2.2.1.trans q2⟩
    · go_simp
      refine hC.out _ _ (by first | exact c4' | exact c4 _) (fun hHeld => ?_)
      clear hC C
      refine wpAnyH_ready (rs := [11]) (by kernel_rfl) (by simp) (AllReadyH.cons rfl (fun C hC => ?_) AllReadyH.nil)
      go_simp
      refine hC.out _ _ (by first | exact c4' | exact c4 _) (fun hHeld => ?_)
      clear hC C
      refine wpAnyH_ready (rs := [21]) (by kernel_rfl) (by simp) (AllReadyH.cons rfl (fun C hC => ?_) AllReadyH.nil)
      refine step_append_int rfl _ _ rfl (K.gv u) (K.gl u).length ((K.gl u).map (Value.int .i64)) rfl (HG.out _) hlen ⟨w2.heap.size, 0, none⟩ _ rfl (newCell1 _ _ _) ?_
      intro kk cap w3 hown hgr hkk
      obtain ⟨HP, d4, dg, eg⟩ := HP0.out _ kk cap w3 hown hgr hkk
      clear hown hgr hkk
      refine hC.out _ _ d4 (fun hHeld => ?_)
      clear hC C
      simp only [Act.put, List.setIfInBounds_toArray, List.set_cons_zero, List.set_cons_succ]
      refine takeH (i := 22) (v := ?_) (some 102) rfl rfl (by kernel_rfl) (by kernel_rfl) (by kernel_rfl) (fun _ _ _ h => h) (Or.inl ⟨by rfl, ?_⟩) hHeld ?_
      rotate_left 1
      · intro wx hSw; (try dsimp only at hSw); go_simp; with_reducible rfl
      simp only [Act.put, List.setIfInBounds_toArray, List.set_cons_zero, List.set_cons_succ]
      refine wpAnyH_ready (rs := [23]) (by kernel_rfl) (by simp) (AllReadyH.cons rfl (fun C hC => ?_) AllReadyH.nil)
      go_simp
      refine hC.out _ _ ((World.cell?_setCell_other _ _ _ _ hrg).trans d4) (fun hHeld => ?_)
      clear hC C
      refine wpAnyH_done (by kernel_rfl) ?_ _
      go_wp2
      go_ret
      obtain ⟨q1, q2⟩ := HP.out
      rw [E.out] at q1 q2
      exact ⟨rfl, M', bl', _, HK.out.1, q1, HK.out.2.2.1.trans q2⟩
  · have o3' : (s[3].toNat : Int) = (u : Int) := by rw [byt_in o3]; exact oe
    have hu4 : u < 4 := by have := HH.out.inv.ok.nt; omega
    go_wp2_with fail
    refine wp_region_held_drew (S := fun W => W.cell? ⟨rb, 4, none⟩ = some (.slice (some ⟨K.gb, 0, none⟩) K.M.nt K.M.nt)) (by kernel_rfl) c4' (fun hHeld => ?_)
    refine takeH (i := 0) (v := ?_) (some 80) rfl rfl (by kernel_rfl) (by kernel_rfl) (by kernel_rfl) (fun _ _ _ h => h) (Or.inl ⟨by rfl, ?_⟩) hHeld ?_
    rotate_left 1
    · intro wx hSw; (try dsimp only at hSw); go_simp; with_reducible rfl
    simp only [Act.put, List.setIfInBounds_toArray, List.set_cons_zero, List.set_cons_succ]
    refine takeH (i := 1) (v := ?_) (some 81) rfl rfl (by kernel_rfl) (by kernel_rfl) (by kernel_rfl) (fun _ _ _ h => h) (Or.inl ⟨by rfl, ?_⟩) hHeld ?_
    rotate_left 1
    · intro wx hSw; (try dsimp only at hSw); go_simp; with_reducible rfl
    simp only [Act.put, List.setIfInBounds_toArray, List.set_cons_zero, List.set_cons_succ]
    refine takeH (i := 2) (v := ?_) (some 82) rfl rfl (by kernel_rfl) (by kernel_rfl) (by kernel_rfl) (fun _ _ _ h => h) (Or.inl ⟨by rfl, ?_⟩) hHeld ?_
    rotate_left 1
    · intro wx hSw; (try dsimp only at hSw); go_simp; with_reducible rfl
    simp only [Act.put, List.setIfInBounds_toArray, List.set_cons_zero, List.set_cons_succ]
    refine takeH (i := 3) (v := ?_) (some 83) rfl rfl (by kernel_rfl) (by kernel_rfl) (by kernel_rfl) (fun _ _ _ h => h) (Or.inl ⟨by rfl, ?_⟩) hHeld ?_
    rotate_left 1
    · intro wx hSw; (try dsimp only at hSw); go_simp; with_reducible rfl
    simp only [Act.put, List.setIfInBounds_toArray, List.set_cons_zero, List.set_cons_succ]
    refine takeH (i := 4) (v := ?_) (some 84) rfl rfl (by kernel_rfl) (by kernel_rfl) (by kernel_rfl) (fun _ _ _ h => h) (Or.inl ⟨by rfl, ?_⟩) hHeld ?_
    rotate_left 1
    · intro wx hSw; (try dsimp only at hSw); go_simp; with_reducible rfl
    simp only [Act.put, List.setIfInBounds_toArray, List.set_cons_zero, List.set_cons_succ]
    refine takeH (i := 5) (v := ?_) (some 85) rfl rfl (by kernel_rfl) (by kernel_rfl) (by kernel_rfl) (fun _ _ _ h => h) (Or.inl ⟨by rfl, ?_⟩) hHeld ?_
    rotate_left 1
    · intro wx hSw; (try dsimp only at hSw); go_simp; with_reducible rfl
    simp only [Act.put, List.setIfInBounds_toArray, List.set_cons_zero, List.set_cons_succ]
    refine takeH (i := 6) (v := ?_) (some 86) rfl rfl (by kernel_rfl) (by kernel_rfl) (by kernel_rfl) (fun _ _ _ h => h) (Or.inl ⟨by rfl, ?_⟩) hHeld ?_
    rotate_left 1
    · intro wx hSw; (try dsimp only at hSw); go_simp; with_reducible rfl
    simp only [Act.put, List.setIfInBounds_toArray, List.set_cons_zero, List.set_cons_succ]
    refine takeH (i := 7) (v := ?_) (some 87) rfl rfl (by kernel_rfl) (by kernel_rfl) (by kernel_rfl) (fun _ _ _ h => h) (Or.inl ⟨by rfl, ?_⟩) hHeld ?_
    rotate_left 1
    · intro wx hSw; (try dsimp only at hSw); go_simp; with_reducible rfl
    simp only [Act.put, List.setIfInBounds_toArray, List.set_cons_zero, List.set_cons_succ]
    refine takeH (i := 8) (v := ?_) (some 88) rfl rfl (by kernel_rfl) (by kernel_rfl) (by kernel_rfl) (fun _ _ _ h => h) (Or.inl ⟨by rfl, ?_⟩) hHeld ?_
    rotate_left 1
    · intro wx hSw; (try dsimp only at hSw); go_simp; with_reducible rfl
    simp only [Act.put, List.setIfInBounds_toArray, List.set_cons_zero, List.set_cons_succ]
    refine takeH (i := 9) (v := ?_) (some 89) rfl rfl (by kernel_rfl) (by kernel_rfl) (by kernel_rfl) (fun _ _ _ h => h) (Or.inl ⟨by rfl, ?_⟩) hHeld ?_
    rotate_left 1
    · intro wx hSw; (try dsimp only at hSw); go_simp; with_reducible rfl
    simp only [Act.put, List.setIfInBounds_toArray, List.set_cons_zero, List.set_cons_succ]
    refine takeH (i := 10) (v := ?_) (some 90) rfl rfl (by kernel_rfl) (by kernel_rfl) (by kernel_rfl) (fun _ _ _ h => h) (Or.inl ⟨by rfl, ?_⟩) hHeld ?_
    rotate_left 1
    · intro wx hSw; (try dsimp only at hSw); go_simp; with_reducible rfl
    simp only [Act.put, List.setIfInBounds_toArray, List.set_cons_zero, List.set_cons_succ]
    refine takeH (i := 12) (v := ?_) (some 92) rfl rfl (by kernel_rfl) (by kernel_rfl) (by kernel_rfl) (fun _ _ _ h => h) (Or.inl ⟨by rfl, ?_⟩) hHeld ?_
    rotate_left 1
    · intro wx hSw; (try dsimp only at hSw); go_simp; with_reducible rfl
    simp only [Act.put, List.setIfInBounds_toArray, List.set_cons_zero, List.set_cons_succ]
    refine takeH (i := 13) (v := ?_) (some 93) rfl rfl (by kernel_rfl) (by kernel_rfl) (by kernel_rfl) (fun _ _ _ h => h) (Or.inl ⟨by rfl, ?_⟩) hHeld ?_
    rotate_left 1
    · intro wx hSw; (try dsimp only at hSw); go_simp; with_reducible rfl
    simp only [Act.put, List.setIfInBounds_toArray, List.set_cons_zero, List.set_cons_succ]
    refine takeH (i := 14) (v := ?_) (some 94) rfl rfl (by kernel_rfl) (by kernel_rfl) (by kernel_rfl) (fun _ _ _ h => h) (Or.inl ⟨by rfl, ?_⟩) hHeld ?_
    rotate_left 1
    · intro wx hSw; (try dsimp only at hSw); go_simp; with_reducible rfl
    simp only [Act.put, List.setIfInBounds_toArray, List.set_cons_zero, List.set_cons_succ]
    refine takeH (i := 15) (v := ?_) (some 95) rfl rfl (by kernel_rfl) (by kernel_rfl) (by kernel_rfl) (fun _ _ _ h => h) (Or.inl ⟨by rfl, ?_⟩) hHeld ?_
    rotate_left 1
    · intro wx hSw; (try dsimp only at hSw); go_simp; with_reducible rfl
    simp only [Act.put, List.setIfInBounds_toArray, List.set_cons_zero, List.set_cons_succ]
    refine takeH (i := 16) (v := ?_) (some 96) rfl rfl (by kernel_rfl) (by kernel_rfl) (by kernel_rfl) (fun _ _ _ h => h) (Or.inl ⟨by rfl, ?_⟩) hHeld ?_
    rotate_left 1
    · intro wx hSw; (try dsimp only at hSw); go_simp; with_reducible rfl
    simp only [Act.put, List.setIfInBounds_toArray, List.set_cons_zero, List.set_cons_succ]
    refine takeH (i := 17) (v := ?_) (some 97) rfl rfl (by kernel_rfl) (by kernel_rfl) (by kernel_rfl) (fun _ _ _ h => h) (Or.inl ⟨by rfl, ?_⟩) hHeld ?_
    rotate_left 1
    · intro wx hSw; (try dsimp only at hSw); go_simp; with_reducible rfl
    simp only [Act.put, List.setIfInBounds_toArray, List.set_cons_zero, List.set_cons_succ]
    refine takeH (i := 18) (v := ?_) (some 98) rfl rfl (by kernel_rfl) (by kernel_rfl) (by kernel_rfl) (fun _ _ _ h => h) (Or.inl ⟨by rfl, ?_⟩) hHeld ?_
    rotate_left 1
    · intro wx hSw; (try dsimp only at hSw); go_simp; with_reducible rfl
    simp only [Act.put, List.setIfInBounds_toArray, List.set_cons_zero, List.set_cons_succ]
    refine takeH (i := 19) (v := ?_) (some 99) rfl rfl (by kernel_rfl) (by kernel_rfl) (by kernel_rfl) (fun _ _ _ h => h) (Or.inl ⟨by rfl, ?_⟩) hHeld ?_
    rotate_left 1
    · intro wx hSw; (try dsimp only at hSw); go_simp; with_reducible rfl
    simp only [Act.put, List.setIfInBounds_toArray, List.set_cons_zero, List.set_cons_succ]
    refine wpAnyH_ready (rs := [11, 20]) (by kernel_rfl) (by simp) (AllReadyH.cons rfl (fun C hC => ?_) (AllReadyH.cons rfl (fun C hC => ?_) AllReadyH.nil))
    · go_simp
      refine hC.out _ _ (by first | exact c4' | exact c4 _) (fun hHeld => ?_)
      clear hC C
      refine wpAnyH_ready (rs := [20]) (by kernel_rfl) (by simp) (AllReadyH.cons rfl (fun C hC => ?_) AllReadyH.nil)
      go_simp
      refine hC.out _ _ (by first | exact c4' | exact c4 _) (fun hHeld => ?_)
      clear hC C
      refine wpAnyH_ready (rs := [21]) (by kernel_rfl) (by simp) (AllReadyH.cons rfl (fun C hC => ?_) AllReadyH.nil)
      refine step_append_int rfl _ _ rfl (K.gv u) (K.gl u).length ((K.gl u).map (Value.int .i64)) rfl (HG.out _) hlen ⟨w2.heap.size, 0, none⟩ _ rfl (newCell1 _ _ _) ?_
      intro kk cap w3 hown hgr hkk
      obtain ⟨HP, d4, dg, eg⟩ := HP0.out _ kk cap w3 hown hgr hkk
      clear hown hgr hkk
      refine hC.out _ _ d4 (fun hHeld => ?_)
      clear hC C
      simp only [Act.put, List.setIfInBounds_toArray, List.set_cons_zero, List.set_cons_succ]
      refine takeH (i := 22) (v := ?_) (some 102) rfl rfl (by kernel_rfl) (by kernel_rfl) (by kernel_rfl) (fun _ _ _ h => h) (Or.inl ⟨by rfl, ?_⟩) hHeld ?_
      rotate_left 1
      · intro wx hSw; (try dsimp only at hSw); go_simp; with_reducible rfl
      simp only [Act.put, List.setIfInBounds_toArray, List.set_cons_zero, List.set_cons_succ]
      refine wpAnyH_ready (rs := [23]) (by kernel_rfl) (by simp) (AllReadyH.cons rfl (fun C hC => ?_) AllReadyH.nil)
      go_simp
      refine hC.out _ _ ((World.cell?_setCell_other _ _ _ _ hrg).trans d4) (fun hHeld => ?_)
      clear hC C
      refine wpAnyH_done (by kernel_rfl) ?_ _
      go_wp2
      go_ret
      obtain ⟨q1, q2⟩ := HP.out
      rw [E.out] at q1 q2
      exact ⟨rfl, M', bl', _, HK.out.1, q1, HK.out.2.2.1.trans q2⟩
    · go_simp
      refine hC.out _ _ (by first | exact c4' | exact c4 _) (fun hHeld => ?_)
      clear hC C
      refine wpAnyH_ready (rs := [11]) (by kernel_rfl) (by simp) (AllReadyH.cons rfl (fun C hC => ?_) AllReadyH.nil)
      go_simp
      refine hC.out _ _ (by first | exact c4' | exact c4 _) (fun hHeld => ?_)
      clear hC C
      refine wpAnyH_ready (rs := [21]) (by kernel_rfl) (by simp) (AllReadyH.cons rfl (fun C hC => ?_) AllReadyH.nil)
      refine step_append_int rfl _ _ rfl (K.gv u) (K.gl u).length ((K.gl u).map (Value.int .i64)) rfl (HG.out _) hlen ⟨w2.heap.size, 0, none⟩ _ rfl (newCell1 _ _ _) ?_
      intro kk cap w3 hown hgr hkk
      obtain ⟨HP, d4, dg, eg⟩ := HP0.out _ kk cap w3 hown hgr hkk
      clear hown hgr hkk
      refine hC.out _ _ d4 (fun hHeld => ?_)
      clear hC C
      simp only [Act.put, List.setIfInBounds_toArray, List.set_cons_zero, List.set_cons_succ]
      refine takeH (i := 22) (v := ?_) (some 102) rfl rfl (by kernel_rfl) (by kernel_rfl) (by kernel_rfl) (fun _ _ _ h => h) (Or.inl ⟨by rfl, ?_⟩) hHeld ?_
      rotate_left 1
      · intro wx hSw; (try dsimp only at hSw); go_simp; with_reducible rfl
      simp only [Act.put, List.setIfInBounds_toArray, List.set_cons_zero, List.set_cons_succ]
      refine wpAnyH_ready (rs := [23]) (by kernel_rfl) (by simp) (AllReadyH.cons rfl (fun C hC => ?_) AllReadyH.nil)
      go_simp
      refine hC.out _ _ ((World.cell?_setCell_other _ _ _ _ hrg).trans d4) (fun hHeld => ?_)
      clear hC C
      refine wpAnyH_done (by kernel_rfl) ?_ _
      go_wp2
      go_ret
      obtain ⟨q1, q2⟩ := HP.out
      rw [E.out] at q1 q2
      exact ⟨rfl, M', bl', _, HK.out.1, q1, HK.out.2.2.1.trans q2⟩

end Go.Proofs.Ytkjjamigaamllaa
