/-
  Ask, by the landed house (all requests, and bytes that are no request).
-/
import Derived.Test.YtkjjamigaamllaaHouseShare
namespace Go.Proofs.Ytkjjamigaamllaa
open Go.RowKit
set_option linter.unusedSimpArgs false

/-- the landed house behind a step: what it answers, how it lies, what was turned -/
def HPost (M : Mach) (bl : Nat → Nat) (g t : Nat) (w : World) (s : ByteArray) (w' : World) (e : Int) (m : ByteArray) : Prop :=
  ∃ M' bl', StepS M t s e m M' ∧ HAt w' g M' bl' ∧ Frm (HFoot g M bl) w w' ∧ ∀ k, HFoot g M' bl' k → HFoot g M bl k ∨ w.heap.size ≤ k

theorem ok_bd {op h o l r t : Int} {n : Nat} (hok : okB op h o l r t n = true) : (0 ≤ h ∧ h ≤ 65535) ∧ (0 ≤ o ∧ o ≤ 65535) ∧ (0 ≤ l ∧ l ≤ 65535) ∧ (0 ≤ r ∧ r ≤ 255) ∧ (0 ≤ t ∧ t ≤ 255) ∧ n ≤ 64 := by
  rcases knw_cases (ok_known hok) with rfl | rfl | rfl | rfl | rfl | rfl | rfl | rfl | rfl <;>
  · simp [okB, wd, bt, zr] at hok
    omega

theorem foot_same {g : Nat} {M : Mach} {bl : Nat → Nat} {w : World} : ∀ k, HFoot g M bl k → HFoot g M bl k ∨ w.heap.size ≤ k := fun _ h => Or.inl h
theorem foot_gone {g : Nat} {M M' : Mach} {bl : Nat → Nat} {w : World} {D : Nat → Prop} (G : Gone D M M') : ∀ k, HFoot g M' bl k → HFoot g M bl k ∨ w.heap.size ≤ k := by
  rintro k (h | ⟨p, hp, hb, rfl⟩)
  · exact Or.inl (Or.inl h)
  · refine Or.inl (Or.inr ⟨p, hp, ?_, rfl⟩)
    intro e
    rcases Classical.em (D p) with hd | hd
    · rw [G.out p hd] at hb; exact hb rfl
    · rw [G.same p hd] at hb; exact hb e
theorem foot_write {g : Nat} {M : Mach} {bl : Nat → Nat} {w : World} (inv : M.Inv) {p : Nat} {o : Int} {d : ByteArray} (hf : (M.s p).full = true) : ∀ k, HFoot g (M.write p o d) bl k → HFoot g M bl k ∨ w.heap.size ≤ k := by
  intro k
  unfold Mach.write
  split
  · obtain ⟨r, e1, e2, e3, e4, _⟩ := inv.top p hf
    have er : (M.s p).root.toNat = r := by rw [e1]; rfl
    rw [er]
    rintro (h | ⟨q, hq, hb, rfl⟩)
    · exact Or.inl (Or.inl h)
    · refine Or.inl (Or.inr ⟨q, hq, ?_, rfl⟩)
      by_cases e : q = r
      · rw [e]; exact inv.root_bytes e3 e4
      · rw [Mach.set_other _ _ e] at hb; exact hb
  · exact Or.inl
theorem foot_laid {g : Nat} {M M' : Mach} {bl : Nat → Nat} {w : World} (h : ∀ q, (M'.s q).bytes = (M.s q).bytes) : ∀ k, HFoot g M' bl k → HFoot g M bl k ∨ w.heap.size ≤ k := by
  rintro k (hk | ⟨p, hp, hb, rfl⟩)
  · exact Or.inl (Or.inl hk)
  · exact Or.inl (Or.inr ⟨p, hp, by rw [← h]; exact hb, rfl⟩)
theorem foot_alloc {g : Nat} {M M' : Mach} {bl bl' : Nat → Nat} {w : World} (h : ∀ q, (M'.s q).bytes ≠ [] → ((M.s q).bytes ≠ [] ∧ bl' q = bl q) ∨ w.heap.size ≤ bl' q) : ∀ k, HFoot g M' bl' k → HFoot g M bl k ∨ w.heap.size ≤ k := by
  rintro k (e | ⟨p, hp, hb, rfl⟩)
  · exact Or.inl (Or.inl e)
  · rcases h p hb with ⟨h1, h2⟩ | h1
    · exact Or.inl (Or.inr ⟨p, hp, h1, h2⟩)
    · exact Or.inr h1

theorem find_lt {M : Mach} {t n : Nat} {h : Int} (hf : M.find t h = some n) : n < M.ns ∧ (M.s (16 * t + n)).full = true := by
  rcases firstN_spec (fun n => (M.s (16 * t + n)).full && M.handle (16 * t + n) == h) M.ns with ⟨h1, _⟩ | ⟨k, h1, h2, h3, _⟩
  · rw [show M.find t h = none from h1] at hf; cases hf
  · rw [show M.find t h = some k from h1] at hf
    injection hf with e
    subst e
    simp only [Bool.and_eq_true] at h3
    exact ⟨h2, h3.1⟩

set_option maxHeartbeats 1600000 in
set_option maxRecDepth 100000 in
theorem serve_no {g : Nat} {M : Mach} {bl : Nat → Nat} {w : World} (t : Nat) (s : ByteArray) (h : HAt w g M bl) (hs : s.size ≤ 140737488355328) (hd : decV s = noV) :
    Calls Try.prog 64 #[.pointer (some ⟨g, 0, none⟩), .int .i64 (t : Int), .string s] w fun e w' => e = .returned (.tuple #[.string nilS, .int .i64 1]) ∧ HPost M bl g t w s w' 1 nilS := by
  have HH : Hid (HAt w g M bl) := h
  clear h
  go_enter Try.func64, Try.ntmps64
  go_wp2_with fail
  refine (dec_any s w hs).mono ?_
  rintro e w1 ⟨rfl, hb⟩
  rw [hd, show noV = .tuple #[.agg #[.int .i64 0, .int .i64 0, .int .i64 0, .int .i64 0, .int .i64 0, .int .i64 0, .string ⟨#[]⟩], .int .i64 1] from rfl]
  have HB : Hid (Below w.heap.size w w1 ∧ decV s = noV) := ⟨hb, hd⟩
  clear hb hd
  go_wp2
  go_ret2
  have hb2 : Below w.heap.size w (w1.alloc (.cells #[.int .i64 0, .int .i64 0, .int .i64 0, .int .i64 0, .int .i64 0, .int .i64 0, .string ⟨#[]⟩] 23)) := HB.out.1.alloc HB.out.1.size _
  exact ⟨rfl, M, bl, Or.inl ⟨HB.out.2, rfl, rfl, rfl⟩, HH.out.below hb2, Frm.ofBelow hb2, foot_same⟩

set_option maxHeartbeats 3200000 in
set_option maxRecDepth 100000 in
theorem serve_yes {g : Nat} {M : Mach} {bl : Nat → Nat} {w : World} (t : Nat) (s : ByteArray) (h : HAt w g M bl) (inv : M.Inv) (ht : t < M.nt) (hs : s.size ≤ 140737488355328) {op x o l r to : Int} {d : ByteArray} (hd : decV s = yesV op x o l r to d) (hok : okB op x o l r to d.size = true) :
    Calls Try.prog 64 #[.pointer (some ⟨g, 0, none⟩), .int .i64 (t : Int), .string s] w fun e w' => ∃ (er : Int) (m : ByteArray), e = .returned (.tuple #[.string m, .int .i64 er]) ∧ HPost M bl g t w s w' er m := by
  have hkn := ok_known hok
  obtain ⟨⟨b1, b2⟩, ⟨b3, b4⟩, ⟨b5, b6⟩, ⟨b7, b8⟩, ⟨b9, _⟩, b11⟩ := ok_bd hok
  have ht4 : t < 4 := by have := inv.ok.nt; omega
  have hns := inv.ok.ns
  have hg := h.lt
  obtain ⟨o', rfl⟩ : ∃ o' : Nat, o = (o' : Int) := ⟨o.toNat, by omega⟩
  obtain ⟨l', rfl⟩ : ∃ l' : Nat, l = (l' : Int) := ⟨l.toNat, by omega⟩
  obtain ⟨r', rfl⟩ : ∃ r' : Nat, r = (r' : Int) := ⟨r.toNat, by omega⟩
  have HH : Hid (HAt w g M bl ∧ M.Inv ∧ decV s = yesV op x o' l' r' to d) := ⟨h, inv, hd⟩
  clear h inv hok
  go_enter Try.func64, Try.ntmps64
  go_wp2_with fail
  refine (dec_any s w hs).mono ?_
  rintro e w1 ⟨rfl, hb⟩
  rw [hd, show yesV op x o' l' r' to d = .tuple #[.agg #[.int .i64 op, .int .i64 x, .int .i64 (o' : Int), .int .i64 (l' : Int), .int .i64 (r' : Int), .int .i64 to, .string d], .int .i64 0] from rfl]
  obtain ⟨W, hW⟩ : ∃ W, W = w1.alloc (.cells #[.int .i64 op, .int .i64 x, .int .i64 (o' : Int), .int .i64 (l' : Int), .int .i64 (r' : Int), .int .i64 to, .string d] 23) := ⟨_, rfl⟩
  have hWb : Below w.heap.size w W := hW ▸ hb.alloc hb.size _
  have HX : Hid (HAt W g M bl ∧ Below w.heap.size w W) := ⟨HH.out.1.below hWb, hWb⟩
  have HW : Hid (W = w1.alloc (.cells #[.int .i64 op, .int .i64 x, .int .i64 (o' : Int), .int .i64 (l' : Int), .int .i64 (r' : Int), .int .i64 to, .string d] 23)) := hW
  have stp : Hid (∀ er m M', StepQ M t op x o' l' r' to d er m M' → StepS M t s er m M') := fun er m M' h => Or.inr ⟨op, x, o', l', r', to, d, HH.out.2.2, h⟩
  clear hb hd hWb hW
  by_cases h1 : op = 1
  · subst h1
    go_wp2_with fail
    rw [← HW.out]
    refine (alloc_any t l' HX.out.1 HH.out.2.1.ok ht4 (by omega)).mono ?_
    rintro e w2 ⟨rfl, bl', hM, hF, hJ⟩
    have HY : Hid (HAt w2 g (M.alloc t l').2.2 bl' ∧ Frm (· = g) W w2 ∧ ∀ q, ((M.alloc t l').2.2.s q).bytes ≠ [] → ((M.s q).bytes ≠ [] ∧ bl' q = bl q) ∨ W.heap.size ≤ bl' q) := ⟨hM, hF, hJ⟩
    clear hM hF hJ
    go_wp2
    go_ret2
    exact ⟨(M.alloc t l').1, (M.alloc t l').2.1, rfl, _, bl', stp.out _ _ _ (Or.inl ⟨rfl, rfl, rfl, rfl⟩), HY.out.1, (Frm.ofBelow (F := HFoot g M bl) HX.out.2).trans HY.out.2.1 (fun k _ hk => Or.inl hk), foot_alloc (fun q hq => (HY.out.2.2 q hq).imp id (fun h => Nat.le_trans HX.out.2.size h))⟩
  · have h1b : (op == 1) = false := by simp [h1]
    have n0 : W.cell? ⟨w1.heap.size, 0, none⟩ = some (.int .i64 op) := HW.out ▸ rowCell (newRowAt _ _) 0
    have n2 : W.cell? ⟨w1.heap.size, 2, none⟩ = some (.int .i64 (o' : Int)) := HW.out ▸ rowCell (newRowAt _ _) 2
    have n3 : W.cell? ⟨w1.heap.size, 3, none⟩ = some (.int .i64 (l' : Int)) := HW.out ▸ rowCell (newRowAt _ _) 3
    have n4 : W.cell? ⟨w1.heap.size, 4, none⟩ = some (.int .i64 (r' : Int)) := HW.out ▸ rowCell (newRowAt _ _) 4
    have n6 : W.cell? ⟨w1.heap.size, 6, none⟩ = some (.string d) := HW.out ▸ rowCell (newRowAt _ _) 6
    go_wp2_with fail
    rw [← HW.out]
    refine (find_any t x HX.out.1 HH.out.2.1.ok ht4).mono ?_
    rintro e w2 ⟨rfl, hw2⟩
    have H1 : Hid (op ≠ 1) := h1
    cases hf : M.find t x with
    | none =>
      have hV : findV M t x = .tuple #[.int .i64 0, .bool false] := by unfold findV; rw [hf]
      rw [hV]
      subst hw2
      have HF : Hid (M.find t x = none) := hf
      clear hf h1 hV
      go_wp2
      go_ret2
      exact ⟨4, nilS, rfl, M, bl, stp.out _ _ _ (Or.inr (Or.inl ⟨H1.out, HF.out, rfl, rfl, rfl⟩)), HX.out.1, Frm.ofBelow HX.out.2, foot_same⟩
    | some n =>
      have hV : findV M t x = .tuple #[.int .i64 ((16 * t + n : Nat) : Int), .bool true] := by unfold findV; rw [hf]
      obtain ⟨hn, hfull⟩ := find_lt hf
      have hp : 16 * t + n < 64 := by omega
      rw [hV]
      subst hw2
      have HS : Hid (∀ er m M', StepP M t (16 * t + n) op o' l' r' to d er m M' → StepS M t s er m M') := fun er m M' h => stp.out _ _ _ (Or.inr (Or.inr ⟨H1.out, n, hf, h⟩))
      clear hf hV stp
      generalize hpe : 16 * t + n = p at *
      rcases knw_cases hkn with e1 | e1 | e1 | e1 | e1 | e1 | e1 | e1 | e1
      · exact absurd e1 h1
      · subst e1
        go_wp2_with fail
        refine (free_any p HX.out.1 hp hfull).mono ?_
        rintro e w3 (⟨hr, rfl, rfl⟩ | ⟨hr, rfl, M', hM, hG, hF⟩)
        · have HR : Hid ((M.s p).frm ≠ -1) := hr
          clear hr
          go_wp2
          go_ret2
          exact ⟨9, nilS, rfl, M, bl, HS.out _ _ _ (Or.inl ⟨rfl, Or.inl ⟨HR.out, rfl, rfl, rfl⟩⟩), HX.out.1, Frm.ofBelow HX.out.2, foot_same⟩
        · have HR : Hid ((M.s p).frm = -1 ∧ HAt w3 g M' bl ∧ Gone (fun x => x = p ∨ Under M p x) M M' ∧ Frm (· = g) w2 w3) := ⟨hr, hM, hG, hF⟩
          clear hr hM hG hF
          go_wp2
          go_ret2
          exact ⟨0, nilS, rfl, M', bl, HS.out _ _ _ (Or.inl ⟨rfl, Or.inr ⟨HR.out.1, rfl, rfl, HR.out.2.2.1⟩⟩), HR.out.2.1, (Frm.ofBelow (F := HFoot g M bl) HX.out.2).trans HR.out.2.2.2 (fun k _ hk => Or.inl hk), foot_gone HR.out.2.2.1⟩
      · subst e1
        go_wp2_with fail
        refine (read_any p o' l' HX.out.1 HH.out.2.1 hp hfull (by omega) (by omega)).mono ?_
        rintro e w3 ⟨rfl, hb3⟩
        have HB : Hid (Below w.heap.size w w3 ∧ HAt w3 g M bl) := ⟨HX.out.2.trans (hb3.mono HX.out.2.size), HX.out.1.below hb3⟩
        clear hb3
        go_wp2
        go_ret2
        exact ⟨(M.read p o' l').1, (M.read p o' l').2, rfl, M, bl, HS.out _ _ _ (Or.inr (Or.inl ⟨rfl, rfl, rfl, rfl⟩)), HB.out.2, Frm.ofBelow HB.out.1, foot_same⟩
      · subst e1
        go_wp2_with fail
        refine (write_any p o' d HX.out.1 HH.out.2.1 hp hfull (by omega) b11).mono ?_
        rintro e w3 ⟨rfl, hM, hF⟩
        have HR : Hid (HAt w3 g (M.write p o' d) bl ∧ Frm (HFoot g M bl) w2 w3) := ⟨hM, hF⟩
        clear hM hF
        go_wp2
        go_ret2
        exact ⟨M.writeE p o' d, nilS, rfl, M.write p o' d, bl, HS.out _ _ _ (Or.inr (Or.inr (Or.inl ⟨rfl, rfl, rfl, rfl⟩))), HR.out.1, (Frm.ofBelow (F := HFoot g M bl) HX.out.2).trans HR.out.2 (fun k _ hk => hk), foot_write HH.out.2.1 hfull⟩
      · subst e1
        go_wp2_with fail
        refine (derive_any t p o' l' r' HX.out.1 HH.out.2.1 ht4 hp hfull (by omega) (by omega) (by omega)).mono ?_
        rintro e w3 ⟨er, m, M', rfl, hD, hM, hF, hJ⟩
        have HR : Hid (DeriveP M t p o' l' r' er m M' ∧ HAt w3 g M' bl ∧ Frm (· = g) w2 w3 ∧ ∀ q, (M'.s q).bytes = (M.s q).bytes) := ⟨hD, hM, hF, hJ⟩
        clear hD hM hF hJ
        go_wp2
        go_ret2
        exact ⟨er, m, rfl, M', bl, HS.out _ _ _ (Or.inr (Or.inr (Or.inr (Or.inl ⟨rfl, HR.out.1⟩)))), HR.out.2.1, (Frm.ofBelow (F := HFoot g M bl) HX.out.2).trans HR.out.2.2.1 (fun k _ hk => Or.inl hk), foot_laid HR.out.2.2.2⟩
      · subst e1
        have hto : 0 ≤ to := by omega
        obtain ⟨to', rfl⟩ : ∃ to' : Nat, to = (to' : Int) := ⟨to.toNat, by omega⟩
        have n5 : w2.cell? ⟨w1.heap.size, 5, none⟩ = some (.int .i64 (to' : Int)) := HW.out ▸ rowCell (newRowAt _ _) 5
        go_wp2_with fail
        refine (grant_any p to' HX.out.1 HH.out.2.1 hp).mono ?_
        rintro e w3 ⟨er, m, M', rfl, hD, hM, hF, hJ⟩
        have HR : Hid (GrantP M p to' er m M' ∧ HAt w3 g M' bl ∧ Frm (· = g) w2 w3 ∧ ∀ q, (M'.s q).bytes = (M.s q).bytes) := ⟨hD, hM, hF, hJ⟩
        clear hD hM hF hJ
        go_wp2
        go_ret2
        exact ⟨er, m, rfl, M', bl, HS.out _ _ _ (Or.inr (Or.inr (Or.inr (Or.inr (Or.inl ⟨rfl, HR.out.1⟩))))), HR.out.2.1, (Frm.ofBelow (F := HFoot g M bl) HX.out.2).trans HR.out.2.2.1 (fun k _ hk => Or.inl hk), foot_laid HR.out.2.2.2⟩
      · subst e1
        go_wp2_with fail
        refine (emptyBelow_any p HX.out.1 hp).mono ?_
        rintro e w3 ⟨rfl, M', hM, hG, hF⟩
        have HR : Hid (HAt w3 g M' bl ∧ Gone (Under M p) M M' ∧ Frm (· = g) w2 w3) := ⟨hM, hG, hF⟩
        clear hM hG hF
        go_wp2
        go_ret2
        exact ⟨0, nilS, rfl, M', bl, HS.out _ _ _ (Or.inr (Or.inr (Or.inr (Or.inr (Or.inr (Or.inl ⟨rfl, rfl, rfl, HR.out.2.1⟩)))))), HR.out.1, (Frm.ofBelow (F := HFoot g M bl) HX.out.2).trans HR.out.2.2 (fun k _ hk => Or.inl hk), foot_gone HR.out.2.1⟩
      · subst e1
        go_wp2_with fail
        refine (drop_any p HX.out.1 hp hfull).mono ?_
        rintro e w3 (⟨hr, rfl, rfl⟩ | ⟨hr, rfl, M', hM, hG, hF⟩)
        · have HR : Hid ((M.s p).frm = -1) := hr
          clear hr
          go_wp2
          go_ret2
          exact ⟨9, nilS, rfl, M, bl, HS.out _ _ _ (Or.inr (Or.inr (Or.inr (Or.inr (Or.inr (Or.inr (Or.inl ⟨rfl, Or.inl ⟨HR.out, rfl, rfl, rfl⟩⟩))))))), HX.out.1, Frm.ofBelow HX.out.2, foot_same⟩
        · have HR : Hid ((M.s p).frm ≠ -1 ∧ HAt w3 g M' bl ∧ Gone (fun x => x = p ∨ Under M p x) M M' ∧ Frm (· = g) w2 w3) := ⟨hr, hM, hG, hF⟩
          clear hr hM hG hF
          go_wp2
          go_ret2
          exact ⟨0, nilS, rfl, M', bl, HS.out _ _ _ (Or.inr (Or.inr (Or.inr (Or.inr (Or.inr (Or.inr (Or.inl ⟨rfl, Or.inr ⟨HR.out.1, rfl, rfl, HR.out.2.2.1⟩⟩))))))), HR.out.2.1, (Frm.ofBelow (F := HFoot g M bl) HX.out.2).trans HR.out.2.2.2 (fun k _ hk => Or.inl hk), foot_gone HR.out.2.2.1⟩
      · subst e1
        go_wp2_with fail
        refine (info_any p HX.out.1 hp).mono ?_
        rintro e w3 ⟨rfl, hb3⟩
        have HB : Hid (Below w.heap.size w w3 ∧ HAt w3 g M bl) := ⟨HX.out.2.trans (hb3.mono HX.out.2.size), HX.out.1.below hb3⟩
        clear hb3
        go_wp2
        go_ret2
        exact ⟨0, M.info p, rfl, M, bl, HS.out _ _ _ (Or.inr (Or.inr (Or.inr (Or.inr (Or.inr (Or.inr (Or.inr ⟨rfl, rfl, rfl, rfl⟩))))))), HB.out.2, Frm.ofBelow HB.out.1, foot_same⟩

theorem oneC_size (n : Int) : (oneC n).size = 1 := strOfNums_size _
/-- more than this a reply never has behind its first byte -/
theorem info_size (M : Mach) (p : Nat) : (M.info p).size ≤ 300 := by
  unfold Mach.info
  rw [ByteArray.size_append, twoW_size, oneC_size]
  omega
theorem StepS.size {M : Mach} {t : Nat} {s : ByteArray} {e : Int} {m : ByteArray} {A : Mach} (h : StepS M t s e m A) : m.size ≤ 300 := by
  have hn : nilS.size ≤ 300 := by decide
  have ht : ∀ x : Int, (twoW x).size ≤ 300 := fun x => by rw [twoW_size]; omega
  have hl : ∀ u, (M.layS u).size ≤ 300 := fun u => by
    unfold Mach.layS
    split
    · exact ht _
    · exact hn
  rcases h with ⟨_, _, rfl, _⟩ | ⟨op, h, o, l, r, to, d, _, a1⟩
  · exact hn
  · rcases a1 with ⟨_, _, rfl, _⟩ | ⟨_, _, _, rfl, _⟩ | ⟨_, n, _, a2⟩
    · unfold Mach.alloc
      split
      · exact hn
      · split
        · exact hn
        · split
          · exact hn
          · exact ht _
    · exact hn
    · rcases a2 with ⟨_, h⟩ | ⟨_, h⟩ | ⟨_, h⟩ | ⟨_, h⟩ | ⟨_, h⟩ | ⟨_, h⟩ | ⟨_, h⟩ | ⟨_, h⟩
      · rcases h with ⟨_, _, rfl, _⟩ | ⟨_, _, rfl, _⟩ <;> exact hn
      · rw [h.2.1]
        unfold Mach.read
        split
        · exact hn
        · split
          · exact hn
          · rename_i h6
            show (strOfNums _).size ≤ 300
            rw [strOfNums_size]
            unfold Mach.part
            simp only [List.length_take]
            omega
      · rw [h.2.1]; exact hn
      · rcases h with ⟨_, _, rfl, _⟩ | ⟨_, _, _, rfl, _⟩ | ⟨_, _, _, rfl, _⟩
        · exact hn
        · exact hn
        · exact hl _
      · rcases h with ⟨_, _, rfl, _⟩ | ⟨_, _, _, rfl, _⟩ | ⟨_, _, _, rfl, _⟩
        · exact hn
        · exact hn
        · exact hl _
      · rw [h.2.1]; exact hn
      · rcases h with ⟨_, _, rfl, _⟩ | ⟨_, _, rfl, _⟩ <;> exact hn
      · rw [h.2.1]; exact info_size _ _

set_option maxHeartbeats 1600000 in
set_option maxRecDepth 100000 in
/-- Ask of the landed house, where serve does as the document says -/
theorem ask_of {g : Nat} {M : Mach} {bl : Nat → Nat} {w : World} (t : Int) (s : ByteArray) (h : HAt w g M bl) (ht : hasB M.nt t = true)
    (hserve : Calls Try.prog 64 #[.pointer (some ⟨g, 0, none⟩), .int .i64 t, .string s] w fun e w' => ∃ (er : Int) (m : ByteArray), e = .returned (.tuple #[.string m, .int .i64 er]) ∧ HPost M bl g t.toNat w s w' er m) :
    Calls Try.prog 44 #[.pointer (some ⟨g, 0, none⟩), .int .i64 t, .string s] w fun e w' => ∃ (er : Int) (m : ByteArray), e = .returned (.tuple #[.string (oneC er ++ m), .int .i64 0]) ∧ HPost M bl g t.toNat w s w' er m := by
  have HH : Hid (HAt w g M bl) := h
  have HS : Hid (Calls Try.prog 64 #[.pointer (some ⟨g, 0, none⟩), .int .i64 t, .string s] w fun e w' => ∃ (er : Int) (m : ByteArray), e = .returned (.tuple #[.string m, .int .i64 er]) ∧ HPost M bl g t.toNat w s w' er m) := hserve
  clear h hserve
  go_enter Try.func44, Try.ntmps44
  go_wp2_with fail
  refine (has_any t HH.out).mono ?_
  rintro e w1 ⟨rfl, rfl⟩
  rw [ht]
  go_wp2_with fail
  refine HS.out.mono ?_
  rintro e w2 ⟨er, m, rfl, hp⟩
  have hms : m.size ≤ 300 := by obtain ⟨_, _, h1, _⟩ := hp; exact h1.size
  have s0 := oneC_size
  have HP : Hid (HPost M bl g t.toNat w1 s w2 er m) := hp
  clear hp HS
  go_wp2_with fail
  refine (oneByte_any er w2).mono ?_
  rintro e w3 ⟨rfl, hb3⟩
  have HB : Hid (Below w2.heap.size w2 w3) := hb3
  clear hb3
  go_wp2
  go_ret2
  obtain ⟨M', bl', q1, q2, q3, q4⟩ := HP.out
  exact ⟨er, m, rfl, M', bl', q1, q2.below HB.out, q3.trans (Frm.ofBelow (F := fun _ => False) HB.out) (fun _ _ h => h.elim), q4⟩

set_option maxHeartbeats 400000 in
theorem ask_none {g : Nat} {M : Mach} {bl : Nat → Nat} {w : World} (t : Int) (s : ByteArray) (h : HAt w g M bl) (ht : hasB M.nt t = false) :
    Calls Try.prog 44 #[.pointer (some ⟨g, 0, none⟩), .int .i64 t, .string s] w fun e w' => e = .returned (.tuple #[.string ⟨#[]⟩, .int .i64 3]) ∧ w' = w := by
  have HH : Hid (HAt w g M bl) := h
  clear h
  go_enter Try.func44, Try.ntmps44
  go_wp2_with fail
  refine (has_any t HH.out).mono ?_
  rintro e w1 ⟨rfl, rfl⟩
  rw [ht]
  go_wp2
  go_ret2
  exact ⟨rfl, rfl⟩

/-- Ask of the landed house: bytes that are no request, and all requests -/
theorem ask_any {g : Nat} {M : Mach} {bl : Nat → Nat} {w : World} (t : Int) (s : ByteArray) (h : HAt w g M bl) (inv : M.Inv) (hs : s.size ≤ 140737488355328) (ht : hasB M.nt t = true) :
    Calls Try.prog 44 #[.pointer (some ⟨g, 0, none⟩), .int .i64 t, .string s] w fun e w' => ∃ (er : Int) (m : ByteArray), e = .returned (.tuple #[.string (oneC er ++ m), .int .i64 0]) ∧ HPost M bl g t.toNat w s w' er m := by
  obtain ⟨n, rfl⟩ : ∃ n : Nat, t = (n : Int) := ⟨t.toNat, by simp [hasB] at ht; omega⟩
  have hn : n < M.nt := by simp [hasB] at ht; omega
  refine ask_of (n : Int) s h ht ?_
  rcases dec_cases s with hd | ⟨op, x, o, l, r, to, d, hd, hok, _⟩
  · exact (serve_no n s h hs hd).mono fun e w' ⟨h1, h2⟩ => ⟨1, nilS, h1, h2⟩
  · exact serve_yes n s h inv hn hs hd hok

end Go.Proofs.Ytkjjamigaamllaa
