/-
  append of one value to a row of the call's own: where the new slice lies (in the old row, or in a new one).
-/
import Derived.Test.YtkjjamigaamllaaRefBase
import Derived.Deep.RegionLaw
import Derived.Deep.RegionLawGrows
import Derived.Deep.RegionHeldLaw
import Derived.Lib.SmallJoins
namespace Go.Proofs.Ytkjjamigaamllaa
open Go.RowKit

theorem run_append_mine {P : Program} (w : World) (t ty e : TypeId) (i : TypeInfo) (z : Value) (bytes : Nat) (ht : P.underlying t = some (.slice e)) (hi : P.info? e = some i) (hz : i.zero = some z)
    (hsize : i.size = 1) (hby : i.bytes = bytes) (hzs : z.cells.size = 1)
    (v : Value) (n : Nat) (xs : List Value) (hown : w.ownsRow 0 e 1 v n xs)
    (a : Addr) (u : Value) (hnews : w.cell? a = some u) (h1 : u.oneCell' = true) (h63 : n + 1 ≤ maxLen) (hbytes : (n + 1) * bytes ≤ 140737488355328) :
    ∃ v' w', (Builtin.append_ #[t, t] ty #[v, .slice (some a) 1 1]).run P w = .ok v' w' ∧ w'.ownsRow 0 e 1 v' (n + 1) (xs ++ [u]) ∧ w.grownBy w' v.ownBlock ∧
      ∃ k cap, v' = .slice (some ⟨k, 0, none⟩) (n + 1) cap ∧ (some k = v.ownBlock ∨ w.heap.size ≤ k) := by
  have hn2 : ∀ j (y : Value), [u][j]? = some y → w.cell? (a.add j) = some y := by
    intro j y hj
    match j, hj with
    | 0, hj => simp at hj; subst hj; simpa [Addr.add] using hnews
  have ho2 : ∀ y ∈ [u], y.oneCell' = true := by intro y hy; simp at hy; subst hy; exact h1
  obtain ⟨v', w', hr, ho, hg, _⟩ := run_append_own (P := P) w 0 t ty e i z 1 bytes ht hi hz hsize hby hzs (by decide) v n xs hown a 1 1 [u] rfl hn2 ho2 h63 hbytes (Nat.zero_le _)
  refine ⟨v', w', hr, ho, hg, ?_⟩
  have hown2 := hown
  obtain ⟨hl, h⟩ := hown
  rcases h with ⟨rfl, rfl⟩ | ⟨g, cap, cur, rfl, _, hgr, hle, hmx, hcs, htk⟩
  · obtain ⟨v2, w2, hr2, ho2', _, _⟩ := run_append_own (P := P) w w.heap.size t ty e i z 1 bytes ht hi hz hsize hby hzs (by decide) (.slice none 0 0) 0 [] (World.ownsRow_nil w _ e 1) a 1 1 [u] rfl hn2 ho2 h63 hbytes (Nat.le_refl _)
    rw [hr] at hr2
    injection hr2 with e1 e2
    subst e1
    rcases ho2'.2 with ⟨_, h0⟩ | ⟨k, cap, _, hv, hk, _⟩
    · omega
    · exact ⟨k, cap, hv, Or.inr hk⟩
  · by_cases hroom : n + 1 ≤ cap
    · have := run_append_room_cells (P := P) w t ty e i ht hi g 0 n cap a 1 1 [u] (by rw [hsize]; rfl) hn2 ho2 hroom (by
        intro j hj
        obtain rfl : j = 0 := by simpa using hj
        rw [hsize, rowCell hgr]
        simp
        omega) (by
        intro j _
        exact rowFree hgr _)
      rw [hr] at this
      injection this with e1 e2
      exact ⟨g, cap, e1, Or.inl rfl⟩
    · obtain ⟨v2, w2, hr2, ho3, _⟩ := run_append_arg_grows (P := P) w t ty e i z 1 bytes ht hi hz hsize hby hzs (by decide) ⟨g, 0, none⟩ n cap xs (by rw [hl]) (by
        intro j y hj
        have hjl : j < n := by
          rcases Nat.lt_or_ge j xs.length with h2 | h2
          · omega
          · rw [List.getElem?_eq_none h2] at hj; cases hj
        have : w.cell? ⟨g, j, none⟩ = some y := by
          rw [rowCell hgr, ← hj, ← htk, List.getElem?_take_of_lt (by omega)]
          simp
        by_cases hj0 : j = 0
        · subst hj0; simpa [Addr.add] using this
        · simpa [Addr.add, hj0] using this) a 1 1 [u] rfl hn2 (by omega) h63 hbytes
      rw [hr] at hr2
      injection hr2 with e1 e2
      subst e1
      rcases ho3.2 with ⟨_, h0⟩ | ⟨k, cap, _, hv, hk, _⟩
      · omega
      · exact ⟨k, cap, hv, Or.inr hk⟩

/-- as one step of a region that is walked in its order -/
theorem wpList_append_mine {P : Program} (w : World) {ops : Array Oper} {rest : List Oper} {o : Oper} {A : Act} {Q : Exit → Act → World → Prop} (hgd : o.guard = none) (s x : Operand) (t : TypeId)
    (ho : o.op = .call { callee := .builtin .append, args := #[s, x], argTypes := #[t, t] })
    (e : TypeId) (i : TypeInfo) (z : Value) (bytes : Nat) (ht : P.underlying t = some (.slice e)) (hi : P.info? e = some i) (hz : i.zero = some z)
    (hsize : i.size = 1) (hby : i.bytes = bytes) (hzs : z.cells.size = 1)
    (v : Value) (n : Nat) (xs : List Value) (hs : A.eval s = v) (hown : w.ownsRow 0 e 1 v n xs)
    (a : Addr) (u : Value) (hx : A.eval x = .slice (some a) 1 1) (hnews : w.cell? a = some u) (h1 : u.oneCell' = true) (h63 : n + 1 ≤ maxLen) (hbytes : (n + 1) * bytes ≤ 140737488355328)
    (h : ∀ k cap w', w'.ownsRow 0 e 1 (.slice (some ⟨k, 0, none⟩) (n + 1) cap) (n + 1) (xs ++ [u]) → w.grownBy w' v.ownBlock → (some k = v.ownBlock ∨ w.heap.size ≤ k) → wpList P ops Q rest (A.put o.dst (.slice (some ⟨k, 0, none⟩) (n + 1) cap)) w') :
    wpList P ops Q (o :: rest) A w := by
  obtain ⟨v', w', hr, h2, h3, k, cap, rfl, hk⟩ := run_append_mine (P := P) w t o.type e i z bytes ht hi hz hsize hby hzs v n xs hown a u hnews h1 h63 hbytes
  refine wpList_plain hgd fun K hK => ?_
  unfold Oper.wp
  simp [execOp, ho, resolve, invoke, builtin, hs, hx, hr, Result.andThen]
  exact hK _ _ (h k cap w' h2 h3 hk)

/-- as one step of a region that draws its order -/
theorem step_append_mine {P : Program} {ops : Array Oper} {o : Oper} {A : Act} {w : World} {K : Act → World → Prop} {Q : Exit → Act → World → Prop} {E : Prop}
    (hgd : o.guard = none) (s x : Operand) (t : TypeId)
    (ho : o.op = .call { callee := .builtin .append, args := #[s, x], argTypes := #[t, t] })
    (e : TypeId) (i : TypeInfo) (z : Value) (bytes : Nat) (ht : P.underlying t = some (.slice e)) (hi : P.info? e = some i) (hz : i.zero = some z)
    (hsize : i.size = 1) (hby : i.bytes = bytes) (hzs : z.cells.size = 1)
    (v : Value) (n : Nat) (xs : List Value) (hs : A.eval s = v) (hown : w.ownsRow 0 e 1 v n xs)
    (a : Addr) (u : Value) (hx : A.eval x = .slice (some a) 1 1) (hnews : w.cell? a = some u) (h1 : u.oneCell' = true) (h63 : n + 1 ≤ maxLen) (hbytes : (n + 1) * bytes ≤ 140737488355328)
    (h : ∀ k cap w', w'.ownsRow 0 e 1 (.slice (some ⟨k, 0, none⟩) (n + 1) cap) (n + 1) (xs ++ [u]) → w.grownBy w' v.ownBlock → (some k = v.ownBlock ∨ w.heap.size ≤ k) → K (A.put o.dst (.slice (some ⟨k, 0, none⟩) (n + 1) cap)) w') :
    if Region.wanted o (yielded ops A.tmps) = true then Oper.wp P o A w K Q else E := by
  obtain ⟨v', w', hr, h2, h3, k, cap, rfl, hk⟩ := run_append_mine (P := P) w t o.type e i z bytes ht hi hz hsize hby hzs v n xs hown a u hnews h1 h63 hbytes
  have hw : Region.wanted o (yielded ops A.tmps) = true := by simp [Region.wanted, hgd]
  rw [if_pos hw]
  unfold Oper.wp
  simp [execOp, ho, resolve, invoke, builtin, hs, hx, hr, Result.andThen]
  exact h k cap w' h2 h3 hk

end Go.Proofs.Ytkjjamigaamllaa
