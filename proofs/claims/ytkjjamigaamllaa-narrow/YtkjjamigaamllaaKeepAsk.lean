/-
  A request to the house of a run, as the laws without the document's answer ask it.
-/
import Derived.Test.YtkjjamigaamllaaKeepRun
namespace Go.Proofs.Ytkjjamigaamllaa
open Go.RowKit
set_option linter.unusedSimpArgs false

theorem byte_of {a : ByteArray} {i : Nat} {v : Int} (h : i < a.size) (e : byt a i = v) : (a[i].toNat : Int) = v := by rw [byt_in h, e]

theorem KAt.setOk {B0 : Nat} {w : World} {rb : Nat} {K : KRun} (h : KAt B0 w rb K) (b : Bool) :
    KAt B0 (w.setCell ⟨rb, 5, none⟩ (.bool b)) rb { K with ok := b } ∧ KTo rb K { K with ok := b } w (w.setCell ⟨rb, 5, none⟩ (.bool b)) := by
  have other : ∀ (j : Nat) (cs : Array Value) (ty : TypeId), w.heap[j]? = some (.cells cs ty (0, 0)) → ty ≠ 56 → (w.setCell ⟨rb, 5, none⟩ (.bool b)).heap[j]? = w.heap[j]? := fun j cs ty hj hne =>
    Below.heap_setCell _ _ _ _ (fun e => ne_of_type hj h.row hne e)
  have hF : Frm (· = rb) w (w.setCell ⟨rb, 5, none⟩ (.bool b)) := Frm.setCell _ _ _ _ rfl
  refine ⟨⟨?_, (other _ _ _ h.garr (by decide)).trans h.garr, fun i hi => owns_frame (h.gown i hi) (fun k hk => ?_), owns_frame h.hown (fun k hk => ?_), h.x.frame hF (fun k hk e => h.fr (e ▸ hk)), h.inv, h.gne, h.fr, h.fg, h.fv, h.fh, h.b0, h.g0, h.v0, h.h0, h.x0⟩, ⟨hF.mono (fun k _ e => Or.inl (Or.inl e)), fun k hk => Or.inl hk⟩⟩
  · have := Go.Joins.block_setCell (i := 5) h.row (.bool b)
    exact this
  · obtain ⟨_, cur, hc⟩ := owns_lt (h.gown i hi) hk
    exact other _ _ _ hc (by decide)
  · obtain ⟨_, cur, hc⟩ := owns_lt h.hown hk
    exact other _ _ _ hc (by decide)

set_option maxHeartbeats 1600000 in
set_option maxRecDepth 100000 in
theorem kask_err {B0 : Nat} {w : World} {rb : Nat} {K : KRun} (t : Nat) (s : ByteArray) (h : KAt B0 w rb K) (ht : t < K.M.nt) (er : Int) (m a : ByteArray)
    (hask : Calls Try.prog 44 #[.pointer (some ⟨K.gx, 0, none⟩), .int .i64 t, .string s] w fun e w' => e = .returned (.tuple #[.string a, .int .i64 0]) ∧ HPost K.M K.bl K.gx t w s w' er m)
    (hsz : a.size = 1) (hb0 : byt a 0 = er) (he : er ≠ 0) :
    Calls Try.prog 29 #[.pointer (some ⟨rb, 0, none⟩), .int .i64 t, .string s] w fun e w' => e = .returned (.string a) ∧ ∃ M' bl', StepS K.M t s er m M' ∧ KAt B0 w' rb { K with M := M', bl := bl' } ∧ KTo rb K { K with M := M', bl := bl' } w w' := by
  have c0 : w.cell? ⟨rb, 0, none⟩ = some (.pointer (some ⟨K.gx, 0, none⟩)) := rowCell h.row 0
  have HA : Hid (Calls Try.prog 44 #[.pointer (some ⟨K.gx, 0, none⟩), .int .i64 t, .string s] w fun e w' => e = .returned (.tuple #[.string a, .int .i64 0]) ∧ HPost K.M K.bl K.gx t w s w' er m) := hask
  have HH : Hid (KAt B0 w rb K) := h
  have h1 : 0 < a.size := by omega
  have h0 : ((a[0].toNat : Int) == 0) = false := by rw [byte_of h1 hb0]; simp [he]
  have z1 : ((a.size : Int) == 1) = true := by simp; omega
  have z0 : a.toList.isEmpty = false := by
    rw [Go.Lib.toList_data]
    cases hl : a.data.toList with
    | nil =>
      have h2 : a.data.toList.length = a.size := by rw [Array.length_toList]; rfl
      rw [hl] at h2
      simp at h2
      omega
    | cons => rfl
  clear h hask hb0 he hsz
  go_enter Try.func29, Try.ntmps29
  go_wp2_with fail
  refine HA.out.mono ?_
  rintro e w2 ⟨rfl, M', bl', st, hx, fr, ft⟩
  obtain ⟨i1, i2, i3, i4⟩ := st.inv HH.out.inv ht
  obtain ⟨k1, k2⟩ := HH.out.step hx i1 i2 i3 i4 fr ft
  have c5 : w2.cell? ⟨rb, 5, none⟩ = some (.bool K.ok) := rowCell k1.row 5
  have f5 : w2.frozen? ⟨rb, 5, none⟩ = false := rowFree k1.row 5
  have HK : Hid (StepS K.M t s er m M' ∧ KAt B0 w2 rb { K with M := M', bl := bl' } ∧ KTo rb K { K with M := M', bl := bl' } w w2) := ⟨st, k1, k2⟩
  clear st hx fr ft i1 i2 i3 i4 k1 k2 HA
  cases hok : K.ok <;> rw [hok] at c5
  · go_wp2
    go_ret
    obtain ⟨k3, k4⟩ := HK.out.2.1.setOk false
    rw [← hok] at k3 k4 ⊢
    exact ⟨rfl, M', bl', HK.out.1, k3, HK.out.2.2.trans k4⟩
  · go_wp2
    go_ret
    obtain ⟨k3, k4⟩ := HK.out.2.1.setOk true
    rw [← hok] at k3 k4 ⊢
    exact ⟨rfl, M', bl', HK.out.1, k3, HK.out.2.2.trans k4⟩

theorem ne_empty {a : ByteArray} (h : 0 < a.size) : a.toList.isEmpty = false := by
  rw [Go.Lib.toList_data]
  cases hl : a.data.toList with
  | nil =>
    have h2 : a.data.toList.length = a.size := by rw [Array.length_toList]; rfl
    rw [hl] at h2
    simp at h2
    omega
  | cons => rfl

set_option maxHeartbeats 1600000 in
set_option maxRecDepth 100000 in
theorem kask_plain {B0 : Nat} {w : World} {rb : Nat} {K : KRun} (t : Nat) (s : ByteArray) (h : KAt B0 w rb K) (ht : t < K.M.nt) (m a : ByteArray) (op : Int)
    (hask : Calls Try.prog 44 #[.pointer (some ⟨K.gx, 0, none⟩), .int .i64 t, .string s] w fun e w' => e = .returned (.tuple #[.string a, .int .i64 0]) ∧ HPost K.M K.bl K.gx t w s w' 0 m)
    (hsz : 0 < a.size) (hb0 : byt a 0 = 0) (hs : 0 < s.size) (hs0 : byt s 0 = op) (n1 : op ≠ 1) (n5 : op ≠ 5) (n6 : op ≠ 6) :
    Calls Try.prog 29 #[.pointer (some ⟨rb, 0, none⟩), .int .i64 t, .string s] w fun e w' => e = .returned (.string a) ∧ ∃ M' bl', StepS K.M t s 0 m M' ∧ KAt B0 w' rb { K with M := M', bl := bl' } ∧ KTo rb K { K with M := M', bl := bl' } w w' := by
  have c0 : w.cell? ⟨rb, 0, none⟩ = some (.pointer (some ⟨K.gx, 0, none⟩)) := rowCell h.row 0
  have HA : Hid (Calls Try.prog 44 #[.pointer (some ⟨K.gx, 0, none⟩), .int .i64 t, .string s] w fun e w' => e = .returned (.tuple #[.string a, .int .i64 0]) ∧ HPost K.M K.bl K.gx t w s w' 0 m) := hask
  have HH : Hid (KAt B0 w rb K) := h
  have h0 : ((a[0].toNat : Int) == 0) = true := by rw [byte_of hsz hb0]; rfl
  have z0 := ne_empty hsz
  have b1 := i64_byte
  have s1 : ((s[0].toNat : Int) == 1) = false := by rw [byte_of hs hs0]; simp [n1]
  have s5 : ((s[0].toNat : Int) == 5) = false := by rw [byte_of hs hs0]; simp [n5]
  have s6 : ((s[0].toNat : Int) == 6) = false := by rw [byte_of hs hs0]; simp [n6]
  clear h hask hb0 hs0 n1 n5 n6
  go_enter Try.func29, Try.ntmps29
  go_wp2_with fail
  refine HA.out.mono ?_
  rintro e w2 ⟨rfl, M', bl', st, hx, fr, ft⟩
  obtain ⟨i1, i2, i3, i4⟩ := st.inv HH.out.inv ht
  obtain ⟨k1, k2⟩ := HH.out.step hx i1 i2 i3 i4 fr ft
  have HK : Hid (StepS K.M t s 0 m M' ∧ KAt B0 w2 rb { K with M := M', bl := bl' } ∧ KTo rb K { K with M := M', bl := bl' } w w2) := ⟨st, k1, k2⟩
  clear st hx fr ft i1 i2 i3 i4 k1 k2 HA
  go_wp2
  go_ret
  exact ⟨rfl, M', bl', HK.out.1, HK.out.2.1, HK.out.2.2⟩

end Go.Proofs.Ytkjjamigaamllaa
