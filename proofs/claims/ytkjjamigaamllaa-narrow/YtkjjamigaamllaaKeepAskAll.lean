/-
  A request to the house of a run, whole: the reply, and the run behind it.
-/
import Derived.Test.YtkjjamigaamllaaKeepGiven
namespace Go.Proofs.Ytkjjamigaamllaa
open Go.RowKit
set_option linter.unusedSimpArgs false

theorem byt_one (e : Int) (m : ByteArray) (h : 0 ≤ e ∧ e ≤ 255) : byt (oneC e ++ m) 0 = e := by
  rw [oneC_lit h.1 h.2, oneS_str]
  exact byt_str [e] m 0 (by simp) (by simp; omega) (by simp; omega)
theorem byt_app {a b : ByteArray} {i : Nat} (h : i < b.size) : byt (a ++ b) (a.size + i) = byt b i := by
  have h1 : a.size + i < (a ++ b).size := by rw [ByteArray.size_append]; omega
  rw [← byt_in h1, ← byt_in h]
  rw [ByteArray.getElem_append_right (by omega)]
  simp
theorem reply_size (e : Int) (m : ByteArray) : (oneC e ++ m).size = 1 + m.size := by rw [ByteArray.size_append, oneC_sz]
theorem hOf_reply {e : Int} {m : ByteArray} (h : m.size = 2) : 256 * byt (oneC e ++ m) 1 + byt (oneC e ++ m) 2 = hOf m := by
  have h1 := byt_app (a := oneC e) (b := m) (i := 0) (by omega)
  have h2 := byt_app (a := oneC e) (b := m) (i := 1) (by omega)
  rw [oneC_sz] at h1 h2
  unfold hOf
  rw [← h1, ← h2]

theorem body_byt {op x o l r to : Int} {d : ByteArray} (hok : okB op x o l r to d.size = true) : byt (bodyS op x o l r to d) 0 = op ∧ 0 < (bodyS op x o l r to d).size := by
  rw [body_nums hok]
  refine ⟨byt0_body d hok, ?_⟩
  have h1 := nums_len hok
  rw [ByteArray.size_append, strOfNums_size]
  rcases knw_cases (ok_known hok) with rfl | rfl | rfl | rfl | rfl | rfl | rfl | rfl | rfl <;> simp [nums] <;> omega
theorem body_byt3 {x o l r to : Int} {d : ByteArray} (hok : okB 6 x o l r to d.size = true) : byt (bodyS 6 x o l r to d) 3 = to ∧ 3 < (bodyS 6 x o l r to d).size := by
  have hb := (ok_bd hok).2.2.2.2.1
  rw [body_nums hok]
  refine ⟨byt_str (nums 6 x o l r to) d 3 (by simp [nums]) (by simp [nums]; omega) (by simp [nums]; omega), ?_⟩
  rw [ByteArray.size_append, strOfNums_size]
  simp [nums]
  omega

/-- A REQUEST TO A RUN'S HOUSE -/
theorem kask_any {B0 : Nat} {w : World} {rb : Nat} {K : KRun} (t : Nat) {op x o l r to : Int} {d : ByteArray} (hok : okB op x o l r to d.size = true) (h : KAt B0 w rb K) (hg : KGood K.M K.gl) (ht : t < K.M.nt) :
    Calls Try.prog 29 #[.pointer (some ⟨rb, 0, none⟩), .int .i64 t, .string (bodyS op x o l r to d)] w fun e w' =>
      ∃ (er : Int) (m : ByteArray) (K' : KRun), e = .returned (.string (oneC er ++ m)) ∧ KStep K t op x o l r to d er m K' ∧ KAt B0 w' rb K' ∧ KGood K'.M K'.gl ∧ KTo rb K K' w w' := by
  obtain ⟨er, m, M0, q⟩ := StepQ.total K.M t op x o l r to d (ok_known hok)
  have st : StepS K.M t (bodyS op x o l r to d) er m M0 := (stepS_body hok).2 q
  obtain ⟨e0, e9, ez⟩ := st.err
  obtain ⟨sb0, sbz⟩ := body_byt hok
  have hto := (ok_bd hok).2.2.2.2.1
  have hsz : (bodyS op x o l r to d).size ≤ 140737488355328 := by
    have h1 := size_body hok
    have h2 := (ok_bd hok).2.2.2.2.2
    have h3 : dAt op ≤ 100 := by
      rcases knw_cases (ok_known hok) with rfl | rfl | rfl | rfl | rfl | rfl | rfl | rfl | rfl <;> decide
    omega
  have hask : Calls Try.prog 44 #[.pointer (some ⟨K.gx, 0, none⟩), .int .i64 t, .string (bodyS op x o l r to d)] w fun e w' => e = .returned (.tuple #[.string (oneC er ++ m), .int .i64 0]) ∧ HPost K.M K.bl K.gx t w (bodyS op x o l r to d) w' er m := by
    refine (ask_any (t : Int) (bodyS op x o l r to d) h.x h.inv hsz (by simp [hasB]; omega)).mono ?_
    rintro e w' ⟨er2, m2, rfl, M2, bl2, st2, r2⟩
    obtain ⟨rfl, rfl, rfl⟩ := st.det st2
    exact ⟨rfl, M0, bl2, st2, r2⟩
  have good : KGood M0 (gave K.gl t op to er m) := hg.step h.inv hto.1 q
  obtain ⟨i1, i2, i3, i4⟩ := st.inv h.inv ht
  have fin : ∀ {e : Ending} {w' : World}, (gave K.gl t op to er m = K.gl) → (e = .returned (.string (oneC er ++ m)) ∧ ∃ M' bl', StepS K.M t (bodyS op x o l r to d) er m M' ∧ KAt B0 w' rb { K with M := M', bl := bl' } ∧ KTo rb K { K with M := M', bl := bl' } w w') →
      ∃ (er : Int) (m : ByteArray) (K' : KRun), e = .returned (.string (oneC er ++ m)) ∧ KStep K t op x o l r to d er m K' ∧ KAt B0 w' rb K' ∧ KGood K'.M K'.gl ∧ KTo rb K K' w w' := by
    rintro e w' hgl ⟨rfl, M', bl', st2, k1, k2⟩
    obtain ⟨_, _, rfl⟩ := st.det st2
    refine ⟨er, m, { K with M := M0, bl := bl' }, rfl, ⟨q, hgl.symm, rfl, rfl, rfl, rfl, rfl, rfl, i2, i3, i4, rfl⟩, k1, ?_, k2⟩
    rw [hgl] at good
    exact good
  by_cases he : er = 0
  · subst he
    have push : ∀ (u : Nat), u < K.M.nt → (gave K.gl t op to 0 m = fun i => if i = u then K.gl i ++ [hOf m] else K.gl i) → m.size = 2 → ((op = 1 ∧ u = t) ∨ (op = 5 ∧ u = t) ∨ (op = 6 ∧ 3 < (bodyS op x o l r to d).size ∧ byt (bodyS op x o l r to d) 3 = (u : Int))) →
        Calls Try.prog 29 #[.pointer (some ⟨rb, 0, none⟩), .int .i64 t, .string (bodyS op x o l r to d)] w fun e w' =>
        ∃ (er : Int) (m : ByteArray) (K' : KRun), e = .returned (.string (oneC er ++ m)) ∧ KStep K t op x o l r to d er m K' ∧ KAt B0 w' rb K' ∧ KGood K'.M K'.gl ∧ KTo rb K K' w w' := by
      intro u hu hgl hm2 hcase
      refine (kask_given t u _ h ht m (oneC 0 ++ m) op hask (by rw [reply_size]; omega) (byt_one _ _ ⟨by decide, by decide⟩) sbz sb0 hcase hu (hg.small h.inv.ok hu)).mono ?_
      rintro e w' ⟨rfl, M', bl', v, st2, k1, k2⟩
      obtain ⟨_, _, rfl⟩ := st.det st2
      rw [hOf_reply hm2] at k1 k2
      refine ⟨0, m, KRun.pushG { K with M := M0, bl := bl' } u (hOf m) v, rfl, ⟨q, hgl.symm, rfl, rfl, rfl, rfl, rfl, rfl, i2, i3, i4, rfl⟩, k1, ?_, k2⟩
      rw [hgl] at good
      exact good
    by_cases h15 : op = 1 ∨ op = 5
    · obtain ⟨n, hn, hm⟩ := q.given h15
      refine push t ht (by unfold gave; rw [if_pos ⟨rfl, h15⟩]) (by rw [hm]; exact twoW_size _) ?_
      rcases h15 with rfl | rfl
      · exact Or.inl ⟨rfl, rfl⟩
      · exact Or.inr (Or.inl ⟨rfl, rfl⟩)
    · by_cases h6 : op = 6
      · subst h6
        obtain ⟨hlt, n, hn, hm⟩ := q.granted hto.1
        obtain ⟨c1, c2⟩ := body_byt3 hok
        exact push to.toNat hlt (by unfold gave; rw [if_neg (fun h => h15 h.2), if_pos ⟨rfl, rfl⟩]) (by rw [hm]; exact twoW_size _) (Or.inr (Or.inr ⟨rfl, c2, by rw [c1]; omega⟩))
      · refine (kask_plain t _ h ht m (oneC 0 ++ m) op hask (by rw [reply_size]; omega) (byt_one _ _ ⟨by decide, by decide⟩) sbz sb0 (fun e => h15 (Or.inl e)) (fun e => h15 (Or.inr e)) h6).mono ?_
        exact fun e w' hh => fin (by unfold gave; rw [if_neg (fun h => h15 h.2), if_neg (fun h => h6 h.2)]) hh
  · obtain ⟨hm, _⟩ := ez he
    refine (kask_err t _ h ht er m (oneC er ++ m) hask (by rw [reply_size, hm]; rfl) (byt_one _ _ ⟨e0, by omega⟩) he).mono ?_
    exact fun e w' hh => fin (by unfold gave; rw [if_neg (fun h => he h.1), if_neg (fun h => he h.1)]) hh

end Go.Proofs.Ytkjjamigaamllaa
