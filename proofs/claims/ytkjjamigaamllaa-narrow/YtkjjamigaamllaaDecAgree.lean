/-
  wire.Decode and tenureref.Decode give one value for every string.
-/
import Derived.Test.YtkjjamigaamllaaDecMath
import Derived.Test.YtkjjamigaamllaaWireDecGood
import Derived.Test.YtkjjamigaamllaaRefDecOther
namespace Go.Proofs.Ytkjjamigaamllaa
open Go.RowKit

/-- no request -/
def noV : Value := .tuple #[.agg #[.int .i64 0, .int .i64 0, .int .i64 0, .int .i64 0, .int .i64 0, .int .i64 0, .string ⟨#[]⟩], .int .i64 1]
/-- the request that the bytes are -/
def yesV (op h o l r t : Int) (d : ByteArray) : Value := .tuple #[.agg #[.int .i64 op, .int .i64 h, .int .i64 o, .int .i64 l, .int .i64 r, .int .i64 t, .string d], .int .i64 0]

/-- are the bytes a request? -/
def isReq (s : ByteArray) : Bool :=
  decide (0 < s.size) && knw (byt s 0) && decide (dAt (byt s 0) ≤ (s.size : Int)) && decide ((s.size : Int) ≤ dAt (byt s 0) + shD (byt s 0))
/-- what is read -/
def decV (s : ByteArray) : Value :=
  if isReq s = true then yesV (byt s 0) (num s 1 (shH (byt s 0)).toNat) (num s (1 + shH (byt s 0)).toNat (shO (byt s 0)).toNat) (num s (1 + shH (byt s 0) + shO (byt s 0)).toNat (shL (byt s 0)).toNat)
    (num s (1 + shH (byt s 0) + shO (byt s 0) + shL (byt s 0)).toNat (shR (byt s 0)).toNat) (num s (1 + shH (byt s 0) + shO (byt s 0) + shL (byt s 0) + shR (byt s 0)).toNat (shT (byt s 0)).toNat) (s.extract (dAt (byt s 0)).toNat s.size)
  else noV

theorem dec_any (s : ByteArray) (w : World) (hs : s.size ≤ 140737488355328) :
    Calls Try.prog 17 #[.string s] w fun e w' => e = .returned (decV s) ∧ Below w.heap.size w w' := by
  by_cases h0 : 0 < s.size
  · have hop : wrap64 (s[0].toNat : Int) = byt s 0 := (wrap_byte _).trans (byt_in h0)
    cases hk : knw (byt s 0) with
    | false =>
      have e : decV s = noV := by unfold decV; rw [if_neg (by simp [isReq, hk])]
      rw [e]
      exact dec_unknown s w hs h0 _ hop hk
    | true =>
      by_cases hl1 : dAt (byt s 0) ≤ (s.size : Int)
      · by_cases hl2 : (s.size : Int) ≤ dAt (byt s 0) + shD (byt s 0)
        · have e : isReq s = true := by simp [isReq, hk, h0, hl1, hl2]
          unfold decV
          rw [if_pos e]
          exact dec_good s w hs h0 _ hop hk hl1 hl2
        · have e : decV s = noV := by unfold decV; rw [if_neg (by simp [isReq, hl2])]
          rw [e]
          exact dec_long s w hs h0 _ hop hk (by unfold dAt at hl2; omega)
      · have e : decV s = noV := by unfold decV; rw [if_neg (by simp [isReq, hl1])]
        rw [e]
        exact dec_short s w hs h0 _ hop hk (by unfold dAt at hl1; omega)
  · have e : decV s = noV := by unfold decV; rw [if_neg (by simp [isReq, h0])]
    rw [e]
    exact dec_empty s w hs (by omega)

theorem decV_yes {s : ByteArray} {op h o l r t : Int} {d : ByteArray} (hq : isReq s = true) (e0 : byt s 0 = op) (e1 : num s 1 (shH op).toNat = h) (e2 : num s (1 + shH op).toNat (shO op).toNat = o) (e3 : num s (1 + shH op + shO op).toNat (shL op).toNat = l)
    (e4 : num s (1 + shH op + shO op + shL op).toNat (shR op).toNat = r) (e5 : num s (1 + shH op + shO op + shL op + shR op).toNat (shT op).toNat = t) (e6 : s.extract (dAt op).toNat s.size = d) : decV s = yesV op h o l r t d := by
  unfold decV
  rw [if_pos hq, e0, e1, e2, e3, e4, e5, e6]
theorem decV_no {s : ByteArray} (hq : isReq s = false) : decV s = noV := by unfold decV; rw [hq]; rfl

theorem extract_end (s : ByteArray) (n : Nat) (h : s.size = n) : s.extract n s.size = ⟨#[]⟩ := by
  apply ByteArray.ext
  apply Array.ext'
  simp [← h]

theorem agree_other (s : ByteArray) (op : Int) (hop : byt s 0 = op) (h1 : ¬ op = 1) (h3 : ¬ op = 3) (h4 : ¬ op = 4) (h5 : ¬ op = 5) (h6 : ¬ op = 6) :
    rdV s op (atN s 1) 0 0 0 0 ⟨#[]⟩ = decV s := by
  by_cases hk : op = 2 ∨ op = 7 ∨ op = 8 ∨ op = 9
  · have hd : dAt op = 3 := by rcases hk with rfl | rfl | rfl | rfl <;> decide
    have hdd : shD op = 0 := by rcases hk with rfl | rfl | rfl | rfl <;> decide
    have hkn : knw op = true := by rcases hk with rfl | rfl | rfl | rfl <;> decide
    have hb : bodyS op (atN s 1) 0 0 0 0 ⟨#[]⟩ = oneS op ++ twoS (atN s 1) := by unfold bodyS; rw [if_neg h1, if_neg h3, if_neg h4, if_neg h5, if_neg h6]
    by_cases hz : s.size = 3
    · rw [rdV_pos (by unfold okB; rw [if_neg h1, if_pos hk, at_wd]; rfl) (by rw [hb, at_num (by omega), ← hop]; exact body2 s hz)]
      have hq : isReq s = true := by simp [isReq, hop, hd, hdd, hkn, hz]
      rw [decV_yes (op := op) (h := atN s 1) (o := 0) (l := 0) (r := 0) (t := 0) (d := ⟨#[]⟩) hq hop
        (by rcases hk with rfl | rfl | rfl | rfl <;> exact (at_num (by omega)).symm) (by rcases hk with rfl | rfl | rfl | rfl <;> rfl) (by rcases hk with rfl | rfl | rfl | rfl <;> rfl)
        (by rcases hk with rfl | rfl | rfl | rfl <;> rfl) (by rcases hk with rfl | rfl | rfl | rfl <;> rfl) (by rw [hd]; exact extract_end s 3 hz)]
      rfl
    · rw [rdV_neg (fun _ hc => hz (by rw [← hc, hb, ByteArray.size_append, oneS_size, twoS_size]))]
      rw [decV_no (by simp [isReq, hop, hd, hdd]; intros; omega)]
      rfl
  · have hkn : knw op = false := by simp [knw]; omega
    rw [rdV_neg (fun hc => by rw [ok_unknown _ _ _ _ _ _ hkn] at hc; cases hc), decV_no (by simp [isReq, hop, hkn])]
    rfl

theorem agree_1 (s : ByteArray) (hop : byt s 0 = 1) : rdV s 1 0 0 (atN s 1) 0 0 ⟨#[]⟩ = decV s := by
  by_cases hz : s.size = 3
  · rw [rdV_pos (by unfold okB; rw [if_pos rfl, at_wd]; rfl) (by show oneS 1 ++ twoS (atN s 1) = s; rw [at_num (by omega), ← hop]; exact body2 s hz)]
    have hq : isReq s = true := by simp [isReq, hop, hz]; decide
    rw [decV_yes (op := 1) (h := 0) (o := 0) (l := atN s 1) (r := 0) (t := 0) (d := ⟨#[]⟩) hq hop rfl rfl (at_num (a := 1) (by omega)).symm rfl rfl (extract_end s 3 hz)]
    rfl
  · rw [rdV_neg (fun _ hc => hz (by rw [← hc]; show (oneS 1 ++ twoS (atN s 1)).size = 3; rw [ByteArray.size_append, oneS_size, twoS_size]))]
    rw [decV_no (by simp [isReq, hop, dAt, shH, shO, shL, shR, shT, shD]; intros; omega)]
    rfl

theorem agree_3 (s : ByteArray) (hop : byt s 0 = 3) : rdV s 3 (atN s 1) (atN s 3) (atN s 5) 0 0 ⟨#[]⟩ = decV s := by
  by_cases hz : s.size = 7
  · rw [rdV_pos (by unfold okB; rw [at_wd, at_wd, at_wd]; rfl) (by show oneS 3 ++ twoS (atN s 1) ++ twoS (atN s 3) ++ twoS (atN s 5) = s; rw [at_num (by omega), at_num (by omega), at_num (by omega), ← hop]; exact body3 s hz)]
    have hq : isReq s = true := by simp [isReq, hop, hz]; decide
    rw [decV_yes (op := 3) (h := atN s 1) (o := atN s 3) (l := atN s 5) (r := 0) (t := 0) (d := ⟨#[]⟩) hq hop (at_num (a := 1) (by omega)).symm (at_num (a := 3) (by omega)).symm (at_num (a := 5) (by omega)).symm rfl rfl (extract_end s 7 hz)]
    rfl
  · rw [rdV_neg (fun _ hc => hz (by rw [← hc]; show (oneS 3 ++ twoS (atN s 1) ++ twoS (atN s 3) ++ twoS (atN s 5)).size = 7; simp only [ByteArray.size_append, oneS_size, twoS_size]))]
    rw [decV_no (by simp [isReq, hop, dAt, shH, shO, shL, shR, shT, shD]; intros; omega)]
    rfl

theorem agree_5 (s : ByteArray) (hop : byt s 0 = 5) : rdV s 5 (atN s 1) (atN s 3) (atN s 5) (byt s 7) 0 ⟨#[]⟩ = decV s := by
  by_cases hz : s.size = 8
  · rw [rdV_pos (by unfold okB; rw [at_wd, at_wd, at_wd, byt_bt]; rfl) (by show oneS 5 ++ twoS (atN s 1) ++ twoS (atN s 3) ++ twoS (atN s 5) ++ oneS (byt s 7) = s; rw [at_num (by omega), at_num (by omega), at_num (by omega), ← hop]; exact body5 s hz)]
    have hq : isReq s = true := by simp [isReq, hop, hz]; decide
    rw [decV_yes (op := 5) (h := atN s 1) (o := atN s 3) (l := atN s 5) (r := byt s 7) (t := 0) (d := ⟨#[]⟩) hq hop (at_num (a := 1) (by omega)).symm (at_num (a := 3) (by omega)).symm (at_num (a := 5) (by omega)).symm (by show num s 7 1 = _; simp [num]) rfl (extract_end s 8 hz)]
    rfl
  · rw [rdV_neg (fun _ hc => hz (by rw [← hc]; show (oneS 5 ++ twoS (atN s 1) ++ twoS (atN s 3) ++ twoS (atN s 5) ++ oneS (byt s 7)).size = 8; simp only [ByteArray.size_append, oneS_size, twoS_size]))]
    rw [decV_no (by simp [isReq, hop, dAt, shH, shO, shL, shR, shT, shD]; intros; omega)]
    rfl

theorem agree_6 (s : ByteArray) (hop : byt s 0 = 6) : rdV s 6 (atN s 1) 0 0 0 (byt s 3) ⟨#[]⟩ = decV s := by
  by_cases hz : s.size = 4
  · rw [rdV_pos (by unfold okB; rw [at_wd, byt_bt]; rfl) (by show oneS 6 ++ twoS (atN s 1) ++ oneS (byt s 3) = s; rw [at_num (by omega), ← hop]; exact body6 s hz)]
    have hq : isReq s = true := by simp [isReq, hop, hz]; decide
    rw [decV_yes (op := 6) (h := atN s 1) (o := 0) (l := 0) (r := 0) (t := byt s 3) (d := ⟨#[]⟩) hq hop (at_num (by omega)).symm rfl rfl rfl (by show num s 3 1 = _; simp [num]) (extract_end s 4 hz)]
    rfl
  · rw [rdV_neg (fun _ hc => hz (by rw [← hc]; show (oneS 6 ++ twoS (atN s 1) ++ oneS (byt s 3)).size = 4; simp only [ByteArray.size_append, oneS_size, twoS_size]))]
    rw [decV_no (by simp [isReq, hop, dAt, shH, shO, shL, shR, shT, shD]; intros; omega)]
    rfl

theorem agree_4 (s d : ByteArray) (hop : byt s 0 = 4) (hd : d = s.extract 5 s.size) : rdV s 4 (atN s 1) (atN s 3) 0 0 0 d = decV s := by
  subst hd
  have hsz : (s.extract 5 s.size).size = s.size - 5 := by simp
  by_cases hz : 5 ≤ s.size ∧ s.size ≤ 69
  · rw [rdV_pos (by unfold okB; rw [at_wd, at_wd, hsz]; simp [zr]; omega) (by show oneS 4 ++ twoS (atN s 1) ++ twoS (atN s 3) ++ s.extract 5 s.size = s; rw [at_num (by omega), at_num (by omega), ← hop]; exact body4 s hz.1)]
    have hq : isReq s = true := by simp [isReq, hop, knw, dAt, shH, shO, shL, shR, shT, shD]; omega
    rw [decV_yes (op := 4) (h := atN s 1) (o := atN s 3) (l := 0) (r := 0) (t := 0) (d := s.extract 5 s.size) hq hop (at_num (a := 1) (by omega)).symm (at_num (a := 3) (by omega)).symm rfl rfl rfl rfl]
    rfl
  · rw [rdV_neg (fun hok hc => hz (by
      have h1 : s.size - 5 ≤ 64 := by rw [hsz] at hok; unfold okB at hok; simp [zr] at hok; omega
      have h2 : (oneS 4 ++ twoS (atN s 1) ++ twoS (atN s 3) ++ s.extract 5 s.size).size = s.size := congrArg ByteArray.size hc
      simp only [ByteArray.size_append, oneS_size, twoS_size, hsz] at h2
      omega))]
    rw [decV_no (by simp [isReq, hop, knw, dAt, shH, shO, shL, shR, shT, shD]; intros; omega)]
    rfl

end Go.Proofs.Ytkjjamigaamllaa
