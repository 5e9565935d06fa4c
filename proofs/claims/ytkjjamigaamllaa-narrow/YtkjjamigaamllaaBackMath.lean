/-
  What is written comes back: plain mathematics.
-/
import Derived.Test.YtkjjamigaamllaaDecAgree
namespace Go.Proofs.Ytkjjamigaamllaa
open Go.RowKit
set_option linter.unusedSimpArgs false

theorem byt_str (xs : List Int) (d : ByteArray) (i : Nat) (hi : i < xs.length) (h0 : 0 ≤ xs[i]) (h1 : xs[i] ≤ 255) : byt (strOfNums xs ++ d) i = xs[i] := by
  have hz : i < (strOfNums xs ++ d).size := by rw [ByteArray.size_append, strOfNums_size]; omega
  rw [← byt_in hz]
  have e : (strOfNums xs ++ d)[i] = UInt8.ofNat (xs[i]).toNat := by
    show (strOfNums xs ++ d).data[i] = _
    simp only [ByteArray.data_append]
    rw [Array.getElem_append_left (by simp [strOfNums]; omega)]
    simp [strOfNums]
  rw [e]
  have : (UInt8.ofNat (xs[i]).toNat).toNat = (xs[i]).toNat := by
    simp only [UInt8.toNat_ofNat']
    omega
  omega

theorem num2_str (xs : List Int) (d : ByteArray) (i : Nat) (n : Int) (hi : i + 1 < xs.length) (e0 : xs[i] = n / 256) (e1 : xs[i + 1] = n % 256) (hn : wd n = true) : num (strOfNums xs ++ d) i 2 = n := by
  rw [wd_iff] at hn
  simp only [num]
  have a := byt_str xs d i (by omega) (by rw [e0]; omega) (by rw [e0]; omega)
  have b := byt_str xs d (i + 1) hi (by rw [e1]; omega) (by rw [e1]; omega)
  rw [show i + 0 = i from rfl, a, b, e0, e1]
  omega

theorem oneS_str (n : Int) : oneS n = strOfNums [n] := rfl
theorem twoS_str (n : Int) : twoS n = strOfNums [n / 256, n % 256] := rfl
theorem strOf_none (xs : List Int) : strOfNums xs = strOfNums xs ++ ByteArray.empty := by simp [ByteArray.append_empty]
theorem empty_eq : (⟨#[]⟩ : ByteArray) = ByteArray.empty := rfl
theorem extract_app (xs : List Int) (d : ByteArray) : (strOfNums xs ++ d).extract xs.length (strOfNums xs ++ d).size = d := by
  have hs : (strOfNums xs ++ d).size = xs.length + d.size := by rw [ByteArray.size_append, strOfNums_size]
  have hd : d.data.toList.length = d.size := by rw [Array.length_toList]; rfl
  rw [hs]
  apply ByteArray.ext
  apply Array.ext'
  simp [strOfNums]
  rw [List.drop_eq_nil_of_le (by simp)]
  simp only [List.take_nil, List.nil_append]
  exact List.take_of_length_le (by omega)
theorem dzero {d : ByteArray} (h : d.size = 0) : d = ⟨#[]⟩ := by
  have h2 : d.data.size = 0 := h
  exact ByteArray.ext (Array.eq_empty_of_size_eq_zero h2)
theorem num1_str (xs : List Int) (d : ByteArray) (i : Nat) (n : Int) (hi : i < xs.length) (e0 : xs[i] = n) (hn : bt n = true) : num (strOfNums xs ++ d) i 1 = n := by
  rw [bt_iff] at hn
  simp only [num]
  have a := byt_str xs d i hi (by rw [e0]; omega) (by rw [e0]; omega)
  rw [show i + 0 = i from rfl, a, e0]
  omega

/-- the numbers ahead of the data -/
def nums (op h o l r t : Int) : List Int :=
  if op = 1 then [op, l / 256, l % 256]
  else if op = 3 then [op, h / 256, h % 256, o / 256, o % 256, l / 256, l % 256]
  else if op = 4 then [op, h / 256, h % 256, o / 256, o % 256]
  else if op = 5 then [op, h / 256, h % 256, o / 256, o % 256, l / 256, l % 256, r]
  else if op = 6 then [op, h / 256, h % 256, t]
  else [op, h / 256, h % 256]

theorem ok_known {op h o l r t : Int} {n : Nat} (hok : okB op h o l r t n = true) : knw op = true := by
  cases hk : knw op with
  | true => rfl
  | false => rw [ok_unknown h o l r t n hk] at hok; cases hok

theorem body_nums {op h o l r t : Int} {d : ByteArray} (hok : okB op h o l r t d.size = true) : bodyS op h o l r t d = strOfNums (nums op h o l r t) ++ d := by
  rcases knw_cases (ok_known hok) with rfl | rfl | rfl | rfl | rfl | rfl | rfl | rfl | rfl <;> simp [okB] at hok <;>
    simp [bodyS, nums, oneS_str, twoS_str, strOf_append, hok]

theorem nums_len {op h o l r t : Int} {n : Nat} (hok : okB op h o l r t n = true) : ((nums op h o l r t).length : Int) = dAt op := by
  rcases knw_cases (ok_known hok) with rfl | rfl | rfl | rfl | rfl | rfl | rfl | rfl | rfl <;> rfl

theorem byt0_body {op h o l r t : Int} (d : ByteArray) {n : Nat} (hok : okB op h o l r t n = true) : byt (strOfNums (nums op h o l r t) ++ d) 0 = op := by
  rcases knw_cases (ok_known hok) with rfl | rfl | rfl | rfl | rfl | rfl | rfl | rfl | rfl <;>
    exact byt_str _ d 0 (by simp [nums]) (by simp [nums]) (by simp [nums])

theorem data_le {op h o l r t : Int} {n : Nat} (hok : okB op h o l r t n = true) : (n : Int) ≤ shD op := by
  rcases knw_cases (ok_known hok) with rfl | rfl | rfl | rfl | rfl | rfl | rfl | rfl | rfl <;> simp [okB] at hok <;> simp [shD] <;> omega

theorem isReq_body {op h o l r t : Int} {d : ByteArray} (hok : okB op h o l r t d.size = true) : isReq (strOfNums (nums op h o l r t) ++ d) = true := by
  have hl := nums_len hok
  have hb0 := byt0_body d hok
  have hd := data_le hok
  have hk := ok_known hok
  have hsz : (strOfNums (nums op h o l r t) ++ d).size = (nums op h o l r t).length + d.size := by rw [ByteArray.size_append, strOfNums_size]
  have hpos : 0 < dAt op := by rcases knw_cases hk with rfl | rfl | rfl | rfl | rfl | rfl | rfl | rfl | rfl <;> decide
  simp only [isReq, hb0, hk, hsz, Bool.and_eq_true, decide_eq_true_eq]
  refine ⟨⟨⟨?_, trivial⟩, ?_⟩, ?_⟩ <;> omega

theorem dec_body_1 {h o l r t : Int} {d : ByteArray} (hok : okB 1 h o l r t d.size = true) : decV (strOfNums (nums 1 h o l r t) ++ d) = yesV 1 h o l r t d := by
  have hb0 := byt0_body d hok
  have hq := isReq_body hok
  simp only [okB] at hok
  simp at hok
  obtain ⟨⟨⟨⟨⟨k1, k2⟩, k3⟩, k4⟩, k5⟩, _⟩ := hok
  exact decV_yes hq hb0 (zr_iff.1 k1).symm (zr_iff.1 k2).symm (num2_str (nums 1 h o l r t) d 1 l (by simp [nums]) (by simp [nums]) (by simp [nums]) k3) (zr_iff.1 k4).symm (zr_iff.1 k5).symm (extract_app (nums 1 h o l r t) d)

theorem dec_body_2 {h o l r t : Int} {d : ByteArray} (hok : okB 2 h o l r t d.size = true) : decV (strOfNums (nums 2 h o l r t) ++ d) = yesV 2 h o l r t d := by
  have hb0 := byt0_body d hok
  have hq := isReq_body hok
  simp only [okB] at hok
  simp at hok
  obtain ⟨⟨⟨⟨⟨k1, k2⟩, k3⟩, k4⟩, k5⟩, _⟩ := hok
  exact decV_yes hq hb0 (num2_str (nums 2 h o l r t) d 1 h (by simp [nums]) (by simp [nums]) (by simp [nums]) k1) (zr_iff.1 k2).symm (zr_iff.1 k3).symm (zr_iff.1 k4).symm (zr_iff.1 k5).symm (extract_app (nums 2 h o l r t) d)

theorem dec_body_3 {h o l r t : Int} {d : ByteArray} (hok : okB 3 h o l r t d.size = true) : decV (strOfNums (nums 3 h o l r t) ++ d) = yesV 3 h o l r t d := by
  have hb0 := byt0_body d hok
  have hq := isReq_body hok
  simp only [okB] at hok
  simp at hok
  obtain ⟨⟨⟨⟨⟨k1, k2⟩, k3⟩, k4⟩, k5⟩, _⟩ := hok
  exact decV_yes hq hb0 (num2_str (nums 3 h o l r t) d 1 h (by simp [nums]) (by simp [nums]) (by simp [nums]) k1) (num2_str (nums 3 h o l r t) d 3 o (by simp [nums]) (by simp [nums]) (by simp [nums]) k2) (num2_str (nums 3 h o l r t) d 5 l (by simp [nums]) (by simp [nums]) (by simp [nums]) k3) (zr_iff.1 k4).symm (zr_iff.1 k5).symm (extract_app (nums 3 h o l r t) d)

theorem dec_body_4 {h o l r t : Int} {d : ByteArray} (hok : okB 4 h o l r t d.size = true) : decV (strOfNums (nums 4 h o l r t) ++ d) = yesV 4 h o l r t d := by
  have hb0 := byt0_body d hok
  have hq := isReq_body hok
  simp only [okB] at hok
  simp at hok
  obtain ⟨⟨⟨⟨⟨k1, k2⟩, k3⟩, k4⟩, k5⟩, _⟩ := hok
  exact decV_yes hq hb0 (num2_str (nums 4 h o l r t) d 1 h (by simp [nums]) (by simp [nums]) (by simp [nums]) k1) (num2_str (nums 4 h o l r t) d 3 o (by simp [nums]) (by simp [nums]) (by simp [nums]) k2) (zr_iff.1 k3).symm (zr_iff.1 k4).symm (zr_iff.1 k5).symm (extract_app (nums 4 h o l r t) d)

theorem dec_body_5 {h o l r t : Int} {d : ByteArray} (hok : okB 5 h o l r t d.size = true) : decV (strOfNums (nums 5 h o l r t) ++ d) = yesV 5 h o l r t d := by
  have hb0 := byt0_body d hok
  have hq := isReq_body hok
  simp only [okB] at hok
  simp at hok
  obtain ⟨⟨⟨⟨⟨k1, k2⟩, k3⟩, k4⟩, k5⟩, _⟩ := hok
  exact decV_yes hq hb0 (num2_str (nums 5 h o l r t) d 1 h (by simp [nums]) (by simp [nums]) (by simp [nums]) k1) (num2_str (nums 5 h o l r t) d 3 o (by simp [nums]) (by simp [nums]) (by simp [nums]) k2) (num2_str (nums 5 h o l r t) d 5 l (by simp [nums]) (by simp [nums]) (by simp [nums]) k3) (num1_str (nums 5 h o l r t) d 7 r (by simp [nums]) (by simp [nums]) k4) (zr_iff.1 k5).symm (extract_app (nums 5 h o l r t) d)

theorem dec_body_6 {h o l r t : Int} {d : ByteArray} (hok : okB 6 h o l r t d.size = true) : decV (strOfNums (nums 6 h o l r t) ++ d) = yesV 6 h o l r t d := by
  have hb0 := byt0_body d hok
  have hq := isReq_body hok
  simp only [okB] at hok
  simp at hok
  obtain ⟨⟨⟨⟨⟨k1, k2⟩, k3⟩, k4⟩, k5⟩, _⟩ := hok
  exact decV_yes hq hb0 (num2_str (nums 6 h o l r t) d 1 h (by simp [nums]) (by simp [nums]) (by simp [nums]) k1) (zr_iff.1 k2).symm (zr_iff.1 k3).symm (zr_iff.1 k4).symm (num1_str (nums 6 h o l r t) d 3 t (by simp [nums]) (by simp [nums]) k5) (extract_app (nums 6 h o l r t) d)

theorem dec_body_7 {h o l r t : Int} {d : ByteArray} (hok : okB 7 h o l r t d.size = true) : decV (strOfNums (nums 7 h o l r t) ++ d) = yesV 7 h o l r t d := by
  have hb0 := byt0_body d hok
  have hq := isReq_body hok
  simp only [okB] at hok
  simp at hok
  obtain ⟨⟨⟨⟨⟨k1, k2⟩, k3⟩, k4⟩, k5⟩, _⟩ := hok
  exact decV_yes hq hb0 (num2_str (nums 7 h o l r t) d 1 h (by simp [nums]) (by simp [nums]) (by simp [nums]) k1) (zr_iff.1 k2).symm (zr_iff.1 k3).symm (zr_iff.1 k4).symm (zr_iff.1 k5).symm (extract_app (nums 7 h o l r t) d)

theorem dec_body_8 {h o l r t : Int} {d : ByteArray} (hok : okB 8 h o l r t d.size = true) : decV (strOfNums (nums 8 h o l r t) ++ d) = yesV 8 h o l r t d := by
  have hb0 := byt0_body d hok
  have hq := isReq_body hok
  simp only [okB] at hok
  simp at hok
  obtain ⟨⟨⟨⟨⟨k1, k2⟩, k3⟩, k4⟩, k5⟩, _⟩ := hok
  exact decV_yes hq hb0 (num2_str (nums 8 h o l r t) d 1 h (by simp [nums]) (by simp [nums]) (by simp [nums]) k1) (zr_iff.1 k2).symm (zr_iff.1 k3).symm (zr_iff.1 k4).symm (zr_iff.1 k5).symm (extract_app (nums 8 h o l r t) d)

theorem dec_body_9 {h o l r t : Int} {d : ByteArray} (hok : okB 9 h o l r t d.size = true) : decV (strOfNums (nums 9 h o l r t) ++ d) = yesV 9 h o l r t d := by
  have hb0 := byt0_body d hok
  have hq := isReq_body hok
  simp only [okB] at hok
  simp at hok
  obtain ⟨⟨⟨⟨⟨k1, k2⟩, k3⟩, k4⟩, k5⟩, _⟩ := hok
  exact decV_yes hq hb0 (num2_str (nums 9 h o l r t) d 1 h (by simp [nums]) (by simp [nums]) (by simp [nums]) k1) (zr_iff.1 k2).symm (zr_iff.1 k3).symm (zr_iff.1 k4).symm (zr_iff.1 k5).symm (extract_app (nums 9 h o l r t) d)

/-- what is written is read -/
theorem dec_body {op h o l r t : Int} {d : ByteArray} (hok : okB op h o l r t d.size = true) : decV (bodyS op h o l r t d) = yesV op h o l r t d := by
  rw [body_nums hok]
  rcases knw_cases (ok_known hok) with rfl | rfl | rfl | rfl | rfl | rfl | rfl | rfl | rfl
  · exact dec_body_1 hok
  · exact dec_body_2 hok
  · exact dec_body_3 hok
  · exact dec_body_4 hok
  · exact dec_body_5 hok
  · exact dec_body_6 hok
  · exact dec_body_7 hok
  · exact dec_body_8 hok
  · exact dec_body_9 hok

theorem size_body {op h o l r t : Int} {d : ByteArray} (hok : okB op h o l r t d.size = true) : ((bodyS op h o l r t d).size : Int) = dAt op + d.size := by
  rw [body_nums hok, ByteArray.size_append, strOfNums_size, ← nums_len hok]; omega

theorem byt_cut {s : ByteArray} {n : Nat} (h : 0 < n) (hs : n ≤ s.size) : byt (s.extract 0 n) 0 = byt s 0 := by
  have h1 : 0 < (s.extract 0 n).size := by simp; omega
  have h2 : 0 < s.size := by omega
  rw [← byt_in h1, ← byt_in h2]
  simp [ByteArray.getElem_extract]

/-- without the last byte: none, where no data are there -/
theorem dec_cut {op h o l r t : Int} {d : ByteArray} (hok : okB op h o l r t d.size = true) (hd : d.size = 0) : decV ((bodyS op h o l r t d).extract 0 ((bodyS op h o l r t d).size - 1)) = noV := by
  have hsz := size_body hok
  have hpos : 3 ≤ dAt op := by rcases knw_cases (ok_known hok) with rfl | rfl | rfl | rfl | rfl | rfl | rfl | rfl | rfl <;> decide
  have hb := byt_cut (s := bodyS op h o l r t d) (n := (bodyS op h o l r t d).size - 1) (by omega) (by omega)
  rw [show byt (bodyS op h o l r t d) 0 = op from by rw [body_nums hok]; exact byt0_body d hok] at hb
  apply decV_no
  have hz : ((bodyS op h o l r t d).extract 0 ((bodyS op h o l r t d).size - 1)).size = (bodyS op h o l r t d).size - 1 := by simp
  simp only [isReq, hb, hz]
  have hf : decide (dAt op ≤ (((bodyS op h o l r t d).size - 1 : Nat) : Int)) = false := by simp; omega
  rw [hf]
  simp

/-- without the last byte: the data without their last, where some are there -/
theorem dec_cut4 {h o l r t : Int} {d : ByteArray} (hok : okB 4 h o l r t d.size = true) (hd : 0 < d.size) :
    decV ((bodyS 4 h o l r t d).extract 0 ((bodyS 4 h o l r t d).size - 1)) = yesV 4 h o l r t (d.extract 0 (d.size - 1)) := by
  have hok2 : okB 4 h o l r t (d.extract 0 (d.size - 1)).size = true := by simp [okB] at hok ⊢; exact ⟨hok.1, by omega⟩
  rw [← dec_body hok2, body_nums hok, body_nums hok2]
  congr 1
  have hs : (strOfNums (nums 4 h o l r t) ++ d).size = 5 + d.size := by rw [ByteArray.size_append, strOfNums_size]; rfl
  rw [hs]
  apply ByteArray.ext
  apply Array.ext'
  simp [strOfNums, nums]
  have hne : d.data.toList ≠ [] := by
    intro hc
    have h1 : d.data.toList.length = 0 := by rw [hc]; rfl
    rw [Array.length_toList] at h1
    have h2 : d.size = d.data.size := rfl
    omega
  exact List.dropLast_cons_of_ne_nil hne

end Go.Proofs.Ytkjjamigaamllaa
