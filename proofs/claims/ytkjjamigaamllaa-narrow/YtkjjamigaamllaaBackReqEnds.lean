/-
  What tenurekeep.request returns: ends.
-/
import Derived.Test.YtkjjamigaamllaaBackReq
import Derived.OpenShut
namespace Go.Proofs.Ytkjjamigaamllaa
open Go.RowKit
set_option linter.unusedSimpArgs false

theorem req_end {op h o l r t n : Int} {d : ByteArray} (hn : n = ((bodyS op h o l r t d).size : Int)) :
    Ending.returned (.tuple #[.agg #[.int .i64 op, .int .i64 h, .int .i64 o, .int .i64 l, .int .i64 r, .int .i64 t, .string d], .int .i64 n]) =
      .returned (.tuple #[.agg #[.int .i64 op, .int .i64 h, .int .i64 o, .int .i64 l, .int .i64 r, .int .i64 t, .string d], .int .i64 ((bodyS op h o l r t d).size : Int)]) := by rw [hn]
theorem wd_of {n : Int} (h0 : 0 ≤ n) (h1 : n < 65536) : wd n = true := wd_iff.2 ⟨h0, by omega⟩
theorem bt_of {n : Int} (h0 : 0 ≤ n) (h1 : n < 256) : bt n = true := bt_iff.2 ⟨h0, by omega⟩
theorem ok_1 {vl : Int} (hvl : wd vl = true) : okB 1 0 0 vl 0 0 (ByteArray.size ⟨#[]⟩) = true := by simp [okB, zr, hvl]; rfl
theorem bs_1 (vl : Int) : 3 = ((bodyS 1 0 0 vl 0 0 ⟨#[]⟩).size : Int) := by simp [bodyS, oneS_size, twoS_size]
theorem ok_2 {vh : Int} (hvh : wd vh = true) : okB 2 vh 0 0 0 0 (ByteArray.size ⟨#[]⟩) = true := by simp [okB, zr, hvh]; rfl
theorem bs_2 (vh : Int) : 3 = ((bodyS 2 vh 0 0 0 0 ⟨#[]⟩).size : Int) := by simp [bodyS, oneS_size, twoS_size]
theorem ok_3 {vh vo vl : Int} (hvh : wd vh = true) (hvo : wd vo = true) (hvl : wd vl = true) : okB 3 vh vo vl 0 0 (ByteArray.size ⟨#[]⟩) = true := by simp [okB, zr, hvh, hvo, hvl]; rfl
theorem bs_3 (vh vo vl : Int) : 7 = ((bodyS 3 vh vo vl 0 0 ⟨#[]⟩).size : Int) := by simp [bodyS, oneS_size, twoS_size]
theorem ok_4 {vh vo : Int} {d : ByteArray} (hvh : wd vh = true) (hvo : wd vo = true) (hd : d.size ≤ 64) : okB 4 vh vo 0 0 0 d.size = true := by simp [okB, zr, hvh, hvo]; omega
theorem bs_4 (vh vo : Int) (d : ByteArray) : 5 + (d.size : Int) = ((bodyS 4 vh vo 0 0 0 d).size : Int) := by simp [bodyS, oneS_size, twoS_size]
theorem ok_5 {vh vo vl vr : Int} (hvh : wd vh = true) (hvo : wd vo = true) (hvl : wd vl = true) (hvr : bt vr = true) : okB 5 vh vo vl vr 0 (ByteArray.size ⟨#[]⟩) = true := by simp [okB, zr, hvh, hvo, hvl, hvr]; rfl
theorem bs_5 (vh vo vl vr : Int) : 8 = ((bodyS 5 vh vo vl vr 0 ⟨#[]⟩).size : Int) := by simp [bodyS, oneS_size, twoS_size]
theorem ok_6 {vh vt : Int} (hvh : wd vh = true) (hvt : bt vt = true) : okB 6 vh 0 0 0 vt (ByteArray.size ⟨#[]⟩) = true := by simp [okB, zr, hvh, hvt]; rfl
theorem bs_6 (vh vt : Int) : 4 = ((bodyS 6 vh 0 0 0 vt ⟨#[]⟩).size : Int) := by simp [bodyS, oneS_size, twoS_size]
theorem ok_7 {vh : Int} (hvh : wd vh = true) : okB 7 vh 0 0 0 0 (ByteArray.size ⟨#[]⟩) = true := by simp [okB, zr, hvh]; rfl
theorem bs_7 (vh : Int) : 3 = ((bodyS 7 vh 0 0 0 0 ⟨#[]⟩).size : Int) := by simp [bodyS, oneS_size, twoS_size]
theorem ok_8 {vh : Int} (hvh : wd vh = true) : okB 8 vh 0 0 0 0 (ByteArray.size ⟨#[]⟩) = true := by simp [okB, zr, hvh]; rfl
theorem bs_8 (vh : Int) : 3 = ((bodyS 8 vh 0 0 0 0 ⟨#[]⟩).size : Int) := by simp [bodyS, oneS_size, twoS_size]
theorem ok_9 {vh : Int} (hvh : wd vh = true) : okB 9 vh 0 0 0 0 (ByteArray.size ⟨#[]⟩) = true := by simp [okB, zr, hvh]; rfl
theorem bs_9 (vh : Int) : 3 = ((bodyS 9 vh 0 0 0 0 ⟨#[]⟩).size : Int) := by simp [bodyS, oneS_size, twoS_size]

end Go.Proofs.Ytkjjamigaamllaa
