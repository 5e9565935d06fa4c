/-
  What the document's house answers, as plain functions; the common head.
-/
import Derived.Test.YtkjjamigaamllaaRefLeft
import Derived.Test.YtkjjamigaamllaaHousePut
namespace Go.Proofs.Ytkjjamigaamllaa
open Go.RowKit
set_option linter.unusedSimpArgs false

theorem heldN_some {R : RH} {t h : Int} {n : Nat} (hn : R.held t h = some n) : heldN R t h = (n : Int) ∧ n < R.nT := by
  refine ⟨by unfold heldN; rw [hn], ?_⟩
  rcases firstN_spec (fun i => (R.T i).tenant == t && (R.T i).handle == h && !(R.T i).dead) R.nT with ⟨h1, _⟩ | ⟨i, h1, h2, _⟩
  · rw [show R.held t h = none from h1] at hn; cases hn
  · rw [show R.held t h = some i from h1] at hn; injection hn with e; omega

/-- what a Read is answered, of a stretch of so many bytes from one on, with these rights -/
def readV (m z : Int) (bs : List Int) (f o l : Int) : Int × ByteArray :=
  if m % 2 = 0 then (5, nilS)
  else if 64 < l ∨ z < o + l then (6, nilS)
  else (0, strOfNums ((bs.drop (f + o).toNat).take l.toNat))
def RH.read (R : RH) (n : Nat) (o l : Int) : Int × ByteArray := readV (R.T n).rights (R.T n).size (R.O (R.T n).obj.toNat).bytes (R.T n).first o l
def writeE (m z o : Int) (d : Nat) : Int := if m / 2 % 2 = 0 then 5 else if z < o + (d : Int) then 6 else 0
def RObj.turn (x : RObj) (b : List Int) : RObj := { x with bytes := b }
def RH.turn (R : RH) (k : Nat) (b : List Int) : RH := { R with O := fun i => if i = k then (R.O k).turn b else R.O i }
def RH.writeE (R : RH) (n : Nat) (o : Int) (d : ByteArray) : Int := Go.Proofs.Ytkjjamigaamllaa.writeE (R.T n).rights (R.T n).size o d.size
def RH.write (R : RH) (n : Nat) (o : Int) (d : ByteArray) : RH :=
  if R.writeE n o d = 0 then R.turn (R.T n).obj.toNat (spl (R.O (R.T n).obj.toNat).bytes ((R.T n).first + o).toNat d d.size) else R

/-- Info -/
def RH.info (R : RH) (n : Nat) : ByteArray := twoW (R.T n).size ++ oneC (R.T n).rights

/-- may what has these rights be given on with those? -/
def shareB (m r : Int) : Bool := decide (m / 4 = 1) && decide (r ≤ 7) && decide (r % 2 ≤ m % 2) && decide (r / 2 % 2 ≤ m / 2 % 2)
def RH.shareE (R : RH) (n : Nat) (r : Int) : Bool := shareB (R.T n).rights r
/-- Derive -/
def RH.deriveE (R : RH) (t : Int) (n : Nat) (o l r : Int) : Int := if ¬ R.shareE n r = true then 5 else if (R.T n).size < o + l then 6 else R.laidE t
def RH.deriveS (R : RH) (t : Int) (n : Nat) (o l r : Int) : ByteArray := if ¬ R.shareE n r = true then ⟨#[]⟩ else if (R.T n).size < o + l then ⟨#[]⟩ else R.laidS t
def RH.derive (R : RH) (t : Int) (n : Nat) (o l r : Int) : RH := if ¬ R.shareE n r = true then R else if (R.T n).size < o + l then R else R.laid t (n : Int) (R.T n).obj ((R.T n).first + o) l r
/-- Grant -/
def RH.grantE (R : RH) (n : Nat) (to : Int) : Int := if ¬ (R.T n).rights / 4 = 1 then 5 else if (R.nt : Int) ≤ to then 3 else R.laidE to
def RH.grantS (R : RH) (n : Nat) (to : Int) : ByteArray := if ¬ (R.T n).rights / 4 = 1 then ⟨#[]⟩ else if (R.nt : Int) ≤ to then ⟨#[]⟩ else R.laidS to
def RH.grant (R : RH) (n : Nat) (to : Int) : RH := if ¬ (R.T n).rights / 4 = 1 then R else if (R.nt : Int) ≤ to then R else R.laid to (n : Int) (R.T n).obj (R.T n).first (R.T n).size (R.T n).rights
theorem laid_lt {R : RH} {t f o a l m : Int} {n : Nat} (h : n < R.nT) : n < (R.laid t f o a l m).nT := by
  unfold RH.laid
  split
  · exact Nat.lt_succ_of_lt h
  · exact h
theorem laid_old {R : RH} {t f o a l m : Int} {n : Nat} (h : n < R.nT) : (R.laid t f o a l m).T n = R.T n := by
  unfold RH.laid
  split
  · exact if_neg (by omega)
  · rfl

theorem RAt.turned {w w' : World} {g : Nat} {R : RH} {L : RL} {k : Nat} (bs : List Int) (h : RAt w g R L) (hk : k < R.nO) (hlen : bs.length = (R.O k).bytes.length)
    (hf : Frm (· = L.by_ k) w w') (hrow : w'.heap[L.by_ k]? = some (.cells (byteCells bs) 5 (0, 0))) : RAt w' g (R.turn k bs) L := by
  have hb := h.bAt k hk
  have other : ∀ (j : Nat) (cs : Array Value) (ty : TypeId), w.heap[j]? = some (.cells cs ty (0, 0)) → ty ≠ 5 → w'.heap[j]? = some (.cells cs ty (0, 0)) := fun j cs ty hj hne => by
    rw [hf.block j (lt_of_row hj) (fun e => ne_of_type hj hb hne e)]
    exact hj
  have sO : ∀ i, (R.turn k bs).O i = if i = k then (R.O k).turn bs else R.O i := fun i => rfl
  refine ⟨other _ _ _ h.row (by decide), ?_, ?_, fun j hj => ?_, fun j hj => ?_, fun j hj => other _ _ _ (h.tAt j hj) (by decide), h.oInj, h.bInj, h.tInj⟩
  · refine owns_frame h.os (fun i hi => ?_)
    obtain ⟨_, cur, hc⟩ := owns_lt h.os hi
    rw [other _ _ _ hc (by decide), hc]
  · refine owns_frame h.ts (fun i hi => ?_)
    obtain ⟨_, cur, hc⟩ := owns_lt h.ts hi
    rw [other _ _ _ hc (by decide), hc]
  · have e : ((R.turn k bs).O j).cells (L.by_ j) = (R.O j).cells (L.by_ j) := by
      rw [sO]
      by_cases e : j = k
      · rw [if_pos e, e]; simp [RObj.cells, RObj.turn, hlen]
      · rw [if_neg e]
    rw [e]
    exact other _ _ _ (h.oAt j hj) (by decide)
  · rw [sO]
    by_cases e : j = k
    · rw [if_pos e, e]; exact hrow
    · rw [if_neg e, hf.block _ (lt_of_row (h.bAt j hj)) (fun e2 => e (h.bInj j k hj hk e2))]
      exact h.bAt j hj

end Go.Proofs.Ytkjjamigaamllaa
