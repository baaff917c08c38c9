
/- Walk of value.Set. -/
import Derived.Test.YtmhgmlnnipdomaaSetMath

import Derived.Test.YtmhgmlnnipdomaaSortRow

import Derived.Test.YtmhgmlnnipdomaaCopy

namespace Go.Proofs.Ytmhgmlnnipdomaa

open Go.RowKit Go.Deep

/-- A slice value reads as a list of rows, in blocks below B. -/
def RowsB (B : Nat) (w : World) (v : Value) (xs : List E) : Prop :=
  ∃ (a : Option Addr) (c : Nat), v = .slice a xs.length c ∧ xs.length ≤ 4398046511104 ∧ (∀ x ∈ xs, RowB B w x.1 x.2) ∧
    ∀ j (h : j < xs.length), ∃ b off, a = some ⟨b, off, none⟩ ∧ b < B ∧ w.cell? ⟨b, off + j, none⟩ = some xs[j].1
theorem RowsB.below {B B' : Nat} {w w' : World} {v : Value} {xs : List E} (hr : RowsB B w v xs) (h : Below B' w w') (hB : B ≤ B') : RowsB B w' v xs := by
  obtain ⟨a, c, e, hn, hx, hi⟩ := hr
  refine ⟨a, c, e, hn, fun x m => (hx x m).below h hB, fun j hj => ?_⟩
  obtain ⟨b, off, ea, hb, hc⟩ := hi j hj
  exact ⟨b, off, ea, hb, (h.cell (p := ⟨b, off + j, none⟩) (show b < B' by omega)).trans hc⟩
theorem RowsB.mono {B B' : Nat} {w : World} {v : Value} {xs : List E} (hr : RowsB B w v xs) (hB : B ≤ B') : RowsB B' w v xs := by
  obtain ⟨a, c, e, hn, hx, hi⟩ := hr
  refine ⟨a, c, e, hn, fun x m => (hx x m).mono hB, fun j hj => ?_⟩
  obtain ⟨b, off, ea, hb, hc⟩ := hi j hj
  exact ⟨b, off, ea, by omega, hc⟩

/-- What the last loop of Set knows. -/
structure LInv (w : World) (B : Nat) (zs : List E) (k : Nat) (bs : Nat → Nat) (wr : World) : Prop where
  below : Below B w wr
  hb : B < wr.heap.size
  done : ∀ j (h : j < zs.length), j < k → wr.cell? ⟨B, j, none⟩ = some (.slice (some ⟨bs j, 0, none⟩) zs[j].2.length zs[j].2.length) ∧ B < bs j ∧ bs j < wr.heap.size ∧ wr.heap[bs j]? = some (.cells (cellsOf zs[j].2).toArray 25 (0, 0))
  todo : ∀ j (h : j < zs.length), k ≤ j → wr.cell? ⟨B, j, none⟩ = some zs[j].1
  fz : ∀ j, j < zs.length → wr.frozen? ⟨B, j, none⟩ = false
  asc : ∀ i j, i < j → j < k → bs i < bs j

theorem LInv.step {w : World} {B : Nat} {zs : List E} {k : Nat} {bs : Nat → Nat} {wr w' : World} {b : Nat} (hI : LInv w B zs k bs wr) (hk : k < zs.length) (hg : Gr wr w') (hb : wr.heap.size ≤ b)
    (hh : w'.heap[b]? = some (.cells (cellsOf zs[k].2).toArray 25 (0, 0))) :
    LInv w B zs (k + 1) (fun j => if j = k then b else bs j) (w'.setCell ⟨B, k, none⟩ (.slice (some ⟨b, 0, none⟩) zs[k].2.length zs[k].2.length)) := by
  have hbl := hg.below
  have hB := hI.hb
  have hsz : b < w'.heap.size := (Array.getElem?_eq_some_iff.1 hh).1
  have hc : ∀ o, w'.cell? ⟨B, o, none⟩ = wr.cell? ⟨B, o, none⟩ := fun o => hbl.cell (p := ⟨B, o, none⟩) hB
  have hf : ∀ o, w'.frozen? ⟨B, o, none⟩ = wr.frozen? ⟨B, o, none⟩ := fun o => hbl.frozen (p := ⟨B, o, none⟩) hB
  have hother : ∀ (v : Value) j, j ≠ k → (w'.setCell ⟨B, k, none⟩ v).cell? ⟨B, j, none⟩ = w'.cell? ⟨B, j, none⟩ := fun v j hj => World.cell?_setCell_other _ _ _ _ (by simp <;> omega)
  have hsame : ∀ v, (w'.setCell ⟨B, k, none⟩ v).cell? ⟨B, k, none⟩ = some v := fun v => World.cell?_setCell_same w' _ v ((hc k).trans (hI.todo k hk (Nat.le_refl _)))
  have hheap : ∀ (v : Value) i, i ≠ B → (w'.setCell ⟨B, k, none⟩ v).heap[i]? = w'.heap[i]? := fun v i hi => Below.heap_setCell _ _ _ _ hi
  refine ⟨(hI.below.trans (hbl.mono (by omega))).setCell (Nat.le_refl _) _, by simp; exact Nat.lt_of_lt_of_le hB hbl.size, fun j hj hjk => ?_, fun j hj hjk => ?_, fun j hj => ?_, fun i j hij hjk => ?_⟩
  · by_cases e : j = k
    · subst e
      simp only [if_true]
      exact ⟨hsame _, by omega, by simpa using hsz, by rw [hheap _ _ (by omega)]; exact hh⟩
    · simp only [if_neg e]
      obtain ⟨d1, d2, d3, d4⟩ := hI.done j hj (by omega)
      refine ⟨by rw [hother _ _ e, hc]; exact d1, d2, by simp; exact Nat.lt_of_lt_of_le d3 hbl.size, ?_⟩
      rw [hheap _ _ (by omega), hbl.block _ d3]; exact d4
  · rw [hother _ _ (by omega), hc]; exact hI.todo j hj (by omega)
  · rw [World.frozen?_setCell, hf]; exact hI.fz j hj
  · by_cases e : j = k
    · subst e
      simp only [if_true, if_neg (show i ≠ j by omega)]
      have := (hI.done i (by omega) (by omega)).2.2.1
      omega
    · simp only [if_neg e, if_neg (show i ≠ k by omega)]
      exact hI.asc i j hij (by omega)

/-- What Set returns: a relation of new rows in new blocks. -/
def SetPost (w : World) (xs : List E) (e : Ending) (w' : World) : Prop :=
  ∃ (zs : List E) (bs : Nat → Nat), e = .returned (.slice (some ⟨w.heap.size, 0, none⟩) zs.length xs.length) ∧ zs.length ≤ xs.length ∧ Rel (zs.map (·.2)) ∧ (∀ r, r ∈ zs.map (·.2) ↔ r ∈ xs.map (·.2)) ∧
    LInv w w.heap.size zs zs.length bs w'

end Go.Proofs.Ytmhgmlnnipdomaa
