
/- Lists of lists of intervals; the beginning of an argument. -/
import Derived.Test.YtmhgmlnnipdomaaIvLawOps

import Derived.Test.YtmhgmlnnipdomaaIvRHas

namespace Go.Proofs.Ytmhgmlnnipdomaa

open Go.RowKit Go.Deep

/-- The first 80 of a list that came in. -/
theorem IvsAt.cut80 {w : World} {v : Value} {L : List IV} (h : Ivs w v L) : ∃ (a : Option Addr) (c m : Nat) (L' : List IV), v = .slice a L.length c ∧ min (L.length : Int) 80 = (m : Int) ∧ m ≤ L.length ∧ m ≤ c ∧ L.length ≤ c ∧ L'.length = m ∧ IvsAt (fun b => b < w.heap.size) w (.slice a m c) L' := by
  obtain ⟨a, c, e, h1, h2, h3, hn, hi⟩ := h
  obtain ⟨m, hm, hml⟩ : ∃ m : Nat, min (L.length : Int) 80 = (m : Int) ∧ m ≤ L.length := by
    by_cases h : L.length ≤ 80
    · exact ⟨L.length, by omega, Nat.le_refl _⟩
    · exact ⟨80, by omega, by omega⟩
  have hl : (L.take m).length = m := by rw [List.length_take]; omega
  refine ⟨a, c, m, L.take m, e, hm, hml, by omega, h1, hl, a, c, by rw [hl], by omega, h2, fun e => by have := h3 e; omega, by omega, fun j hj => ?_⟩
  obtain ⟨b, off, e2, _, hb, hc⟩ := hi j (by omega)
  exact ⟨b, off, e2, hb, hb, by rw [List.getElem_take]; exact hc⟩
/-- A block of lists; none of it is block bc. -/
structure LNe (bc : Nat) (w : World) (sb : Nat) (LL : List (Value × List IV)) : Prop where
  lt : sb < w.heap.size
  ne : sb ≠ bc
  get : ∀ j (h : j < LL.length), w.cell? ⟨sb, j, none⟩ = some LL[j].1 ∧ IvsAt (fun b => b ≠ bc) w LL[j].1 LL[j].2
theorem LNe.mv {bc sb : Nat} {w w' : World} {LL : List (Value × List IV)} (h : LNe bc w sb LL) (hm : Mv bc w w') : LNe bc w' sb LL :=
  ⟨Nat.lt_of_lt_of_le h.lt hm.size, h.ne, fun j hj => ⟨(hm.cell (p := ⟨sb, j, none⟩) h.lt h.ne).trans (h.get j hj).1, (h.get j hj).2.mvn hm⟩⟩
theorem LNe.new4 {bc : Nat} {w : World} {va vb vc vd : Value} {A B C D : List IV} (ha : IvsAt (fun b => b ≠ bc) w va A) (hb : IvsAt (fun b => b ≠ bc) w vb B) (hc : IvsAt (fun b => b ≠ bc) w vc C) (hd : IvsAt (fun b => b ≠ bc) w vd D) (hbc : bc < w.heap.size) (t : TypeId) :
    LNe bc (w.alloc (.cells #[va, vb, vc, vd] t)) w.heap.size [(va, A), (vb, B), (vc, C), (vd, D)] := by
  have hm : Mv bc w (w.alloc (.cells #[va, vb, vc, vd] t)) := (Mv.refl bc w).alloc _
  refine ⟨by simp, by omega, fun j hj => ?_⟩
  match j, hj with
  | 0, _ => exact ⟨World.cell?_alloc_mark w #[va, vb, vc, vd] t (0, 0) 0, ha.mvn hm⟩
  | 1, _ => exact ⟨World.cell?_alloc_mark w #[va, vb, vc, vd] t (0, 0) 1, hb.mvn hm⟩
  | 2, _ => exact ⟨World.cell?_alloc_mark w #[va, vb, vc, vd] t (0, 0) 2, hc.mvn hm⟩
  | 3, _ => exact ⟨World.cell?_alloc_mark w #[va, vb, vc, vd] t (0, 0) 3, hd.mvn hm⟩
  | k + 4, h => exact absurd h (by simp only [List.length_cons, List.length_nil]; omega)
theorem LNe.new3 {bc : Nat} {w : World} {va vb vc : Value} {A B C : List IV} (ha : IvsAt (fun b => b ≠ bc) w va A) (hb : IvsAt (fun b => b ≠ bc) w vb B) (hc : IvsAt (fun b => b ≠ bc) w vc C) (hbc : bc < w.heap.size) (t : TypeId) :
    LNe bc (w.alloc (.cells #[va, vb, vc] t)) w.heap.size [(va, A), (vb, B), (vc, C)] := by
  have hm : Mv bc w (w.alloc (.cells #[va, vb, vc] t)) := (Mv.refl bc w).alloc _
  refine ⟨by simp, by omega, fun j hj => ?_⟩
  match j, hj with
  | 0, _ => exact ⟨World.cell?_alloc_mark w #[va, vb, vc] t (0, 0) 0, ha.mvn hm⟩
  | 1, _ => exact ⟨World.cell?_alloc_mark w #[va, vb, vc] t (0, 0) 1, hb.mvn hm⟩
  | 2, _ => exact ⟨World.cell?_alloc_mark w #[va, vb, vc] t (0, 0) 2, hc.mvn hm⟩
  | k + 3, h => exact absurd h (by simp only [List.length_cons, List.length_nil]; omega)
end Go.Proofs.Ytmhgmlnnipdomaa
