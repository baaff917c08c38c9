
/- Arguments that are rows, and slices of rows, opened. -/
import Derived.Test.YtmhgmlnnipdomaaSet

import Derived.ProofKit

import Derived.Deep.Slices

import Derived.SizedLaws

import Derived.Lib.SmallJoins

namespace Go.Proofs.Ytmhgmlnnipdomaa

open Go.RowKit Go.ChangeShapes Go.WideShapes Go.Deep

section

variable {H : Type} {enc : TypeId × Value → H} {W : World}

set_option maxRecDepth 100000 in
theorem cell_spot {w : World} {a : Addr} {v : Value} (h : w.cell? a = some v) : a.spot = none ∧ a.block < w.heap.size := by
  refine ⟨?_, World.block_lt_of_cell? _ _ h⟩
  unfold World.cell? at h
  split at h
  · split at h
    · simp at h
    · rename_i hs
      cases hsp : a.spot with
      | none => rfl
      | some x => rw [hsp] at hs; simp at hs
  · simp at h
set_option maxRecDepth 100000 in
theorem add_zero (a : Addr) : a.add 0 = a := by unfold Addr.add; simp
set_option maxRecDepth 100000 in
theorem add_form (a : Addr) (h : a.spot = none) (j : Nat) : a.add j = ⟨a.block, a.off + j, none⟩ := by
  obtain ⟨b, o, s⟩ := a
  simp only at h
  subst h
  unfold Addr.add
  split <;> simp_all

set_option maxRecDepth 100000 in
/-- The cells of a struct of three one-cell fields. -/
theorem cells_agg3 {t : TypeId} {f0 f1 f2 : Field} {fuel : Nat} {cs : List Value} {x : DataW H × List MemPlace} (hs : Try.prog.underlying t = some (.struct #[f0, f1, f2])) (hone : oneCellFields Try.prog #[f0, f1, f2] = true)
    (hC : Try.prog.cellsOf t = 3) (h : DataW.trod enc Try.prog W 0 (fun _ => true) true fuel t cs = some x) :
    ∃ (c0 c1 c2 : Value) (y0 y1 y2 : DataW H × List MemPlace) (n : Nat), cs = [c0, c1, c2] ∧ DataW.trod enc Try.prog W 0 (fun _ => true) true n f0.type [c0] = some y0 ∧ DataW.trod enc Try.prog W 0 (fun _ => true) true n f1.type [c1] = some y1 ∧
      DataW.trod enc Try.prog W 0 (fun _ => true) true n f2.type [c2] = some y2 := by
  obtain ⟨y0, y1, y2, n, _, hl, h0, h1, h2⟩ := trod_struct3 hs h
  obtain ⟨o0, k0⟩ := hone_of hone 0 f0 rfl
  obtain ⟨o1, k1⟩ := hone_of hone 1 f1 rfl
  obtain ⟨o2, k2⟩ := hone_of hone 2 f2 rfl
  rw [hC] at hl
  match cs, hl with
  | [c0, c1, c2], _ => exact ⟨c0, c1, c2, y0, y1, y2, n, rfl, by simpa [o0, k0] using h0, by simpa [o1, k1] using h1, by simpa [o2, k2] using h2⟩

set_option maxRecDepth 100000 in
/-- The three cells of an element of a row. -/
theorem open_value {fuel : Nat} {cs : List Value} {x : DataW H × List MemPlace} (h : DataW.trod enc Try.prog W 0 (fun _ => true) true fuel 25 cs = some x) : ∃ v : V, cs = [.int .i64 v.k, .int .i64 v.n, .string v.s] := by
  obtain ⟨c0, c1, c2, y0, y1, y2, n, rfl, h0, h1, h2⟩ := cells_agg3 Try.underlying25 (by kernel_rfl) (by kernel_rfl) h
  obtain ⟨a, e0, _⟩ := DataW.trod_int Try.underlying3 h0
  obtain ⟨b, e1, _⟩ := DataW.trod_int Try.underlying2 h1
  obtain ⟨s, e2, _⟩ := DataW.trod_string Try.underlying9 h2
  simp only [List.cons.injEq, and_true] at e0 e1 e2
  subst e0 e1 e2
  exact ⟨⟨a, b, s⟩, rfl⟩

set_option maxRecDepth 100000 in
/-- A slice of values reads as a row. -/
theorem open_row {fuel : Nat} {a : Option Addr} {n c : Nat} {x : DataW H × List MemPlace} (h : DataW.trod enc Try.prog W 0 (fun _ => true) true fuel 83 [.slice a n c] = some x)
    (hs : ∀ elems spare, x.1 = .slice elems spare → elems.length + spare.length ≤ 4398046511104) : ∃ l : List V, l.length = n ∧ RowAt W (.slice a n c) l := by
  rcases open_slice Try.underlying83 h with ⟨hcs, _⟩ | ⟨ad, len, cap, m, k, D, Pl, hcs, _, hl, _, hm, hx, hi⟩
  · simp at hcs
    obtain ⟨rfl, rfl, rfl⟩ := hcs
    exact ⟨[], rfl, none, 0, rfl, by simp, fun i h => absurd h (by simp)⟩
  · simp at hcs
    obtain ⟨rfl, rfl, rfl⟩ := hcs
    have hmc : m = c := by simpa using hm
    subst hmc
    have hC : Try.prog.cellsOf 25 = 3 := by kernel_rfl
    have hsz : n ≤ 4398046511104 := by
      have := hs _ _ (by rw [hx])
      simp at this
      omega
    have hv : ∀ i, ∃ v : V, i < m → ∃ b off, (some ad : Option Addr) = some ⟨b, off, none⟩ ∧ b < W.heap.size ∧ CellsV W b (off + i * 3) v := by
      intro i
      by_cases hm' : i < m
      · obtain ⟨cs', hc, ht⟩ := hi i hm'
        rw [hC] at hc
        obtain ⟨v, rfl⟩ := open_value ht
        obtain ⟨_, _, hat⟩ := World.cells?_some hc
        have c0 := hat 0 (by omega)
        have c1 := hat 1 (by omega)
        have c2 := hat 2 (by omega)
        simp only [List.getElem?_cons_zero, List.getElem?_cons_succ] at c0 c1 c2
        rw [add_zero] at c0
        obtain ⟨hsp, hbl⟩ := cell_spot c0
        have hsa : ad.spot = none := by
          by_cases h0 : i = 0
          · subst h0
            have : ad.add (0 * 3) = ad := by rw [Nat.zero_mul, add_zero]
            rw [this] at hsp; exact hsp
          · by_cases hs0 : ad.spot = none
            · exact hs0
            · obtain ⟨cs0, hc0, ht0⟩ := hi 0 (by omega)
              rw [hC] at hc0
              obtain ⟨v0, rfl⟩ := open_value ht0
              have z0 := (World.cells?_some hc0).2.2 0 (by omega)
              rw [Nat.zero_mul, add_zero, add_zero] at z0
              exact (cell_spot z0).1
        rw [add_form ad hsa] at c0 c1 c2 hbl
        rw [add_form _ rfl] at c1 c2
        exact ⟨v, fun _ => ⟨ad.block, ad.off, by obtain ⟨b, o, s⟩ := ad; simp only at hsa; subst hsa; rfl, hbl, c0, c1, c2⟩⟩
      · exact ⟨default, fun h => absurd h hm'⟩
    obtain ⟨f, hf⟩ := Classical.axiomOfChoice hv
    refine ⟨(List.range n).map f, by simp, some ad, m, by simp, by simpa using hsz, fun i hi' => ?_⟩
    simp only [List.length_map, List.length_range] at hi'
    obtain ⟨b, off, e, hb, hc⟩ := hf i (by omega)
    exact ⟨b, off, e, hb, by simpa using hc⟩
end

end Go.Proofs.Ytmhgmlnnipdomaa
