/- Arguments that are rows, opened, with the range of their numbers. -/
import Derived.Test.YtkhbephcmcnfjaaOpen
import Derived.Test.YtkhbephcmcnfjaaPutRow
import Derived.OpenShut
namespace Go.Proofs.Ytkhbephcmcnfjaa
open Go.RowKit Go.ChangeShapes Go.WideShapes Go.ChangeAt Go.Deep
section
variable {H : Type} {enc : TypeId × Value → H} {W : World}

set_option maxRecDepth 100000 in
/-- The three cells of an element of a row. -/
theorem open_value_n {fuel : Nat} {cs : List Value} {x : DataW H × List MemPlace} (h : DataW.trod enc Try.prog W 0 (fun _ => true) true fuel 42 cs = some x) : ∃ v : V, cs = [.int .i64 v.k, .int .i64 v.n, .string v.s] ∧ InR v := by
  obtain ⟨c0, c1, c2, y0, y1, y2, n, rfl, h0, h1, h2⟩ := cells_agg3 Try.underlying42 (by kernel_rfl) (by kernel_rfl) h
  obtain ⟨a, e0, _⟩ := DataW.trod_int Try.underlying3 h0
  obtain ⟨b, e1, _, wb⟩ := DataW.trod_int Try.underlying2 h1
  have bb := bounds_i64 wb
  obtain ⟨s, e2, _⟩ := DataW.trod_string Try.underlying9 h2
  simp only [List.cons.injEq, and_true] at e0 e1 e2
  subst e0 e1 e2
  exact ⟨⟨a, b, s⟩, rfl, bb.1, bb.2⟩

set_option maxRecDepth 100000 in
/-- A slice of values reads as a row. -/
theorem open_row_n {fuel : Nat} {a : Option Addr} {n c : Nat} {x : DataW H × List MemPlace} (h : DataW.trod enc Try.prog W 0 (fun _ => true) true fuel 25 [.slice a n c] = some x)
    (hs : ∀ elems spare, x.1 = .slice elems spare → elems.length + spare.length ≤ 4398046511104) : ∃ l : List V, l.length = n ∧ RowAt W (.slice a n c) l ∧ ∀ v ∈ l, InR v := by
  rcases open_slice Try.underlying25 h with ⟨hcs, _⟩ | ⟨ad, len, cap, m, k, D, Pl, hcs, _, hl, _, hm, hx, hi⟩
  · simp at hcs
    obtain ⟨rfl, rfl, rfl⟩ := hcs
    exact ⟨[], rfl, ⟨none, 0, rfl, by simp, fun i h => absurd h (by simp)⟩, by simp⟩
  · simp at hcs
    obtain ⟨rfl, rfl, rfl⟩ := hcs
    have hmc : m = c := by simpa using hm
    subst hmc
    have hC : Try.prog.cellsOf 42 = 3 := by kernel_rfl
    have hsz : n ≤ 4398046511104 := by
      have := hs _ _ (by rw [hx])
      simp at this
      omega
    have hv : ∀ i, ∃ v : V, i < m → (∃ b off, (some ad : Option Addr) = some ⟨b, off, none⟩ ∧ b < W.heap.size ∧ CellsV W b (off + i * 3) v) ∧ InR v := by
      intro i
      by_cases hm' : i < m
      · obtain ⟨cs', hc, ht⟩ := hi i hm'
        rw [hC] at hc
        obtain ⟨v, rfl, hvr⟩ := open_value_n ht
        obtain ⟨_, _, hat⟩ := World.cells?_some hc
        have c0 := hat 0 (by omega)
        have c1 := hat 1 (by omega)
        have c2 := hat 2 (by omega)
        simp only [List.getElem?_cons_zero, List.getElem?_cons_succ] at c0 c1 c2
        rw [add_zero] at c0
        obtain ⟨hsp, hbl⟩ := cell_spot c0
        have hsa : ad.spot = none := by
          by_cases h0 : i = 0
          · subst h0
            have : ad.add (0 * 3) = ad := by rw [Nat.zero_mul, add_zero]
            rw [this] at hsp; exact hsp
          · by_cases hs0 : ad.spot = none
            · exact hs0
            · obtain ⟨cs0, hc0, ht0⟩ := hi 0 (by omega)
              rw [hC] at hc0
              obtain ⟨v0, rfl, _⟩ := open_value_n ht0
              have z0 := (World.cells?_some hc0).2.2 0 (by omega)
              rw [Nat.zero_mul, add_zero, add_zero] at z0
              exact (cell_spot z0).1
        rw [add_form ad hsa] at c0 c1 c2 hbl
        rw [add_form _ rfl] at c1 c2
        exact ⟨v, fun _ => ⟨⟨ad.block, ad.off, by obtain ⟨b, o, s⟩ := ad; simp only at hsa; subst hsa; rfl, hbl, c0, c1, c2⟩, hvr⟩⟩
      · exact ⟨default, fun h => absurd h hm'⟩
    obtain ⟨f, hf⟩ := Classical.axiomOfChoice hv
    refine ⟨(List.range n).map f, by simp, ⟨some ad, m, by simp, by simpa using hsz, fun i hi' => ?_⟩, fun v hv => ?_⟩
    · simp only [List.length_map, List.length_range] at hi'
      obtain ⟨⟨b, off, e, hb, hc⟩, _⟩ := hf i (by omega)
      exact ⟨b, off, e, hb, by simpa using hc⟩
    · obtain ⟨i, hi1, rfl⟩ := List.mem_map.1 hv
      exact (hf i (by have := List.mem_range.1 hi1; omega)).2
end
end Go.Proofs.Ytkhbephcmcnfjaa
