
/- Arguments that are lists of intervals, opened. -/
import Derived.Test.YtmhgmlnnipdomaaOpen

import Derived.Test.YtmhgmlnnipdomaaIv

namespace Go.Proofs.Ytmhgmlnnipdomaa

open Go.RowKit Go.ChangeShapes Go.WideShapes Go.Deep

section

variable {H : Type} {enc : TypeId × Value → H} {W : World}

set_option maxRecDepth 100000 in
/-- The seven cells of an interval. -/
theorem open_interval {fuel : Nat} {cs : List Value} {x : DataW H × List MemPlace} (h : DataW.trod enc Try.prog W 0 (fun _ => true) true fuel 59 cs = some x) : ∃ v : IV, cs = v.cells := by
  obtain ⟨xs, n, _, _, hl, hxl, hf⟩ := DataW.trod_struct Try.underlying59 h
  have hC : Try.prog.cellsOf 59 = 7 := by kernel_rfl
  have hV : Try.prog.cellsOf 25 = 3 := by kernel_rfl
  have hB : Try.prog.cellsOf 4 = 1 := by kernel_rfl
  rw [hC] at hl
  match cs, hl, xs, hxl with
  | [c0, c1, c2, c3, c4, c5, c6], _, [x0, x1, x2], _ =>

    have f0 : DataW.trod enc Try.prog W 0 (fun _ => true) true n 25 (List.take (Try.prog.cellsOf 25) (List.drop 0 [c0, c1, c2, c3, c4, c5, c6])) = some x0 := hf 0 _ rfl
    have f1 : DataW.trod enc Try.prog W 0 (fun _ => true) true n 25 (List.take (Try.prog.cellsOf 25) (List.drop 3 [c0, c1, c2, c3, c4, c5, c6])) = some x1 := hf 1 _ rfl
    have f2 : DataW.trod enc Try.prog W 0 (fun _ => true) true n 4 (List.take (Try.prog.cellsOf 4) (List.drop 6 [c0, c1, c2, c3, c4, c5, c6])) = some x2 := hf 2 _ rfl
    rw [hV] at f0 f1
    rw [hB] at f2
    obtain ⟨u, hu⟩ := open_value f0
    obtain ⟨v, hv⟩ := open_value f1
    obtain ⟨b, hb, _⟩ := DataW.trod_bool Try.underlying4 f2
    change [c0, c1, c2] = _ at hu
    change [c3, c4, c5] = _ at hv
    change [c6] = _ at hb
    simp only [List.cons.injEq, and_true] at hu hv hb
    obtain ⟨rfl, rfl, rfl⟩ := hu
    obtain ⟨rfl, rfl, rfl⟩ := hv
    subst hb
    exact ⟨⟨u, v, b⟩, rfl⟩

set_option maxRecDepth 100000 in
/-- A slice of intervals reads as a list of them. -/
theorem open_ivs {fuel : Nat} {a : Option Addr} {n c : Nat} {x : DataW H × List MemPlace} (h : DataW.trod enc Try.prog W 0 (fun _ => true) true fuel 23 [.slice a n c] = some x)
    (hs : ∀ elems spare, x.1 = .slice elems spare → elems.length + spare.length ≤ 4398046511104) : ∃ L : List IV, L.length = n ∧ Ivs W (.slice a n c) L := by
  rcases open_slice Try.underlying23 h with ⟨hcs, _⟩ | ⟨ad, len, cap, m, k, D, Pl, hcs, _, hl, _, hm, hx, hi⟩
  · simp at hcs
    obtain ⟨rfl, rfl, rfl⟩ := hcs
    exact ⟨[], rfl, IvsAt.nil _ _⟩
  · simp at hcs
    obtain ⟨rfl, rfl, rfl⟩ := hcs
    have hmc : m = c := by simpa using hm
    subst hmc
    have hC : Try.prog.cellsOf 59 = 7 := by kernel_rfl
    have hsz : m ≤ 4398046511104 := by
      have := hs _ _ (by rw [hx])
      simp at this
      omega
    have hv : ∀ i, ∃ v : IV, i < m → ∃ b off, (some ad : Option Addr) = some ⟨b, off, none⟩ ∧ b < W.heap.size ∧ IvC W b (off + i * 7) v := by
      intro i
      by_cases hm' : i < m
      · obtain ⟨cs', hc, ht⟩ := hi i hm'
        rw [hC] at hc
        obtain ⟨v, rfl⟩ := open_interval ht
        obtain ⟨_, _, hat⟩ := World.cells?_some hc
        have cc : ∀ j, j < 7 → W.cell? ((ad.add (i * 7)).add j) = (v.cells)[j]? := fun j hj => hat j hj
        have c0 := cc 0 (by omega)
        rw [add_zero] at c0
        obtain ⟨hsp, hbl⟩ := cell_spot (v := .int .i64 v.f.k) (by rw [c0]; rfl)
        have hsa : ad.spot = none := by
          by_cases h0 : i = 0
          · subst h0
            have : ad.add (0 * 7) = ad := by rw [Nat.zero_mul, add_zero]
            rw [this] at hsp; exact hsp
          · by_cases hs0 : ad.spot = none
            · exact hs0
            · obtain ⟨cs0, hc0, ht0⟩ := hi 0 (by omega)
              rw [hC] at hc0
              obtain ⟨v0, rfl⟩ := open_interval ht0
              have z0 := (World.cells?_some hc0).2.2 0 (by omega)
              rw [Nat.zero_mul, add_zero, add_zero] at z0
              exact (cell_spot (v := .int .i64 v0.f.k) (by rw [z0]; rfl)).1
        refine ⟨v, fun _ => ⟨ad.block, ad.off, by obtain ⟨b, o, s⟩ := ad; simp only at hsa; subst hsa; rfl, ?_, ivC_cells fun j hj => ?_⟩⟩
        · rw [add_form ad hsa] at hbl; exact hbl
        · have := cc j hj
          rw [add_form ad hsa, add_form _ rfl] at this
          exact this
      · exact ⟨default, fun h => absurd h hm'⟩
    obtain ⟨f, hf⟩ := Classical.axiomOfChoice hv
    have hll : ((List.range n).map f).length = n := by simp
    refine ⟨(List.range n).map f, hll, some ad, m, by rw [hll], by rw [hll]; exact hl, by unfold maxLen; omega, by simp, by rw [hll]; omega, fun i hi' => ?_⟩
    rw [hll] at hi'
    obtain ⟨b, off, e, hb, hc⟩ := hf i (by omega)
    exact ⟨b, off, e, trivial, hb, by simpa using hc⟩
end

end Go.Proofs.Ytmhgmlnnipdomaa
