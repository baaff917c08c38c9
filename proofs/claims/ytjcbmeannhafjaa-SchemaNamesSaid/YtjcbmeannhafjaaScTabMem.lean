
/- Lists of tables as own rows: append. -/
import Derived.Test.YtjcbmeannhafjaaCPlain

import Derived.Test.YtjcbmeannhafjaaPdColumns

namespace Go.Proofs.Ytjcbmeannhafjaa

open Go.RowKit Go.Deep

/-- A table with where its lists lie. -/
structure TX where
  ca : Option Addr
  cc : Nat
  ra : Option Addr
  rc : Nat
  pa : Option Addr
  pc : Nat
  t : TB
def TX.cells (x : TX) : List Value := [.string x.t.s, .slice x.ca x.t.cs.length x.cc, .int .i64 x.t.key, .slice x.ra x.t.rs.length x.rc, .slice x.pa x.t.ck.length x.pc]
def TX.Ok (P : Nat → Prop) (W : World) (x : TX) : Prop := TbP P W (.slice x.ca x.t.cs.length x.cc) (.slice x.ra x.t.rs.length x.rc) x.pa x.pc x.t
def txCells (L : List TX) : List Value := L.flatMap TX.cells
theorem length_txCells : ∀ L : List TX, (txCells L).length = L.length * 5
  | [] => rfl
  | x :: r => by
    have := length_txCells r
    unfold txCells at this ⊢
    simp [TX.cells, this]; omega
theorem txCells_snoc (L : List TX) (x : TX) : txCells (L ++ [x]) = txCells L ++ x.cells := by unfold txCells; simp
theorem txCells_at : ∀ (L : List TX) (i : Nat) (h : i < L.length) (j : Nat), j < 5 → (txCells L)[i * 5 + j]? = (L[i].cells)[j]?
  | x :: r, 0, _, j, hj => by
    unfold txCells
    rw [List.flatMap_cons, List.getElem?_append_left (by simp [TX.cells]; omega)]
    simp
  | x :: r, i + 1, h, j, hj => by
    have ih := txCells_at r i (by simpa using h) j hj
    have : (i + 1) * 5 + j = 5 + (i * 5 + j) := by omega
    rw [this]
    unfold txCells at ih ⊢
    rw [List.flatMap_cons, List.getElem?_append_right (by simp [TX.cells])]
    simp [TX.cells]
    simpa [TX.cells] using ih
theorem tx_one (x : TX) : ∀ u ∈ x.cells, u.oneCell' = true := by
  intro u hu
  unfold TX.cells at hu
  simp only [List.mem_cons, List.not_mem_nil, or_false] at hu
  rcases hu with rfl | rfl | rfl | rfl | rfl <;> rfl
theorem txs_one (L : List TX) : ∀ u ∈ txCells L, u.oneCell' = true := by
  intro u hu
  unfold txCells at hu
  obtain ⟨x, _, h⟩ := List.mem_flatMap.1 hu
  exact tx_one x u h
/-- The cells of a list of tables in memory. -/
theorem tx_of {P : Nat → Prop} {W : World} {b n c : Nat} {ts : List TB} (h : SlR tabK P W (.slice (some ⟨b, 0, none⟩) n c) ts) :
    ∃ X : List TX, X.map TX.t = ts ∧ (∀ x ∈ X, x.Ok P W) ∧ ∀ j u, (txCells X)[j]? = some u → W.cell? ((⟨b, 0, none⟩ : Addr).add j) = some u := by
  have hv : ∀ j, ∃ x : TX, ∀ (h : j < ts.length), x.t = ts[j] ∧ x.Ok P W ∧ ∀ i, i < 5 → W.cell? ⟨b, j * 5 + i, none⟩ = x.cells[i]? := by
    intro j
    by_cases hj : j < ts.length
    · obtain ⟨b', off, e, -, hb, ca, cc, ra, rc, pa, pc, c0, c1, c2, c3, c4, ht⟩ := tab_get h hj
      simp only [Option.some.injEq, Addr.mk.injEq, and_true] at e
      obtain ⟨rfl, rfl⟩ := e
      simp only [Nat.zero_add] at c0 c1 c2 c3 c4
      refine ⟨⟨ca, cc, ra, rc, pa, pc, ts[j]⟩, fun _ => ⟨rfl, ht, fun i hi => ?_⟩⟩
      match i, hi with
      | 0, _ => exact c0
      | 1, _ => exact c1
      | 2, _ => exact c2
      | 3, _ => exact c3
      | 4, _ => exact c4
    · exact ⟨⟨none, 0, none, 0, none, 0, ⟨⟨#[]⟩, [], 0, [], []⟩⟩, fun hh => absurd hh hj⟩
  obtain ⟨f, hf⟩ := Classical.axiomOfChoice hv
  refine ⟨(List.range ts.length).map f, ?_, fun x hx => ?_, fun j u hj => ?_⟩
  · apply List.ext_getElem (by simp)
    intro i h1 h2
    simp only [List.getElem_map, List.getElem_range]
    exact (hf i h2).1
  · obtain ⟨i, hi, rfl⟩ := List.mem_map.1 hx
    exact (hf i (List.mem_range.1 hi)).2.1
  · have hlt : j < ts.length * 5 := by
      rcases Nat.lt_or_ge j (ts.length * 5) with h | h
      · exact h
      · rw [List.getElem?_eq_none (by rw [length_txCells]; simpa using h)] at hj; cases hj
    have ha : (⟨b, 0, none⟩ : Addr).add j = ⟨b, j, none⟩ := by unfold Addr.add; split <;> simp_all
    rw [ha]
    have hd : j / 5 < ts.length := by omega
    have hjm : j / 5 * 5 + j % 5 = j := by omega
    have hm : j % 5 < 5 := by omega
    rw [← hjm, txCells_at _ (j / 5) (by simpa using hd) (j % 5) hm] at hj
    simp only [List.getElem_map, List.getElem_range] at hj
    rw [← hj, ← (hf _ hd).2.2 (j % 5) hm, hjm]
/-- An own row of tables reads as a list of tables. -/
theorem tx_own {P : Nat → Prop} {W : World} {base : Nat} {v : Value} {X : List TX} (ho : W.ownsRow base 40 5 v X.length (txCells X)) (hx : ∀ x ∈ X, x.Ok P W) (hp : ∀ b, base ≤ b → P b) (hl : X.length ≤ 1000) : SlR tabK P W v (X.map TX.t) := by
  obtain ⟨h1, h2⟩ := ho
  rcases h2 with ⟨rfl, hz⟩ | ⟨g, cap, cur, rfl, hg, hgc, hle, hmx, h5, h6⟩
  · have : X = [] := List.eq_nil_of_length_eq_zero hz
    subst this
    exact SlR.nil _ _ _
  · have hO : W.ownsRow base 40 5 (.slice (some ⟨g, 0, none⟩) X.length cap) X.length (txCells X) := ⟨h1, .inr ⟨g, cap, cur, rfl, hg, hgc, hle, hmx, h5, h6⟩⟩
    have hgl : g < W.heap.size := (Array.getElem?_eq_some_iff.1 hgc).1
    refine ⟨some ⟨g, 0, none⟩, cap, by simp, ⟨by simpa using hle, hmx, fun e => (by cases e), by simp; omega⟩, fun j hj => ?_⟩
    have hj' : j < X.length := by simpa using hj
    have hc : ∀ i, i < 5 → W.cell? ⟨g, 0 + j * 5 + i, none⟩ = (X[j].cells)[i]? := fun i hi => by
      rw [Nat.zero_add, hO.cellAt (j * 5 + i) (by omega), txCells_at X j hj' i hi]
    refine ⟨g, 0, rfl, hp g hg, hgl, ?_⟩
    rw [List.getElem_map]
    exact ⟨_, _, _, _, ⟨hc 0 (by omega), hc 1 (by omega), hc 2 (by omega), hc 3 (by omega), hc 4 (by omega)⟩, hx _ (List.getElem_mem hj')⟩
theorem TX.Ok.keep {P : Nat → Prop} {W W' : World} {x : TX} (h : x.Ok P W) (hs : W.heap.size ≤ W'.heap.size) (hk : ∀ k, P k → k < W.heap.size → W'.heap[k]? = W.heap[k]?) : x.Ok P W' := TbP.keep h hs hk
theorem TX.Ok.weak {P Q : Nat → Prop} {W : World} {x : TX} (h : x.Ok P W) (hq : ∀ k, P k → Q k) : x.Ok Q W := TbP.weak h hq
/-- An own row stays where its block stays. -/
theorem own_blkW {W W' : World} {base : Nat} {e : TypeId} {size : Nat} {v : Value} {n : Nat} {xs : List Value} (h : W.ownsRow base e size v n xs) (hb : ∀ k, base ≤ k → k < W.heap.size → W'.heap[k]? = W.heap[k]?) : W'.ownsRow base e size v n xs := by
  refine ⟨h.1, ?_⟩
  rcases h.2 with h0 | ⟨g, cap, cur, rfl, hg, hgg, hr⟩
  · exact .inl h0
  · exact .inr ⟨g, cap, cur, rfl, hg, (hb g hg (Array.getElem?_eq_some_iff.1 hgg).1).trans hgg, hr⟩
end Go.Proofs.Ytjcbmeannhafjaa
