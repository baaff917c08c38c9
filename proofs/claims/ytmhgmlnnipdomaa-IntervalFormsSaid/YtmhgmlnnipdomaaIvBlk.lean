
/- The law's spoilt: a list with one thing changed. -/
import Derived.Test.YtmhgmlnnipdomaaIvLawOps

import Derived.Test.YtmhgmlnnipdomaaIvCase

import Derived.Test.YtmhgmlnnipdomaaIvMerge

import Derived.BigRegion

import Derived.Deep.CutRange

import Derived.Deep.CutBlock

import Derived.Deep.DeepCutAuto

namespace Go.Proofs.Ytmhgmlnnipdomaa

open Go.RowKit Go.Deep

def SpoiltPost (bc B : Nat) (w : World) (e : Ending) (w' : World) : Prop :=
  ∃ v L, e = .returned v ∧ IvsAt (fun b => w.heap.size ≤ b) w' v L ∧ Mv bc w w' ∧ CaseOk bc B w'

/-- A value of the right kind for a cell of an interval. -/
def KindOk (o : Nat) (v : Value) : Prop :=
  (((o % 7 = 0 ∨ o % 7 = 1 ∨ o % 7 = 3 ∨ o % 7 = 4) ∧ ∃ n, v = .int .i64 n) ∨ ((o % 7 = 2 ∨ o % 7 = 5) ∧ ∃ s, v = .string s) ∨ (o % 7 = 6 ∧ ∃ b, v = .bool b))
/-- Block g holds n intervals. -/
structure Blk (g n : Nat) (w : World) : Prop where
  lt : g < w.heap.size
  cell : ∀ o, o < n * 7 → ∃ v, w.cell? ⟨g, o, none⟩ = some v ∧ KindOk o v
  free : ∀ o, o < n * 7 → w.frozen? ⟨g, o, none⟩ = false
theorem Blk.of {P : Nat → Prop} {g n : Nat} {w : World} (h : Blk g n w) (hg : P g) {c : Nat} (hc : n ≤ c) (hm : c ≤ maxLen) (hn : n ≤ 4398046511104) : ∃ L, L.length = n ∧ IvsAt P w (.slice (some ⟨g, 0, none⟩) n c) L := by
  have hx : ∀ j, ∃ x : IV, j < n → IvC w g (j * 7) x := fun j => by
    by_cases hj : j < n
    · obtain ⟨v0, e0, ⟨_, a0, rfl⟩ | ⟨h, _⟩ | ⟨h, _⟩⟩ := h.cell (j * 7 + 0) (by omega)
      · obtain ⟨v1, e1, ⟨_, a1, rfl⟩ | ⟨h, _⟩ | ⟨h, _⟩⟩ := h.cell (j * 7 + 1) (by omega)
        · obtain ⟨v2, e2, ⟨h, _⟩ | ⟨_, a2, rfl⟩ | ⟨h, _⟩⟩ := h.cell (j * 7 + 2) (by omega)
          · omega
          · obtain ⟨v3, e3, ⟨_, a3, rfl⟩ | ⟨h, _⟩ | ⟨h, _⟩⟩ := h.cell (j * 7 + 3) (by omega)
            · obtain ⟨v4, e4, ⟨_, a4, rfl⟩ | ⟨h, _⟩ | ⟨h, _⟩⟩ := h.cell (j * 7 + 4) (by omega)
              · obtain ⟨v5, e5, ⟨h, _⟩ | ⟨_, a5, rfl⟩ | ⟨h, _⟩⟩ := h.cell (j * 7 + 5) (by omega)
                · omega
                · obtain ⟨v6, e6, ⟨h, _⟩ | ⟨h, _⟩ | ⟨_, a6, rfl⟩⟩ := h.cell (j * 7 + 6) (by omega)
                  · omega
                  · omega
                  · exact ⟨⟨⟨a0, a1, a2⟩, ⟨a3, a4, a5⟩, a6⟩, fun _ => ⟨⟨e0, e1, e2⟩, ⟨e3, e4, e5⟩, e6⟩⟩
                · omega
              · omega
              · omega
            · omega
            · omega
          · omega
        · omega
        · omega
      · omega
      · omega
    · exact ⟨⟨z0, z0, false⟩, fun h => absurd h hj⟩
  obtain ⟨f, hf⟩ := Classical.axiomOfChoice hx
  have hl : ((List.range n).map f).length = n := by simp
  refine ⟨(List.range n).map f, hl, some ⟨g, 0, none⟩, c, by rw [hl], by rw [hl]; exact hc, hm, fun e => by simp at e, by rw [hl]; exact hn, fun j hj => ⟨g, 0, rfl, hg, h.lt, ?_⟩⟩
  rw [hl] at hj
  have := hf j hj
  simpa using this
theorem Blk.at {g n : Nat} {w : World} (h : Blk g n w) (hn : n ≤ 4398046511104) {i : Nat} (hi : i < n) : ∃ x : IV, IvC w g (i * 7) x := by
  obtain ⟨L, hl, a, c, e, _, _, _, _, hj⟩ := Blk.of (P := fun _ => True) h trivial (c := n) (Nat.le_refl _) (by unfold maxLen; omega) hn
  obtain ⟨b, off, e2, _, _, hc⟩ := hj i (by omega)
  simp only [Value.slice.injEq] at e
  obtain ⟨rfl, _⟩ := e
  simp only [Option.some.injEq, Addr.mk.injEq, and_true] at e2
  obtain ⟨rfl, rfl⟩ := e2
  rw [Nat.zero_add] at hc
  exact ⟨_, hc⟩
theorem Blk.set {g n : Nat} {w : World} (h : Blk g n w) (o : Nat) (v : Value) (hk : KindOk o v) : Blk g n (w.setCell ⟨g, o, none⟩ v) := by
  refine ⟨by rw [World.size_setCell]; exact h.lt, fun q hq => ?_, fun q hq => ?_⟩
  · obtain ⟨u, hu, hku⟩ := h.cell q hq
    by_cases e : q = o
    · subst e
      refine ⟨v, ?_, hk⟩
      first
        | exact World.cell?_setCell_self _ _ _ hu
        | (go_simp; done)
        | simp_all [World.cell?_setCell]
    · refine ⟨u, ?_, hku⟩
      rw [← hu]
      first
        | exact World.cell?_setCell_ne _ _ _ (by simp [e])
        | (go_simp; done)
        | simp_all [World.cell?_setCell]
  · have := h.free q hq
    rw [← this]
    first
      | exact World.frozen?_setCell _ _ _ _
      | (go_simp; done)
theorem Blk.setI {g n : Nat} {w : World} (h : Blk g n w) {o : Nat} {x : Int} (hk : o % 7 = 0 ∨ o % 7 = 1 ∨ o % 7 = 3 ∨ o % 7 = 4) : Blk g n (w.setCell ⟨g, o, none⟩ (.int .i64 x)) := h.set o _ (.inl ⟨hk, _, rfl⟩)
theorem Blk.setS {g n : Nat} {w : World} (h : Blk g n w) {o : Nat} {x : ByteArray} (hk : o % 7 = 2 ∨ o % 7 = 5) : Blk g n (w.setCell ⟨g, o, none⟩ (.string x)) := h.set o _ (.inr (.inl ⟨hk, _, rfl⟩))
theorem Blk.setB {g n : Nat} {w : World} (h : Blk g n w) {o : Nat} {x : Bool} (hk : o % 7 = 6) : Blk g n (w.setCell ⟨g, o, none⟩ (.bool x)) := h.set o _ (.inr (.inr ⟨hk, _, rfl⟩))
theorem Blk.drew {g n : Nat} {w : World} (h : Blk g n w) : Blk g n w.drew := ⟨h.lt, h.cell, h.free⟩
theorem Mv.drew {bc : Nat} {a w : World} (h : Mv bc a w) : Mv bc a w.drew := ⟨h.os, h.tape, h.output, h.size, h.block⟩
theorem CaseOk.drew {bc B : Nat} {w : World} (h : CaseOk bc B w) : CaseOk bc B w.drew := CaseOk.below h (Below.drew (Below.refl _ _)) (Nat.le_refl _)
theorem add0 (b j : Nat) : (⟨b, 0, none⟩ : Addr).add j = ⟨b, j, none⟩ := by unfold Addr.add; split <;> simp_all
theorem KindOk.ofIv (x : IV) (j : Nat) (i : Nat) {v : Value} (h : (x.cells)[j]? = some v) : KindOk (i * 7 + j) v := by
  unfold KindOk
  match j, h with
  | 0, h => simp [IV.cells] at h; exact .inl ⟨by omega, _, h.symm⟩
  | 1, h => simp [IV.cells] at h; exact .inl ⟨by omega, _, h.symm⟩
  | 2, h => simp [IV.cells] at h; exact .inr (.inl ⟨by omega, _, h.symm⟩)
  | 3, h => simp [IV.cells] at h; exact .inl ⟨by omega, _, h.symm⟩
  | 4, h => simp [IV.cells] at h; exact .inl ⟨by omega, _, h.symm⟩
  | 5, h => simp [IV.cells] at h; exact .inr (.inl ⟨by omega, _, h.symm⟩)
  | 6, h => simp [IV.cells] at h; exact .inr (.inr ⟨by omega, _, h.symm⟩)
  | k + 7, h => simp [IV.cells] at h
/-- An own row of intervals is such a block. -/
theorem own_blk {w : World} {base g n c : Nat} {L : List IV} (h : w.ownsRow base 59 7 (.slice (some ⟨g, 0, none⟩) n c) n (ivCells L)) (hl : L.length = n) : base ≤ g ∧ n ≤ c ∧ c ≤ maxLen ∧ Blk g n w := by
  have hlt := h.lt g rfl
  have hcell := h.cellAt
  rcases h.2 with ⟨h0, _⟩ | ⟨g', cap, cur, hv, hg, hgg, hnc, hcm, hcs, htake⟩
  · simp at h0
  · simp only [Value.slice.injEq, Option.some.injEq, Addr.mk.injEq, and_true] at hv
    obtain ⟨rfl, rfl⟩ : g = g' ∧ c = cap := ⟨by simpa using hv.1, by simpa using hv.2⟩
    refine ⟨hg, hnc, hcm, hlt.2, fun o ho => ?_, fun o ho => ?_⟩
    · have hlen : (ivCells L).length = n * 7 := by rw [length_ivCells, hl]
      have ho' : o < (ivCells L).length := by rw [hlen]; exact ho
      refine ⟨(ivCells L)[o]'ho', ?_, ?_⟩
      · rw [hcell o (by omega), List.getElem?_eq_getElem ho']
      · have e : o = o / 7 * 7 + o % 7 := by omega
        have h1 := ivCells_at L (o / 7) (by omega) (o % 7) (by omega)
        rw [← e, List.getElem?_eq_getElem ho'] at h1
        have h2 := KindOk.ofIv _ (o % 7) (o / 7) h1.symm
        rw [← e] at h2
        exact h2
    · unfold World.frozen?
      rw [hgg]
      simp
theorem ivCells_src {w : World} {v : Value} {P : Nat → Prop} {L : List IV} (h : IvsAt P w v L) {a : Option Addr} {n c : Nat} (hv : v = .slice a n c) : ∀ p, a = some p → ∀ j u, (ivCells L)[j]? = some u → w.cell? (p.add j) = some u := by
  intro p hp j u hj
  obtain ⟨a', c', e, h1, h2, h3, hn, hi⟩ := h
  rw [hv] at e
  simp only [Value.slice.injEq] at e
  obtain ⟨rfl, rfl, rfl⟩ := e
  have hlt : j < (ivCells L).length := (List.getElem?_eq_some_iff.1 hj).1
  rw [length_ivCells] at hlt
  obtain ⟨b, off, e2, -, -, hc⟩ := hi (j / 7) (by omega)
  rw [hp] at e2
  simp only [Option.some.injEq] at e2
  subst e2
  have ha : (⟨b, off, none⟩ : Addr).add j = ⟨b, off + j, none⟩ := by unfold Addr.add; split <;> simp_all
  rw [ha]
  have e : j = j / 7 * 7 + j % 7 := by omega
  have h4 := ivCells_at L (j / 7) (by omega) (j % 7) (by omega)
  rw [← e, hj] at h4
  obtain ⟨⟨k0, k1, k2⟩, ⟨k3, k4, k5⟩, k6⟩ := hc
  have hm : j % 7 = 0 ∨ j % 7 = 1 ∨ j % 7 = 2 ∨ j % 7 = 3 ∨ j % 7 = 4 ∨ j % 7 = 5 ∨ j % 7 = 6 := by omega
  have hoff : off + j = off + j / 7 * 7 + j % 7 := by omega
  rw [hoff, h4]
  rcases hm with h | h | h | h | h | h | h <;> rw [h] <;> simp only [IV.cells] <;> first | exact k0 | exact k1 | exact k2 | exact k3 | exact k4 | exact k5 | exact k6
theorem Blk.mv {g n bc : Nat} {w w' : World} (h : Blk g n w) (hm : Mv bc w w') (hb : g ≠ bc) : Blk g n w' :=
  ⟨Nat.lt_of_lt_of_le h.lt hm.size, fun o ho => by rw [hm.cell (p := ⟨g, o, none⟩) h.lt hb]; exact h.cell o ho, fun o ho => by rw [World.frozen?_of_block (w := w) (a := ⟨g, o, none⟩) (hm.block g h.lt hb)]; exact h.free o ho⟩
theorem ownIv_some {w : World} {base n : Nat} {a : Option Addr} {c : Nat} {xs : List Value} (h : w.ownsRow base 59 7 (.slice a n c) n xs) (hn : n ≠ 0) : ∃ g, a = some ⟨g, 0, none⟩ := by
  rcases h.2 with ⟨_, h0⟩ | ⟨g, cap, cur, hv, _⟩
  · exact absurd h0 hn
  · simp only [Value.slice.injEq] at hv; exact ⟨g, hv.1⟩
end Go.Proofs.Ytmhgmlnnipdomaa
