
/- Walk of rows: a few rows. -/
import Derived.Test.YtkkhepfokjogpaaCase5

namespace Go.Proofs.Ytkkhepfokjogpaa

open Go.RowKit

theorem own_mv {bc base : Nat} {e : TypeId} {size : Nat} {v : Value} {n : Nat} {xs : List Value} {w w' : World} (h : w.ownsRow base e size v n xs) (hm : Mv bc w w') (hb : bc < base) : w'.ownsRow base e size v n xs := by
  refine h.kept (row := some bc) ⟨hm.os, hm.tape, hm.output, hm.size, fun b hb' hn => hm.block b hb' (fun e => hn (by rw [e]))⟩ ?_
  cases hob : Value.ownBlock v with
  | none => exact .inl rfl
  | some kk => right; intro e; simp only [Option.some.injEq] at e; have := (h.lt kk hob).1; omega

/-- What the loop of rows knows. -/
structure RInv (bc B base : Nat) (w0 : World) (v : Value) (L : List E) (w : World) : Prop where
  own : w.ownsRow base 90 1 v L.length (L.map (·.1))
  rows : ∀ x ∈ L, RowT B w x.1 x.2
  mv : Mv bc w0 w
  ok : CaseOk bc B w
theorem RInv.step {bc B base : Nat} {w0 : World} {v : Value} {L : List E} {w w' : World} (h : RInv bc B base w0 v L w) (hm : Mv bc w w') (ho : CaseOk bc B w') (hb : bc < base) : RInv bc B base w0 v L w' :=
  ⟨own_mv h.own hm hb, fun x hx => (h.rows x hx).mv hm h.ok.lt.1, h.mv.trans hm, ho⟩
theorem RInv.app {bc B base : Nat} {w0 : World} {v v' : Value} {L : List E} {w w' : World} {O : Obj} (h : RInv bc B base w0 v L w) (x : E) (hx : RowT B w x.1 x.2) (hbase : w0.heap.size ≤ base) (hB : B ≤ base)
    (ho : w'.ownsRow base 90 1 v' (L.length + 1) (L.map (·.1) ++ [x.1])) (hg : (w.alloc O).grownBy w' v.ownBlock) : RInv bc B base w0 v' (L ++ [x]) w' := by
  have hlt := h.own.lt
  have hk : ∀ b cur fr, B ≤ b → w.heap[b]? = some (.cells cur 25 fr) → w'.heap[b]? = w.heap[b]? := by
    intro b cur fr _ hh
    have hbs := (Array.getElem?_eq_some_iff.1 hh).1
    have h1 : (w.alloc O).heap[b]? = w.heap[b]? := Below.heap_alloc w O b hbs
    refine (hg.block b (by simp; omega) (fun e => ?_)).trans h1
    rcases h.own.2 with ⟨hv, _⟩ | ⟨g, cap, cur', hv, _, hgg, _⟩
    · rw [hv] at e; simp [Value.ownBlock] at e
    · rw [hv] at e
      simp only [Value.ownBlock, Option.some.injEq] at e
      rw [← e, hh] at hgg
      simp only [Option.some.injEq, Obj.cells.injEq] at hgg
      exact absurd hgg.2.1 (by decide)
  refine ⟨by simpa using ho, fun y hy => ?_, (h.mv.alloc O).grown hg hbase (fun kk e => (hlt kk e).1), (h.ok.alloc O).grown hg hB (fun kk e => (hlt kk e).1)⟩
  rw [List.mem_append] at hy
  rcases hy with hy | hy
  · exact (h.rows y hy).keep hk
  · simp only [List.mem_singleton] at hy
    subst hy
    exact hx.keep hk
theorem RowT.lo {lo lo' : Nat} {w : World} {v : Value} {l : List V} (h : RowT lo w v l) (hl : lo' ≤ lo) : RowT lo' w v l := by
  obtain ⟨a, c, e, hn, hi⟩ := h
  refine ⟨a, c, e, hn, fun i h' => ?_⟩
  obtain ⟨b, off, cur, fr, ea, hb, hh, hc⟩ := hi i h'
  exact ⟨b, off, cur, fr, ea, by omega, hh, hc⟩

def RowsPost (bc B : Nat) (w : World) (e : Ending) (w' : World) : Prop := ∃ (v : Value) (L : List E), e = .returned v ∧ L.length ≤ 6 ∧ RInv bc B w.heap.size w v L w'

theorem one_cell (w : World) (x : Value) (t : TypeId) : ∀ (j : Nat) (u : Value), ([x] : List Value)[j]? = some u → (w.alloc (.cells #[x] t)).cell? ((⟨w.heap.size, 0, none⟩ : Addr).add j) = some u := by
  intro j u hj
  have hj0 : j = 0 := by have := (List.getElem?_eq_some_iff.1 hj).1; simpa using this
  subst hj0
  have ha : (⟨w.heap.size, 0, none⟩ : Addr).add 0 = ⟨w.heap.size, 0, none⟩ := by unfold Addr.add; simp
  rw [ha]
  exact (World.cell?_alloc_mark w #[x] t (0, 0) 0).trans hj

end Go.Proofs.Ytkkhepfokjogpaa
