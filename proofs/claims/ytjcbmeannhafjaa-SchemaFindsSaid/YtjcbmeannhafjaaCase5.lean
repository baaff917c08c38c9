
/- Walks over partsynccase: Bool, Cells. -/
import Derived.Test.YtjcbmeannhafjaaCase

import Derived.Test.YtjcbmeannhafjaaCopy

namespace Go.Proofs.Ytjcbmeannhafjaa

open Go.RowKit

def BoolPost (bc B : Nat) (w : World) (e : Ending) (w' : World) : Prop := ∃ x : Bool, e = .returned (.bool x) ∧ Mv bc w w' ∧ CaseOk bc B w'

set_option maxHeartbeats 400000 in
theorem cBool_any (bc B : Nat) (w : World) (h : CaseOk bc B w) : Calls Try.prog 30 #[.pointer (some ⟨bc, 0, none⟩), .int .i64 3] w (BoolPost bc B w) := by
  have HI := Lib.hid (cInt_any bc B 3 w (by omega) (by omega) h)
  clear h
  go_enter Try.func30, Try.ntmps30
  go_wp2_with fail
  refine HI.out.mono ?_
  rintro e w1 ⟨r, rfl, hr0, hr1, hm, ho⟩
  clear HI
  go_wp2_with fail
  go_ret
  exact ⟨_, rfl, hm, ho⟩

/-- A slice value reads as a row whose cells stand in blocks of values from lo on. -/
def RowT (lo : Nat) (w : World) (v : Value) (l : List V) : Prop :=
  ∃ (a : Option Addr) (c : Nat), v = .slice a l.length c ∧ l.length ≤ 4398046511104 ∧
    ∀ i (h : i < l.length), ∃ b off cur fr, a = some ⟨b, off, none⟩ ∧ lo ≤ b ∧ w.heap[b]? = some (.cells cur 57 fr) ∧ CellsV w b (off + i * 3) l[i]
theorem CellsV.same {w w' : World} {b o : Nat} {v : V} (hb : w'.heap[b]? = w.heap[b]?) (h : CellsV w b o v) : CellsV w' b o v :=
  ⟨(World.cell?_of_block (w := w) (a := ⟨b, o, none⟩) hb).trans h.1, (World.cell?_of_block (w := w) (a := ⟨b, o + 1, none⟩) hb).trans h.2.1, (World.cell?_of_block (w := w) (a := ⟨b, o + 2, none⟩) hb).trans h.2.2⟩
theorem RowT.keep {lo : Nat} {w w' : World} {v : Value} {l : List V} (h : RowT lo w v l) (hk : ∀ b cur fr, lo ≤ b → w.heap[b]? = some (.cells cur 57 fr) → w'.heap[b]? = w.heap[b]?) : RowT lo w' v l := by
  obtain ⟨a, c, e, hn, hi⟩ := h
  refine ⟨a, c, e, hn, fun i h' => ?_⟩
  obtain ⟨b, off, cur, fr, ea, hl, hh, hc⟩ := hi i h'
  have hs := hk b cur fr hl hh
  exact ⟨b, off, cur, fr, ea, hl, hs.trans hh, hc.same hs⟩
theorem RowT.mv {lo bc : Nat} {w w' : World} {v : Value} {l : List V} (h : RowT lo w v l) (hm : Mv bc w w') (hb : bc < lo) : RowT lo w' v l :=
  h.keep fun b _ _ hl hh => hm.block b (Array.getElem?_eq_some_iff.1 hh).1 (by omega)
theorem RowT.below {lo : Nat} {w w' : World} {v : Value} {l : List V} (h : RowT lo w v l) (hm : Below w.heap.size w w') : RowT lo w' v l :=
  h.keep fun b _ _ _ hh => hm.block b (Array.getElem?_eq_some_iff.1 hh).1
theorem RowT.rowB {lo : Nat} {w : World} {v : Value} {l : List V} (h : RowT lo w v l) : RowB w.heap.size w v l := by
  obtain ⟨a, c, e, hn, hi⟩ := h
  refine ⟨a, c, e, hn, fun i h' => ?_⟩
  obtain ⟨b, off, cur, fr, ea, hl, hh, hc⟩ := hi i h'
  exact ⟨b, off, ea, (Array.getElem?_eq_some_iff.1 hh).1, hc⟩
theorem RowT.nil (lo : Nat) (w : World) : RowT lo w (.slice none 0 0) [] := ⟨none, 0, rfl, by simp, fun i h => absurd h (by simp)⟩
/-- What the call owns as a row of values reads as one. -/
theorem rowT_own {w : World} {base : Nat} {v : Value} {l : List V} (h : w.ownsRow base 57 3 v l.length (cellsOf l)) (hl : l.length ≤ 4398046511104) : RowT base w v l := by
  rcases h.2 with ⟨rfl, h0⟩ | ⟨g, cap, cur, rfl, hg, hgg, hnc, hcm, hcs, htake⟩
  · have : l = [] := List.eq_nil_of_length_eq_zero h0
    subst this
    exact RowT.nil _ _
  · refine ⟨some ⟨g, 0, none⟩, cap, rfl, hl, fun i hi => ⟨g, 0, cur, (0, 0), rfl, hg, hgg, ?_⟩⟩
    obtain ⟨d0, d1, d2⟩ := cellsOf_at l i hi
    unfold CellsV
    rw [Nat.zero_add]
    exact ⟨(h.cellAt _ (by omega)).trans d0, (h.cellAt _ (by omega)).trans d1, (h.cellAt _ (by omega)).trans d2⟩

theorem Mv.grown {bc base : Nat} {a w w' : World} {row : Option Nat} (h : Mv bc a w) (hg : w.grownBy w' row) (ha : a.heap.size ≤ base) (hr : ∀ k, row = some k → base ≤ k) : Mv bc a w' :=
  ⟨hg.os.trans h.os, hg.tape.trans h.tape, hg.output.trans h.output, Nat.le_trans h.size hg.size, fun k hk hn => (hg.block k (Nat.lt_of_lt_of_le hk h.size) (fun e => by have := hr k e.symm; omega)).trans (h.block k hk hn)⟩
theorem CaseOk.grown {bc B base : Nat} {w w' : World} {row : Option Nat} (h : CaseOk bc B w) (hg : w.grownBy w' row) (hb : B ≤ base) (hr : ∀ k, row = some k → base ≤ k) : CaseOk bc B w' :=
  h.below (B' := B) ⟨hg.os, hg.tape, hg.output, hg.size, fun k hk => hg.block k (by have := h.lt.2; omega) (fun e => by have := hr k e.symm; omega)⟩ (Nat.le_refl _)

def CellsPost (bc B : Nat) (w : World) (e : Ending) (w' : World) : Prop := ∃ (v : Value) (l : List V), e = .returned v ∧ l.length ≤ 2 ∧ RowT w.heap.size w' v l ∧ Mv bc w w' ∧ CaseOk bc B w'

theorem cellsOf_snoc (l : List V) (k n : Int) (s : ByteArray) : cellsOf (l ++ [⟨k, n, s⟩]) = cellsOf l ++ [.int .i64 k, .int .i64 n, .string s] := by
  unfold cellsOf; simp [V.cells]

end Go.Proofs.Ytjcbmeannhafjaa

/- Walk of rows: a few rows. -/
namespace Go.Proofs.Ytjcbmeannhafjaa

open Go.RowKit

theorem own_mv {bc base : Nat} {e : TypeId} {size : Nat} {v : Value} {n : Nat} {xs : List Value} {w w' : World} (h : w.ownsRow base e size v n xs) (hm : Mv bc w w') (hb : bc < base) : w'.ownsRow base e size v n xs := by
  refine h.kept (row := some bc) ⟨hm.os, hm.tape, hm.output, hm.size, fun b hb' hn => hm.block b hb' (fun e => hn (by rw [e]))⟩ ?_
  cases hob : Value.ownBlock v with
  | none => exact .inl rfl
  | some kk => right; intro e; simp only [Option.some.injEq] at e; have := (h.lt kk hob).1; omega

/-- What the loop of rows knows. -/
structure RInv (bc B base : Nat) (w0 : World) (v : Value) (L : List E) (w : World) : Prop where
  own : w.ownsRow base 45 1 v L.length (L.map (·.1))
  rows : ∀ x ∈ L, RowT B w x.1 x.2
  mv : Mv bc w0 w
  ok : CaseOk bc B w
theorem RInv.step {bc B base : Nat} {w0 : World} {v : Value} {L : List E} {w w' : World} (h : RInv bc B base w0 v L w) (hm : Mv bc w w') (ho : CaseOk bc B w') (hb : bc < base) : RInv bc B base w0 v L w' :=
  ⟨own_mv h.own hm hb, fun x hx => (h.rows x hx).mv hm h.ok.lt.1, h.mv.trans hm, ho⟩
theorem RInv.app {bc B base : Nat} {w0 : World} {v v' : Value} {L : List E} {w w' : World} {O : Obj} (h : RInv bc B base w0 v L w) (x : E) (hx : RowT B w x.1 x.2) (hbase : w0.heap.size ≤ base) (hB : B ≤ base)
    (ho : w'.ownsRow base 45 1 v' (L.length + 1) (L.map (·.1) ++ [x.1])) (hg : (w.alloc O).grownBy w' v.ownBlock) : RInv bc B base w0 v' (L ++ [x]) w' := by
  have hlt := h.own.lt
  have hk : ∀ b cur fr, B ≤ b → w.heap[b]? = some (.cells cur 57 fr) → w'.heap[b]? = w.heap[b]? := by
    intro b cur fr _ hh
    have hbs := (Array.getElem?_eq_some_iff.1 hh).1
    have h1 : (w.alloc O).heap[b]? = w.heap[b]? := Below.heap_alloc w O b hbs
    refine (hg.block b (by simp; omega) (fun e => ?_)).trans h1
    rcases h.own.2 with ⟨hv, _⟩ | ⟨g, cap, cur', hv, _, hgg, _⟩
    · rw [hv] at e; simp [Value.ownBlock] at e
    · rw [hv] at e
      simp only [Value.ownBlock, Option.some.injEq] at e
      rw [← e, hh] at hgg
      simp only [Option.some.injEq, Obj.cells.injEq] at hgg
      exact absurd hgg.2.1 (by decide)
  refine ⟨by simpa using ho, fun y hy => ?_, (h.mv.alloc O).grown hg hbase (fun kk e => (hlt kk e).1), (h.ok.alloc O).grown hg hB (fun kk e => (hlt kk e).1)⟩
  rw [List.mem_append] at hy
  rcases hy with hy | hy
  · exact (h.rows y hy).keep hk
  · simp only [List.mem_singleton] at hy
    subst hy
    exact hx.keep hk
theorem RowT.lo {lo lo' : Nat} {w : World} {v : Value} {l : List V} (h : RowT lo w v l) (hl : lo' ≤ lo) : RowT lo' w v l := by
  obtain ⟨a, c, e, hn, hi⟩ := h
  refine ⟨a, c, e, hn, fun i h' => ?_⟩
  obtain ⟨b, off, cur, fr, ea, hb, hh, hc⟩ := hi i h'
  exact ⟨b, off, cur, fr, ea, by omega, hh, hc⟩

def RowsPost (bc B : Nat) (w : World) (e : Ending) (w' : World) : Prop := ∃ (v : Value) (L : List E), e = .returned v ∧ L.length ≤ 6 ∧ RInv bc B w.heap.size w v L w'

theorem one_cell (w : World) (x : Value) (t : TypeId) : ∀ (j : Nat) (u : Value), ([x] : List Value)[j]? = some u → (w.alloc (.cells #[x] t)).cell? ((⟨w.heap.size, 0, none⟩ : Addr).add j) = some u := by
  intro j u hj
  have hj0 : j = 0 := by have := (List.getElem?_eq_some_iff.1 hj).1; simpa using this
  subst hj0
  have ha : (⟨w.heap.size, 0, none⟩ : Addr).add 0 = ⟨w.heap.size, 0, none⟩ := by unfold Addr.add; simp
  rw [ha]
  exact (World.cell?_alloc_mark w #[x] t (0, 0) 0).trans hj

end Go.Proofs.Ytjcbmeannhafjaa
