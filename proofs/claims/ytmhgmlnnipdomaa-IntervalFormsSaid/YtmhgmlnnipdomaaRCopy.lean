
/- Walks of the reference's Copy and Same. -/
import Derived.Test.YtmhgmlnnipdomaaCase5

import Derived.Test.YtmhgmlnnipdomaaRow

import Derived.Test.YtmhgmlnnipdomaaSet

namespace Go.Proofs.Ytmhgmlnnipdomaa

open Go.RowKit Go.Deep

def RCopyPost (w : World) (l : List V) (e : Ending) (w' : World) : Prop := ∃ v, e = .returned v ∧ RowT w.heap.size w' v l ∧ Below w.heap.size w w'

set_option maxHeartbeats 400000 in
theorem rCopy_any (rv : Value) (l : List V) (w : World) (h : RowAt w rv l) : Calls Try.prog 77 #[rv] w (RCopyPost w l) := by
  obtain ⟨a, c, rfl, hn, hi⟩ := h
  have hinfo : (Try.prog.info? 25).map (fun i => (i.zero, i.size, i.bytes)) = some (some (.agg #[.int .i64 0, .int .i64 0, .string ⟨#[]⟩]), 3, 32) := by kernel_rfl
  obtain ⟨i0, hi0, hz0, hz1, hz2⟩ := info_parts hinfo
  cases a with
  | none =>
    have h0 : l.length = 0 := by
      by_cases h : 0 < l.length
      · obtain ⟨b, off, e, _⟩ := hi 0 h; simp at e
      · omega
    obtain rfl : l = [] := List.eq_nil_of_length_eq_zero h0
    go_enter Try.func77, Try.ntmps77
    go_wp2_with fail
    go_ret
    exact ⟨_, rfl, RowT.nil _ _, Below.refl _ _⟩
  | some ad =>
    have HI := Lib.hid hi0
    have HZ0 := Lib.hid hz0
    have HZ1 := Lib.hid hz1
    have HZ2 := Lib.hid hz2
    have hnews : ∀ j u, (cellsOf l)[j]? = some u → w.cell? (ad.add j) = some u := by
      by_cases h0 : l.length = 0
      · obtain rfl : l = [] := List.eq_nil_of_length_eq_zero h0
        intro j u hj; simp [cellsOf] at hj
      · obtain ⟨b, o, e0, hb, _⟩ := hi 0 (by omega)
        simp only [Option.some.injEq] at e0
        subst e0
        refine cellsOf_src w b o l (fun i h => ?_)
        obtain ⟨b', o', e, _, hc⟩ := hi i h
        simp only [Option.some.injEq, Addr.mk.injEq] at e
        obtain ⟨rfl, rfl, _⟩ := e
        exact hc
    have HNW := Lib.hid hnews
    have HL1 := Lib.hid (length_cellsOf l)
    have HO1 := Lib.hid (cellsOf_one l)
    have HFIN : Hid (∀ w' v, w'.ownsRow w.heap.size 25 3 v l.length (cellsOf l) → RowT w.heap.size w' v l) := fun w' v h => rowT_own h hn
    have A1 : Hid (0 + l.length ≤ maxLen) := by show _ ≤ _; unfold maxLen; omega
    have A2 : Hid ((0 + l.length) * 32 ≤ 140737488355328) := by show _ ≤ _; omega
    have HOW : Hid (w.ownsRow w.heap.size 25 3 (.slice none 0 0) 0 []) := ⟨by simp, .inl ⟨rfl, rfl⟩⟩
    clear hi hi0 hz0 hz1 hz2 hnews hinfo
    obtain ⟨cs, hcs⟩ : ∃ cs, cellsOf l = cs := ⟨_, rfl⟩
    rw [hcs] at HNW HL1 HO1 HFIN
    clear hcs
    go_enter Try.func77, Try.ntmps77
    go_wp2_with (at_builtin; refine wpList_append_own _ rfl _ _ 83 rfl w.heap.size 25 i0 (.agg #[.int .i64 0, .int .i64 0, .string ⟨#[]⟩]) 3 32 Try.underlying83 HI.out HZ0.out HZ1.out HZ2.out rfl (by decide) _ _ _ rfl HOW.out ad l.length c cs rfl HL1.out HNW.out HO1.out A1.out A2.out (Nat.le_refl _) ?_; intro v' w2 hown2 hgr _; have HOWN := Lib.hid hown2; have HGR := Lib.hid hgr; clear hown2 hgr)
    go_ret
    refine ⟨_, rfl, HFIN.out _ _ (by simpa using HOWN.out), (Below.refl _ _).grown HGR.out (Nat.le_refl _) (fun k e => ?_)⟩
    have e' : Value.ownBlock (.slice none 0 0) = some k := e
    simp [Value.ownBlock] at e'

/-- What the loop of copies knows. -/
structure KInv (base : Nat) (w0 : World) (v : Value) (L : List E) (w : World) : Prop where
  own : w.ownsRow base 83 1 v L.length (L.map (·.1))
  rows : ∀ x ∈ L, RowT base w x.1 x.2
  below : Below base w0 w
theorem own_below {base : Nat} {e : TypeId} {size : Nat} {v : Value} {n : Nat} {xs : List Value} {w w' : World} (h : w.ownsRow base e size v n xs) (hm : Below w.heap.size w w') : w'.ownsRow base e size v n xs :=
  h.kept (row := none) ⟨hm.os, hm.tape, hm.output, hm.size, fun b hb' _ => hm.block b hb'⟩ (by
    cases hob : Value.ownBlock v with
    | none => exact .inl rfl
    | some kk => right; intro e; simp at e)
theorem KInv.step {base : Nat} {w0 : World} {v : Value} {L : List E} {w w' : World} (h : KInv base w0 v L w) (hm : Below w.heap.size w w') (hb : base ≤ w.heap.size) : KInv base w0 v L w' :=
  ⟨own_below h.own hm, fun x hx => (h.rows x hx).below hm, h.below.trans (hm.mono hb)⟩
theorem KInv.app {base : Nat} {w0 : World} {v v' : Value} {L : List E} {w w' : World} {O : Obj} (h : KInv base w0 v L w) (x : E) (hx : RowT base w x.1 x.2) (hbase : base ≤ w.heap.size)
    (ho : w'.ownsRow base 83 1 v' (L.length + 1) (L.map (·.1) ++ [x.1])) (hg : (w.alloc O).grownBy w' v.ownBlock) : KInv base w0 v' (L ++ [x]) w' := by
  have hlt := h.own.lt
  have hk : ∀ b cur fr, base ≤ b → w.heap[b]? = some (.cells cur 25 fr) → w'.heap[b]? = w.heap[b]? := by
    intro b cur fr _ hh
    have hbs := (Array.getElem?_eq_some_iff.1 hh).1
    have h1 : (w.alloc O).heap[b]? = w.heap[b]? := Below.heap_alloc w O b hbs
    refine (hg.block b (by simp; omega) (fun e => ?_)).trans h1
    rcases h.own.2 with ⟨hv, _⟩ | ⟨g, cap, cur', hv, _, hgg, _⟩
    · rw [hv] at e; simp [Value.ownBlock] at e
    · rw [hv] at e
      simp only [Value.ownBlock, Option.some.injEq] at e
      rw [← e, hh] at hgg
      simp only [Option.some.injEq, Obj.cells.injEq] at hgg
      exact absurd hgg.2.1 (by decide)
  refine ⟨by simpa using ho, fun y hy => ?_, (h.below.alloc (by omega) O).grown hg (by simp; omega) (fun kk e => (hlt kk e).1)⟩
  rw [List.mem_append] at hy
  rcases hy with hy | hy
  · exact (h.rows y hy).keep hk
  · simp only [List.mem_singleton] at hy
    subst hy
    exact hx.keep hk
/-- What the call owns as a row of rows reads as a list of rows. -/
theorem rowsB_own {base : Nat} {v : Value} {L : List E} {w : World} (ho : w.ownsRow base 83 1 v L.length (L.map (·.1))) (hr : ∀ x ∈ L, RowB w.heap.size w x.1 x.2) (hn : L.length ≤ 4398046511104) : RowsB w.heap.size w v L := by
  have hlt := ho.lt
  rcases ho.2 with ⟨rfl, h0⟩ | ⟨g, cap, cur, rfl, hg, hgg, hnc, hcm, hcs, htake⟩
  · obtain rfl : L = [] := List.eq_nil_of_length_eq_zero h0
    exact ⟨none, 0, rfl, by simp, hr, fun j h => absurd h (by simp)⟩
  · refine ⟨some ⟨g, 0, none⟩, cap, rfl, hn, hr, fun j hj => ⟨g, 0, rfl, (hlt g rfl).2, ?_⟩⟩
    rw [Nat.zero_add, ho.cellAt j (by omega)]
    simp [List.getElem?_eq_getElem hj]
theorem KInv.rowsB {base : Nat} {w0 : World} {v : Value} {L : List E} {w : World} (h : KInv base w0 v L w) (hn : L.length ≤ 4398046511104) : RowsB w.heap.size w v L :=
  rowsB_own h.own (fun x hx => (h.rows x hx).rowB) hn

end Go.Proofs.Ytmhgmlnnipdomaa
