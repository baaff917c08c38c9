
/- The first eight rows that came in; Set as a list of rows. -/
import Derived.Test.YtmhgmlnnipdomaaRCopy

import Derived.Test.YtmhgmlnnipdomaaOpen

import Derived.Test.YtmhgmlnnipdomaaCase

namespace Go.Proofs.Ytmhgmlnnipdomaa

open Go.RowKit Go.Deep

structure HeadAt (w : World) (a : Option Addr) (n cap : Nat) (xs : List E) : Prop where
  len : xs.length = min n 8
  hcap : n ≤ cap
  hmax : cap ≤ maxLen
  nil : a = none → n = 0 ∧ cap = 0
  rows : ∀ x ∈ xs, RowB w.heap.size w x.1 x.2
  cells : ∀ j (h : j < xs.length), ∃ b off, a = some ⟨b, off, none⟩ ∧ b < w.heap.size ∧ w.cell? ⟨b, off + j, none⟩ = some xs[j].1

/-- 'append(x, y...)', both rows of the call's own. -/
theorem wpList_append_two {P : Program} {w : World} {ops : Array Oper} {rest : List Oper} {o : Oper} {a : Act} {Q : Exit → Act → World → Prop} (hgd : o.guard = none) (s x : Operand) (t : TypeId)
    (ho : o.op = .call { callee := .builtin .append, args := #[s, x], argTypes := #[t, t] })
    (e : TypeId) (i : TypeInfo) (z : Value) (bytes : Nat) (ht : P.underlying t = some (.slice e)) (hi : P.info? e = some i) (hz : i.zero = some z)
    (hsize : i.size = 1) (hby : i.bytes = bytes) (hzs : z.cells.size = 1)
    (base : Nat) (v : Value) (n : Nat) (xs : List Value) (hs : a.eval s = v) (hown : w.ownsRow base e 1 v n xs)
    (base2 : Nat) (v2 : Value) (n2 : Nat) (xs2 : List Value) (hx : a.eval x = v2) (hown2 : w.ownsRow base2 e 1 v2 n2 xs2) (h1 : ∀ u ∈ xs2, u.oneCell' = true)
    (h63 : n + n2 ≤ maxLen) (hbytes : (n + n2) * bytes ≤ 140737488355328) (hbase : base ≤ w.heap.size)
    (h : ∀ v' w', w'.ownsRow base e 1 v' (n + n2) (xs ++ xs2) → w.grownBy w' v.ownBlock → wpList P ops Q rest (a.put o.dst v') w') : wpList P ops Q (o :: rest) a w := by
  rcases hown2.2 with ⟨rfl, rfl⟩ | ⟨g, cap, cur, rfl, _⟩
  · have hn : xs2 = [] := List.eq_nil_of_length_eq_zero (by simpa using hown2.1)
    subst hn
    refine wpList_append_own_none hgd s x t ho base e i 1 ht hi v n xs hs hown hx (h _ _ ?_ (World.grownBy.refl _ _))
    simpa using hown
  · refine wpList_append_own w hgd s x t ho base e i z 1 bytes ht hi hz hsize hby hzs (by decide) v n xs hs hown ⟨g, 0, none⟩ n2 cap xs2 hx (by simpa using hown2.1) (fun j u hj => ?_) h1 h63 hbytes hbase (fun v' w' a1 a2 _ => h v' w' a1 a2)
    have hj2 := (List.getElem?_eq_some_iff.1 hj).1
    have ha : (⟨g, 0, none⟩ : Addr).add j = ⟨g, j, none⟩ := by unfold Addr.add; split <;> simp_all
    rw [ha, hown2.cellAt j (by have := hown2.1; omega)]
    exact hj

theorem rowT_grown {base b2 : Nat} {v : Value} {n : Nat} {ws : List Value} {w w' : World} {rv : Value} {l : List V} (hr : RowT base w rv l) (ho : w.ownsRow b2 83 1 v n ws) (hg : w.grownBy w' v.ownBlock) : RowT base w' rv l :=
  hr.keep fun b cur fr _ hh => by
    have hbs := (Array.getElem?_eq_some_iff.1 hh).1
    refine hg.block b hbs (fun e => ?_)
    rcases ho.2 with ⟨hv, _⟩ | ⟨g', cap', cur', hv, _, hgg, _⟩
    · rw [hv] at e; simp [Value.ownBlock] at e
    · rw [hv] at e
      simp only [Value.ownBlock, Option.some.injEq] at e
      rw [← e, hh] at hgg
      simp only [Option.some.injEq, Obj.cells.injEq] at hgg
      exact absurd hgg.2.1 (by decide)

/-- What Set returns, as a list of rows. -/
def SetOut (w : World) (xs : List E) (e : Ending) (w' : World) : Prop :=
  ∃ (v : Value) (ys : List E), e = .returned v ∧ RowsB w'.heap.size w' v ys ∧ Rel (ys.map (·.2)) ∧ (∀ r, r ∈ ys.map (·.2) ↔ r ∈ xs.map (·.2)) ∧ ys.length ≤ xs.length ∧ Below w.heap.size w w'
end Go.Proofs.Ytmhgmlnnipdomaa
