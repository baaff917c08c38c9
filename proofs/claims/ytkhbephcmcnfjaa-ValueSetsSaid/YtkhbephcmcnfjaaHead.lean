/- The first eight rows that came in; Set as a list of rows. -/
import Derived.Test.YtkhbephcmcnfjaaRCopy
import Derived.Test.YtkhbephcmcnfjaaOpen
import Derived.Test.YtkhbephcmcnfjaaBytes
namespace Go.Proofs.Ytkhbephcmcnfjaa
open Go.RowKit Go.Deep

structure HeadAt (w : World) (a : Option Addr) (n cap : Nat) (xs : List E) : Prop where
  len : xs.length = min n 8
  hcap : n ≤ cap
  hmax : cap ≤ maxLen
  nil : a = none → n = 0 ∧ cap = 0
  rows : ∀ x ∈ xs, RowB w.heap.size w x.1 x.2
  cells : ∀ j (h : j < xs.length), ∃ b off, a = some ⟨b, off, none⟩ ∧ b < w.heap.size ∧ w.cell? ⟨b, off + j, none⟩ = some xs[j].1

/-- 'append(x, y...)', both rows of the call's own. -/
theorem wpList_append_two {P : Program} {w : World} {ops : Array Oper} {rest : List Oper} {o : Oper} {a : Act} {Q : Exit → Act → World → Prop} (hgd : o.guard = none) (s x : Operand) (t : TypeId)
    (ho : o.op = .call { callee := .builtin .append, args := #[s, x], argTypes := #[t, t] })
    (e : TypeId) (i : TypeInfo) (z : Value) (bytes : Nat) (ht : P.underlying t = some (.slice e)) (hi : P.info? e = some i) (hz : i.zero = some z)
    (hsize : i.size = 1) (hby : i.bytes = bytes) (hzs : z.cells.size = 1)
    (base : Nat) (v : Value) (n : Nat) (xs : List Value) (hs : a.eval s = v) (hown : w.ownsRow base e 1 v n xs)
    (base2 : Nat) (v2 : Value) (n2 : Nat) (xs2 : List Value) (hx : a.eval x = v2) (hown2 : w.ownsRow base2 e 1 v2 n2 xs2) (h1 : ∀ u ∈ xs2, u.oneCell' = true)
    (h63 : n + n2 ≤ maxLen) (hbytes : (n + n2) * bytes ≤ 140737488355328) (hbase : base ≤ w.heap.size)
    (h : ∀ v' w', w'.ownsRow base e 1 v' (n + n2) (xs ++ xs2) → w.grownBy w' v.ownBlock → wpList P ops Q rest (a.put o.dst v') w') : wpList P ops Q (o :: rest) a w := by
  rcases hown2.2 with ⟨rfl, rfl⟩ | ⟨g, cap, cur, rfl, _⟩
  · have hn : xs2 = [] := List.eq_nil_of_length_eq_zero (by simpa using hown2.1)
    subst hn
    refine wpList_append_own_none hgd s x t ho base e i 1 ht hi v n xs hs hown hx (h _ _ ?_ (World.grownBy.refl _ _))
    simpa using hown
  · refine wpList_append_own w hgd s x t ho base e i z 1 bytes ht hi hz hsize hby hzs (by decide) v n xs hs hown ⟨g, 0, none⟩ n2 cap xs2 hx (by simpa using hown2.1) (fun j u hj => ?_) h1 h63 hbytes hbase (fun v' w' a1 a2 _ => h v' w' a1 a2)
    have hj2 := (List.getElem?_eq_some_iff.1 hj).1
    have ha : (⟨g, 0, none⟩ : Addr).add j = ⟨g, j, none⟩ := by unfold Addr.add; split <;> simp_all
    rw [ha, hown2.cellAt j (by have := hown2.1; omega)]
    exact hj

theorem rowT_grown {base b2 : Nat} {v : Value} {n : Nat} {ws : List Value} {w w' : World} {rv : Value} {l : List V} (hr : RowT base w rv l) (ho : w.ownsRow b2 25 1 v n ws) (hg : w.grownBy w' v.ownBlock) : RowT base w' rv l :=
  hr.keep fun b cur fr _ hh => by
    have hbs := (Array.getElem?_eq_some_iff.1 hh).1
    refine hg.block b hbs (fun e => ?_)
    rcases ho.2 with ⟨hv, _⟩ | ⟨g', cap', cur', hv, _, hgg, _⟩
    · rw [hv] at e; simp [Value.ownBlock] at e
    · rw [hv] at e
      simp only [Value.ownBlock, Option.some.injEq] at e
      rw [← e, hh] at hgg
      simp only [Option.some.injEq, Obj.cells.injEq] at hgg
      exact absurd hgg.2.1 (by decide)

/-- What Set returns, as a list of rows. -/
def SetOut (w : World) (xs : List E) (e : Ending) (w' : World) : Prop :=
  ∃ (v : Value) (ys : List E), e = .returned v ∧ RowsB w'.heap.size w' v ys ∧ Rel (ys.map (·.2)) ∧ (∀ r, r ∈ ys.map (·.2) ↔ r ∈ xs.map (·.2)) ∧ ys.length ≤ xs.length ∧ Below w.heap.size w w'
theorem setOut (v : Value) (xs : List E) (w : World) (h : RowsB w.heap.size w v xs) : Calls Try.prog 14 #[v] w (SetOut w xs) := by
  have hn : xs.length ≤ 4398046511104 := by obtain ⟨_, _, _, hn, _⟩ := h; exact hn
  have hrl : ∀ x ∈ xs, x.2.length ≤ 4398046511104 := by obtain ⟨_, _, _, _, hx, _⟩ := h; exact fun x hm => by obtain ⟨_, _, _, hh, _⟩ := hx x hm; exact hh
  refine (vSet_any v xs w h).mono ?_
  rintro e w' ⟨zs, bs, rfl, hz, hrel, hmem, hI⟩
  let ys : List E := (List.range zs.length).map fun j => (.slice (some ⟨bs j, 0, none⟩) (zs.getD j (.slice none 0 0, [])).2.length (zs.getD j (.slice none 0 0, [])).2.length, (zs.getD j (.slice none 0 0, [])).2)
  have hyl : ys.length = zs.length := by simp [ys]
  have hyj : ∀ j (h : j < zs.length), ys[j]'(by omega) = (.slice (some ⟨bs j, 0, none⟩) zs[j].2.length zs[j].2.length, zs[j].2) := fun j h => by simp [ys, List.getElem?_eq_getElem h]
  have hmap : ys.map (·.2) = zs.map (·.2) := by
    apply List.ext_getElem
    · simp [hyl]
    · intro j h1 h2
      simp only [List.length_map] at h1 h2
      simp only [List.getElem_map]
      rw [hyj j h2]
  refine ⟨_, ys, rfl, ⟨some ⟨w.heap.size, 0, none⟩, xs.length, by rw [hyl], by omega, fun x hx => ?_, fun j hj => ⟨w.heap.size, 0, rfl, hI.hb, ?_⟩⟩, by rw [hmap]; exact hrel, by rw [hmap]; exact hmem, by omega, hI.below⟩
  · obtain ⟨j, hj, rfl⟩ := List.getElem_of_mem hx
    have hj' : j < zs.length := by omega
    rw [hyj j hj']
    obtain ⟨_, _, d3, d4⟩ := hI.done j hj' hj'
    have hlen : zs[j].2.length ≤ 4398046511104 := by
      have hm := (hmem zs[j].2).1 (List.mem_map.2 ⟨_, List.getElem_mem hj', rfl⟩)
      obtain ⟨x, hx1, hx2⟩ := List.mem_map.1 hm
      rw [← hx2]; exact hrl x hx1
    refine ⟨some ⟨bs j, 0, none⟩, _, rfl, hlen, fun i hi => ⟨bs j, 0, rfl, d3, ?_⟩⟩
    obtain ⟨e0, e1, e2⟩ := cellsOf_at zs[j].2 i hi
    have hc : ∀ o, w'.cell? ⟨bs j, o, none⟩ = (cellsOf zs[j].2)[o]? := fun o => by
      unfold World.cell?
      rw [d4]
      simp
    unfold CellsV
    rw [Nat.zero_add, hc, hc, hc]
    exact ⟨e0, e1, e2⟩
  · have hj' : j < zs.length := by omega
    rw [Nat.zero_add, (hI.done j hj' hj').1, hyj j hj']

end Go.Proofs.Ytkhbephcmcnfjaa
