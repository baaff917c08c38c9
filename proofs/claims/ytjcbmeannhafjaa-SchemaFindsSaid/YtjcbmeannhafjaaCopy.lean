
/- make and copy on rows of several cells; walk of value.copyRow. -/
import Derived.Test.YtjcbmeannhafjaaRow

import Derived.Deep.OwnRows

import Derived.Laws.CopyRow

namespace Go.Proofs.Ytjcbmeannhafjaa

open Go.RowKit

theorem alloc_setRow (w : World) (M cs : Array Value) (t : TypeId) : (w.alloc (.cells M t (0, 0))).setRow w.heap.size cs = w.alloc (.cells cs t (0, 0)) := by
  unfold World.setRow World.alloc
  simp only [World.mk.injEq, and_true]
  apply Array.ext_getElem?
  intro k
  simp only [Array.getElem?_modify, Array.getElem?_push]
  by_cases h : w.heap.size = k
  · subst h; simp
  · rw [if_neg h]
    by_cases h2 : k = w.heap.size
    · exact absurd h2.symm h
    · rw [if_neg h2, if_neg h2]

/-- 'copy(dst, src)' of elements of k cells into the whole row of a new block. -/
theorem run_copy_k {P : Program} (w : World) (dT sT ty elem : TypeId) (t : TypeId) (k n dCap sCap : Nat) (a : Addr) (cur : Array Value) (cs : List Value)
    (hu : P.underlying dT = some (.slice elem)) (hs : (P.info? elem).map (·.size) = some k) (hn : cs.length = n * k) (hcur : cur.size = n * k)
    (hsrc : ∀ j v, cs[j]? = some v → w.cell? (a.add j) = some v) (ha : a.block < w.heap.size) (h1 : ∀ v ∈ cs, v.oneCell' = true) :
    (Builtin.copy_ #[dT, sT] ty #[.slice (some ⟨w.heap.size, 0, none⟩) n dCap, .slice (some a) n sCap]).run P (w.alloc (.cells cur t (0, 0))) =
      .ok (goInt n) (w.alloc (.cells cs.toArray t (0, 0))) := by
  have hold : ∀ x : Addr, x.block < w.heap.size → (w.alloc (.cells cur t (0, 0))).cell? x = w.cell? x := fun x hx => ((Below.refl w.heap.size w).alloc (Nat.le_refl _) _).cell hx
  have hab : ∀ j, (a.add j).block = a.block := fun j => by unfold Addr.add; split <;> rfl
  have hl := run_loadCells_list (P := P) (w.alloc (.cells cur t (0, 0))) a cs (fun j v hj => by rw [hold _ (by rw [hab]; exact ha)]; exact hsrc j v hj)
  have hg : (w.alloc (.cells cur t (0, 0))).heap[w.heap.size]? = some (.cells cur t (0, 0)) := by
    show (w.heap.push (.cells cur t (0, 0)))[w.heap.size]? = _
    simp
  have hst := run_storeCells_at P w.heap.size 0 t cs 0 cur (w.alloc (.cells cur t (0, 0))) hg (by simp; omega) h1
  have e : (cur.toList.take (0 + 0) ++ cs ++ cur.toList.drop (0 + 0 + cs.length)).toArray = cs.toArray := by
    rw [List.drop_eq_nil_of_le (by simp; omega)]; simp
  rw [e, alloc_setRow] at hst
  rw [hn] at hl
  cases hq : P.info? elem with
  | none => simp [hq] at hs
  | some i =>
    have hi : i.size = k := by simpa [hq] using hs
    simp [Builtin.copy_, run_underlying hu, Builtin.lenOf, Builtin.firstCells, sizeOf, typeInfo, hq, hi, hl, hst]

theorem run_copy_zero {P : Program} (w : World) (dT sT ty elem : TypeId) (k dCap sCap : Nat) (d a : Option Addr) (hu : P.underlying dT = some (.slice elem)) (hs : (P.info? elem).map (·.size) = some k) :
    (Builtin.copy_ #[dT, sT] ty #[.slice d 0 dCap, .slice a 0 sCap]).run P w = .ok (goInt 0) w := by
  cases hq : P.info? elem with
  | none => simp [hq] at hs
  | some i =>
    have hi : i.size = k := by simpa [hq] using hs
    have hl : ∀ (x : Addr), (loadCells x 0).run P w = .ok #[] w := fun x => by simpa using run_loadCells_list (P := P) w x [] (by simp)
    cases d <;> cases a <;> simp [Builtin.copy_, run_underlying hu, Builtin.lenOf, Builtin.firstCells, sizeOf, typeInfo, hq, storeCells, hl]

/-- The cells of a row, one behind the other. -/
def cellsOf (l : List V) : List Value := l.flatMap V.cells
theorem length_cellsOf : ∀ l : List V, (cellsOf l).length = l.length * 3
  | [] => rfl
  | v :: r => by
    have := length_cellsOf r
    unfold cellsOf at this ⊢
    simp [V.cells, this]; omega
theorem cellsOf_at : ∀ (l : List V) (i : Nat) (h : i < l.length), (cellsOf l)[i * 3]? = some (.int .i64 l[i].k) ∧ (cellsOf l)[i * 3 + 1]? = some (.int .i64 l[i].n) ∧ (cellsOf l)[i * 3 + 2]? = some (.string l[i].s)
  | v :: r, 0, _ => by simp [cellsOf, V.cells]
  | v :: r, i + 1, h => by
    have ih := cellsOf_at r i (by simpa using h)
    have e : ∀ j, (cellsOf (v :: r))[(i + 1) * 3 + j]? = (cellsOf r)[i * 3 + j]? := by
      intro j
      have : (i + 1) * 3 + j = 3 + (i * 3 + j) := by omega
      rw [this]
      unfold cellsOf
      rw [List.flatMap_cons, List.getElem?_append_right (by simp [V.cells])]
      simp [V.cells]
    refine ⟨?_, ?_, ?_⟩
    · have := e 0; simp only [Nat.add_zero] at this; rw [this]; exact ih.1
    · rw [e 1]; exact ih.2.1
    · rw [e 2]; exact ih.2.2
theorem cellsOf_one : ∀ (l : List V), ∀ v ∈ cellsOf l, v.oneCell' = true := by
  intro l v hv
  unfold cellsOf at hv
  rw [List.mem_flatMap] at hv
  obtain ⟨x, _, hx⟩ := hv
  simp only [V.cells, List.mem_cons, List.not_mem_nil, or_false] at hx
  rcases hx with rfl | rfl | rfl <;> rfl
theorem cellsOf_src (w : World) (b o : Nat) (l : List V) (hc : ∀ i (h : i < l.length), CellsV w b (o + i * 3) l[i]) : ∀ j v, (cellsOf l)[j]? = some v → w.cell? ((⟨b, o, none⟩ : Addr).add j) = some v := by
  intro j v hj
  have ha : (⟨b, o, none⟩ : Addr).add j = ⟨b, o + j, none⟩ := by unfold Addr.add; split <;> simp_all
  rw [ha]
  have hlt : j < (cellsOf l).length := (List.getElem?_eq_some_iff.1 hj).1
  rw [length_cellsOf] at hlt
  have hi : j / 3 < l.length := by omega
  obtain ⟨c0, c1, c2⟩ := hc (j / 3) hi
  obtain ⟨d0, d1, d2⟩ := cellsOf_at l (j / 3) hi
  have hm : j % 3 = 0 ∨ j % 3 = 1 ∨ j % 3 = 2 := by omega
  rcases hm with h | h | h
  · have e : j = j / 3 * 3 := by omega
    rw [← e] at d0 c0
    rw [d0] at hj; rw [c0]; exact hj
  · have e : j = j / 3 * 3 + 1 := by omega
    rw [Nat.add_assoc, ← e] at c1
    rw [← e] at d1
    rw [d1] at hj; rw [c1]; exact hj
  · have e : j = j / 3 * 3 + 2 := by omega
    rw [Nat.add_assoc, ← e] at c2
    rw [← e] at d2
    rw [d2] at hj; rw [c2]; exact hj

theorem info_value : (Try.prog.info? 57).map (·.size) = some 3 := by kernel_rfl
theorem info_row : (Try.prog.info? 45).map (·.size) = some 1 := by kernel_rfl

theorem make_row (n : Nat) (hn : n ≤ 4398046511104) (w : World) : ∃ M : Array Value, M.size = n * 3 ∧ (Instr.makeSlice 45 (.int .i64 (n : Int)) (.int .i64 (n : Int))).run Try.prog w = .ok (.slice (some ⟨w.heap.size, 0, none⟩) n n) (w.alloc (.cells M 57 (0, 0))) := by
  have hinfo : (Try.prog.info? 57).map (fun i => (i.zero, i.size, i.bytes)) = some (some (.agg #[.int .i64 0, .int .i64 0, .string ⟨#[]⟩]), 3, 32) := by kernel_rfl
  obtain ⟨i, hi, hzz⟩ := Option.map_eq_some_iff.1 hinfo
  simp only [Prod.mk.injEq] at hzz
  obtain ⟨hz, hs, hb⟩ := hzz
  have h := run_make (P := Try.prog) w 45 57 i _ Try.underlying45 hi hz .i64 .i64 n n (by omega) (Int.le_refl _) (by rw [hb]; omega) (by omega)
  simp only [Int.toNat_natCast, hs] at h
  exact ⟨_, size_madeCells _ _, h⟩

/-- What copyRow returns: a new row in a block of its own. -/
def CopyPost (w : World) (l : List V) (e : Ending) (w' : World) : Prop :=
  ∃ b, e = .returned (.slice (some ⟨b, 0, none⟩) l.length l.length) ∧ w.heap.size ≤ b ∧ Gr w w' ∧ w'.heap[b]? = some (.cells (cellsOf l).toArray 57 (0, 0))

end Go.Proofs.Ytjcbmeannhafjaa
