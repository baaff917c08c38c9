
/- What the law of columns wants to know: the columns of a predicate tell all. -/
import Derived.Test.YtjkjmkplcjfogaaPdColumns2

import Derived.Test.YtjkjmkplcjfogaaPdAddMath

import Derived.Test.YtjkjmkplcjfogaaPdMath

import Derived.Test.YtjkjmkplcjfogaaCopy

import Derived.Laws.OwnMore

namespace Go.Proofs.Ytjkjmkplcjfogaa

open Go.RowKit Go.Deep

theorem mem_colsP (p : PT) (x : Int) : x ∈ colsP p ↔ x ∈ colP p := by
  unfold colsP; rw [mem_compact, List.mem_mergeSort]
theorem colO_len (o : Od) : (colO o).length ≤ 1 := by unfold colO; split <;> simp
theorem colN_len (p : PT) : (colN p).length ≤ 2 := by
  unfold colN
  split
  · rw [List.length_append]; have := colO_len p.l; have := colO_len p.r; omega
  · simp
mutual
theorem colP_nodes : ∀ p : PT, (colP p).length ≤ 2 * p.nodes
  | .mk op cmp l r args => by
    rw [colP, PT.nodes, List.length_append]
    have := colL_nodes args
    have := colN_len (.mk op cmp l r args)
    omega
theorem colL_nodes : ∀ ps : List PT, (colL ps).length ≤ 2 * nodesL ps
  | [] => by rw [colL, nodesL]; simp
  | p :: t => by
    rw [colL, nodesL, List.length_append]
    have := colP_nodes p
    have := colL_nodes t
    omega
end
theorem colO_fit {C Q : List Int} {o : Od} (h : ofB C Q o = true) : ∀ x ∈ colO o, 0 ≤ x ∧ x < C.length := by
  intro x hx
  unfold colO at hx
  split at hx
  · rename_i hc
    simp only [List.mem_singleton] at hx
    subst hx
    unfold ofB at h
    rw [if_pos hc.1, Bool.and_eq_true] at h
    have := h.1
    unfold inB at this
    exact of_decide_eq_true this
  · simp at hx
theorem colN_fit {C Q : List Int} {p : PT} (h : vnB C Q p = true) : ∀ x ∈ colN p, 0 ≤ x ∧ x < C.length := by
  intro x hx
  unfold colN at hx
  split at hx
  · rename_i h3
    unfold vnB at h
    rw [if_pos h3] at h
    simp only [Bool.and_eq_true] at h
    have ha := h.2.2
    unfold alikeB at ha
    simp only [Bool.and_eq_true] at ha
    rcases List.mem_append.1 hx with hx | hx
    · exact colO_fit ha.1 x hx
    · exact colO_fit ha.2.1 x hx
  · simp at hx
mutual
theorem colP_fit (C Q : List Int) : ∀ p : PT, vldP C Q p = true → ∀ x ∈ colP p, 0 ≤ x ∧ x < C.length
  | .mk op cmp l r args => by
    intro h x hx
    rw [vldP, Bool.and_eq_true] at h
    rw [colP] at hx
    rcases List.mem_append.1 hx with hx | hx
    · exact colN_fit h.1 x hx
    · exact colL_fit C Q args h.2 x hx
theorem colL_fit (C Q : List Int) : ∀ ps : List PT, vldPs C Q ps = true → ∀ x ∈ colL ps, 0 ≤ x ∧ x < C.length
  | [] => by intro _ x hx; rw [colL] at hx; simp at hx
  | p :: t => by
    intro h x hx
    rw [vldPs, Bool.and_eq_true] at h
    rw [colL] at hx
    rcases List.mem_append.1 hx with hx | hx
    · exact colP_fit C Q p h.1 x hx
    · exact colL_fit C Q t h.2 x hx
end

section

variable (R R' Q : List V)
theorem den_cong {o : Od} (h : ∀ x ∈ colO o, atV R x = atV R' x) : denV o R Q = denV o R' Q := by
  unfold denV
  by_cases h1 : o.k = 1
  · rw [if_pos h1, if_pos h1]
    by_cases h0 : 0 ≤ o.i
    · exact h o.i (by unfold colO; rw [if_pos ⟨h1, h0⟩]; simp)
    · rw [atV_out (by unfold inB; simp; omega), atV_out (by unfold inB; simp; omega)]
  · rw [if_neg h1, if_neg h1]
mutual
theorem holds_cong : ∀ p : PT, (∀ x ∈ colP p, atV R x = atV R' x) → holdsP R Q p = holdsP R' Q p
  | .mk op cmp l r args => by
    intro h
    rw [holdsP, holdsP]
    have hL : ∀ x ∈ colL args, atV R x = atV R' x := fun x hx => h x (by rw [colP]; exact List.mem_append_right _ hx)
    rw [all_cong args hL, any_cong args hL, first_cong args hL]
    by_cases h3 : op = 3
    · have hN : ∀ x ∈ colO l ++ colO r, atV R x = atV R' x := fun x hx => h x (by rw [colP]; refine List.mem_append_left _ ?_; unfold colN; rw [if_pos (show (PT.mk op cmp l r args).op = 3 from h3)]; exact hx)
      rw [den_cong R R' Q (o := l) fun x hx => hN x (List.mem_append_left _ hx), den_cong R R' Q (o := r) fun x hx => hN x (List.mem_append_right _ hx)]
    · rw [if_neg h3, if_neg h3]
theorem all_cong : ∀ ps : List PT, (∀ x ∈ colL ps, atV R x = atV R' x) → allP R Q ps = allP R' Q ps
  | [] => by intro _; rw [allP, allP]
  | p :: t => by
    intro h
    rw [allP, allP, holds_cong p fun x hx => h x (by rw [colL]; exact List.mem_append_left _ hx), all_cong t fun x hx => h x (by rw [colL]; exact List.mem_append_right _ hx)]
theorem any_cong : ∀ ps : List PT, (∀ x ∈ colL ps, atV R x = atV R' x) → anyP R Q ps = anyP R' Q ps
  | [] => by intro _; rw [anyP, anyP]
  | p :: t => by
    intro h
    rw [anyP, anyP, holds_cong p fun x hx => h x (by rw [colL]; exact List.mem_append_left _ hx), any_cong t fun x hx => h x (by rw [colL]; exact List.mem_append_right _ hx)]
theorem first_cong : ∀ ps : List PT, (∀ x ∈ colL ps, atV R x = atV R' x) → firstP R Q ps = firstP R' Q ps
  | [] => by intro _; rw [firstP, firstP]
  | p :: t => by
    intro h
    rw [firstP, firstP, holds_cong p fun x hx => h x (by rw [colL]; exact List.mem_append_left _ hx)]
end

end
/-- The cells at some columns are those of another row. -/
def over (T : List V) : List Int → List V → List V
  | [], u => u
  | x :: L, u => over T L (u.set x.toNat (atV T x))
theorem over_snoc (T : List V) (x : Int) : ∀ (L : List Int) (u : List V), over T (L ++ [x]) u = (over T L u).set x.toNat (atV T x)
  | [], _ => rfl
  | _ :: L, _ => over_snoc T x L _
theorem over_len (T : List V) : ∀ (L : List Int) (u : List V), (over T L u).length = u.length
  | [], _ => rfl
  | _ :: L, _ => by rw [over, over_len T L]; simp
theorem atV_set {u : List V} {x : Int} (h0 : 0 ≤ x) (h1 : x < u.length) (v : V) (y : Int) : atV (u.set x.toNat v) y = if y = x then v else atV u y := by
  unfold atV inB
  rw [List.length_set]
  by_cases hy : 0 ≤ y ∧ y < u.length
  · rw [decide_eq_true hy]
    simp only [if_true, List.getD_eq_getElem?_getD, List.getElem?_set]
    by_cases e : y = x
    · subst e; rw [if_pos rfl, if_pos (by omega), if_pos rfl]; rfl
    · rw [if_neg (by omega), if_neg e]
  · rw [decide_eq_false hy]
    simp only [Bool.false_eq_true, if_false]
    rw [if_neg (by omega)]
theorem over_at (T : List V) : ∀ (L : List Int) (u : List V), (∀ x ∈ L, 0 ≤ x ∧ x < u.length) → ∀ y, (y ∈ L ∨ atV u y = atV T y) → atV (over T L u) y = atV T y
  | [], u, _, y, h => by rcases h with h | h; · simp at h
                         · exact h
  | x :: L, u, hL, y, h => by
    rw [over]
    have hx := hL x (by simp)
    refine over_at T L _ (fun z hz => by rw [List.length_set]; exact hL z (by simp [hz])) y ?_
    by_cases hy : y ∈ L
    · exact .inl hy
    · right
      rw [atV_set hx.1 hx.2]
      by_cases e : y = x
      · rw [if_pos e, e]
      · rw [if_neg e]
        rcases h with h | h
        · rcases List.mem_cons.1 h with h | h
          · exact absurd h e
          · exact absurd h hy
        · exact h
theorem cellsOf_set : ∀ (U : List V) (i : Nat) (v : V), i < U.length → (((cellsOf U).set (i * 3) (.int .i64 v.k)).set (i * 3 + 1) (.int .i64 v.n)).set (i * 3 + 2) (.string v.s) = cellsOf (U.set i v)
  | u :: U, 0, v, _ => by simp [cellsOf, V.cells]
  | u :: U, i + 1, v, h => by
    have ih := cellsOf_set U i v (by simpa using h)
    have e : ∀ (l : List Value) (j : Nat) (x : Value), (u.cells ++ l).set ((i + 1) * 3 + j) x = u.cells ++ l.set (i * 3 + j) x := by
      intro l j x
      rw [List.set_append_right _ _ (by simp [V.cells]; omega)]
      congr 2
      simp [V.cells]; omega
    have e0 := fun l x => e l 0 x
    simp only [Nat.add_zero] at e0
    have hc : ∀ (a : V) (r : List V), cellsOf (a :: r) = a.cells ++ cellsOf r := fun a r => by unfold cellsOf; simp
    rw [hc, e0, e _ 1, e _ 2, ih, List.set_cons_succ, hc]
/-- Storing a value into an own row. -/
theorem own_set3 {w : World} {base : Nat} {e : TypeId} {g n cap : Nat} {U : List V} (h : w.ownsRow base e 3 (.slice (some ⟨g, 0, none⟩) n cap) n (cellsOf U)) (i : Nat) (hi : i < U.length) (v : V) :
    (((w.setCell ⟨g, i * 3, none⟩ (.int .i64 v.k)).setCell ⟨g, i * 3 + 1, none⟩ (.int .i64 v.n)).setCell ⟨g, i * 3 + 2, none⟩ (.string v.s)).ownsRow base e 3 (.slice (some ⟨g, 0, none⟩) n cap) n (cellsOf (U.set i v)) := by
  rw [← cellsOf_set U i v hi]
  exact (((h.stored _ _).1.stored _ _).1.stored _ _).1
end Go.Proofs.Ytjkjmkplcjfogaa
