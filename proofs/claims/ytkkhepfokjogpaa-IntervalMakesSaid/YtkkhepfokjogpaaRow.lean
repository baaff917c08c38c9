
/- Rows in memory, their order, and the walk of value.CompareRows. -/
import Derived.Test.YtkkhepfokjogpaaVal

import Derived.Outline

import Derived.Deep.RegionWith

namespace Go.Proofs.Ytkkhepfokjogpaa

open Go.RowKit

def cmpRows : List V → List V → Int
  | [], [] => 0
  | [], _ :: _ => -1
  | _ :: _, [] => 1
  | a :: x, b :: y => if a = b then cmpRows x y else cmpV a b

theorem cmpRows_flip : ∀ a b : List V, cmpRows b a = - cmpRows a b
  | [], [] => rfl
  | [], _ :: _ => rfl
  | _ :: _, [] => rfl
  | a :: x, b :: y => by
    simp only [cmpRows]
    by_cases h : a = b
    · simp [h, cmpRows_flip x y]
    · have : ¬ b = a := fun e => h e.symm
      simp [h, this, cmpV_flip a b]
theorem cmpRows_zero : ∀ a b : List V, cmpRows a b = 0 ↔ a = b
  | [], [] => by simp [cmpRows]
  | [], _ :: _ => by simp [cmpRows]
  | _ :: _, [] => by simp [cmpRows]
  | a :: x, b :: y => by
    simp only [cmpRows]
    by_cases h : a = b
    · simp [h, cmpRows_zero x y]
    · simp [h, cmpV_zero]
theorem cmpRows_range : ∀ a b : List V, cmpRows a b = -1 ∨ cmpRows a b = 0 ∨ cmpRows a b = 1
  | [], [] => by simp [cmpRows]
  | [], _ :: _ => by simp [cmpRows]
  | _ :: _, [] => by simp [cmpRows]
  | a :: x, b :: y => by
    simp only [cmpRows]
    have := cmpRows_range x y
    split
    · exact this
    · exact cmpV_range a b
theorem cmpRows_trans : ∀ a b c : List V, cmpRows a b ≤ 0 → cmpRows b c ≤ 0 → cmpRows a c ≤ 0
  | [], _, [] => by simp [cmpRows]
  | [], _, _ :: _ => by simp [cmpRows]
  | _ :: _, [], _ => by simp [cmpRows]
  | _ :: _, _ :: _, [] => by simp [cmpRows]
  | a :: x, b :: y, c :: z => by
    simp only [cmpRows]
    intro h1 h2
    by_cases e1 : a = b
    · subst e1
      by_cases e2 : a = c
      · subst e2
        simp only [if_true] at *
        exact cmpRows_trans x y z h1 h2
      · simp only [e2, if_false] at *; exact h2
    · simp only [e1, if_false] at h1
      by_cases e2 : b = c
      · subst e2
        simp only [e1, if_false]; exact h1
      · simp only [e2, if_false] at h2
        have h3 := cmpV_trans a b c h1 h2
        by_cases e3 : a = c
        · subst e3
          exfalso
          have f1 := cmpV_flip a b
          have f2 : cmpV a b = 0 := by omega
          exact e1 ((cmpV_zero a b).1 f2)
        · simp only [e3, if_false]; exact h3

theorem cmpRows_end (l1 l2 : List V) (k : Nat) (h1 : k ≤ l1.length) (h2 : k ≤ l2.length) (h : k = l1.length ∨ k = l2.length) : cmpRows (l1.drop k) (l2.drop k) = cmpI l1.length l2.length := by
  rcases h with h | h
  · rw [List.drop_eq_nil_of_le (by omega : l1.length ≤ k)]
    by_cases e : k = l2.length
    · rw [List.drop_eq_nil_of_le (by omega : l2.length ≤ k)]
      have : (l1.length : Int) = l2.length := by omega
      simp [cmpRows, cmpI, this]
    · rw [List.drop_eq_getElem_cons (by omega : k < l2.length)]
      have : (l1.length : Int) < l2.length := by omega
      simp [cmpRows, cmpI]; omega
  · rw [List.drop_eq_nil_of_le (by omega : l2.length ≤ k)]
    by_cases e : k = l1.length
    · rw [List.drop_eq_nil_of_le (by omega : l1.length ≤ k)]
      have : (l1.length : Int) = l2.length := by omega
      simp [cmpRows, cmpI, this]
    · rw [List.drop_eq_getElem_cons (by omega : k < l1.length)]
      have : (l2.length : Int) < l1.length := by omega
      simp [cmpRows, cmpI]; omega

/-- The three cells of a value stand at an address. -/
def CellsV (w : World) (b o : Nat) (v : V) : Prop := w.cell? ⟨b, o, none⟩ = some (.int .i64 v.k) ∧ w.cell? ⟨b, o + 1, none⟩ = some (.int .i64 v.n) ∧ w.cell? ⟨b, o + 2, none⟩ = some (.string v.s)

/-- A slice value reads as a row. -/
def RowAt (w : World) (rv : Value) (l : List V) : Prop :=
  ∃ (a : Option Addr) (c : Nat), rv = .slice a l.length c ∧ l.length ≤ 4398046511104 ∧
    ∀ i (h : i < l.length), ∃ b off, a = some ⟨b, off, none⟩ ∧ b < w.heap.size ∧ CellsV w b (off + i * 3) l[i]

end Go.Proofs.Ytkkhepfokjogpaa
