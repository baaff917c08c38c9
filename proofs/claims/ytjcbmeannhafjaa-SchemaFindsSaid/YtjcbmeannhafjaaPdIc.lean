
/- Lists of ints as own rows. -/
import Derived.Test.YtjcbmeannhafjaaPdInts

import Derived.Maps.AppendAt

import Derived.Sort.Row

namespace Go.Proofs.Ytjcbmeannhafjaa

open Go.RowKit Go.Sort

def iC (s : List Int) : List Value := s.map (Value.int .i64)
theorem iC_app (s x : List Int) : iC (s ++ x) = iC s ++ iC x := by unfold iC; rw [List.map_append]
def AppPost (base : Nat) (s x : List Int) (v : Value) (w : World) (e : Ending) (w' : World) : Prop :=
  ∃ v', e = .returned v' ∧ w'.ownsRow base 3 1 v' (s ++ x).length (iC (s ++ x)) ∧ w.grownBy w' v.ownBlock ∧ (v'.ownBlock = v.ownBlock ∨ ∀ k, v'.ownBlock = some k → w.heap.size ≤ k)
theorem grown_of_alloc {w w' : World} {o : Obj} {row : Option Nat} (h : (w.alloc o).grownBy w' row) : w.grownBy w' row :=
  ⟨h.os, h.tape, h.output, by have := h.size; simp at this; omega, fun k hk hn => (h.block k (by simp; omega) hn).trans ((World.grownBy_alloc w o row).block k hk hn)⟩

theorem iC_length (s : List Int) : (iC s).length = s.length := by unfold iC; simp
theorem iC_at (s : List Int) (j : Nat) : (iC s)[j]? = (s[j]?).map (Value.int .i64) := by unfold iC; simp
/-- An own row of ints, as the shelf has it. -/
theorem own_holds {w : World} {base : Nat} {g n c : Nat} {s : List Int} (ho : w.ownsRow base 3 1 (.slice (some ⟨g, 0, none⟩) n c) s.length (iC s)) : Holds (Value.int .i64) w g 0 s.toArray ∧ g < w.heap.size ∧ base ≤ g ∧ n = s.length ∧ s.length ≤ c ∧ c ≤ maxLen := by
  rcases ho.2 with ⟨h, _⟩ | ⟨g', cap, cur, hv, hg, hgg, hnc, hcm, hcs, htake⟩
  · simp at h
  · simp only [Value.slice.injEq, Option.some.injEq, Addr.mk.injEq, and_true] at hv
    obtain ⟨rfl, rfl, rfl⟩ := hv
    have hlt := (Array.getElem?_eq_some_iff.1 hgg).1
    refine ⟨fun j hj => ?_, hlt, hg, rfl, hnc, hcm⟩
    simp only [List.size_toArray] at hj
    have hcell := ho.cellAt (g := g) j (by simpa using hj)
    refine ⟨?_, ?_⟩
    · rw [Nat.zero_add, hcell, iC_at, List.getElem?_eq_getElem hj]
      simp [hj]
    · unfold World.frozen?
      rw [hgg]
      simp
theorem own_belowI {w w' : World} {base : Nat} {v : Value} {n : Nat} {xs : List Value} (h : w.ownsRow base 3 1 v n xs) (hb : Below w.heap.size w w') : w'.ownsRow base 3 1 v n xs := by
  refine h.kept (row := none) ⟨hb.os, hb.tape, hb.output, hb.size, fun k hk _ => hb.block k hk⟩ ?_
  cases hob : v.ownBlock with
  | none => exact .inl rfl
  | some k => exact .inr (by simp)
end Go.Proofs.Ytjcbmeannhafjaa
