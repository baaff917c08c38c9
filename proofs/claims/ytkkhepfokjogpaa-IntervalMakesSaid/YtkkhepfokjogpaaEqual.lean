
/- Walks of slices.Equal on rows and of value.equalRows. -/
import Derived.Test.YtkkhepfokjogpaaRow

namespace Go.Proofs.Ytkkhepfokjogpaa

open Go.RowKit

/-- The world has drawn; nothing else. -/
def Dr (w w' : World) : Prop := ∃ m, w' = w.drewN m
theorem Dr.refl (w : World) : Dr w w := ⟨0, rfl⟩
theorem Dr.drewN {w w' : World} (h : Dr w w') (n : Nat) : Dr w (w'.drewN n) := by
  obtain ⟨m, rfl⟩ := h
  exact ⟨m + n, by rw [World.drewN_drewN]⟩
theorem Dr.drew {w w' : World} (h : Dr w w') : Dr w w'.drew := h.drewN 1
theorem Dr.gr {w w' : World} (h : Dr w w') : Gr w w' := by
  obtain ⟨m, rfl⟩ := h
  exact (Gr.refl _).drewN _

theorem drop_eq_iff (l1 l2 : List V) (k : Nat) (i1 : k < l1.length) (i2 : k < l2.length) : (l1.drop k = l2.drop k) ↔ (l1[k] = l2[k] ∧ l1.drop (k + 1) = l2.drop (k + 1)) := by
  rw [List.drop_eq_getElem_cons i1, List.drop_eq_getElem_cons i2, List.cons.injEq]

end Go.Proofs.Ytkkhepfokjogpaa
