
/- Walks of Has, the program's and the reference's. -/
import Derived.Test.YtmhgmlnnipdomaaRCopy

namespace Go.Proofs.Ytmhgmlnnipdomaa

open Go.RowKit Go.Deep

theorem mem_split (xs : List E) (r : List V) (k : Nat) (hk : k < xs.length) (h : ∀ j (_ : j < xs.length), j < k → xs[j].2 ≠ r) (hn : xs[k].2 ≠ r) : ∀ j (_ : j < xs.length), j < k + 1 → xs[j].2 ≠ r := fun j hj hj2 => by
  by_cases e : j = k
  · subst e; exact hn
  · exact h j hj (by omega)
theorem mem_none (xs : List E) (r : List V) (h : ∀ j (_ : j < xs.length), xs[j].2 ≠ r) : decide (r ∈ xs.map (·.2)) = false := decide_eq_false (fun hm => by
  obtain ⟨x, hx, e⟩ := List.mem_map.1 hm
  obtain ⟨j, hj, rfl⟩ := List.getElem_of_mem hx
  exact h j hj e)

end Go.Proofs.Ytmhgmlnnipdomaa
