
/- The law's 'same' on lists of ints. -/
import Derived.Test.YtjcbmeannhafjaaPdInts

import Derived.Deep.QuietTactic

import Derived.BigQuiet

namespace Go.Proofs.Ytjcbmeannhafjaa

open Go.RowKit

theorem dropI_iff (A B : List Int) (k : Nat) (i1 : k < A.length) (i2 : k < B.length) : (A.drop k = B.drop k) ↔ (A[k] = B[k] ∧ A.drop (k + 1) = B.drop (k + 1)) := by
  rw [List.drop_eq_getElem_cons i1, List.drop_eq_getElem_cons i2, List.cons.injEq]
end Go.Proofs.Ytjcbmeannhafjaa
