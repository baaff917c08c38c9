
/- Columns' closure, and Columns. -/
import Derived.Test.YtjcbmeannhafjaaPdEvery
import Derived.Test.YtjcbmeannhafjaaPdHolds
import Derived.Test.YtjcbmeannhafjaaCase5
import Derived.Maps.AppendAt
import Derived.Test.YtjcbmeannhafjaaPdInts
import Derived.Test.YtjcbmeannhafjaaPdIc
import Derived.Shelf.Sort.Plain
import Derived.Shelf.Slices.In.SortNone
import Derived.Shelf.Slices.CompactI
import Derived.Laws.EntriesVeiled

import Derived.Test.YtjcbmeannhafjaaPdCase

import Derived.Lib.SlicesCompact

namespace Go.Proofs.Ytjcbmeannhafjaa

open Go.RowKit Go.Sort
/-- What Columns answers. -/
def colsP (p : PT) : List Int := Lib.compact ((colP p).mergeSort fun x y => decide (x ≤ y))
theorem compact_le (s : List Int) : (Lib.compact s).length ≤ s.length := by
  unfold Lib.compact Lib.compactUpTo
  rw [List.length_map]
  refine Nat.le_trans (List.length_filter_le _ _) ?_
  simp
theorem compact_nil : Lib.compact ([] : List Int) = [] := rfl
def ColsPost (B : Nat) (l : List Int) (w : World) (e : Ending) (w' : World) : Prop := ∃ a c, e = .returned (.slice a l.length c) ∧ IntsG B w' (.slice a l.length c) l ∧ Below B w w'

end Go.Proofs.Ytjcbmeannhafjaa
