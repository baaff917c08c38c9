
/- slices.SortFunc over rows with value.CompareRows, by its contract. -/
import Derived.Test.YtkkhepfokjogpaaCompact


namespace Go.Proofs.Ytkkhepfokjogpaa

open Go.RowKit
end Go.Proofs.Ytkkhepfokjogpaa
