
/- slices.SortFunc over rows with value.CompareRows, by its contract. -/
import Derived.Test.YtmhgmlnnipdomaaRow


namespace Go.Proofs.Ytmhgmlnnipdomaa

open Go.RowKit
end Go.Proofs.Ytmhgmlnnipdomaa
