
/- predicate.compare; the reference's Compares. -/
import Derived.Test.YtjcbmeannhafjaaPdLeaf

namespace Go.Proofs.Ytjcbmeannhafjaa

open Go.RowKit
end Go.Proofs.Ytjcbmeannhafjaa
