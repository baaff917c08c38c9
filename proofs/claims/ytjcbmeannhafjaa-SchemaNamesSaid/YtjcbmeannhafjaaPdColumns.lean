
/- predicate's appendColumn, and Columns' closure. -/
import Derived.Test.YtjcbmeannhafjaaPdEvery

import Derived.Test.YtjcbmeannhafjaaPdHolds

import Derived.Test.YtjcbmeannhafjaaCase5

import Derived.Maps.AppendAt

import Derived.Test.YtjcbmeannhafjaaPdInts

import Derived.Test.YtjcbmeannhafjaaPdIc


import Derived.Shelf.Sort.Plain

import Derived.Shelf.Slices.In.SortNone

import Derived.Shelf.Slices.CompactI

import Derived.Laws.EntriesVeiled

namespace Go.Proofs.Ytjcbmeannhafjaa

open Go.RowKit
end Go.Proofs.Ytjcbmeannhafjaa

/- predicate.Columns. -/
namespace Go.Proofs.Ytjcbmeannhafjaa

open Go.RowKit Go.Sort
end Go.Proofs.Ytjcbmeannhafjaa
