
/- What tree answers. -/
import Derived.Test.YtjcbmeannhafjaaPdTreeMath

import Derived.Test.YtjcbmeannhafjaaPdBegun

import Derived.Test.YtjcbmeannhafjaaIvLeaf

namespace Go.Proofs.Ytjcbmeannhafjaa

open Go.RowKit Go.Deep
def TreeAt (bc B lo : Nat) (C Q : List Int) (deep : Nat) : Prop := ∀ (cv qv : Value) (w : World), CaseOk bc B w → IntsG lo w cv C → IntsG lo w qv Q → Calls Try.prog 58 #[.pointer (some ⟨bc, 0, none⟩), cv, qv, .int .i64 deep] w (TreePost bc B C Q deep w)
end Go.Proofs.Ytjcbmeannhafjaa
