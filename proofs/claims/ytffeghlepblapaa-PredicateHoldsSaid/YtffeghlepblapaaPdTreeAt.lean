
/- What tree answers. -/
import Derived.Test.YtffeghlepblapaaPdJoinMath

import Derived.Test.YtffeghlepblapaaPdBegun

import Derived.Test.YtffeghlepblapaaIvLeaf

namespace Go.Proofs.Ytffeghlepblapaa

open Go.RowKit Go.Deep
def TreeAt (bc B lo : Nat) (C Q : List Int) (deep : Nat) : Prop := ∀ (cv qv : Value) (w : World), CaseOk bc B w → IntsG lo w cv C → IntsG lo w qv Q → Calls Try.prog 27 #[.pointer (some ⟨bc, 0, none⟩), cv, qv, .int .i64 deep] w (TreePost bc B C Q deep w)
end Go.Proofs.Ytffeghlepblapaa
