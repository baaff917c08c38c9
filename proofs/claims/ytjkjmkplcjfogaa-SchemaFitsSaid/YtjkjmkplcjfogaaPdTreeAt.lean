
/- What tree answers. -/
import Derived.Test.YtjkjmkplcjfogaaPdTreeMath

import Derived.Test.YtjkjmkplcjfogaaPdBegun

import Derived.Test.YtjkjmkplcjfogaaIvLeaf

namespace Go.Proofs.Ytjkjmkplcjfogaa

open Go.RowKit Go.Deep
def TreeAt (bc B lo : Nat) (C Q : List Int) (deep : Nat) : Prop := ∀ (cv qv : Value) (w : World), CaseOk bc B w → IntsG lo w cv C → IntsG lo w qv Q → Calls Try.prog 40 #[.pointer (some ⟨bc, 0, none⟩), cv, qv, .int .i64 deep] w (TreePost bc B C Q deep w)
end Go.Proofs.Ytjkjmkplcjfogaa
