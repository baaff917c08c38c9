
/- Trees and predicates of a case. -/
import Derived.Test.YtjcbmeannhafjaaPdTreeNe

import Derived.Test.YtjcbmeannhafjaaPdTreeE

import Derived.Test.YtjcbmeannhafjaaPdPred

namespace Go.Proofs.Ytjcbmeannhafjaa

open Go.RowKit Go.Deep

theorem cTree_any (bc B lo : Nat) (C Q : List Int) (hkc : okKs C = true) (hcl : C.length ≤ 5) (hql : Q.length ≤ 5) (hlo : bc < lo) : ∀ deep : Nat, deep ≤ 3 → TreeAt bc B lo C Q deep
  | 0, hd => fun cv qv w h hcv hqv => by
    by_cases hC : 0 < C.length
    · exact cTreeS_ne bc B lo C Q cv qv 0 w h hd hkc hcl hql hcv hqv hlo hC (fun d e => by omega)
    · exact cTreeS_e bc B lo C Q cv qv 0 w h hd hkc hcl hql hcv hqv hlo (by omega) (fun d e => by omega)
  | n + 1, hd => fun cv qv w h hcv hqv => by
    have IH := cTree_any bc B lo C Q hkc hcl hql hlo n (by omega)
    by_cases hC : 0 < C.length
    · exact cTreeS_ne bc B lo C Q cv qv (n + 1) w h hd hkc hcl hql hcv hqv hlo hC (fun d e => (show n = d by omega) ▸ IH)
    · exact cTreeS_e bc B lo C Q cv qv (n + 1) w h hd hkc hcl hql hcv hqv hlo (by omega) (fun d e => (show n = d by omega) ▸ IH)

theorem cPredicate_any (bc B lo : Nat) (C Q : List Int) (cv qv : Value) (deep : Nat) (w : World) (h : CaseOk bc B w) (hdeep : deep ≤ 3) (hkc : okKs C = true) (hkq : okKs Q = true) (hcl : C.length ≤ 5) (hql : Q.length ≤ 5) (hcv : IntsG lo w cv C) (hqv : IntsG lo w qv Q) (hlo : bc < lo) : Calls Try.prog 32 #[.pointer (some ⟨bc, 0, none⟩), cv, qv, .int .i64 deep] w (PredPost bc B C Q w) :=
  cPredicate_of bc B lo C Q (fun d hd => cTree_any bc B lo C Q hkc hcl hql hlo d hd) cv qv deep w h hdeep hkc hkq hcv hqv hlo
end Go.Proofs.Ytjcbmeannhafjaa
