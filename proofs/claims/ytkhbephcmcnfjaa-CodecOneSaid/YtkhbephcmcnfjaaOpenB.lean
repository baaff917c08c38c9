/- Opening an argument of bytes, as what it reads. -/
import Derived.Test.YtkhbephcmcnfjaaPutRef
import Derived.Test.YtkhbephcmcnfjaaBytes
namespace Go.Proofs.Ytkhbephcmcnfjaa
open Go.RowKit Go.Deep

theorem reads_some (w : World) (x : Addr) (n c : Nat) (zs : List Int) (hl : n ≤ c) (hm : c ≤ maxLen) (hz : n ≤ zs.length) (hc : ∀ i, i < zs.length → w.cell? (x.add i) = some (.int .u8 (zs.getD i 0))) (hw : ∀ z ∈ zs, (Lit.int .u8 z).wf = true) : ∃ D, Reads w (.slice (some x) n c) D := by
  refine ⟨(zs.take n).map fun z => UInt8.ofNat z.toNat, some x, c, by simp; omega, by simp; omega, hm, fun h => by simp at h, fun p hp j u hj => ?_⟩
  simp only [Option.some.injEq] at hp
  subst hp
  simp only [bts, List.map_map, List.getElem?_map, List.getElem?_take] at hj
  by_cases hjn : j < n
  · rw [if_pos hjn, List.getElem?_eq_getElem (by omega)] at hj
    simp only [Option.map_some, Option.some.injEq, Function.comp_apply] at hj
    have hwj := bounds_u8 (hw _ (List.getElem_mem (show j < zs.length by omega)))
    rw [hc j (by omega), ← hj, List.getD_eq_getElem?_getD, List.getElem?_eq_getElem (by omega)]
    simp only [Option.getD_some, Option.some.injEq, Value.int.injEq, true_and]
    rw [UInt8.toNat_ofNat']
    omega
  · rw [if_neg hjn] at hj; simp at hj
end Go.Proofs.Ytkhbephcmcnfjaa
