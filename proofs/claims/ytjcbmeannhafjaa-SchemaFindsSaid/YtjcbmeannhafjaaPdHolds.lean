
/- predicate.Holds. -/
import Derived.Test.YtjcbmeannhafjaaPdLeaf

import Derived.Deep.RegionHeld3

namespace Go.Proofs.Ytjcbmeannhafjaa

open Go.RowKit

/-- A predicate whose fields are letters. -/
theorem pd_fields {W : World} {v : Value} {p : PT} (h : Pd W v p) : ∃ op cmp lk li lvk lvn lvs rk ri rvk rvn rvs ps a c, p = .mk op cmp ⟨lk, li, ⟨lvk, lvn, lvs⟩⟩ ⟨rk, ri, ⟨rvk, rvn, rvs⟩⟩ ps ∧
    v = .agg #[.int .i64 op, .int .i64 cmp, .int .i64 lk, .int .i64 li, .int .i64 lvk, .int .i64 lvn, .string lvs, .int .i64 rk, .int .i64 ri, .int .i64 rvk, .int .i64 rvn, .string rvs, .slice a ps.length c] ∧ PdS (fun _ => True) W ps a c := by
  obtain ⟨a, c, rfl, h⟩ := h
  obtain ⟨op, cmp, ⟨lk, li, ⟨lvk, lvn, lvs⟩⟩, ⟨rk, ri, ⟨rvk, rvn, rvs⟩⟩, ps⟩ := p
  exact ⟨op, cmp, lk, li, lvk, lvn, lvs, rk, ri, rvk, rvn, rvs, ps, a, c, rfl, rfl, h⟩

theorem holds_other (R Q : List V) (p : PT) (h1 : p.op ≠ 1) (h3 : p.op ≠ 3) (h4 : p.op ≠ 4) (h5 : p.op ≠ 5) (h6 : p.op ≠ 6) : holdsP R Q p = false := by
  rw [holds_eq, if_neg h1, if_neg h3, if_neg h4, if_neg h5, if_neg h6]
theorem holds_and (R Q : List V) (p : PT) (h : p.op = 4) : holdsP R Q p = allP R Q (p.args.drop 0) := by rw [holds_eq, h]; simp
theorem holds_or (R Q : List V) (p : PT) (h : p.op = 5) : holdsP R Q p = anyP R Q (p.args.drop 0) := by rw [holds_eq, h]; simp
theorem holds_not (R Q : List V) (p : PT) (h : p.op = 6) : holdsP R Q p = firstP R Q p.args := by rw [holds_eq, h]; simp
theorem holds_true (R Q : List V) (p : PT) (h : p.op = 1) : holdsP R Q p = true := by rw [holds_eq, h]; simp

end Go.Proofs.Ytjcbmeannhafjaa
