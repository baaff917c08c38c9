/- For every list of codes, every predicate, row and list of values the law PredicateHolds answers true, and its arguments read as before: Holds and the reference's Holds answer the same for a predicate of a case, a spoilt one and the given one, over the case's row and values and the given ones. -/
import Derived.Test.YtffeghlepblapaaRows
import Derived.Test.YtffeghlepblapaaLawPHolds
import Derived.Test.YtffeghlepblapaaOpenP
import Derived.WalkKit
import Derived.ProofKit
import Derived.OpenShut
import Derived.Below
import Derived.Carry
import Derived.Lib.SmallJoins
namespace Go.Proofs.Ytffeghlepblapaa.predicateHolds
open Go.ChangeShapes Go.WideShapes Go.ChangeAt Go.RowKit Go.Joins
open Go.ChangeMaps (open_string shut_string)

theorem own : ownKnob Try.prog.godebug = none := by kernel_rfl
theorem laidOut : laidOutB Try.prog = true := by kernel_rfl

set_option maxRecDepth 100000 in
theorem lifted (os : Os) (started : os.Started) (H : Type) (enc : TypeId × Value → H) :
    ReturnsInHanded {} Try.checked os 4 .any (Rows.predicateHoldsSpec.pre6 enc Try.prog Try.f4 Rows.predicateHoldsRow.domain false) (Rows.predicateHoldsSpec.post enc Try.prog Try.f4 false true false false) := by
  refine returnsInHanded_of_change_sized (C := Try.checked) own started (by kernel_rfl) Try.func4
    (ChangeSpec.witness6 (enc := enc) (C := Try.checked) false ⟨#[], #[.slice none 0 0, .agg #[.int .i64 0, .int .i64 0, .int .i64 0, .int .i64 0, .int .i64 0, .int .i64 0, .string ⟨#[]⟩, .int .i64 0, .int .i64 0, .int .i64 0, .int .i64 0, .string ⟨#[]⟩, .slice none 0 0], .slice none 0 0, .slice none 0 0], []⟩ 8 (by kernel_rfl) (by kernel_rfl) (by kernel_rfl) (by kernel_rfl)) ?_
  intro W base args ds gs before hval0 hW hcnd hsz _
  have hval : ∀ (j : Nat) t v, Try.f4.params[j]? = some t → args[j]? = some v → Value.okWide Try.prog W .any base t v := hval0
  have hW' := hW
  obtain ⟨p, q, hA0, hV, rfl, hfz, hnd⟩ := hW
  have hA : DataW.TrodAll enc Try.prog W 0 (fun _ => true) true Try.f4.params.toList args.toList ds p := hA0
  rw [Try.params4] at hA hval
  obtain ⟨v0, vs0, d0, ds0, p0, q0, hargs, rfl, rfl, h0, r0⟩ := trodAll_cons hA
  obtain ⟨v1, vs1, d1, ds1, p1, q1, rfl, rfl, rfl, h1, r1⟩ := trodAll_cons r0
  obtain ⟨v2, vs2, d2, ds2, p2, q2, rfl, rfl, rfl, h2, r2⟩ := trodAll_cons r1
  obtain ⟨v3, vs3, d3, ds3, p3, q3, rfl, rfl, rfl, h3, r3⟩ := trodAll_cons r2
  obtain ⟨rfl, rfl, rfl⟩ := trodAll_nil r3
  obtain rfl : args = #[v0, v1, v2, v3] := by cases args; simp_all
  obtain ⟨rfl, rfl⟩ := trodVars_none hV
  have k0 := h0
  have lt0 : ∀ x ∈ p0, x.block < W.heap.size := by obtain ⟨m, hm⟩ := k0; exact DataW.trod_lt m _ _ _ hm
  have k1 := h1
  have lt1 : ∀ x ∈ p1, x.block < W.heap.size := by obtain ⟨m, hm⟩ := k1; exact DataW.trod_lt m _ _ _ hm
  have k2 := h2
  have lt2 : ∀ x ∈ p2, x.block < W.heap.size := by obtain ⟨m, hm⟩ := k2; exact DataW.trod_lt m _ _ _ hm
  have k3 := h3
  have lt3 : ∀ x ∈ p3, x.block < W.heap.size := by obtain ⟨m, hm⟩ := k3; exact DataW.trod_lt m _ _ _ hm
  obtain ⟨sa0, sn0, sc0, rfl⟩ := okWide_slice Try.underlying22 (hval 0 22 v0 rfl rfl)
  have b0 : BytesAt W (.slice sa0 sn0 sc0) sn0 := by
    obtain ⟨fuel, hf⟩ := h0
    rcases open_ints Try.underlying22 Try.underlying5 (by kernel_rfl) hf with ⟨hcs, _⟩ | ⟨x, l, c, zs, hcs, _, hl, hm, hz, _, hcell, hwz⟩
    · simp [Value.cells] at hcs
      obtain ⟨rfl, rfl, rfl⟩ := hcs
      exact bytesAt_nil W
    · simp [Value.cells] at hcs
      obtain ⟨rfl, rfl, rfl⟩ := hcs
      exact bytesAt_some W x sn0 sc0 zs hl hm (by simp at hz; omega) hcell hwz
  have b1 : ∃ t : PT, Pd W v1 t ∧ widP t := by
    obtain ⟨cs, rfl, _, _⟩ : ∃ cs, v1 = .agg cs ∧ cs.size = Try.prog.cellsOf 29 ∧ True := by
      have h := hval 1 29 v1 rfl rfl
      unfold Value.okWide at h
      rw [Try.underlying29] at h
      obtain ⟨cs, e, hs, _⟩ := h
      exact ⟨cs, e, hs, trivial⟩
    obtain ⟨fuel, hf⟩ := h1
    obtain ⟨t, e, hp, hwd⟩ := open_pred fuel hf (fun m hm => by
      have := List.all_eq_true.1 hsz _ (DataW.weights_mem_each (j := 1) (t := 29) (d := d1) rfl rfl m hm)
      simpa using this)
    refine ⟨t.p, ⟨t.a, t.c, ?_, hp⟩, hwd⟩
    have e2 : cs.toList = t.cells := e
    have e3 : cs = t.cells.toArray := by rw [← e2]
    rw [e3]
    rfl
  obtain ⟨t1, b1, wd1⟩ := b1
  obtain ⟨sa2, sn2, sc2, rfl⟩ := okWide_slice Try.underlying41 (hval 2 41 v2 rfl rfl)
  have b2 : ∃ l : List V, l.length = sn2 ∧ RowAt W (.slice sa2 sn2 sc2) l := by
    obtain ⟨fuel, hf⟩ := h2
    refine open_rowP (x := (d2, p2)) (by simpa [Value.cells] using hf) (fun elems spare hx => ?_)
    have hbd : (elems.length + spare.length) * Try.prog.bytesOf 24 ≤ reachBytes := sized_slice (j := 2) (t := 41) (elems := elems) (spare := spare) hsz rfl (by simpa using hx) Try.underlying41
    rw [show Try.prog.bytesOf 24 = 32 from by kernel_rfl] at hbd
    have hlt := reachBytes_lt
    omega
  obtain ⟨l2, hl2, b2⟩ := b2
  subst hl2
  obtain ⟨sa3, sn3, sc3, rfl⟩ := okWide_slice Try.underlying40 (hval 3 40 v3 rfl rfl)
  have b3 : ∃ l : List V, l.length = sn3 ∧ RowAt W (.slice sa3 sn3 sc3) l := by
    obtain ⟨fuel, hf⟩ := h3
    refine open_vals (x := (d3, p3)) (by simpa [Value.cells] using hf) (fun elems spare hx => ?_)
    have hbd : (elems.length + spare.length) * Try.prog.bytesOf 24 ≤ reachBytes := sized_slice (j := 3) (t := 40) (elems := elems) (spare := spare) hsz rfl (by simpa using hx) Try.underlying40
    rw [show Try.prog.bytesOf 24 = 32 from by kernel_rfl] at hbd
    have hlt := reachBytes_lt
    omega
  obtain ⟨l3, hl3, b3⟩ := b3
  subst hl3
  clear hA0 hval0
  refine (pholds_walk (.slice sa0 sn0 sc0) sn0 v1 t1 (.slice sa2 l2.length sc2) l2 (.slice sa3 l3.length sc3) l3 W b0 b1 wd1 b2 b3).mono fun e W' ⟨he, bel⟩ => ?_
  subst he
  exact ⟨_, rfl, _, _, _, [], _, [], hW', trodAll_mk1 (shut_bool Try.underlying4 _), (trodAll_cons_mk (Below.trod laidOut (by kernel_rfl) (of_decide_eq_true (by kernel_rfl)) k0 bel lt0) (trodAll_cons_mk (Below.trod laidOut (by kernel_rfl) (of_decide_eq_true (by kernel_rfl)) k1 bel lt1) (trodAll_cons_mk (Below.trod laidOut (by kernel_rfl) (of_decide_eq_true (by kernel_rfl)) k2 bel lt2) (trodAll_cons_mk (Below.trod laidOut (by kernel_rfl) (of_decide_eq_true (by kernel_rfl)) k3 bel lt3) trodAll_mk0)))), rfl, bel.frame _, fun h => by cases h⟩

theorem over : Rows.predicateHoldsRow.holds Try.pinned (OpenSpec.ofChange Rows.predicateHoldsSpec) :=
  OpenClaim.holds_of_wide 4 Try.f4 rfl rfl rfl rfl rfl rfl rfl ⟨rfl, rfl, rfl, rfl, rfl⟩ rfl rfl rfl rfl rfl (by kernel_rfl) Try.func4 (by kernel_rfl)
    (of_decide_eq_true (by kernel_rfl)) (by unfold Func.isWrapper; first | (rw [if_pos (by decide +kernel)]; kernel_rfl) | (rw [if_neg (by decide +kernel)]; exact ⟨rfl, rfl⟩))
    (fun os started H enc _ => lifted os started H enc)

theorem proved : Rows.PredicateHoldsSaid := over
#print axioms proved
end Go.Proofs.Ytffeghlepblapaa.predicateHolds
