
/- What predicates mean. -/
import Derived.Test.YtjkjmkplcjfogaaPdMem

namespace Go.Proofs.Ytjkjmkplcjfogaa

def zV : V := ⟨0, 0, ⟨#[]⟩⟩
def zO : Od := ⟨0, 0, zV⟩
instance : DecidableEq Od := fun a b => decidable_of_iff (a.k = b.k ∧ a.i = b.i ∧ a.v = b.v) (by obtain ⟨k, i, v⟩ := a; obtain ⟨k', i', v'⟩ := b; simp)
instance : Inhabited Od := ⟨zO⟩
instance : Inhabited PT := ⟨.mk 0 0 zO zO []⟩
/-- The element of a list at an index; zero if there is none. -/
def inB (n : Nat) (i : Int) : Bool := decide (0 ≤ i ∧ i < n)
def atV (l : List V) (i : Int) : V := if inB l.length i then l.getD i.toNat zV else zV
def atI (l : List Int) (i : Int) : Int := if inB l.length i then l.getD i.toNat 0 else 0
/-- What an operand denotes; zero, which is not real, if nothing. -/
def denV (o : Od) (R Q : List V) : V := if o.k = 1 then atV R o.i else if o.k = 2 then atV Q o.i else if o.k = 3 then o.v else zV
/-- The comparisons. -/
def testB (c r : Int) : Bool := if c = 1 then r == 0 else if c = 2 then r != 0 else if c = 3 then decide (r < 0) else if c = 4 then decide (r ≤ 0) else if c = 5 then decide (0 < r) else if c = 6 then decide (0 ≤ r) else false
def realV (v : V) : Bool := realB v.k v.n v.s
def cmpsB (c : Int) (a b : V) : Bool := (a.k == b.k) && (realV a && (realV b && testB c (cmpV a b)))
mutual
/-- Does a predicate hold? -/
def holdsP (R Q : List V) : PT → Bool
  | .mk op cmp l r args => if op = 1 then true else if op = 3 then cmpsB cmp (denV l R Q) (denV r R Q) else if op = 4 then allP R Q args else if op = 5 then anyP R Q args else if op = 6 then firstP R Q args else false
def allP (R Q : List V) : List PT → Bool
  | [] => true
  | p :: t => holdsP R Q p && allP R Q t
def anyP (R Q : List V) : List PT → Bool
  | [] => false
  | p :: t => holdsP R Q p || anyP R Q t
def firstP (R Q : List V) : List PT → Bool
  | [] => false
  | p :: _ => !holdsP R Q p
end
theorem holds_eq (R Q : List V) (p : PT) : holdsP R Q p = if p.op = 1 then true else if p.op = 3 then cmpsB p.cmp (denV p.l R Q) (denV p.r R Q) else if p.op = 4 then allP R Q p.args else if p.op = 5 then anyP R Q p.args else if p.op = 6 then firstP R Q p.args else false := by
  cases p; rw [holdsP]; rfl
theorem allP_drop (R Q : List V) (ps : List PT) (k : Nat) (h : k < ps.length) : allP R Q (ps.drop k) = (holdsP R Q ps[k] && allP R Q (ps.drop (k + 1))) := by
  rw [List.drop_eq_getElem_cons h]; rw [allP]
theorem anyP_drop (R Q : List V) (ps : List PT) (k : Nat) (h : k < ps.length) : anyP R Q (ps.drop k) = (holdsP R Q ps[k] || anyP R Q (ps.drop (k + 1))) := by
  rw [List.drop_eq_getElem_cons h]; rw [anyP]
theorem allP_end (R Q : List V) (ps : List PT) (k : Nat) (h : ps.length ≤ k) : allP R Q (ps.drop k) = true := by rw [List.drop_eq_nil_of_le h, allP]
theorem anyP_end (R Q : List V) (ps : List PT) (k : Nat) (h : ps.length ≤ k) : anyP R Q (ps.drop k) = false := by rw [List.drop_eq_nil_of_le h, anyP]
theorem firstP_some (R Q : List V) (ps : List PT) (h : 0 < ps.length) : firstP R Q ps = !holdsP R Q ps[0] := by
  cases ps with
  | nil => simp at h
  | cons p t => rw [firstP]; rfl
theorem firstP_none (R Q : List V) (ps : List PT) (h : ps.length = 0) : firstP R Q ps = false := by
  have : ps = [] := List.eq_nil_of_length_eq_zero h
  rw [this, firstP]
theorem real_zV : realV zV = false := by decide
theorem inB_nat (n k : Nat) : inB n k = decide (k < n) := by unfold inB; rw [Bool.eq_iff_iff]; simp
theorem inB_true {n : Nat} {i : Int} (h : inB n i = true) : ∃ k : Nat, i = k ∧ k < n := by
  unfold inB at h
  have := of_decide_eq_true h
  exact ⟨i.toNat, by omega, by omega⟩
theorem inB_false {n : Nat} {i : Int} (h : inB n i = false) : i < 0 ∨ (n : Int) ≤ i := by
  unfold inB at h
  have := of_decide_eq_false h
  omega
theorem atV_in {l : List V} {k : Nat} (h : k < l.length) : atV l k = l[k] := by
  unfold atV; rw [inB_nat, if_pos (by simpa using h)]; simp [h]
theorem atI_in {l : List Int} {k : Nat} (h : k < l.length) : atI l k = l[k] := by
  unfold atI; rw [inB_nat, if_pos (by simpa using h)]; simp [h]
theorem atV_out {l : List V} {i : Int} (h : inB l.length i = false) : atV l i = zV := by unfold atV; rw [h]; rfl
theorem atI_out {l : List Int} {i : Int} (h : inB l.length i = false) : atI l i = 0 := by unfold atI; rw [h]; rfl
/-- An operand may denote nothing: then no comparison holds. -/
theorem cmpsB_zl (c : Int) (b : V) : cmpsB c zV b = false := by unfold cmpsB; rw [real_zV]; simp
theorem cmpsB_zr (c : Int) (a : V) : cmpsB c a zV = false := by unfold cmpsB; rw [real_zV]; simp
end Go.Proofs.Ytjkjmkplcjfogaa
