
/- What predicates mean. -/
import Derived.Test.YtjcbmeannhafjaaPdMem

namespace Go.Proofs.Ytjcbmeannhafjaa

def zV : V := ⟨0, 0, ⟨#[]⟩⟩
def zO : Od := ⟨0, 0, zV⟩
instance : DecidableEq Od := fun a b => decidable_of_iff (a.k = b.k ∧ a.i = b.i ∧ a.v = b.v) (by obtain ⟨k, i, v⟩ := a; obtain ⟨k', i', v'⟩ := b; simp)
instance : Inhabited Od := ⟨zO⟩
instance : Inhabited PT := ⟨.mk 0 0 zO zO []⟩
/-- The element of a list at an index; zero if there is none. -/
def inB (n : Nat) (i : Int) : Bool := decide (0 ≤ i ∧ i < n)
def atV (l : List V) (i : Int) : V := if inB l.length i then l.getD i.toNat zV else zV
def atI (l : List Int) (i : Int) : Int := if inB l.length i then l.getD i.toNat 0 else 0
/-- What an operand denotes; zero, which is not real, if nothing. -/
def denV (o : Od) (R Q : List V) : V := if o.k = 1 then atV R o.i else if o.k = 2 then atV Q o.i else if o.k = 3 then o.v else zV
/-- The comparisons. -/
def testB (c r : Int) : Bool := if c = 1 then r == 0 else if c = 2 then r != 0 else if c = 3 then decide (r < 0) else if c = 4 then decide (r ≤ 0) else if c = 5 then decide (0 < r) else if c = 6 then decide (0 ≤ r) else false
def realV (v : V) : Bool := realB v.k v.n v.s
def cmpsB (c : Int) (a b : V) : Bool := (a.k == b.k) && (realV a && (realV b && testB c (cmpV a b)))
mutual
/-- Does a predicate hold? -/
def holdsP (R Q : List V) : PT → Bool
  | .mk op cmp l r args => if op = 1 then true else if op = 3 then cmpsB cmp (denV l R Q) (denV r R Q) else if op = 4 then allP R Q args else if op = 5 then anyP R Q args else if op = 6 then firstP R Q args else false
def allP (R Q : List V) : List PT → Bool
  | [] => true
  | p :: t => holdsP R Q p && allP R Q t
def anyP (R Q : List V) : List PT → Bool
  | [] => false
  | p :: t => holdsP R Q p || anyP R Q t
def firstP (R Q : List V) : List PT → Bool
  | [] => false
  | p :: _ => !holdsP R Q p
end
theorem holds_eq (R Q : List V) (p : PT) : holdsP R Q p = if p.op = 1 then true else if p.op = 3 then cmpsB p.cmp (denV p.l R Q) (denV p.r R Q) else if p.op = 4 then allP R Q p.args else if p.op = 5 then anyP R Q p.args else if p.op = 6 then firstP R Q p.args else false := by
  cases p; rw [holdsP]; rfl
theorem allP_drop (R Q : List V) (ps : List PT) (k : Nat) (h : k < ps.length) : allP R Q (ps.drop k) = (holdsP R Q ps[k] && allP R Q (ps.drop (k + 1))) := by
  rw [List.drop_eq_getElem_cons h]; rw [allP]
theorem anyP_drop (R Q : List V) (ps : List PT) (k : Nat) (h : k < ps.length) : anyP R Q (ps.drop k) = (holdsP R Q ps[k] || anyP R Q (ps.drop (k + 1))) := by
  rw [List.drop_eq_getElem_cons h]; rw [anyP]
theorem allP_end (R Q : List V) (ps : List PT) (k : Nat) (h : ps.length ≤ k) : allP R Q (ps.drop k) = true := by rw [List.drop_eq_nil_of_le h, allP]
theorem anyP_end (R Q : List V) (ps : List PT) (k : Nat) (h : ps.length ≤ k) : anyP R Q (ps.drop k) = false := by rw [List.drop_eq_nil_of_le h, anyP]
theorem firstP_some (R Q : List V) (ps : List PT) (h : 0 < ps.length) : firstP R Q ps = !holdsP R Q ps[0] := by
  cases ps with
  | nil => simp at h
  | cons p t => rw [firstP]; rfl
theorem firstP_none (R Q : List V) (ps : List PT) (h : ps.length = 0) : firstP R Q ps = false := by
  have : ps = [] := List.eq_nil_of_length_eq_zero h
  rw [this, firstP]
theorem real_zV : realV zV = false := by decide
theorem inB_nat (n k : Nat) : inB n k = decide (k < n) := by unfold inB; rw [Bool.eq_iff_iff]; simp
theorem inB_true {n : Nat} {i : Int} (h : inB n i = true) : ∃ k : Nat, i = k ∧ k < n := by
  unfold inB at h
  have := of_decide_eq_true h
  exact ⟨i.toNat, by omega, by omega⟩
theorem inB_false {n : Nat} {i : Int} (h : inB n i = false) : i < 0 ∨ (n : Int) ≤ i := by
  unfold inB at h
  have := of_decide_eq_false h
  omega
theorem atV_in {l : List V} {k : Nat} (h : k < l.length) : atV l k = l[k] := by
  unfold atV; rw [inB_nat, if_pos (by simpa using h)]; simp [h]
theorem atI_in {l : List Int} {k : Nat} (h : k < l.length) : atI l k = l[k] := by
  unfold atI; rw [inB_nat, if_pos (by simpa using h)]; simp [h]
theorem atV_out {l : List V} {i : Int} (h : inB l.length i = false) : atV l i = zV := by unfold atV; rw [h]; rfl
theorem atI_out {l : List Int} {i : Int} (h : inB l.length i = false) : atI l i = 0 := by unfold atI; rw [h]; rfl
/-- An operand may denote nothing: then no comparison holds. -/
theorem cmpsB_zl (c : Int) (b : V) : cmpsB c zV b = false := by unfold cmpsB; rw [real_zV]; simp
theorem cmpsB_zr (c : Int) (a : V) : cmpsB c a zV = false := by unfold cmpsB; rw [real_zV]; simp
end Go.Proofs.Ytjcbmeannhafjaa

/- Which predicates are valid; their nodes one after another. -/
namespace Go.Proofs.Ytjcbmeannhafjaa

/-- The next depth. -/
def nxD (d : Int) : Int := IntKind.i64.wrap (d + 1)
mutual
/-- All nodes in preorder, till one is refused. -/
def walkP {σ : Type} (f : σ → PT → Int → Option σ) : σ → PT → Int → Option σ
  | s, .mk op cmp l r args, d => match f s (.mk op cmp l r args) d with
    | none => none
    | some s' => walkL f s' args (nxD d)
def walkL {σ : Type} (f : σ → PT → Int → Option σ) : σ → List PT → Int → Option σ
  | s, [], _ => some s
  | s, p :: t, d => match walkP f s p d with
    | none => none
    | some s' => walkL f s' t d
end
theorem walkP_none {σ : Type} {f : σ → PT → Int → Option σ} {s : σ} {p : PT} {d : Int} (h : f s p d = none) : walkP f s p d = none := by
  cases p; rw [walkP, h]
theorem walkP_some {σ : Type} {f : σ → PT → Int → Option σ} {s s' : σ} {p : PT} {d : Int} (h : f s p d = some s') : walkP f s p d = walkL f s' p.args (nxD d) := by
  cases p; rw [walkP, h]; rfl
theorem walkL_step {σ : Type} (f : σ → PT → Int → Option σ) (s : σ) (ps : List PT) (k : Nat) (h : k < ps.length) (d : Int) : walkL f s (ps.drop k) d = (walkP f s ps[k] d).bind fun s' => walkL f s' (ps.drop (k + 1)) d := by
  rw [List.drop_eq_getElem_cons h, walkL]
  cases walkP f s ps[k] d <;> rfl
theorem walkL_end {σ : Type} (f : σ → PT → Int → Option σ) (s : σ) (ps : List PT) (k : Nat) (h : ps.length ≤ k) (d : Int) : walkL f s (ps.drop k) d = some s := by
  rw [List.drop_eq_nil_of_le h, walkL]

/-- Column kinds. -/
def okK (k : Int) : Bool := k == 3 || (k == 4 || k == 5)
def okKs (l : List Int) : Bool := l.all okK
theorem okKs_drop (l : List Int) (k : Nat) (h : k < l.length) : okKs (l.drop k) = (okK l[k] && okKs (l.drop (k + 1))) := by
  unfold okKs; rw [List.drop_eq_getElem_cons h, List.all_cons]
theorem okKs_end (l : List Int) (k : Nat) (h : l.length ≤ k) : okKs (l.drop k) = true := by
  unfold okKs; rw [List.drop_eq_nil_of_le h]; rfl
/-- The kind of an operand, and whether it is valid. -/
def ofK (C Q : List Int) (o : Od) : Int := if o.k = 1 then atI C o.i else if o.k = 2 then atI Q o.i else if o.k = 3 then o.v.k else 0
def ofB (C Q : List Int) (o : Od) : Bool := if o.k = 1 then inB C.length o.i && decide (o.v = zV) else if o.k = 2 then inB Q.length o.i && decide (o.v = zV) else if o.k = 3 then o.i == 0 && realV o.v else false
def alikeB (C Q : List Int) (l r : Od) : Bool := ofB C Q l && (ofB C Q r && ofK C Q l == ofK C Q r)
def plnB (p : PT) : Bool := p.cmp == 0 && (decide (p.l = zO) && decide (p.r = zO))
def cmpB (c : Int) : Bool := decide (1 ≤ c ∧ c ≤ 6)
/-- Is a node valid? -/
def vnB (C Q : List Int) (p : PT) : Bool :=
  if p.op = 3 then p.args.length == 0 && (cmpB p.cmp && alikeB C Q p.l p.r)
  else plnB p && (if p.op = 1 then p.args.length == 0 else if p.op = 2 then p.args.length == 0 else if p.op = 4 then true else if p.op = 5 then true else if p.op = 6 then p.args.length == 1 else false)
mutual
/-- Are all nodes valid? -/
def vldP (C Q : List Int) : PT → Bool
  | .mk op cmp l r args => vnB C Q (.mk op cmp l r args) && vldPs C Q args
def vldPs (C Q : List Int) : List PT → Bool
  | [] => true
  | p :: t => vldP C Q p && vldPs C Q t
end
theorem vldP_eq (C Q : List Int) (p : PT) : vldP C Q p = (vnB C Q p && vldPs C Q p.args) := by cases p; rw [vldP]; rfl
theorem vldPs_drop (C Q : List Int) (ps : List PT) (k : Nat) (h : k < ps.length) : vldPs C Q (ps.drop k) = (vldP C Q ps[k] && vldPs C Q (ps.drop (k + 1))) := by
  rw [List.drop_eq_getElem_cons h, vldPs]
theorem vldPs_end (C Q : List Int) (ps : List PT) (k : Nat) (h : ps.length ≤ k) : vldPs C Q (ps.drop k) = true := by rw [List.drop_eq_nil_of_le h, vldPs]
theorem vldPs_all {C Q : List Int} : ∀ {ps : List PT}, vldPs C Q ps = true ↔ ∀ p ∈ ps, vldP C Q p = true
  | [] => by simp [vldPs]
  | p :: t => by rw [vldPs, Bool.and_eq_true, vldPs_all]; simp
mutual
/-- How many nodes. -/
def PT.nodes : PT → Nat
  | .mk _ _ _ _ args => nodesL args + 1
def nodesL : List PT → Nat
  | [] => 0
  | p :: t => p.nodes + nodesL t
end
theorem PT.nodes_eq (p : PT) : p.nodes = nodesL p.args + 1 := by cases p; rfl
theorem nodesL_drop (ps : List PT) (k : Nat) (h : k < ps.length) : nodesL (ps.drop k) = ps[k].nodes + nodesL (ps.drop (k + 1)) := by
  rw [List.drop_eq_getElem_cons h, nodesL]
theorem depthP_drop (ps : List PT) (k : Nat) (h : k < ps.length) : depthP (ps.drop k) = max ps[k].depth (depthP (ps.drop (k + 1))) := by
  rw [List.drop_eq_getElem_cons h, depthP]
/-- Within the limits? -/
def smallP (p : PT) : Bool := decide (p.nodes ≤ 24 ∧ p.depth ≤ 8)
/-- What Check answers. -/
def checkP (C Q : List Int) (p : PT) : Int := if (okKs C && okKs Q) = false then 1 else if smallP p = false then 2 else if vldP C Q p = false then 50 else 0

/-- The node's test of Check. -/
def fV (C Q : List Int) (_ : Unit) (p : PT) (_ : Int) : Option Unit := if vnB C Q p then some () else none
mutual
theorem walk_fV (C Q : List Int) : ∀ (p : PT) (d : Int), (walkP (fV C Q) () p d).isSome = vldP C Q p
  | .mk op cmp l r args, d => by
    rw [vldP]
    cases h : vnB C Q (.mk op cmp l r args) with
    | false => rw [walkP_none (by unfold fV; rw [h]; rfl)]; rfl
    | true =>
      rw [walkP_some (s' := ()) (by unfold fV; rw [h]; rfl), Bool.true_and]
      exact walkL_fV C Q args _
theorem walkL_fV (C Q : List Int) : ∀ (ps : List PT) (d : Int), (walkL (fV C Q) () ps d).isSome = vldPs C Q ps
  | [], d => by rw [walkL, vldPs]; rfl
  | p :: t, d => by
    rw [walkL, vldPs]
    have h1 := walk_fV C Q p d
    have h2 := walkL_fV C Q t d
    cases h : walkP (fV C Q) () p d with
    | none => rw [h] at h1; rw [← h1]; rfl
    | some u => rw [h] at h1; rw [← h1, ← h2]; rfl
end
/-- The node's test of small. -/
def fS (s : Nat) (_ : PT) (d : Int) : Option Nat := if s + 1 ≤ 24 ∧ d ≤ 8 then some (s + 1) else none
theorem nxD_eq {d : Int} (h0 : 0 ≤ d) (h : d ≤ 8) : nxD d = d + 1 := by unfold nxD; rw [IntKind.wrap_i64]; omega
mutual
theorem walk_fS : ∀ (p : PT) (s : Nat) (d : Int), s ≤ 24 → 0 ≤ d → d ≤ 9 → ((s + p.nodes ≤ 24 ∧ d + p.depth ≤ 9) → walkP fS s p d = some (s + p.nodes)) ∧ (¬ (s + p.nodes ≤ 24 ∧ d + p.depth ≤ 9) → walkP fS s p d = none)
  | .mk op cmp l r args, s, d, hs, h0, h9 => by
    have en : (PT.mk op cmp l r args).nodes = nodesL args + 1 := rfl
    have ed : (PT.mk op cmp l r args).depth = depthP args + 1 := rfl
    rw [en, ed]
    by_cases h : s + 1 ≤ 24 ∧ d ≤ 8
    · rw [walkP_some (s' := s + 1) (by unfold fS; rw [if_pos h]), nxD_eq h0 h.2]
      obtain ⟨h1, h2⟩ := walkL_fS args (s + 1) (d + 1) h.1 (by omega) (by omega)
      constructor
      · rintro ⟨a, b⟩
        have := h1 ⟨by omega, by omega⟩
        rw [show s + (nodesL args + 1) = s + 1 + nodesL args by omega]
        exact this
      · intro hn
        exact h2 (fun ⟨a, b⟩ => hn ⟨by omega, by omega⟩)
    · rw [walkP_none (by unfold fS; rw [if_neg h])]
      exact ⟨fun ⟨a, b⟩ => absurd ⟨by omega, by omega⟩ h, fun _ => rfl⟩
theorem walkL_fS : ∀ (ps : List PT) (s : Nat) (d : Int), s ≤ 24 → 0 ≤ d → d ≤ 9 → ((s + nodesL ps ≤ 24 ∧ d + depthP ps ≤ 9) → walkL fS s ps d = some (s + nodesL ps)) ∧ (¬ (s + nodesL ps ≤ 24 ∧ d + depthP ps ≤ 9) → walkL fS s ps d = none)
  | [], s, d, hs, _, h9 => by
    have en : nodesL [] = 0 := rfl
    have ed : depthP [] = 0 := rfl
    rw [walkL, en, ed]
    exact ⟨fun _ => rfl, fun h => absurd ⟨by omega, by omega⟩ h⟩
  | p :: t, s, d, hs, h0, h9 => by
    have en : nodesL (p :: t) = p.nodes + nodesL t := rfl
    have ed : depthP (p :: t) = max p.depth (depthP t) := rfl
    rw [walkL, en, ed]
    obtain ⟨h1, h2⟩ := walk_fS p s d hs h0 h9
    by_cases hp : s + p.nodes ≤ 24 ∧ d + p.depth ≤ 9
    · rw [h1 hp]
      obtain ⟨h3, h4⟩ := walkL_fS t (s + p.nodes) d hp.1 h0 h9
      constructor
      · rintro ⟨a, b⟩
        have := h3 ⟨by omega, by omega⟩
        rw [show s + (p.nodes + nodesL t) = s + p.nodes + nodesL t by omega]
        exact this
      · intro hn
        exact h4 (fun ⟨a, b⟩ => hn ⟨by omega, by omega⟩)
    · rw [h2 hp]
      exact ⟨fun ⟨a, b⟩ => absurd ⟨by omega, by omega⟩ hp, fun _ => rfl⟩
end
theorem walk_small (p : PT) : (walkP fS 0 p 1).isSome = smallP p := by
  obtain ⟨h1, h2⟩ := walk_fS p 0 1 (by omega) (by omega) (by omega)
  unfold smallP
  by_cases h : p.nodes ≤ 24 ∧ p.depth ≤ 8
  · rw [h1 ⟨by omega, by omega⟩]; simp [h]
  · rw [h2 (fun x => h ⟨by omega, by omega⟩)]; simp [h]
/-- The columns that a node names, and all of them. -/
def colO (o : Od) : List Int := if o.k = 1 ∧ 0 ≤ o.i then [o.i] else []
def colN (p : PT) : List Int := if p.op = 3 then colO p.l ++ colO p.r else []
mutual
def colP : PT → List Int
  | .mk op cmp l r args => colN (.mk op cmp l r args) ++ colL args
def colL : List PT → List Int
  | [] => []
  | p :: t => colP p ++ colL t
end
theorem colP_eq (p : PT) : colP p = colN p ++ colL p.args := by cases p; rw [colP]; rfl
theorem colL_drop (ps : List PT) (k : Nat) (h : k < ps.length) : colL (ps.drop k) = colP ps[k] ++ colL (ps.drop (k + 1)) := by
  rw [List.drop_eq_getElem_cons h, colL]
def fC (s : List Int) (p : PT) (_ : Int) : Option (List Int) := some (s ++ colN p)
mutual
theorem walk_fC : ∀ (p : PT) (s : List Int) (d : Int), walkP fC s p d = some (s ++ colP p)
  | .mk op cmp l r args, s, d => by
    rw [walkP_some (s' := s ++ colN (.mk op cmp l r args)) rfl]
    show walkL fC _ args _ = _
    rw [walkL_fC args, colP, List.append_assoc]
theorem walkL_fC : ∀ (ps : List PT) (s : List Int) (d : Int), walkL fC s ps d = some (s ++ colL ps)
  | [], s, d => by rw [walkL, colL, List.append_nil]
  | p :: t, s, d => by
    rw [walkL, walk_fC p s d]
    show walkL fC _ t d = _
    rw [walkL_fC t, colL, List.append_assoc]
end

end Go.Proofs.Ytjcbmeannhafjaa
