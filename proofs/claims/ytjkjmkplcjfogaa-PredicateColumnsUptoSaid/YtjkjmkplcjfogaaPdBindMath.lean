
/- Values in the place of parameters: what is bound is valid without parameters, holds as before, and is as great. -/
import Derived.Test.YtjkjmkplcjfogaaPdMath2

namespace Go.Proofs.Ytjkjmkplcjfogaa

def bndO (Q : List V) (o : Od) : Od := if o.k = 2 ∧ inB Q.length o.i = true then ⟨3, 0, atV Q o.i⟩ else o
mutual
def bndP (Q : List V) : PT → PT
  | .mk op cmp l r args => .mk op cmp (bndO Q l) (bndO Q r) (bndL Q args)
def bndL (Q : List V) : List PT → List PT
  | [] => []
  | p :: t => bndP Q p :: bndL Q t
end
theorem bndL_length (Q : List V) : ∀ ps : List PT, (bndL Q ps).length = ps.length
  | [] => by rw [bndL]
  | p :: t => by rw [bndL, List.length_cons, bndL_length Q t, List.length_cons]
mutual
theorem bndP_nodes (Q : List V) : ∀ p : PT, (bndP Q p).nodes = p.nodes
  | .mk op cmp l r args => by rw [bndP, PT.nodes, PT.nodes, bndL_nodes Q args]
theorem bndL_nodes (Q : List V) : ∀ ps : List PT, nodesL (bndL Q ps) = nodesL ps
  | [] => by rw [bndL]
  | p :: t => by rw [bndL, nodesL, nodesL, bndP_nodes Q p, bndL_nodes Q t]
end
mutual
theorem bndP_depth (Q : List V) : ∀ p : PT, (bndP Q p).depth = p.depth
  | .mk op cmp l r args => by rw [bndP, PT.depth, PT.depth, bndL_depth Q args]
theorem bndL_depth (Q : List V) : ∀ ps : List PT, depthP (bndL Q ps) = depthP ps
  | [] => by rw [bndL]
  | p :: t => by rw [bndL, depthP, depthP, bndP_depth Q p, bndL_depth Q t]
end
theorem bndP_small (Q : List V) (p : PT) : smallP (bndP Q p) = smallP p := by unfold smallP; rw [bndP_nodes, bndP_depth]
theorem bndO_zero (Q : List V) : bndO Q zO = zO := by unfold bndO; rw [if_neg (fun h => absurd h.1 (by decide))]
/-- Values that fit the kinds. -/
def Fits (Q : List V) (K : List Int) : Prop := Q.length = K.length ∧ ∀ j (h : j < Q.length) (h' : j < K.length), Q[j].k = K[j] ∧ realV Q[j] = true
theorem bndO_of {C K : List Int} {Q : List V} (hf : Fits Q K) {o : Od} (h : ofB C K o = true) : ofB C [] (bndO Q o) = true ∧ ofK C [] (bndO Q o) = ofK C K o ∧ ∀ R O, denV (bndO Q o) R O = denV o R Q := by
  by_cases h2 : o.k = 2
  · have h1 : ¬ o.k = 1 := by omega
    unfold ofB at h
    rw [if_neg h1, if_pos h2, Bool.and_eq_true] at h
    obtain ⟨j, hj, hjl⟩ := inB_true h.1
    have hjq : j < Q.length := by rw [hf.1]; exact hjl
    have hin : inB Q.length o.i = true := by rw [hj, inB_nat]; simpa using hjq
    obtain ⟨hk, hr⟩ := hf.2 j hjq hjl
    have e : bndO Q o = ⟨3, 0, Q[j]⟩ := by unfold bndO; rw [if_pos ⟨h2, hin⟩, hj, atV_in hjq]
    rw [e]
    refine ⟨?_, ?_, fun R O => ?_⟩
    · show ((0 : Int) == 0 && realV Q[j]) = true
      rw [hr]; rfl
    · unfold ofK
      rw [if_neg h1, if_pos h2, hj, atI_in hjl]
      exact hk
    · unfold denV
      rw [if_neg h1, if_pos h2, hj, atV_in hjq]
      rfl
  · have e : bndO Q o = o := by unfold bndO; rw [if_neg (fun hh => h2 hh.1)]
    rw [e]
    unfold ofB ofK denV at *
    simp only [if_neg h2] at h ⊢
    exact ⟨h, trivial, fun _ _ => trivial⟩
def restB (p : PT) : Bool := if p.op = 1 then p.args.length == 0 else if p.op = 2 then p.args.length == 0 else if p.op = 4 then true else if p.op = 5 then true else if p.op = 6 then p.args.length == 1 else false
theorem vn_cmp {C Q : List Int} {p : PT} (h : p.op = 3) : vnB C Q p = (p.args.length == 0 && (cmpB p.cmp && alikeB C Q p.l p.r)) := by unfold vnB; rw [if_pos h]
theorem vn_else {C Q : List Int} {p : PT} (h : ¬ p.op = 3) : vnB C Q p = (plnB p && restB p) := by unfold vnB; rw [if_neg h]; rfl
theorem bnd_vn {C K : List Int} {Q : List V} (hf : Fits Q K) {op cmp : Int} {l r : Od} {args : List PT} (h : vnB C K (.mk op cmp l r args) = true) : vnB C [] (.mk op cmp (bndO Q l) (bndO Q r) (bndL Q args)) = true := by
  by_cases h3 : op = 3
  · rw [vn_cmp (p := .mk op cmp l r args) h3] at h
    rw [vn_cmp (p := .mk op cmp (bndO Q l) (bndO Q r) (bndL Q args)) h3]
    simp only [PT.cmp, PT.l, PT.r, PT.args, bndL_length] at h ⊢
    unfold alikeB at h ⊢
    simp only [Bool.and_eq_true] at h ⊢
    obtain ⟨ha, hc, hl, hr, hk⟩ := h
    obtain ⟨l1, l2, -⟩ := bndO_of hf hl
    obtain ⟨r1, r2, -⟩ := bndO_of hf hr
    rw [l2, r2]
    exact ⟨ha, hc, l1, r1, hk⟩
  · rw [vn_else (p := .mk op cmp l r args) h3, Bool.and_eq_true] at h
    rw [vn_else (p := .mk op cmp (bndO Q l) (bndO Q r) (bndL Q args)) h3, Bool.and_eq_true]
    obtain ⟨hp, hx⟩ := h
    refine ⟨?_, ?_⟩
    · unfold plnB at hp ⊢
      simp only [Bool.and_eq_true, PT.cmp, PT.l, PT.r] at hp ⊢
      obtain ⟨hc, hl, hr⟩ := hp
      have el : l = zO := of_decide_eq_true hl
      have er : r = zO := of_decide_eq_true hr
      rw [el, er, bndO_zero]
      exact ⟨hc, decide_eq_true rfl, decide_eq_true rfl⟩
    · unfold restB at hx ⊢
      simp only [PT.op, PT.args] at hx ⊢
      rw [bndL_length]
      exact hx
mutual
theorem bndP_vld {C K : List Int} {Q : List V} (hf : Fits Q K) : ∀ p : PT, vldP C K p = true → vldP C [] (bndP Q p) = true
  | .mk op cmp l r args, h => by
    rw [vldP, Bool.and_eq_true] at h
    rw [bndP, vldP, Bool.and_eq_true]
    exact ⟨bnd_vn hf h.1, bndL_vld hf args h.2⟩
theorem bndL_vld {C K : List Int} {Q : List V} (hf : Fits Q K) : ∀ ps : List PT, vldPs C K ps = true → vldPs C [] (bndL Q ps) = true
  | [], _ => by rw [bndL, vldPs]
  | p :: t, h => by
    rw [vldPs, Bool.and_eq_true] at h
    rw [bndL, vldPs, Bool.and_eq_true]
    exact ⟨bndP_vld hf p h.1, bndL_vld hf t h.2⟩
end
mutual
theorem bndP_holds {C K : List Int} {Q : List V} (hf : Fits Q K) (R O : List V) : ∀ p : PT, vldP C K p = true → holdsP R O (bndP Q p) = holdsP R Q p
  | .mk op cmp l r args, h => by
    rw [vldP, Bool.and_eq_true] at h
    obtain ⟨i1, i2, i3⟩ := bndL_holds hf R O args h.2
    rw [bndP, holdsP, holdsP, i1, i2, i3]
    by_cases h3 : op = 3
    · have hv := h.1
      rw [vn_cmp (p := .mk op cmp l r args) h3] at hv
      simp only [PT.cmp, PT.l, PT.r, PT.args] at hv
      unfold alikeB at hv
      simp only [Bool.and_eq_true] at hv
      rw [(bndO_of hf hv.2.2.1).2.2 R O, (bndO_of hf hv.2.2.2.1).2.2 R O]
    · simp only [if_neg h3]
theorem bndL_holds {C K : List Int} {Q : List V} (hf : Fits Q K) (R O : List V) : ∀ ps : List PT, vldPs C K ps = true → allP R O (bndL Q ps) = allP R Q ps ∧ anyP R O (bndL Q ps) = anyP R Q ps ∧ firstP R O (bndL Q ps) = firstP R Q ps
  | [], _ => by rw [bndL]; exact ⟨by rw [allP, allP], by rw [anyP, anyP], by rw [firstP, firstP]⟩
  | p :: t, h => by
    rw [vldPs, Bool.and_eq_true] at h
    have e := bndP_holds hf R O p h.1
    obtain ⟨i1, i2, -⟩ := bndL_holds hf R O t h.2
    rw [bndL, allP, allP, anyP, anyP, firstP, firstP, e, i1, i2]
    exact ⟨rfl, rfl, rfl⟩
end
/-- A bound predicate is valid without parameters. -/
theorem bndP_check {C K : List Int} {Q : List V} (hf : Fits Q K) {p : PT} (hc : okKs C = true) (hs : smallP p = true) (hv : vldP C K p = true) : checkP C [] (bndP Q p) = 0 := by
  unfold checkP
  rw [hc, bndP_small, hs, bndP_vld hf p hv]
  rfl
end Go.Proofs.Ytjkjmkplcjfogaa
