
/- Values in the place of parameters: what is bound is valid without parameters, holds as before, and is as great. -/
import Derived.Test.YtjcbmeannhafjaaPdMath

import Derived.Test.YtjcbmeannhafjaaPdTreeMath

namespace Go.Proofs.Ytjcbmeannhafjaa

def bndO (Q : List V) (o : Od) : Od := if o.k = 2 ∧ inB Q.length o.i = true then ⟨3, 0, atV Q o.i⟩ else o
mutual
def bndP (Q : List V) : PT → PT
  | .mk op cmp l r args => .mk op cmp (bndO Q l) (bndO Q r) (bndL Q args)
def bndL (Q : List V) : List PT → List PT
  | [] => []
  | p :: t => bndP Q p :: bndL Q t
end
theorem bndL_length (Q : List V) : ∀ ps : List PT, (bndL Q ps).length = ps.length
  | [] => by rw [bndL]
  | p :: t => by rw [bndL, List.length_cons, bndL_length Q t, List.length_cons]
mutual
theorem bndP_nodes (Q : List V) : ∀ p : PT, (bndP Q p).nodes = p.nodes
  | .mk op cmp l r args => by rw [bndP, PT.nodes, PT.nodes, bndL_nodes Q args]
theorem bndL_nodes (Q : List V) : ∀ ps : List PT, nodesL (bndL Q ps) = nodesL ps
  | [] => by rw [bndL]
  | p :: t => by rw [bndL, nodesL, nodesL, bndP_nodes Q p, bndL_nodes Q t]
end
mutual
theorem bndP_depth (Q : List V) : ∀ p : PT, (bndP Q p).depth = p.depth
  | .mk op cmp l r args => by rw [bndP, PT.depth, PT.depth, bndL_depth Q args]
theorem bndL_depth (Q : List V) : ∀ ps : List PT, depthP (bndL Q ps) = depthP ps
  | [] => by rw [bndL]
  | p :: t => by rw [bndL, depthP, depthP, bndP_depth Q p, bndL_depth Q t]
end
theorem bndP_small (Q : List V) (p : PT) : smallP (bndP Q p) = smallP p := by unfold smallP; rw [bndP_nodes, bndP_depth]
theorem bndO_zero (Q : List V) : bndO Q zO = zO := by unfold bndO; rw [if_neg (fun h => absurd h.1 (by decide))]
/-- Values that fit the kinds. -/
def Fits (Q : List V) (K : List Int) : Prop := Q.length = K.length ∧ ∀ j (h : j < Q.length) (h' : j < K.length), Q[j].k = K[j] ∧ realV Q[j] = true
theorem bndO_of {C K : List Int} {Q : List V} (hf : Fits Q K) {o : Od} (h : ofB C K o = true) : ofB C [] (bndO Q o) = true ∧ ofK C [] (bndO Q o) = ofK C K o ∧ ∀ R O, denV (bndO Q o) R O = denV o R Q := by
  by_cases h2 : o.k = 2
  · have h1 : ¬ o.k = 1 := by omega
    unfold ofB at h
    rw [if_neg h1, if_pos h2, Bool.and_eq_true] at h
    obtain ⟨j, hj, hjl⟩ := inB_true h.1
    have hjq : j < Q.length := by rw [hf.1]; exact hjl
    have hin : inB Q.length o.i = true := by rw [hj, inB_nat]; simpa using hjq
    obtain ⟨hk, hr⟩ := hf.2 j hjq hjl
    have e : bndO Q o = ⟨3, 0, Q[j]⟩ := by unfold bndO; rw [if_pos ⟨h2, hin⟩, hj, atV_in hjq]
    rw [e]
    refine ⟨?_, ?_, fun R O => ?_⟩
    · show ((0 : Int) == 0 && realV Q[j]) = true
      rw [hr]; rfl
    · unfold ofK
      rw [if_neg h1, if_pos h2, hj, atI_in hjl]
      exact hk
    · unfold denV
      rw [if_neg h1, if_pos h2, hj, atV_in hjq]
      rfl
  · have e : bndO Q o = o := by unfold bndO; rw [if_neg (fun hh => h2 hh.1)]
    rw [e]
    unfold ofB ofK denV at *
    simp only [if_neg h2] at h ⊢
    exact ⟨h, trivial, fun _ _ => trivial⟩
def restB (p : PT) : Bool := if p.op = 1 then p.args.length == 0 else if p.op = 2 then p.args.length == 0 else if p.op = 4 then true else if p.op = 5 then true else if p.op = 6 then p.args.length == 1 else false
theorem vn_cmp {C Q : List Int} {p : PT} (h : p.op = 3) : vnB C Q p = (p.args.length == 0 && (cmpB p.cmp && alikeB C Q p.l p.r)) := by unfold vnB; rw [if_pos h]
theorem vn_else {C Q : List Int} {p : PT} (h : ¬ p.op = 3) : vnB C Q p = (plnB p && restB p) := by unfold vnB; rw [if_neg h]; rfl
theorem bnd_vn {C K : List Int} {Q : List V} (hf : Fits Q K) {op cmp : Int} {l r : Od} {args : List PT} (h : vnB C K (.mk op cmp l r args) = true) : vnB C [] (.mk op cmp (bndO Q l) (bndO Q r) (bndL Q args)) = true := by
  by_cases h3 : op = 3
  · rw [vn_cmp (p := .mk op cmp l r args) h3] at h
    rw [vn_cmp (p := .mk op cmp (bndO Q l) (bndO Q r) (bndL Q args)) h3]
    simp only [PT.cmp, PT.l, PT.r, PT.args, bndL_length] at h ⊢
    unfold alikeB at h ⊢
    simp only [Bool.and_eq_true] at h ⊢
    obtain ⟨ha, hc, hl, hr, hk⟩ := h
    obtain ⟨l1, l2, -⟩ := bndO_of hf hl
    obtain ⟨r1, r2, -⟩ := bndO_of hf hr
    rw [l2, r2]
    exact ⟨ha, hc, l1, r1, hk⟩
  · rw [vn_else (p := .mk op cmp l r args) h3, Bool.and_eq_true] at h
    rw [vn_else (p := .mk op cmp (bndO Q l) (bndO Q r) (bndL Q args)) h3, Bool.and_eq_true]
    obtain ⟨hp, hx⟩ := h
    refine ⟨?_, ?_⟩
    · unfold plnB at hp ⊢
      simp only [Bool.and_eq_true, PT.cmp, PT.l, PT.r] at hp ⊢
      obtain ⟨hc, hl, hr⟩ := hp
      have el : l = zO := of_decide_eq_true hl
      have er : r = zO := of_decide_eq_true hr
      rw [el, er, bndO_zero]
      exact ⟨hc, decide_eq_true rfl, decide_eq_true rfl⟩
    · unfold restB at hx ⊢
      simp only [PT.op, PT.args] at hx ⊢
      rw [bndL_length]
      exact hx
mutual
theorem bndP_vld {C K : List Int} {Q : List V} (hf : Fits Q K) : ∀ p : PT, vldP C K p = true → vldP C [] (bndP Q p) = true
  | .mk op cmp l r args, h => by
    rw [vldP, Bool.and_eq_true] at h
    rw [bndP, vldP, Bool.and_eq_true]
    exact ⟨bnd_vn hf h.1, bndL_vld hf args h.2⟩
theorem bndL_vld {C K : List Int} {Q : List V} (hf : Fits Q K) : ∀ ps : List PT, vldPs C K ps = true → vldPs C [] (bndL Q ps) = true
  | [], _ => by rw [bndL, vldPs]
  | p :: t, h => by
    rw [vldPs, Bool.and_eq_true] at h
    rw [bndL, vldPs, Bool.and_eq_true]
    exact ⟨bndP_vld hf p h.1, bndL_vld hf t h.2⟩
end
mutual
theorem bndP_holds {C K : List Int} {Q : List V} (hf : Fits Q K) (R O : List V) : ∀ p : PT, vldP C K p = true → holdsP R O (bndP Q p) = holdsP R Q p
  | .mk op cmp l r args, h => by
    rw [vldP, Bool.and_eq_true] at h
    obtain ⟨i1, i2, i3⟩ := bndL_holds hf R O args h.2
    rw [bndP, holdsP, holdsP, i1, i2, i3]
    by_cases h3 : op = 3
    · have hv := h.1
      rw [vn_cmp (p := .mk op cmp l r args) h3] at hv
      simp only [PT.cmp, PT.l, PT.r, PT.args] at hv
      unfold alikeB at hv
      simp only [Bool.and_eq_true] at hv
      rw [(bndO_of hf hv.2.2.1).2.2 R O, (bndO_of hf hv.2.2.2.1).2.2 R O]
    · simp only [if_neg h3]
theorem bndL_holds {C K : List Int} {Q : List V} (hf : Fits Q K) (R O : List V) : ∀ ps : List PT, vldPs C K ps = true → allP R O (bndL Q ps) = allP R Q ps ∧ anyP R O (bndL Q ps) = anyP R Q ps ∧ firstP R O (bndL Q ps) = firstP R Q ps
  | [], _ => by rw [bndL]; exact ⟨by rw [allP, allP], by rw [anyP, anyP], by rw [firstP, firstP]⟩
  | p :: t, h => by
    rw [vldPs, Bool.and_eq_true] at h
    have e := bndP_holds hf R O p h.1
    obtain ⟨i1, i2, -⟩ := bndL_holds hf R O t h.2
    rw [bndL, allP, allP, anyP, anyP, firstP, firstP, e, i1, i2]
    exact ⟨rfl, rfl, rfl⟩
end
/-- A bound predicate is valid without parameters. -/
theorem bndP_check {C K : List Int} {Q : List V} (hf : Fits Q K) {p : PT} (hc : okKs C = true) (hs : smallP p = true) (hv : vldP C K p = true) : checkP C [] (bndP Q p) = 0 := by
  unfold checkP
  rw [hc, bndP_small, hs, bndP_vld hf p hv]
  rfl
end Go.Proofs.Ytjcbmeannhafjaa

/- What the walks of Bind need: the box of what is built, the list that grows, how long lists may be. -/
namespace Go.Proofs.Ytjcbmeannhafjaa

open Go.RowKit Go.Deep

theorem below_go {w W W' : World} (h : Below w.heap.size w W) (g : Below W.heap.size W W') : Below w.heap.size w W' := h.trans (g.mono h.size)
theorem below_go2 {B : Nat} {w W W' : World} (h : Below B w W) (hB : B ≤ w.heap.size) (g : Below W.heap.size W W') : Below B w W' := h.trans (g.mono (Nat.le_trans hB h.size))
theorem rbx_new (w : World) : RBx (w.alloc (.cells #[.int .i64 0, .int .i64 0, .int .i64 0, .int .i64 0, .int .i64 0, .int .i64 0, .string ⟨#[]⟩, .int .i64 0, .int .i64 0, .int .i64 0, .int .i64 0, .string ⟨#[]⟩, .slice none 0 0] 77)) w.heap.size :=
  ⟨by go_simp, by go_simp, by go_simp, by go_simp, by go_simp, by go_simp, by go_simp, by go_simp, by go_simp, by go_simp, by go_simp, by go_simp, by go_simp, fun j => by go_simp⟩
theorem RBx.lt {W : World} {rb : Nat} (h : RBx W rb) : rb < W.heap.size := World.block_lt_of_cell? _ _ h.k0
theorem RBx.go {W W' : World} {rb : Nat} (h : RBx W rb) (hb : Below W.heap.size W W') : RBx W' rb := h.same (hb.block _ h.lt)
/-- The box of a predicate whose head is known and whose arguments grow. -/
structure HBx (W : World) (pb : Nat) (op cmp : Int) (l r : Od) (v : Value) : Prop where
  k0 : W.cell? ⟨pb, 0, none⟩ = some (.int .i64 op)
  k1 : W.cell? ⟨pb, 1, none⟩ = some (.int .i64 cmp)
  k2 : W.cell? ⟨pb, 2, none⟩ = some (.int .i64 l.k)
  k3 : W.cell? ⟨pb, 3, none⟩ = some (.int .i64 l.i)
  k4 : W.cell? ⟨pb, 4, none⟩ = some (.int .i64 l.v.k)
  k5 : W.cell? ⟨pb, 5, none⟩ = some (.int .i64 l.v.n)
  k6 : W.cell? ⟨pb, 6, none⟩ = some (.string l.v.s)
  k7 : W.cell? ⟨pb, 7, none⟩ = some (.int .i64 r.k)
  k8 : W.cell? ⟨pb, 8, none⟩ = some (.int .i64 r.i)
  k9 : W.cell? ⟨pb, 9, none⟩ = some (.int .i64 r.v.k)
  k10 : W.cell? ⟨pb, 10, none⟩ = some (.int .i64 r.v.n)
  k11 : W.cell? ⟨pb, 11, none⟩ = some (.string r.v.s)
  k12 : W.cell? ⟨pb, 12, none⟩ = some v
  kf : ∀ j, W.frozen? ⟨pb, j, none⟩ = false
theorem HBx.lt {W : World} {pb : Nat} {op cmp : Int} {l r : Od} {v : Value} (h : HBx W pb op cmp l r v) : pb < W.heap.size := World.block_lt_of_cell? _ _ h.k0
theorem HBx.same {W W' : World} {pb : Nat} {op cmp : Int} {l r : Od} {v : Value} (h : HBx W pb op cmp l r v) (e : W'.heap[pb]? = W.heap[pb]?) : HBx W' pb op cmp l r v := by
  have ec : ∀ j, W'.cell? ⟨pb, j, none⟩ = W.cell? ⟨pb, j, none⟩ := fun j => World.cell?_of_block (w := W) (a := ⟨pb, j, none⟩) e
  exact ⟨(ec _).trans h.k0, (ec _).trans h.k1, (ec _).trans h.k2, (ec _).trans h.k3, (ec _).trans h.k4, (ec _).trans h.k5, (ec _).trans h.k6, (ec _).trans h.k7, (ec _).trans h.k8, (ec _).trans h.k9, (ec _).trans h.k10, (ec _).trans h.k11, (ec _).trans h.k12, fun j => (World.frozen?_of_block (w := W) (a := ⟨pb, j, none⟩) e).trans (h.kf j)⟩
theorem HBx.set {W : World} {pb : Nat} {op cmp : Int} {l r : Od} {v : Value} (h : HBx W pb op cmp l r v) (v' : Value) : HBx (W.setCell ⟨pb, 12, none⟩ v') pb op cmp l r v' :=
  ⟨(set_cell_ne _ _ _ _ _ (by omega)).trans h.k0, (set_cell_ne _ _ _ _ _ (by omega)).trans h.k1, (set_cell_ne _ _ _ _ _ (by omega)).trans h.k2, (set_cell_ne _ _ _ _ _ (by omega)).trans h.k3, (set_cell_ne _ _ _ _ _ (by omega)).trans h.k4, (set_cell_ne _ _ _ _ _ (by omega)).trans h.k5, (set_cell_ne _ _ _ _ _ (by omega)).trans h.k6, (set_cell_ne _ _ _ _ _ (by omega)).trans h.k7, (set_cell_ne _ _ _ _ _ (by omega)).trans h.k8, (set_cell_ne _ _ _ _ _ (by omega)).trans h.k9, (set_cell_ne _ _ _ _ _ (by omega)).trans h.k10, (set_cell_ne _ _ _ _ _ (by omega)).trans h.k11, set_cell_eq _ _ _ _ _ h.k12, fun j => by rw [World.frozen?_setCell]; exact h.kf j⟩
theorem set13_frozen (W : World) (rb : Nat) (v0 v1 v2 v3 v4 v5 v6 v7 v8 v9 v10 v11 v12 : Value) (b j : Nat) : (set13 W rb v0 v1 v2 v3 v4 v5 v6 v7 v8 v9 v10 v11 v12).frozen? ⟨b, j, none⟩ = W.frozen? ⟨b, j, none⟩ := by
  unfold set13; simp only [World.frozen?_setCell]
/-- The head stored into a new box. -/
theorem hbx_set13 {W : World} {pb : Nat} (h : RBx W pb) (op cmp : Int) (l r : Od) (v : Value) : HBx (set13 W pb (.int .i64 op) (.int .i64 cmp) (.int .i64 l.k) (.int .i64 l.i) (.int .i64 l.v.k) (.int .i64 l.v.n) (.string l.v.s) (.int .i64 r.k) (.int .i64 r.i) (.int .i64 r.v.k) (.int .i64 r.v.n) (.string r.v.s) v) pb op cmp l r v := by
  obtain ⟨f0, f1, f2, f3, f4, f5, f6, f7, f8, f9, f10, f11, f12⟩ := set13_reads h (.int .i64 op) (.int .i64 cmp) (.int .i64 l.k) (.int .i64 l.i) (.int .i64 l.v.k) (.int .i64 l.v.n) (.string l.v.s) (.int .i64 r.k) (.int .i64 r.i) (.int .i64 r.v.k) (.int .i64 r.v.n) (.string r.v.s) v
  exact ⟨f0, f1, f2, f3, f4, f5, f6, f7, f8, f9, f10, f11, f12, fun j => (set13_frozen _ _ _ _ _ _ _ _ _ _ _ _ _ _ _ _ _).trans (h.kf j)⟩
theorem below_set13 {B : Nat} {a w : World} (h : Below B a w) {b : Nat} (hb : B ≤ b) (v0 v1 v2 v3 v4 v5 v6 v7 v8 v9 v10 v11 v12 : Value) : Below B a (set13 w b v0 v1 v2 v3 v4 v5 v6 v7 v8 v9 v10 v11 v12) :=
  ((((((((((((h.setCell hb _).setCell hb _).setCell hb _).setCell hb _).setCell hb _).setCell hb _).setCell hb _).setCell hb _).setCell hb _).setCell hb _).setCell hb _).setCell hb _).setCell hb _
/-- Own rows stay where nothing below changes. -/
theorem own_go {w w' : World} {base n size : Nat} {t : TypeId} {v : Value} {xs : List Value} (h : w.ownsRow base t size v n xs) (hb : Below w.heap.size w w') : w'.ownsRow base t size v n xs := by
  refine h.kept (row := none) ⟨hb.os, hb.tape, hb.output, hb.size, fun k hk _ => hb.block k hk⟩ ?_
  cases hob : v.ownBlock with
  | none => exact .inl rfl
  | some k => exact .inr (by simp)
/-- What the loop knows: the box and the list of what is built. -/
structure BInv (pb : Nat) (op cmp : Int) (l r : Od) (v : Value) (L : List TE) (W : World) : Prop where
  own : W.ownsRow (pb + 1) 77 13 v L.length (teCells L)
  subs : ∀ x ∈ L, PdS (fun b => pb < b ∧ v.ownBlock ≠ some b) W x.p.args x.a x.c
  box : HBx W pb op cmp l r v
theorem BInv.go {pb : Nat} {op cmp : Int} {l r : Od} {v : Value} {L : List TE} {W W' : World} (h : BInv pb op cmp l r v L W) (hb : Below W.heap.size W W') : BInv pb op cmp l r v L W' :=
  ⟨own_go h.own hb, fun x hx => (h.subs x hx).below hb, h.box.same (hb.block pb h.box.lt)⟩
theorem BInv.new {pb : Nat} {op cmp : Int} {l r : Od} {W : World} (h : HBx W pb op cmp l r (.slice none 0 0)) : BInv pb op cmp l r (.slice none 0 0) [] W :=
  ⟨World.ownsRow_nil _ _ _ _, fun x hx => by simp at hx, h⟩
/-- One more. -/
theorem BInv.app {pb : Nat} {op cmp : Int} {l r : Od} {v v' : Value} {L : List TE} {W W2 : World} {O : Obj} (h : BInv pb op cmp l r v L W) (x : TE) {lo : Nat} (hlo : ∀ k, v.ownBlock = some k → k ≤ lo) (hlo2 : pb ≤ lo) (hx : PdS (fun b => lo < b) W x.p.args x.a x.c)
    (ho : W2.ownsRow (pb + 1) 77 13 v' (L.length + 1) (teCells L ++ x.cells)) (hg : (W.alloc O).grownBy W2 v.ownBlock) (hat : v'.ownBlock = v.ownBlock ∨ v'.ownBlock = some (W.alloc O).heap.size) : BInv pb op cmp l r v' (L ++ [x]) (W2.setCell ⟨pb, 12, none⟩ v') ∧ Below pb W (W2.setCell ⟨pb, 12, none⟩ v') := by
  have hlt := h.own.lt
  have hgW : W.grownBy W2 v.ownBlock := grown_of_alloc' hg
  have hset : ∀ k, k ≠ pb → (W2.setCell ⟨pb, 12, none⟩ v').heap[k]? = W2.heap[k]? := fun k hk => Below.heap_setCell _ _ _ _ hk
  have hsz : (W2.setCell ⟨pb, 12, none⟩ v').heap.size = W2.heap.size := by simp
  have hpl := h.box.lt
  have hpb2 : W2.heap[pb]? = W.heap[pb]? := hgW.block pb hpl (fun e => by have := (hlt pb e.symm).1; omega)
  have hnew : ∀ b, b < W.heap.size → v.ownBlock ≠ some b → v'.ownBlock ≠ some b := fun b hb hn e => by
    rcases hat with hh | hh
    · rw [hh] at e; exact hn e
    · rw [hh] at e; simp at e; omega
  refine ⟨⟨?_, fun y hy => ?_, (h.box.same hpb2).set v'⟩, ?_⟩
  · rw [teCells_snoc, List.length_append]
    refine World.ownsRow.kept (row := some pb) ho ⟨rfl, rfl, rfl, by simp, fun k _ hn => hset k (fun e => hn (by rw [e]))⟩ ?_
    cases hob : v'.ownBlock with
    | none => exact .inl rfl
    | some k => right; intro e; simp only [Option.some.injEq] at e; have := (ho.lt k hob).1; omega
  · rw [List.mem_append] at hy
    have key : ∀ {args : List PT} {a : Option Addr} {c : Nat}, PdS (fun b => pb < b ∧ v.ownBlock ≠ some b) W args a c → PdS (fun b => pb < b ∧ v'.ownBlock ≠ some b) (W2.setCell ⟨pb, 12, none⟩ v') args a c := fun hs =>
      (hs.ltP.keep (W' := W2.setCell ⟨pb, 12, none⟩ v') (by rw [hsz]; exact hgW.size) (fun b hP hl => (hset b (by omega)).trans (hgW.block b hl (fun e => hP.1.2 e.symm)))).weak (fun b hb => ⟨hb.1.1, hnew b hb.2 hb.1.2⟩)
    rcases hy with hy | hy
    · exact key (h.subs y hy)
    · simp only [List.mem_singleton] at hy
      subst hy
      exact key (hx.weak fun b hb => ⟨by omega, fun e => by have := hlo b e; omega⟩)
  · have hB : Below pb W W2 := ⟨hgW.os, hgW.tape, hgW.output, hgW.size, fun k hk => hgW.block k (by omega) (fun e => by have := (hlt k e.symm).1; omega)⟩
    exact hB.setCell (Nat.le_refl _) _
/-- What has been built reads as predicates. -/
theorem BInv.out {pb : Nat} {op cmp : Int} {l r : Od} {v : Value} {L : List TE} {W : World} (h : BInv pb op cmp l r v L W) (hfew : L.length ≤ 17592186044416) : ∃ a c, v = .slice a L.length c ∧ PdS (fun b => pb < b) W (L.map TE.p) a c := by
  rcases h.own.2 with ⟨rfl, h0⟩ | ⟨g, cap, cur, rfl, hg, hgg, hnc, hcm, hcs, htake⟩
  · have : L = [] := List.eq_nil_of_length_eq_zero h0
    subst this
    exact ⟨none, 0, rfl, PdS.nil _ _⟩
  · have hlen := length_teCells L
    refine ⟨some ⟨g, 0, none⟩, cap, rfl, ⟨by simpa using hnc, hcm, fun e => (by cases e), by simpa using hfew⟩, .inr ⟨g, 0, rfl, by omega, (Array.getElem?_eq_some_iff.1 hgg).1, PdL.mk' fun j hj => ?_⟩⟩
    have hj' : j < L.length := by simpa using hj
    have hc : ∀ i, i < 13 → W.cell? ⟨g, 0 + j * 13 + i, none⟩ = (L[j].cells)[i]? := fun i hi => by
      have := h.own.cellAt (g := g) (j * 13 + i) (by omega)
      rw [teCells_at L j hj' i hi] at this
      rw [← this]; congr 2; omega
    have hs := (h.subs L[j] (List.getElem_mem hj')).weak (Q := fun b => pb < b) (fun b hb => hb.1)
    simp only [List.getElem_map]
    refine PdC.close (a := L[j].a) (c := L[j].c) (hc 0 (by omega)) (hc 1 (by omega)) ⟨hc 2 (by omega), hc 3 (by omega), hc 4 (by omega), hc 5 (by omega), hc 6 (by omega)⟩ ⟨hc 7 (by omega), hc 8 (by omega), hc 9 (by omega), hc 10 (by omega), hc 11 (by omega)⟩ (hc 12 (by omega)) hs
/- No list is longer than memory allows. -/
mutual
def widP : PT → Prop
  | .mk _ _ _ _ args => args.length ≤ 1034834473200 ∧ widL args
def widL : List PT → Prop
  | [] => True
  | p :: t => widP p ∧ widL t
end
theorem widL_get : ∀ {ps : List PT} {j : Nat} (h : j < ps.length), widL ps → widP ps[j]
  | p :: t, 0, _, hw => by unfold widL at hw; exact hw.1
  | p :: t, j + 1, h, hw => by unfold widL at hw; exact widL_get (ps := t) (by simpa using h) hw.2
theorem widP.args {p : PT} (h : widP p) : p.args.length ≤ 1034834473200 ∧ widL p.args := by cases p; unfold widP at h; exact h
theorem nodesL_len : ∀ ps : List PT, ps.length ≤ nodesL ps
  | [] => by simp
  | p :: t => by
    have h1 := nodesL_len t
    have h2 : 1 ≤ p.nodes := by cases p; rw [PT.nodes]; omega
    rw [nodesL, List.length_cons]; omega
mutual
theorem wid_of_nodes : ∀ p : PT, p.nodes ≤ 1034834473200 → widP p
  | .mk _ _ _ _ args, h => by
    rw [PT.nodes] at h
    have := nodesL_len args
    unfold widP
    exact ⟨by omega, widL_of_nodes args (by omega)⟩
theorem widL_of_nodes : ∀ ps : List PT, nodesL ps ≤ 1034834473200 → widL ps
  | [], _ => by unfold widL; trivial
  | p :: t, h => by
    rw [nodesL] at h
    unfold widL
    exact ⟨wid_of_nodes p (by omega), widL_of_nodes t (by omega)⟩
end
theorem bndL_take (Q : List V) : ∀ (ps : List PT) (k : Nat) (h : k < ps.length), bndL Q (ps.take (k + 1)) = bndL Q (ps.take k) ++ [bndP Q ps[k]]
  | p :: t, 0, _ => by simp [bndL]
  | p :: t, k + 1, h => by
    have := bndL_take Q t k (by simpa using h)
    simp only [List.take_succ_cons, List.getElem_cons_succ]
    rw [bndL, this, bndL, List.cons_append]
/-- What Bind hands back. -/
def BindPost (Q : List V) (p : PT) (w : World) (e : Ending) (w' : World) : Prop :=
  ∃ (a : Option Addr) (c : Nat), e = .returned (pdV (bndP Q p) a c) ∧ PdS (fun b => w.heap.size < b) w' (bndP Q p).args a c ∧ Below w.heap.size w w'
theorem bndP_mk (Q : List V) (op cmp : Int) (l r : Od) (args : List PT) : bndP Q (.mk op cmp l r args) = .mk op cmp (bndO Q l) (bndO Q r) (bndL Q args) := by rw [bndP]
end Go.Proofs.Ytjcbmeannhafjaa
