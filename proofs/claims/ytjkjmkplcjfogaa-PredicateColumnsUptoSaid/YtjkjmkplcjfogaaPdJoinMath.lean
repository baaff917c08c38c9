
/- The conjunctions and disjunctions of a case: what their walk needs. -/
import Derived.Test.YtjkjmkplcjfogaaPdTreeMath

namespace Go.Proofs.Ytjkjmkplcjfogaa

open Go.RowKit Go.Deep

/-- An element of a list of predicates in memory. -/
structure TE where
  p : PT
  a : Option Addr
  c : Nat
def TE.cells (x : TE) : List Value := [.int .i64 x.p.op, .int .i64 x.p.cmp, .int .i64 x.p.l.k, .int .i64 x.p.l.i, .int .i64 x.p.l.v.k, .int .i64 x.p.l.v.n, .string x.p.l.v.s, .int .i64 x.p.r.k, .int .i64 x.p.r.i, .int .i64 x.p.r.v.k, .int .i64 x.p.r.v.n, .string x.p.r.v.s, .slice x.a x.p.args.length x.c]
def teCells (L : List TE) : List Value := L.flatMap TE.cells
theorem length_teCells : ∀ L : List TE, (teCells L).length = L.length * 13
  | [] => rfl
  | x :: r => by
    have := length_teCells r
    unfold teCells at this ⊢
    simp [TE.cells, this]; omega
theorem teCells_snoc (L : List TE) (x : TE) : teCells (L ++ [x]) = teCells L ++ x.cells := by unfold teCells; simp
theorem teCells_at : ∀ (L : List TE) (i : Nat) (h : i < L.length) (j : Nat), j < 13 → (teCells L)[i * 13 + j]? = (L[i].cells)[j]?
  | x :: r, 0, _, j, hj => by
    unfold teCells
    rw [List.flatMap_cons, List.getElem?_append_left (by simp [TE.cells]; omega)]
    simp
  | x :: r, i + 1, h, j, hj => by
    have ih := teCells_at r i (by simpa using h) j hj
    have : (i + 1) * 13 + j = 13 + (i * 13 + j) := by omega
    rw [this]
    unfold teCells at ih ⊢
    rw [List.flatMap_cons, List.getElem?_append_right (by simp [TE.cells])]
    simp [TE.cells]
    simpa [TE.cells] using ih
theorem te_one (x : TE) : ∀ u ∈ x.cells, u.oneCell' = true := by
  intro u hu
  unfold TE.cells at hu
  simp only [List.mem_cons, List.not_mem_nil, or_false] at hu
  rcases hu with rfl | rfl | rfl | rfl | rfl | rfl | rfl | rfl | rfl | rfl | rfl | rfl | rfl <;> rfl
theorem te_new (w : World) (x : TE) (t : TypeId) : ∀ (j : Nat) (u : Value), x.cells[j]? = some u → (w.alloc (.cells x.cells.toArray t)).cell? ((⟨w.heap.size, 0, none⟩ : Addr).add j) = some u := by
  intro j u hj
  have ha : (⟨w.heap.size, 0, none⟩ : Addr).add j = ⟨w.heap.size, j, none⟩ := by unfold Addr.add; split <;> simp_all
  rw [ha]
  have := World.cell?_alloc_mark w x.cells.toArray t (0, 0) j
  refine this.trans ?_
  rw [← hj]; simp
theorem grown_of_alloc' {w w' : World} {o : Obj} {row : Option Nat} (h : (w.alloc o).grownBy w' row) : w.grownBy w' row :=
  ⟨h.os, h.tape, h.output, by have := h.size; simp at this; omega, fun k hk hn => (h.block k (by simp; omega) hn).trans ((World.grownBy_alloc w o row).block k hk hn)⟩
/-- append to an own row, as a step of a region that draws its order. -/
theorem step_append_own {P : Program} {ops : Array Oper} {o : Oper} {a : Act} {w : World} {K : Act → World → Prop} {Q : Exit → Act → World → Prop} {E : Prop} (hgd : o.guard = none) (s x : Operand) (t : TypeId)
    (ho : o.op = .call { callee := .builtin .append, args := #[s, x], argTypes := #[t, t] })
    (base : Nat) (e : TypeId) (i : TypeInfo) (z : Value) (size bytes : Nat) (ht : P.underlying t = some (.slice e)) (hi : P.info? e = some i) (hz : i.zero = some z)
    (hsize : i.size = size) (hby : i.bytes = bytes) (hzs : z.cells.size = size) (hsz : 0 < size)
    (v : Value) (n : Nat) (xs : List Value) (hs : a.eval s = v) (hown : w.ownsRow base e size v n xs)
    (ad : Addr) (m c : Nat) (news : List Value) (hx : a.eval x = .slice (some ad) m c) (hl : news.length = m * size) (hnews : ∀ j u, news[j]? = some u → w.cell? (ad.add j) = some u) (h1 : ∀ u ∈ news, u.oneCell' = true)
    (h63 : n + m ≤ maxLen) (hbytes : (n + m) * bytes ≤ 140737488355328) (hbase : base ≤ w.heap.size)
    (h : ∀ v' w', w'.ownsRow base e size v' (n + m) (xs ++ news) → w.grownBy w' v.ownBlock → (v'.ownBlock = v.ownBlock ∨ v'.ownBlock = some w.heap.size) → K (a.put o.dst v') w') : if Region.wanted o (yielded ops a.tmps) = true then Oper.wp P o a w K Q else E := by
  have hw : Region.wanted o (yielded ops a.tmps) = true := by simp [Region.wanted, hgd]
  rw [if_pos hw]
  obtain ⟨v', w', hr, h2, h3, _, h5⟩ := run_append_own_at (P := P) w base t o.type e i z size bytes ht hi hz hsize hby hzs hsz v n xs hown ad m c news hl hnews h1 h63 hbytes hbase
  unfold Oper.wp execOp
  simp only [ho, resolve, invoke, builtin, Sem.run_bind, Sem.run_pure, Result.andThen_ok, List.map_toArray, List.map_cons, List.map_nil, hs, hx, hr]
  exact h v' w' h2 h3 h5
/-- The box of a predicate whose arguments grow. -/
structure JBx (W : World) (pb : Nat) (op : Int) (v : Value) : Prop where
  k0 : W.cell? ⟨pb, 0, none⟩ = some (.int .i64 op)
  k1 : W.cell? ⟨pb, 1, none⟩ = some (.int .i64 0)
  k2 : W.cell? ⟨pb, 2, none⟩ = some (.int .i64 0)
  k3 : W.cell? ⟨pb, 3, none⟩ = some (.int .i64 0)
  k4 : W.cell? ⟨pb, 4, none⟩ = some (.int .i64 0)
  k5 : W.cell? ⟨pb, 5, none⟩ = some (.int .i64 0)
  k6 : W.cell? ⟨pb, 6, none⟩ = some (.string ⟨#[]⟩)
  k7 : W.cell? ⟨pb, 7, none⟩ = some (.int .i64 0)
  k8 : W.cell? ⟨pb, 8, none⟩ = some (.int .i64 0)
  k9 : W.cell? ⟨pb, 9, none⟩ = some (.int .i64 0)
  k10 : W.cell? ⟨pb, 10, none⟩ = some (.int .i64 0)
  k11 : W.cell? ⟨pb, 11, none⟩ = some (.string ⟨#[]⟩)
  k12 : W.cell? ⟨pb, 12, none⟩ = some v
  kf : ∀ j, W.frozen? ⟨pb, j, none⟩ = false
theorem JBx.same {W W' : World} {pb : Nat} {op : Int} {v : Value} (h : JBx W pb op v) (e : W'.heap[pb]? = W.heap[pb]?) : JBx W' pb op v := by
  have ec : ∀ j, W'.cell? ⟨pb, j, none⟩ = W.cell? ⟨pb, j, none⟩ := fun j => World.cell?_of_block (w := W) (a := ⟨pb, j, none⟩) e
  exact ⟨(ec _).trans h.k0, (ec _).trans h.k1, (ec _).trans h.k2, (ec _).trans h.k3, (ec _).trans h.k4, (ec _).trans h.k5, (ec _).trans h.k6, (ec _).trans h.k7, (ec _).trans h.k8, (ec _).trans h.k9, (ec _).trans h.k10, (ec _).trans h.k11, (ec _).trans h.k12, fun j => (World.frozen?_of_block (w := W) (a := ⟨pb, j, none⟩) e).trans (h.kf j)⟩
theorem JBx.set {W : World} {pb : Nat} {op : Int} {v : Value} (h : JBx W pb op v) (v' : Value) : JBx (W.setCell ⟨pb, 12, none⟩ v') pb op v' :=
  ⟨(set_cell_ne _ _ _ _ _ (by omega)).trans h.k0, (set_cell_ne _ _ _ _ _ (by omega)).trans h.k1, (set_cell_ne _ _ _ _ _ (by omega)).trans h.k2, (set_cell_ne _ _ _ _ _ (by omega)).trans h.k3, (set_cell_ne _ _ _ _ _ (by omega)).trans h.k4, (set_cell_ne _ _ _ _ _ (by omega)).trans h.k5, (set_cell_ne _ _ _ _ _ (by omega)).trans h.k6, (set_cell_ne _ _ _ _ _ (by omega)).trans h.k7, (set_cell_ne _ _ _ _ _ (by omega)).trans h.k8, (set_cell_ne _ _ _ _ _ (by omega)).trans h.k9, (set_cell_ne _ _ _ _ _ (by omega)).trans h.k10, (set_cell_ne _ _ _ _ _ (by omega)).trans h.k11, set_cell_eq _ _ _ _ _ h.k12, fun j => by rw [World.frozen?_setCell]; exact h.kf j⟩
/-- What the loop knows. -/
structure JInv (bc B pb : Nat) (op : Int) (wq : World) (G : PT → Prop) (v : Value) (L : List TE) (W : World) : Prop where
  own : W.ownsRow (pb + 1) 29 13 v L.length (teCells L)
  subs : ∀ x ∈ L, PdS (fun b => pb < b ∧ v.ownBlock ≠ some b) W x.p.args x.a x.c
  good : ∀ x ∈ L, G x.p
  box : JBx W pb op v
  lt : pb < W.heap.size
  mv : Mv bc wq W
  ok : CaseOk bc B W
/-- A draw between. -/
theorem JInv.step {bc B pb : Nat} {op : Int} {wq : World} {G : PT → Prop} {v : Value} {L : List TE} {W W' : World} (h : JInv bc B pb op wq G v L W) (hm : Mv bc W W') (ho : CaseOk bc B W') (hb : bc < pb) : JInv bc B pb op wq G v L W' :=
  ⟨own_mv h.own hm (by omega), fun x hx => (h.subs x hx).keep hm.size fun b hP hl => hm.block b hl (by omega), h.good, h.box.same (hm.block pb h.lt (by omega)), Nat.lt_of_lt_of_le h.lt hm.size, h.mv.trans hm, ho⟩
/-- One more. -/
theorem JInv.app {bc B pb : Nat} {op : Int} {wq : World} {G : PT → Prop} {v v' : Value} {L : List TE} {W W2 : World} {O : Obj} (h : JInv bc B pb op wq G v L W) (x : TE) {lo : Nat} (hlo : ∀ k, v.ownBlock = some k → k ≤ lo) (hlo2 : pb ≤ lo) (hx : PdS (fun b => lo < b) W x.p.args x.a x.c) (hG : G x.p) (hq : wq.heap.size ≤ pb) (hB : B ≤ pb)
    (ho : W2.ownsRow (pb + 1) 29 13 v' (L.length + 1) (teCells L ++ x.cells)) (hg : (W.alloc O).grownBy W2 v.ownBlock) (hat : v'.ownBlock = v.ownBlock ∨ v'.ownBlock = some (W.alloc O).heap.size) : JInv bc B pb op wq G v' (L ++ [x]) (W2.setCell ⟨pb, 12, none⟩ v') := by
  have hlt := h.own.lt
  have hgW : W.grownBy W2 v.ownBlock := grown_of_alloc' hg
  have hset : ∀ k, k ≠ pb → (W2.setCell ⟨pb, 12, none⟩ v').heap[k]? = W2.heap[k]? := fun k hk => Below.heap_setCell _ _ _ _ hk
  have hsz : (W2.setCell ⟨pb, 12, none⟩ v').heap.size = W2.heap.size := by simp
  have hpb2 : W2.heap[pb]? = W.heap[pb]? := hgW.block pb h.lt (fun e => by have := (hlt pb e.symm).1; omega)
  have hnew : ∀ b, b < W.heap.size → v.ownBlock ≠ some b → v'.ownBlock ≠ some b := fun b hb hn e => by
    rcases hat with hh | hh
    · rw [hh] at e; exact hn e
    · rw [hh] at e; simp at e; omega
  refine ⟨?_, fun y hy => ?_, fun y hy => ?_, (h.box.same hpb2).set v', by rw [hsz]; exact Nat.lt_of_lt_of_le h.lt hgW.size, ?_, ?_⟩
  · rw [teCells_snoc, List.length_append]
    refine World.ownsRow.kept (row := some pb) ho ⟨rfl, rfl, rfl, by simp, fun k _ hn => hset k (fun e => hn (by rw [e]))⟩ ?_
    cases hob : v'.ownBlock with
    | none => exact .inl rfl
    | some k => right; intro e; simp only [Option.some.injEq] at e; have := (ho.lt k hob).1; omega
  · rw [List.mem_append] at hy
    have key : ∀ {args : List PT} {a : Option Addr} {c : Nat}, PdS (fun b => pb < b ∧ v.ownBlock ≠ some b) W args a c → PdS (fun b => pb < b ∧ v'.ownBlock ≠ some b) (W2.setCell ⟨pb, 12, none⟩ v') args a c := fun hs =>
      (hs.ltP.keep (W' := W2.setCell ⟨pb, 12, none⟩ v') (by rw [hsz]; exact hgW.size) (fun b hP hl => (hset b (by omega)).trans (hgW.block b hl (fun e => hP.1.2 e.symm)))).weak (fun b hb => ⟨hb.1.1, hnew b hb.2 hb.1.2⟩)
    rcases hy with hy | hy
    · exact key (h.subs y hy)
    · simp only [List.mem_singleton] at hy
      subst hy
      exact key (hx.weak fun b hb => ⟨by omega, fun e => by have := hlo b e; omega⟩)
  · rw [List.mem_append] at hy
    rcases hy with hy | hy
    · exact h.good y hy
    · simp only [List.mem_singleton] at hy; subst hy; exact hG
  · exact (h.mv.grown hgW (show wq.heap.size ≤ pb + 1 by omega) (fun k e => (hlt k e).1)).setNew hq _ _
  · exact (h.ok.grown hgW (show B ≤ pb + 1 by omega) (fun k e => (hlt k e).1)).setNew hB _ _
/-- What has been built reads as predicates. -/
theorem JInv.out {bc B pb : Nat} {op : Int} {wq : World} {G : PT → Prop} {v : Value} {L : List TE} {W : World} (h : JInv bc B pb op wq G v L W) (hfew : L.length ≤ 17592186044416) : ∃ a c, v = .slice a L.length c ∧ PdS (fun b => pb < b) W (L.map TE.p) a c := by
  rcases h.own.2 with ⟨rfl, h0⟩ | ⟨g, cap, cur, rfl, hg, hgg, hnc, hcm, hcs, htake⟩
  · have : L = [] := List.eq_nil_of_length_eq_zero h0
    subst this
    exact ⟨none, 0, rfl, PdS.nil _ _⟩
  · have hlen := length_teCells L
    refine ⟨some ⟨g, 0, none⟩, cap, rfl, ⟨by simpa using hnc, hcm, fun e => (by cases e), by simpa using hfew⟩, .inr ⟨g, 0, rfl, by omega, (Array.getElem?_eq_some_iff.1 hgg).1, PdL.mk' fun j hj => ?_⟩⟩
    have hj' : j < L.length := by simpa using hj
    have hc : ∀ i, i < 13 → W.cell? ⟨g, 0 + j * 13 + i, none⟩ = (L[j].cells)[i]? := fun i hi => by
      have := h.own.cellAt (g := g) (j * 13 + i) (by omega)
      rw [teCells_at L j hj' i hi] at this
      rw [← this]; congr 2; omega
    have hs := (h.subs L[j] (List.getElem_mem hj')).weak (Q := fun b => pb < b) (fun b hb => hb.1)
    simp only [List.getElem_map]
    refine PdC.close (a := L[j].a) (c := L[j].c) (hc 0 (by omega)) (hc 1 (by omega)) ⟨hc 2 (by omega), hc 3 (by omega), hc 4 (by omega), hc 5 (by omega), hc 6 (by omega)⟩ ⟨hc 7 (by omega), hc 8 (by omega), hc 9 (by omega), hc 10 (by omega), hc 11 (by omega)⟩ (hc 12 (by omega)) hs
end Go.Proofs.Ytjkjmkplcjfogaa
