
/- The trees of a case: what their walk needs. -/
import Derived.Test.YtjkjmkplcjfogaaPdOper

import Derived.Test.YtjkjmkplcjfogaaPdEvery

import Derived.Maps.AppendAt

namespace Go.Proofs.Ytjkjmkplcjfogaa

open Go.RowKit Go.Deep

def ndB : Nat → Nat
  | 0 => 1
  | d + 1 => 1 + 3 * ndB d
theorem ndB_pos (d : Nat) : 1 ≤ ndB d := by cases d <;> simp [ndB]
theorem ndB_mono (d : Nat) : ndB d ≤ ndB (d + 1) := by simp [ndB]; omega
/-- What tree hands back. -/
def TreePost (bc B : Nat) (C Q : List Int) (deep : Nat) (w : World) (e : Ending) (w' : World) : Prop :=
  ∃ (p : PT) (a : Option Addr) (c : Nat), e = .returned (pdV p a c) ∧ PdS (fun b => w.heap.size < b) w' p.args a c ∧ vldP C Q p = true ∧ p.depth ≤ deep + 1 ∧ p.nodes ≤ ndB deep ∧ Mv bc w w' ∧ CaseOk bc B w'

/-- A comparison that stands in a block. -/
structure PBx (W : World) (pb : Nat) (c : Int) (x y : Od) : Prop where
  k0 : W.cell? ⟨pb, 0, none⟩ = some (.int .i64 3)
  k1 : W.cell? ⟨pb, 1, none⟩ = some (.int .i64 c)
  k2 : W.cell? ⟨pb, 2, none⟩ = some (.int .i64 x.k)
  k3 : W.cell? ⟨pb, 3, none⟩ = some (.int .i64 x.i)
  k4 : W.cell? ⟨pb, 4, none⟩ = some (.int .i64 x.v.k)
  k5 : W.cell? ⟨pb, 5, none⟩ = some (.int .i64 x.v.n)
  k6 : W.cell? ⟨pb, 6, none⟩ = some (.string x.v.s)
  k7 : W.cell? ⟨pb, 7, none⟩ = some (.int .i64 y.k)
  k8 : W.cell? ⟨pb, 8, none⟩ = some (.int .i64 y.i)
  k9 : W.cell? ⟨pb, 9, none⟩ = some (.int .i64 y.v.k)
  k10 : W.cell? ⟨pb, 10, none⟩ = some (.int .i64 y.v.n)
  k11 : W.cell? ⟨pb, 11, none⟩ = some (.string y.v.s)
  k12 : W.cell? ⟨pb, 12, none⟩ = some (.slice none 0 0)
  kf : ∀ j, W.frozen? ⟨pb, j, none⟩ = false
theorem PBx.mv {W W' : World} {pb bc : Nat} {c : Int} {x y : Od} (h : PBx W pb c x y) (hm : Mv bc W W') (hl : pb < W.heap.size) (hn : pb ≠ bc) : PBx W' pb c x y := by
  have e := hm.block pb hl hn
  have ec : ∀ j, W'.cell? ⟨pb, j, none⟩ = W.cell? ⟨pb, j, none⟩ := fun j => World.cell?_of_block (w := W) (a := ⟨pb, j, none⟩) e
  exact ⟨(ec _).trans h.k0, (ec _).trans h.k1, (ec _).trans h.k2, (ec _).trans h.k3, (ec _).trans h.k4, (ec _).trans h.k5, (ec _).trans h.k6, (ec _).trans h.k7, (ec _).trans h.k8, (ec _).trans h.k9, (ec _).trans h.k10, (ec _).trans h.k11, (ec _).trans h.k12, fun j => (World.frozen?_of_block (w := W) (a := ⟨pb, j, none⟩) e).trans (h.kf j)⟩
theorem set_cell_ne (W : World) (pb i j : Nat) (v : Value) (h : i ≠ j) : (W.setCell ⟨pb, i, none⟩ v).cell? ⟨pb, j, none⟩ = W.cell? ⟨pb, j, none⟩ := World.cell?_setCell_other _ _ _ _ (by first | (simp; done) | (simp; omega))
theorem set_cell_eq (W : World) (pb i : Nat) (v u : Value) (h : W.cell? ⟨pb, i, none⟩ = some u) : (W.setCell ⟨pb, i, none⟩ v).cell? ⟨pb, i, none⟩ = some v := World.cell?_setCell_same _ _ _ h
/-- Five cells written. -/
abbrev set5 (W : World) (pb o : Nat) (y : Od) : World := ((((W.setCell ⟨pb, o, none⟩ (.int .i64 y.k)).setCell ⟨pb, o + 1, none⟩ (.int .i64 y.i)).setCell ⟨pb, o + 2, none⟩ (.int .i64 y.v.k)).setCell ⟨pb, o + 3, none⟩ (.int .i64 y.v.n)).setCell ⟨pb, o + 4, none⟩ (.string y.v.s)
theorem set5_other (W : World) (pb o j : Nat) (y : Od) (h : j < o ∨ o + 5 ≤ j) : (set5 W pb o y).cell? ⟨pb, j, none⟩ = W.cell? ⟨pb, j, none⟩ := by
  unfold set5
  rw [set_cell_ne _ _ _ _ _ (by omega), set_cell_ne _ _ _ _ _ (by omega), set_cell_ne _ _ _ _ _ (by omega), set_cell_ne _ _ _ _ _ (by omega), set_cell_ne _ _ _ _ _ (by omega)]
theorem set5_in {W : World} {pb o : Nat} {y z : Od} (h : OdC W pb o z) : OdC (set5 W pb o y) pb o y := by
  obtain ⟨h0, h1, h2, h3, h4⟩ := h
  unfold set5
  refine ⟨?_, ?_, ?_, ?_, ?_⟩
  · rw [set_cell_ne _ _ _ _ _ (by omega), set_cell_ne _ _ _ _ _ (by omega), set_cell_ne _ _ _ _ _ (by omega), set_cell_ne _ _ _ _ _ (by omega)]; exact set_cell_eq _ _ _ _ _ h0
  · rw [set_cell_ne _ _ _ _ _ (by omega), set_cell_ne _ _ _ _ _ (by omega), set_cell_ne _ _ _ _ _ (by omega)]; exact set_cell_eq _ _ _ _ _ ((set_cell_ne _ _ _ _ _ (by omega)).trans h1)
  · rw [set_cell_ne _ _ _ _ _ (by omega), set_cell_ne _ _ _ _ _ (by omega)]; exact set_cell_eq _ _ _ _ _ ((set_cell_ne _ _ _ _ _ (by omega)).trans ((set_cell_ne _ _ _ _ _ (by omega)).trans h2))
  · rw [set_cell_ne _ _ _ _ _ (by omega)]; exact set_cell_eq _ _ _ _ _ ((set_cell_ne _ _ _ _ _ (by omega)).trans ((set_cell_ne _ _ _ _ _ (by omega)).trans ((set_cell_ne _ _ _ _ _ (by omega)).trans h3)))
  · exact set_cell_eq _ _ _ _ _ ((set_cell_ne _ _ _ _ _ (by omega)).trans ((set_cell_ne _ _ _ _ _ (by omega)).trans ((set_cell_ne _ _ _ _ _ (by omega)).trans ((set_cell_ne _ _ _ _ _ (by omega)).trans h4))))
theorem set5_frozen (W : World) (pb o j : Nat) (y : Od) : (set5 W pb o y).frozen? ⟨pb, j, none⟩ = W.frozen? ⟨pb, j, none⟩ := by
  unfold set5
  simp only [World.frozen?_setCell]
theorem PBx.setR {W : World} {pb : Nat} {c : Int} {x y : Od} (h : PBx W pb c x y) (y' : Od) : PBx (set5 W pb 7 y') pb c x y' := by
  obtain ⟨g0, g1, g2, g3, g4⟩ := set5_in (y := y') (show OdC W pb 7 y from ⟨h.k7, h.k8, h.k9, h.k10, h.k11⟩)
  exact ⟨(set5_other _ _ _ _ _ (by omega)).trans h.k0, (set5_other _ _ _ _ _ (by omega)).trans h.k1, (set5_other _ _ _ _ _ (by omega)).trans h.k2, (set5_other _ _ _ _ _ (by omega)).trans h.k3, (set5_other _ _ _ _ _ (by omega)).trans h.k4, (set5_other _ _ _ _ _ (by omega)).trans h.k5, (set5_other _ _ _ _ _ (by omega)).trans h.k6, g0, g1, g2, g3, g4, (set5_other _ _ _ _ _ (by omega)).trans h.k12, fun j => (set5_frozen _ _ _ _ _).trans (h.kf j)⟩
theorem PBx.setL {W : World} {pb : Nat} {c : Int} {x y : Od} (h : PBx W pb c x y) (x' : Od) : PBx (set5 W pb 2 x') pb c x' y := by
  obtain ⟨g0, g1, g2, g3, g4⟩ := set5_in (y := x') (show OdC W pb 2 x from ⟨h.k2, h.k3, h.k4, h.k5, h.k6⟩)
  exact ⟨(set5_other _ _ _ _ _ (by omega)).trans h.k0, (set5_other _ _ _ _ _ (by omega)).trans h.k1, g0, g1, g2, g3, g4, (set5_other _ _ _ _ _ (by omega)).trans h.k7, (set5_other _ _ _ _ _ (by omega)).trans h.k8, (set5_other _ _ _ _ _ (by omega)).trans h.k9, (set5_other _ _ _ _ _ (by omega)).trans h.k10, (set5_other _ _ _ _ _ (by omega)).trans h.k11, (set5_other _ _ _ _ _ (by omega)).trans h.k12, fun j => (set5_frozen _ _ _ _ _).trans (h.kf j)⟩
theorem Mv.set5 {bc : Nat} {a w : World} (h : Mv bc a w) {b : Nat} (hb : a.heap.size ≤ b) (o : Nat) (y : Od) : Mv bc a (set5 w b o y) := ((((h.setNew hb _ _).setNew hb _ _).setNew hb _ _).setNew hb _ _).setNew hb _ _
theorem CaseOk.set5 {bc B : Nat} {w : World} (h : CaseOk bc B w) {b : Nat} (hb : B ≤ b) (o : Nat) (y : Od) : CaseOk bc B (set5 w b o y) := ((((h.setNew hb _ _).setNew hb _ _).setNew hb _ _).setNew hb _ _).setNew hb _ _
theorem set5_block (W : World) (pb o : Nat) (y : Od) (k : Nat) (h : k ≠ pb) : (set5 W pb o y).heap[k]? = W.heap[k]? := by
  unfold set5
  rw [Below.heap_setCell _ _ _ _ h, Below.heap_setCell _ _ _ _ h, Below.heap_setCell _ _ _ _ h, Below.heap_setCell _ _ _ _ h, Below.heap_setCell _ _ _ _ h]
theorem set5_size (W : World) (pb o : Nat) (y : Od) : (set5 W pb o y).heap.size = W.heap.size := by unfold set5; simp
/-- The result's block: thirteen cells that may be written. -/
structure RBx (W : World) (rb : Nat) : Prop where
  k0 : W.cell? ⟨rb, 0, none⟩ = some (.int .i64 0)
  k1 : W.cell? ⟨rb, 1, none⟩ = some (.int .i64 0)
  k2 : W.cell? ⟨rb, 2, none⟩ = some (.int .i64 0)
  k3 : W.cell? ⟨rb, 3, none⟩ = some (.int .i64 0)
  k4 : W.cell? ⟨rb, 4, none⟩ = some (.int .i64 0)
  k5 : W.cell? ⟨rb, 5, none⟩ = some (.int .i64 0)
  k6 : W.cell? ⟨rb, 6, none⟩ = some (.string ⟨#[]⟩)
  k7 : W.cell? ⟨rb, 7, none⟩ = some (.int .i64 0)
  k8 : W.cell? ⟨rb, 8, none⟩ = some (.int .i64 0)
  k9 : W.cell? ⟨rb, 9, none⟩ = some (.int .i64 0)
  k10 : W.cell? ⟨rb, 10, none⟩ = some (.int .i64 0)
  k11 : W.cell? ⟨rb, 11, none⟩ = some (.string ⟨#[]⟩)
  k12 : W.cell? ⟨rb, 12, none⟩ = some (.slice none 0 0)
  kf : ∀ j, W.frozen? ⟨rb, j, none⟩ = false
theorem RBx.same {W W' : World} {rb : Nat} (h : RBx W rb) (e : W'.heap[rb]? = W.heap[rb]?) : RBx W' rb := by
  have ec : ∀ j, W'.cell? ⟨rb, j, none⟩ = W.cell? ⟨rb, j, none⟩ := fun j => World.cell?_of_block (w := W) (a := ⟨rb, j, none⟩) e
  exact ⟨(ec _).trans h.k0, (ec _).trans h.k1, (ec _).trans h.k2, (ec _).trans h.k3, (ec _).trans h.k4, (ec _).trans h.k5, (ec _).trans h.k6, (ec _).trans h.k7, (ec _).trans h.k8, (ec _).trans h.k9, (ec _).trans h.k10, (ec _).trans h.k11, (ec _).trans h.k12, fun j => (World.frozen?_of_block (w := W) (a := ⟨rb, j, none⟩) e).trans (h.kf j)⟩
/-- Thirteen cells written into the result. -/
abbrev set13 (W : World) (rb : Nat) (v0 v1 v2 v3 v4 v5 v6 v7 v8 v9 v10 v11 v12 : Value) : World :=
  ((((((((((((W.setCell ⟨rb, 0, none⟩ v0).setCell ⟨rb, 1, none⟩ v1).setCell ⟨rb, 2, none⟩ v2).setCell ⟨rb, 3, none⟩ v3).setCell ⟨rb, 4, none⟩ v4).setCell ⟨rb, 5, none⟩ v5).setCell ⟨rb, 6, none⟩ v6).setCell ⟨rb, 7, none⟩ v7).setCell ⟨rb, 8, none⟩ v8).setCell ⟨rb, 9, none⟩ v9).setCell ⟨rb, 10, none⟩ v10).setCell ⟨rb, 11, none⟩ v11).setCell ⟨rb, 12, none⟩ v12
theorem Mv.set13 {bc : Nat} {a w : World} (h : Mv bc a w) {b : Nat} (hb : a.heap.size ≤ b) (v0 v1 v2 v3 v4 v5 v6 v7 v8 v9 v10 v11 v12 : Value) : Mv bc a (set13 w b v0 v1 v2 v3 v4 v5 v6 v7 v8 v9 v10 v11 v12) :=
  ((((((((((((h.setNew hb _ _).setNew hb _ _).setNew hb _ _).setNew hb _ _).setNew hb _ _).setNew hb _ _).setNew hb _ _).setNew hb _ _).setNew hb _ _).setNew hb _ _).setNew hb _ _).setNew hb _ _).setNew hb _ _
theorem CaseOk.set13 {bc B : Nat} {w : World} (h : CaseOk bc B w) {b : Nat} (hb : B ≤ b) (v0 v1 v2 v3 v4 v5 v6 v7 v8 v9 v10 v11 v12 : Value) : CaseOk bc B (set13 w b v0 v1 v2 v3 v4 v5 v6 v7 v8 v9 v10 v11 v12) :=
  ((((((((((((h.setNew hb _ _).setNew hb _ _).setNew hb _ _).setNew hb _ _).setNew hb _ _).setNew hb _ _).setNew hb _ _).setNew hb _ _).setNew hb _ _).setNew hb _ _).setNew hb _ _).setNew hb _ _).setNew hb _ _
theorem set13_block (W : World) (rb : Nat) (v0 v1 v2 v3 v4 v5 v6 v7 v8 v9 v10 v11 v12 : Value) (k : Nat) (h : k ≠ rb) : (set13 W rb v0 v1 v2 v3 v4 v5 v6 v7 v8 v9 v10 v11 v12).heap[k]? = W.heap[k]? := by
  unfold set13
  rw [Below.heap_setCell _ _ _ _ h, Below.heap_setCell _ _ _ _ h, Below.heap_setCell _ _ _ _ h, Below.heap_setCell _ _ _ _ h, Below.heap_setCell _ _ _ _ h, Below.heap_setCell _ _ _ _ h, Below.heap_setCell _ _ _ _ h, Below.heap_setCell _ _ _ _ h, Below.heap_setCell _ _ _ _ h, Below.heap_setCell _ _ _ _ h, Below.heap_setCell _ _ _ _ h, Below.heap_setCell _ _ _ _ h, Below.heap_setCell _ _ _ _ h]
theorem set13_size (W : World) (rb : Nat) (v0 v1 v2 v3 v4 v5 v6 v7 v8 v9 v10 v11 v12 : Value) : (set13 W rb v0 v1 v2 v3 v4 v5 v6 v7 v8 v9 v10 v11 v12).heap.size = W.heap.size := by unfold set13; simp
/-- What the result reads as. -/
theorem set13_reads {W : World} {rb : Nat} (h : RBx W rb) (v0 v1 v2 v3 v4 v5 v6 v7 v8 v9 v10 v11 v12 : Value) : (set13 W rb v0 v1 v2 v3 v4 v5 v6 v7 v8 v9 v10 v11 v12).cell? ⟨rb, 0, none⟩ = some v0 ∧ (set13 W rb v0 v1 v2 v3 v4 v5 v6 v7 v8 v9 v10 v11 v12).cell? ⟨rb, 1, none⟩ = some v1 ∧ (set13 W rb v0 v1 v2 v3 v4 v5 v6 v7 v8 v9 v10 v11 v12).cell? ⟨rb, 2, none⟩ = some v2 ∧ (set13 W rb v0 v1 v2 v3 v4 v5 v6 v7 v8 v9 v10 v11 v12).cell? ⟨rb, 3, none⟩ = some v3 ∧ (set13 W rb v0 v1 v2 v3 v4 v5 v6 v7 v8 v9 v10 v11 v12).cell? ⟨rb, 4, none⟩ = some v4 ∧ (set13 W rb v0 v1 v2 v3 v4 v5 v6 v7 v8 v9 v10 v11 v12).cell? ⟨rb, 5, none⟩ = some v5 ∧ (set13 W rb v0 v1 v2 v3 v4 v5 v6 v7 v8 v9 v10 v11 v12).cell? ⟨rb, 6, none⟩ = some v6 ∧ (set13 W rb v0 v1 v2 v3 v4 v5 v6 v7 v8 v9 v10 v11 v12).cell? ⟨rb, 7, none⟩ = some v7 ∧ (set13 W rb v0 v1 v2 v3 v4 v5 v6 v7 v8 v9 v10 v11 v12).cell? ⟨rb, 8, none⟩ = some v8 ∧ (set13 W rb v0 v1 v2 v3 v4 v5 v6 v7 v8 v9 v10 v11 v12).cell? ⟨rb, 9, none⟩ = some v9 ∧ (set13 W rb v0 v1 v2 v3 v4 v5 v6 v7 v8 v9 v10 v11 v12).cell? ⟨rb, 10, none⟩ = some v10 ∧ (set13 W rb v0 v1 v2 v3 v4 v5 v6 v7 v8 v9 v10 v11 v12).cell? ⟨rb, 11, none⟩ = some v11 ∧ (set13 W rb v0 v1 v2 v3 v4 v5 v6 v7 v8 v9 v10 v11 v12).cell? ⟨rb, 12, none⟩ = some v12 := by
  unfold set13
  refine ⟨?_, ?_, ?_, ?_, ?_, ?_, ?_, ?_, ?_, ?_, ?_, ?_, ?_⟩
  · rw [set_cell_ne _ _ _ _ _ (by omega), set_cell_ne _ _ _ _ _ (by omega), set_cell_ne _ _ _ _ _ (by omega), set_cell_ne _ _ _ _ _ (by omega), set_cell_ne _ _ _ _ _ (by omega), set_cell_ne _ _ _ _ _ (by omega), set_cell_ne _ _ _ _ _ (by omega), set_cell_ne _ _ _ _ _ (by omega), set_cell_ne _ _ _ _ _ (by omega), set_cell_ne _ _ _ _ _ (by omega), set_cell_ne _ _ _ _ _ (by omega), set_cell_ne _ _ _ _ _ (by omega)]; exact set_cell_eq _ _ _ _ _ h.k0
  · rw [set_cell_ne _ _ _ _ _ (by omega), set_cell_ne _ _ _ _ _ (by omega), set_cell_ne _ _ _ _ _ (by omega), set_cell_ne _ _ _ _ _ (by omega), set_cell_ne _ _ _ _ _ (by omega), set_cell_ne _ _ _ _ _ (by omega), set_cell_ne _ _ _ _ _ (by omega), set_cell_ne _ _ _ _ _ (by omega), set_cell_ne _ _ _ _ _ (by omega), set_cell_ne _ _ _ _ _ (by omega), set_cell_ne _ _ _ _ _ (by omega)]; exact set_cell_eq _ _ _ _ _ ((set_cell_ne _ _ _ _ _ (by omega)).trans h.k1)
  · rw [set_cell_ne _ _ _ _ _ (by omega), set_cell_ne _ _ _ _ _ (by omega), set_cell_ne _ _ _ _ _ (by omega), set_cell_ne _ _ _ _ _ (by omega), set_cell_ne _ _ _ _ _ (by omega), set_cell_ne _ _ _ _ _ (by omega), set_cell_ne _ _ _ _ _ (by omega), set_cell_ne _ _ _ _ _ (by omega), set_cell_ne _ _ _ _ _ (by omega), set_cell_ne _ _ _ _ _ (by omega)]; exact set_cell_eq _ _ _ _ _ ((set_cell_ne _ _ _ _ _ (by omega)).trans ((set_cell_ne _ _ _ _ _ (by omega)).trans h.k2))
  · rw [set_cell_ne _ _ _ _ _ (by omega), set_cell_ne _ _ _ _ _ (by omega), set_cell_ne _ _ _ _ _ (by omega), set_cell_ne _ _ _ _ _ (by omega), set_cell_ne _ _ _ _ _ (by omega), set_cell_ne _ _ _ _ _ (by omega), set_cell_ne _ _ _ _ _ (by omega), set_cell_ne _ _ _ _ _ (by omega), set_cell_ne _ _ _ _ _ (by omega)]; exact set_cell_eq _ _ _ _ _ ((set_cell_ne _ _ _ _ _ (by omega)).trans ((set_cell_ne _ _ _ _ _ (by omega)).trans ((set_cell_ne _ _ _ _ _ (by omega)).trans h.k3)))
  · rw [set_cell_ne _ _ _ _ _ (by omega), set_cell_ne _ _ _ _ _ (by omega), set_cell_ne _ _ _ _ _ (by omega), set_cell_ne _ _ _ _ _ (by omega), set_cell_ne _ _ _ _ _ (by omega), set_cell_ne _ _ _ _ _ (by omega), set_cell_ne _ _ _ _ _ (by omega), set_cell_ne _ _ _ _ _ (by omega)]; exact set_cell_eq _ _ _ _ _ ((set_cell_ne _ _ _ _ _ (by omega)).trans ((set_cell_ne _ _ _ _ _ (by omega)).trans ((set_cell_ne _ _ _ _ _ (by omega)).trans ((set_cell_ne _ _ _ _ _ (by omega)).trans h.k4))))
  · rw [set_cell_ne _ _ _ _ _ (by omega), set_cell_ne _ _ _ _ _ (by omega), set_cell_ne _ _ _ _ _ (by omega), set_cell_ne _ _ _ _ _ (by omega), set_cell_ne _ _ _ _ _ (by omega), set_cell_ne _ _ _ _ _ (by omega), set_cell_ne _ _ _ _ _ (by omega)]; exact set_cell_eq _ _ _ _ _ ((set_cell_ne _ _ _ _ _ (by omega)).trans ((set_cell_ne _ _ _ _ _ (by omega)).trans ((set_cell_ne _ _ _ _ _ (by omega)).trans ((set_cell_ne _ _ _ _ _ (by omega)).trans ((set_cell_ne _ _ _ _ _ (by omega)).trans h.k5)))))
  · rw [set_cell_ne _ _ _ _ _ (by omega), set_cell_ne _ _ _ _ _ (by omega), set_cell_ne _ _ _ _ _ (by omega), set_cell_ne _ _ _ _ _ (by omega), set_cell_ne _ _ _ _ _ (by omega), set_cell_ne _ _ _ _ _ (by omega)]; exact set_cell_eq _ _ _ _ _ ((set_cell_ne _ _ _ _ _ (by omega)).trans ((set_cell_ne _ _ _ _ _ (by omega)).trans ((set_cell_ne _ _ _ _ _ (by omega)).trans ((set_cell_ne _ _ _ _ _ (by omega)).trans ((set_cell_ne _ _ _ _ _ (by omega)).trans ((set_cell_ne _ _ _ _ _ (by omega)).trans h.k6))))))
  · rw [set_cell_ne _ _ _ _ _ (by omega), set_cell_ne _ _ _ _ _ (by omega), set_cell_ne _ _ _ _ _ (by omega), set_cell_ne _ _ _ _ _ (by omega), set_cell_ne _ _ _ _ _ (by omega)]; exact set_cell_eq _ _ _ _ _ ((set_cell_ne _ _ _ _ _ (by omega)).trans ((set_cell_ne _ _ _ _ _ (by omega)).trans ((set_cell_ne _ _ _ _ _ (by omega)).trans ((set_cell_ne _ _ _ _ _ (by omega)).trans ((set_cell_ne _ _ _ _ _ (by omega)).trans ((set_cell_ne _ _ _ _ _ (by omega)).trans ((set_cell_ne _ _ _ _ _ (by omega)).trans h.k7)))))))
  · rw [set_cell_ne _ _ _ _ _ (by omega), set_cell_ne _ _ _ _ _ (by omega), set_cell_ne _ _ _ _ _ (by omega), set_cell_ne _ _ _ _ _ (by omega)]; exact set_cell_eq _ _ _ _ _ ((set_cell_ne _ _ _ _ _ (by omega)).trans ((set_cell_ne _ _ _ _ _ (by omega)).trans ((set_cell_ne _ _ _ _ _ (by omega)).trans ((set_cell_ne _ _ _ _ _ (by omega)).trans ((set_cell_ne _ _ _ _ _ (by omega)).trans ((set_cell_ne _ _ _ _ _ (by omega)).trans ((set_cell_ne _ _ _ _ _ (by omega)).trans ((set_cell_ne _ _ _ _ _ (by omega)).trans h.k8))))))))
  · rw [set_cell_ne _ _ _ _ _ (by omega), set_cell_ne _ _ _ _ _ (by omega), set_cell_ne _ _ _ _ _ (by omega)]; exact set_cell_eq _ _ _ _ _ ((set_cell_ne _ _ _ _ _ (by omega)).trans ((set_cell_ne _ _ _ _ _ (by omega)).trans ((set_cell_ne _ _ _ _ _ (by omega)).trans ((set_cell_ne _ _ _ _ _ (by omega)).trans ((set_cell_ne _ _ _ _ _ (by omega)).trans ((set_cell_ne _ _ _ _ _ (by omega)).trans ((set_cell_ne _ _ _ _ _ (by omega)).trans ((set_cell_ne _ _ _ _ _ (by omega)).trans ((set_cell_ne _ _ _ _ _ (by omega)).trans h.k9)))))))))
  · rw [set_cell_ne _ _ _ _ _ (by omega), set_cell_ne _ _ _ _ _ (by omega)]; exact set_cell_eq _ _ _ _ _ ((set_cell_ne _ _ _ _ _ (by omega)).trans ((set_cell_ne _ _ _ _ _ (by omega)).trans ((set_cell_ne _ _ _ _ _ (by omega)).trans ((set_cell_ne _ _ _ _ _ (by omega)).trans ((set_cell_ne _ _ _ _ _ (by omega)).trans ((set_cell_ne _ _ _ _ _ (by omega)).trans ((set_cell_ne _ _ _ _ _ (by omega)).trans ((set_cell_ne _ _ _ _ _ (by omega)).trans ((set_cell_ne _ _ _ _ _ (by omega)).trans ((set_cell_ne _ _ _ _ _ (by omega)).trans h.k10))))))))))
  · rw [set_cell_ne _ _ _ _ _ (by omega)]; exact set_cell_eq _ _ _ _ _ ((set_cell_ne _ _ _ _ _ (by omega)).trans ((set_cell_ne _ _ _ _ _ (by omega)).trans ((set_cell_ne _ _ _ _ _ (by omega)).trans ((set_cell_ne _ _ _ _ _ (by omega)).trans ((set_cell_ne _ _ _ _ _ (by omega)).trans ((set_cell_ne _ _ _ _ _ (by omega)).trans ((set_cell_ne _ _ _ _ _ (by omega)).trans ((set_cell_ne _ _ _ _ _ (by omega)).trans ((set_cell_ne _ _ _ _ _ (by omega)).trans ((set_cell_ne _ _ _ _ _ (by omega)).trans ((set_cell_ne _ _ _ _ _ (by omega)).trans h.k11)))))))))))
  · exact set_cell_eq _ _ _ _ _ ((set_cell_ne _ _ _ _ _ (by omega)).trans ((set_cell_ne _ _ _ _ _ (by omega)).trans ((set_cell_ne _ _ _ _ _ (by omega)).trans ((set_cell_ne _ _ _ _ _ (by omega)).trans ((set_cell_ne _ _ _ _ _ (by omega)).trans ((set_cell_ne _ _ _ _ _ (by omega)).trans ((set_cell_ne _ _ _ _ _ (by omega)).trans ((set_cell_ne _ _ _ _ _ (by omega)).trans ((set_cell_ne _ _ _ _ _ (by omega)).trans ((set_cell_ne _ _ _ _ _ (by omega)).trans ((set_cell_ne _ _ _ _ _ (by omega)).trans ((set_cell_ne _ _ _ _ _ (by omega)).trans h.k12))))))))))))
theorem set13_readsA {W : World} {rb : Nat} (h : RBx W rb) (hz : rb < W.heap.size) (O : Obj) (v0 v1 v2 v3 v4 v5 v6 v7 v8 v9 v10 v11 v12 : Value) : ((set13 W rb v0 v1 v2 v3 v4 v5 v6 v7 v8 v9 v10 v11 v12).alloc O).cell? ⟨rb, 0, none⟩ = some v0 ∧ ((set13 W rb v0 v1 v2 v3 v4 v5 v6 v7 v8 v9 v10 v11 v12).alloc O).cell? ⟨rb, 1, none⟩ = some v1 ∧ ((set13 W rb v0 v1 v2 v3 v4 v5 v6 v7 v8 v9 v10 v11 v12).alloc O).cell? ⟨rb, 2, none⟩ = some v2 ∧ ((set13 W rb v0 v1 v2 v3 v4 v5 v6 v7 v8 v9 v10 v11 v12).alloc O).cell? ⟨rb, 3, none⟩ = some v3 ∧ ((set13 W rb v0 v1 v2 v3 v4 v5 v6 v7 v8 v9 v10 v11 v12).alloc O).cell? ⟨rb, 4, none⟩ = some v4 ∧ ((set13 W rb v0 v1 v2 v3 v4 v5 v6 v7 v8 v9 v10 v11 v12).alloc O).cell? ⟨rb, 5, none⟩ = some v5 ∧ ((set13 W rb v0 v1 v2 v3 v4 v5 v6 v7 v8 v9 v10 v11 v12).alloc O).cell? ⟨rb, 6, none⟩ = some v6 ∧ ((set13 W rb v0 v1 v2 v3 v4 v5 v6 v7 v8 v9 v10 v11 v12).alloc O).cell? ⟨rb, 7, none⟩ = some v7 ∧ ((set13 W rb v0 v1 v2 v3 v4 v5 v6 v7 v8 v9 v10 v11 v12).alloc O).cell? ⟨rb, 8, none⟩ = some v8 ∧ ((set13 W rb v0 v1 v2 v3 v4 v5 v6 v7 v8 v9 v10 v11 v12).alloc O).cell? ⟨rb, 9, none⟩ = some v9 ∧ ((set13 W rb v0 v1 v2 v3 v4 v5 v6 v7 v8 v9 v10 v11 v12).alloc O).cell? ⟨rb, 10, none⟩ = some v10 ∧ ((set13 W rb v0 v1 v2 v3 v4 v5 v6 v7 v8 v9 v10 v11 v12).alloc O).cell? ⟨rb, 11, none⟩ = some v11 ∧ ((set13 W rb v0 v1 v2 v3 v4 v5 v6 v7 v8 v9 v10 v11 v12).alloc O).cell? ⟨rb, 12, none⟩ = some v12 := by
  have e : ∀ j, ((set13 W rb v0 v1 v2 v3 v4 v5 v6 v7 v8 v9 v10 v11 v12).alloc O).cell? ⟨rb, j, none⟩ = (set13 W rb v0 v1 v2 v3 v4 v5 v6 v7 v8 v9 v10 v11 v12).cell? ⟨rb, j, none⟩ := fun j => World.cell?_of_block (w := set13 W rb v0 v1 v2 v3 v4 v5 v6 v7 v8 v9 v10 v11 v12) (a := ⟨rb, j, none⟩) (Below.heap_alloc _ _ rb (by rw [set13_size]; exact hz))
  simp only [e]
  exact set13_reads h v0 v1 v2 v3 v4 v5 v6 v7 v8 v9 v10 v11 v12
/-- The subtrees' blocks. -/
theorem PdS.same {P : Nat → Prop} {W W' : World} {args : List PT} {a : Option Addr} {c : Nat} (h : PdS P W args a c) (hs : W.heap.size ≤ W'.heap.size) (hk : ∀ b, P b → b < W.heap.size → W'.heap[b]? = W.heap[b]?) : PdS P W' args a c := h.keep hs hk
mutual
theorem PdC.ltP {P : Nat → Prop} {W : World} : ∀ (p : PT) (b o : Nat), PdC P W p b o → PdC (fun b => P b ∧ b < W.heap.size) W p b o
  | .mk op cmp l r args, b, o, h => by
    unfold PdC at h ⊢
    obtain ⟨h0, h1, h2, h3, a, c, h4, h5, h6⟩ := h
    refine ⟨h0, h1, h2, h3, a, c, h4, h5, ?_⟩
    rcases h6 with h6 | ⟨b', o', ha, hP, hl, hps⟩
    · exact .inl h6
    · exact .inr ⟨b', o', ha, ⟨hP, hl⟩, hl, PdL.ltP args b' o' hps⟩
theorem PdL.ltP {P : Nat → Prop} {W : World} : ∀ (ps : List PT) (b o : Nat), PdL P W ps b o → PdL (fun b => P b ∧ b < W.heap.size) W ps b o
  | [], _, _, _ => by unfold PdL; trivial
  | p :: t, b, o, h => by
    unfold PdL at h ⊢
    exact ⟨PdC.ltP p b o h.1, PdL.ltP t b (o + 13) h.2⟩
end
theorem PdS.ltP {P : Nat → Prop} {W : World} {args : List PT} {a : Option Addr} {c : Nat} (h : PdS P W args a c) : PdS (fun b => P b ∧ b < W.heap.size) W args a c := by
  obtain ⟨h1, h2⟩ := h
  refine ⟨h1, ?_⟩
  rcases h2 with h2 | ⟨b', o', ha, hP, hl, hps⟩
  · exact .inl h2
  · exact .inr ⟨b', o', ha, ⟨hP, hl⟩, hl, PdL.ltP args b' o' hps⟩
/-- A comparison that is valid. -/
theorem vld_cmp {C Q : List Int} {kind c : Int} {x y : Od} (hx : GoodO C Q kind x) (hy : GoodO C Q kind y) (h1 : 1 ≤ c) (h6 : c ≤ 6) : vldP C Q (.mk 3 c x y []) = true := by
  rw [vldP_eq]
  have e : vldPs C Q (PT.mk 3 c x y []).args = true := rfl
  rw [e, Bool.and_true]
  unfold vnB
  show (if (3 : Int) = 3 then (([] : List PT).length == 0 && (cmpB c && alikeB C Q x y)) else _) = true
  rw [if_pos rfl]
  unfold alikeB cmpB
  rw [hx.1, hx.2, hy.1, hy.2]
  simp [h1, h6]
theorem vld_const {C Q : List Int} {op : Int} (h : op = 1 ∨ op = 2) : vldP C Q (.mk op 0 zO zO []) = true := by
  rcases h with rfl | rfl <;> rfl
theorem vld_not {C Q : List Int} {p : PT} (h : vldP C Q p = true) : vldP C Q (.mk 6 0 zO zO [p]) = true := by
  rw [vldP_eq]
  show (vnB C Q (.mk 6 0 zO zO [p]) && (vldP C Q p && true)) = true
  rw [h]
  rfl
theorem vld_join {C Q : List Int} {op : Int} {L : List PT} (ho : op = 4 ∨ op = 5) (h : ∀ p ∈ L, vldP C Q p = true) : vldP C Q (.mk op 0 zO zO L) = true := by
  rw [vldP_eq]
  have e : vldPs C Q (PT.mk op 0 zO zO L).args = true := vldPs_all.2 h
  rw [e, Bool.and_true]
  rcases ho with rfl | rfl <;> rfl
theorem depthP_le {L : List PT} {d : Nat} (h : ∀ p ∈ L, p.depth ≤ d) : depthP L ≤ d := by
  induction L with
  | nil => simp [depthP]
  | cons p t ih =>
    have h1 := h p (by simp)
    have h2 := ih (fun q hq => h q (by simp [hq]))
    simp only [depthP]; omega
theorem nodesL_le {L : List PT} {d : Nat} (h : ∀ p ∈ L, p.nodes ≤ d) : nodesL L ≤ L.length * d := by
  induction L with
  | nil => simp [nodesL]
  | cons p t ih =>
    have h1 := h p (by simp)
    have h2 := ih (fun q hq => h q (by simp [hq]))
    simp only [nodesL, List.length_cons, Nat.succ_mul]; omega
end Go.Proofs.Ytjkjmkplcjfogaa
