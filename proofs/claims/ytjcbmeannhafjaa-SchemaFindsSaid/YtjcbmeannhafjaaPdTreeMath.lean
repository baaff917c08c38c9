
/- The trees of a case: what their walk needs. -/
import Derived.Test.YtjcbmeannhafjaaPdOper

import Derived.Test.YtjcbmeannhafjaaPdEvery

import Derived.Maps.AppendAt

namespace Go.Proofs.Ytjcbmeannhafjaa

open Go.RowKit Go.Deep

def ndB : Nat → Nat
  | 0 => 1
  | d + 1 => 1 + 3 * ndB d
theorem ndB_pos (d : Nat) : 1 ≤ ndB d := by cases d <;> simp [ndB]
theorem ndB_mono (d : Nat) : ndB d ≤ ndB (d + 1) := by simp [ndB]; omega
/-- What tree hands back. -/
def TreePost (bc B : Nat) (C Q : List Int) (deep : Nat) (w : World) (e : Ending) (w' : World) : Prop :=
  ∃ (p : PT) (a : Option Addr) (c : Nat), e = .returned (pdV p a c) ∧ PdS (fun b => w.heap.size < b) w' p.args a c ∧ vldP C Q p = true ∧ p.depth ≤ deep + 1 ∧ p.nodes ≤ ndB deep ∧ Mv bc w w' ∧ CaseOk bc B w'

/-- A comparison that stands in a block. -/
structure PBx (W : World) (pb : Nat) (c : Int) (x y : Od) : Prop where
  k0 : W.cell? ⟨pb, 0, none⟩ = some (.int .i64 3)
  k1 : W.cell? ⟨pb, 1, none⟩ = some (.int .i64 c)
  k2 : W.cell? ⟨pb, 2, none⟩ = some (.int .i64 x.k)
  k3 : W.cell? ⟨pb, 3, none⟩ = some (.int .i64 x.i)
  k4 : W.cell? ⟨pb, 4, none⟩ = some (.int .i64 x.v.k)
  k5 : W.cell? ⟨pb, 5, none⟩ = some (.int .i64 x.v.n)
  k6 : W.cell? ⟨pb, 6, none⟩ = some (.string x.v.s)
  k7 : W.cell? ⟨pb, 7, none⟩ = some (.int .i64 y.k)
  k8 : W.cell? ⟨pb, 8, none⟩ = some (.int .i64 y.i)
  k9 : W.cell? ⟨pb, 9, none⟩ = some (.int .i64 y.v.k)
  k10 : W.cell? ⟨pb, 10, none⟩ = some (.int .i64 y.v.n)
  k11 : W.cell? ⟨pb, 11, none⟩ = some (.string y.v.s)
  k12 : W.cell? ⟨pb, 12, none⟩ = some (.slice none 0 0)
  kf : ∀ j, W.frozen? ⟨pb, j, none⟩ = false
theorem PBx.mv {W W' : World} {pb bc : Nat} {c : Int} {x y : Od} (h : PBx W pb c x y) (hm : Mv bc W W') (hl : pb < W.heap.size) (hn : pb ≠ bc) : PBx W' pb c x y := by
  have e := hm.block pb hl hn
  have ec : ∀ j, W'.cell? ⟨pb, j, none⟩ = W.cell? ⟨pb, j, none⟩ := fun j => World.cell?_of_block (w := W) (a := ⟨pb, j, none⟩) e
  exact ⟨(ec _).trans h.k0, (ec _).trans h.k1, (ec _).trans h.k2, (ec _).trans h.k3, (ec _).trans h.k4, (ec _).trans h.k5, (ec _).trans h.k6, (ec _).trans h.k7, (ec _).trans h.k8, (ec _).trans h.k9, (ec _).trans h.k10, (ec _).trans h.k11, (ec _).trans h.k12, fun j => (World.frozen?_of_block (w := W) (a := ⟨pb, j, none⟩) e).trans (h.kf j)⟩
theorem set_cell_ne (W : World) (pb i j : Nat) (v : Value) (h : i ≠ j) : (W.setCell ⟨pb, i, none⟩ v).cell? ⟨pb, j, none⟩ = W.cell? ⟨pb, j, none⟩ := World.cell?_setCell_other _ _ _ _ (by first | (simp; done) | (simp; omega))
theorem set_cell_eq (W : World) (pb i : Nat) (v u : Value) (h : W.cell? ⟨pb, i, none⟩ = some u) : (W.setCell ⟨pb, i, none⟩ v).cell? ⟨pb, i, none⟩ = some v := World.cell?_setCell_same _ _ _ h
/-- Five cells written. -/
abbrev set5 (W : World) (pb o : Nat) (y : Od) : World := ((((W.setCell ⟨pb, o, none⟩ (.int .i64 y.k)).setCell ⟨pb, o + 1, none⟩ (.int .i64 y.i)).setCell ⟨pb, o + 2, none⟩ (.int .i64 y.v.k)).setCell ⟨pb, o + 3, none⟩ (.int .i64 y.v.n)).setCell ⟨pb, o + 4, none⟩ (.string y.v.s)
theorem set5_other (W : World) (pb o j : Nat) (y : Od) (h : j < o ∨ o + 5 ≤ j) : (set5 W pb o y).cell? ⟨pb, j, none⟩ = W.cell? ⟨pb, j, none⟩ := by
  unfold set5
  rw [set_cell_ne _ _ _ _ _ (by omega), set_cell_ne _ _ _ _ _ (by omega), set_cell_ne _ _ _ _ _ (by omega), set_cell_ne _ _ _ _ _ (by omega), set_cell_ne _ _ _ _ _ (by omega)]
theorem set5_in {W : World} {pb o : Nat} {y z : Od} (h : OdC W pb o z) : OdC (set5 W pb o y) pb o y := by
  obtain ⟨h0, h1, h2, h3, h4⟩ := h
  unfold set5
  refine ⟨?_, ?_, ?_, ?_, ?_⟩
  · rw [set_cell_ne _ _ _ _ _ (by omega), set_cell_ne _ _ _ _ _ (by omega), set_cell_ne _ _ _ _ _ (by omega), set_cell_ne _ _ _ _ _ (by omega)]; exact set_cell_eq _ _ _ _ _ h0
  · rw [set_cell_ne _ _ _ _ _ (by omega), set_cell_ne _ _ _ _ _ (by omega), set_cell_ne _ _ _ _ _ (by omega)]; exact set_cell_eq _ _ _ _ _ ((set_cell_ne _ _ _ _ _ (by omega)).trans h1)
  · rw [set_cell_ne _ _ _ _ _ (by omega), set_cell_ne _ _ _ _ _ (by omega)]; exact set_cell_eq _ _ _ _ _ ((set_cell_ne _ _ _ _ _ (by omega)).trans ((set_cell_ne _ _ _ _ _ (by omega)).trans h2))
  · rw [set_cell_ne _ _ _ _ _ (by omega)]; exact set_cell_eq _ _ _ _ _ ((set_cell_ne _ _ _ _ _ (by omega)).trans ((set_cell_ne _ _ _ _ _ (by omega)).trans ((set_cell_ne _ _ _ _ _ (by omega)).trans h3)))
  · exact set_cell_eq _ _ _ _ _ ((set_cell_ne _ _ _ _ _ (by omega)).trans ((set_cell_ne _ _ _ _ _ (by omega)).trans ((set_cell_ne _ _ _ _ _ (by omega)).trans ((set_cell_ne _ _ _ _ _ (by omega)).trans h4))))
theorem set5_frozen (W : World) (pb o j : Nat) (y : Od) : (set5 W pb o y).frozen? ⟨pb, j, none⟩ = W.frozen? ⟨pb, j, none⟩ := by
  unfold set5
  simp only [World.frozen?_setCell]
theorem PBx.setR {W : World} {pb : Nat} {c : Int} {x y : Od} (h : PBx W pb c x y) (y' : Od) : PBx (set5 W pb 7 y') pb c x y' := by
  obtain ⟨g0, g1, g2, g3, g4⟩ := set5_in (y := y') (show OdC W pb 7 y from ⟨h.k7, h.k8, h.k9, h.k10, h.k11⟩)
  exact ⟨(set5_other _ _ _ _ _ (by omega)).trans h.k0, (set5_other _ _ _ _ _ (by omega)).trans h.k1, (set5_other _ _ _ _ _ (by omega)).trans h.k2, (set5_other _ _ _ _ _ (by omega)).trans h.k3, (set5_other _ _ _ _ _ (by omega)).trans h.k4, (set5_other _ _ _ _ _ (by omega)).trans h.k5, (set5_other _ _ _ _ _ (by omega)).trans h.k6, g0, g1, g2, g3, g4, (set5_other _ _ _ _ _ (by omega)).trans h.k12, fun j => (set5_frozen _ _ _ _ _).trans (h.kf j)⟩
theorem PBx.setL {W : World} {pb : Nat} {c : Int} {x y : Od} (h : PBx W pb c x y) (x' : Od) : PBx (set5 W pb 2 x') pb c x' y := by
  obtain ⟨g0, g1, g2, g3, g4⟩ := set5_in (y := x') (show OdC W pb 2 x from ⟨h.k2, h.k3, h.k4, h.k5, h.k6⟩)
  exact ⟨(set5_other _ _ _ _ _ (by omega)).trans h.k0, (set5_other _ _ _ _ _ (by omega)).trans h.k1, g0, g1, g2, g3, g4, (set5_other _ _ _ _ _ (by omega)).trans h.k7, (set5_other _ _ _ _ _ (by omega)).trans h.k8, (set5_other _ _ _ _ _ (by omega)).trans h.k9, (set5_other _ _ _ _ _ (by omega)).trans h.k10, (set5_other _ _ _ _ _ (by omega)).trans h.k11, (set5_other _ _ _ _ _ (by omega)).trans h.k12, fun j => (set5_frozen _ _ _ _ _).trans (h.kf j)⟩
theorem Mv.set5 {bc : Nat} {a w : World} (h : Mv bc a w) {b : Nat} (hb : a.heap.size ≤ b) (o : Nat) (y : Od) : Mv bc a (set5 w b o y) := ((((h.setNew hb _ _).setNew hb _ _).setNew hb _ _).setNew hb _ _).setNew hb _ _
theorem CaseOk.set5 {bc B : Nat} {w : World} (h : CaseOk bc B w) {b : Nat} (hb : B ≤ b) (o : Nat) (y : Od) : CaseOk bc B (set5 w b o y) := ((((h.setNew hb _ _).setNew hb _ _).setNew hb _ _).setNew hb _ _).setNew hb _ _
theorem set5_block (W : World) (pb o : Nat) (y : Od) (k : Nat) (h : k ≠ pb) : (set5 W pb o y).heap[k]? = W.heap[k]? := by
  unfold set5
  rw [Below.heap_setCell _ _ _ _ h, Below.heap_setCell _ _ _ _ h, Below.heap_setCell _ _ _ _ h, Below.heap_setCell _ _ _ _ h, Below.heap_setCell _ _ _ _ h]
theorem set5_size (W : World) (pb o : Nat) (y : Od) : (set5 W pb o y).heap.size = W.heap.size := by unfold set5; simp
/-- The result's block: thirteen cells that may be written. -/
structure RBx (W : World) (rb : Nat) : Prop where
  k0 : W.cell? ⟨rb, 0, none⟩ = some (.int .i64 0)
  k1 : W.cell? ⟨rb, 1, none⟩ = some (.int .i64 0)
  k2 : W.cell? ⟨rb, 2, none⟩ = some (.int .i64 0)
  k3 : W.cell? ⟨rb, 3, none⟩ = some (.int .i64 0)
  k4 : W.cell? ⟨rb, 4, none⟩ = some (.int .i64 0)
  k5 : W.cell? ⟨rb, 5, none⟩ = some (.int .i64 0)
  k6 : W.cell? ⟨rb, 6, none⟩ = some (.string ⟨#[]⟩)
  k7 : W.cell? ⟨rb, 7, none⟩ = some (.int .i64 0)
  k8 : W.cell? ⟨rb, 8, none⟩ = some (.int .i64 0)
  k9 : W.cell? ⟨rb, 9, none⟩ = some (.int .i64 0)
  k10 : W.cell? ⟨rb, 10, none⟩ = some (.int .i64 0)
  k11 : W.cell? ⟨rb, 11, none⟩ = some (.string ⟨#[]⟩)
  k12 : W.cell? ⟨rb, 12, none⟩ = some (.slice none 0 0)
  kf : ∀ j, W.frozen? ⟨rb, j, none⟩ = false
theorem RBx.same {W W' : World} {rb : Nat} (h : RBx W rb) (e : W'.heap[rb]? = W.heap[rb]?) : RBx W' rb := by
  have ec : ∀ j, W'.cell? ⟨rb, j, none⟩ = W.cell? ⟨rb, j, none⟩ := fun j => World.cell?_of_block (w := W) (a := ⟨rb, j, none⟩) e
  exact ⟨(ec _).trans h.k0, (ec _).trans h.k1, (ec _).trans h.k2, (ec _).trans h.k3, (ec _).trans h.k4, (ec _).trans h.k5, (ec _).trans h.k6, (ec _).trans h.k7, (ec _).trans h.k8, (ec _).trans h.k9, (ec _).trans h.k10, (ec _).trans h.k11, (ec _).trans h.k12, fun j => (World.frozen?_of_block (w := W) (a := ⟨rb, j, none⟩) e).trans (h.kf j)⟩
/-- Thirteen cells written into the result. -/
abbrev set13 (W : World) (rb : Nat) (v0 v1 v2 v3 v4 v5 v6 v7 v8 v9 v10 v11 v12 : Value) : World :=
  ((((((((((((W.setCell ⟨rb, 0, none⟩ v0).setCell ⟨rb, 1, none⟩ v1).setCell ⟨rb, 2, none⟩ v2).setCell ⟨rb, 3, none⟩ v3).setCell ⟨rb, 4, none⟩ v4).setCell ⟨rb, 5, none⟩ v5).setCell ⟨rb, 6, none⟩ v6).setCell ⟨rb, 7, none⟩ v7).setCell ⟨rb, 8, none⟩ v8).setCell ⟨rb, 9, none⟩ v9).setCell ⟨rb, 10, none⟩ v10).setCell ⟨rb, 11, none⟩ v11).setCell ⟨rb, 12, none⟩ v12
theorem Mv.set13 {bc : Nat} {a w : World} (h : Mv bc a w) {b : Nat} (hb : a.heap.size ≤ b) (v0 v1 v2 v3 v4 v5 v6 v7 v8 v9 v10 v11 v12 : Value) : Mv bc a (set13 w b v0 v1 v2 v3 v4 v5 v6 v7 v8 v9 v10 v11 v12) :=
  ((((((((((((h.setNew hb _ _).setNew hb _ _).setNew hb _ _).setNew hb _ _).setNew hb _ _).setNew hb _ _).setNew hb _ _).setNew hb _ _).setNew hb _ _).setNew hb _ _).setNew hb _ _).setNew hb _ _).setNew hb _ _
theorem CaseOk.set13 {bc B : Nat} {w : World} (h : CaseOk bc B w) {b : Nat} (hb : B ≤ b) (v0 v1 v2 v3 v4 v5 v6 v7 v8 v9 v10 v11 v12 : Value) : CaseOk bc B (set13 w b v0 v1 v2 v3 v4 v5 v6 v7 v8 v9 v10 v11 v12) :=
  ((((((((((((h.setNew hb _ _).setNew hb _ _).setNew hb _ _).setNew hb _ _).setNew hb _ _).setNew hb _ _).setNew hb _ _).setNew hb _ _).setNew hb _ _).setNew hb _ _).setNew hb _ _).setNew hb _ _).setNew hb _ _
theorem set13_block (W : World) (rb : Nat) (v0 v1 v2 v3 v4 v5 v6 v7 v8 v9 v10 v11 v12 : Value) (k : Nat) (h : k ≠ rb) : (set13 W rb v0 v1 v2 v3 v4 v5 v6 v7 v8 v9 v10 v11 v12).heap[k]? = W.heap[k]? := by
  unfold set13
  rw [Below.heap_setCell _ _ _ _ h, Below.heap_setCell _ _ _ _ h, Below.heap_setCell _ _ _ _ h, Below.heap_setCell _ _ _ _ h, Below.heap_setCell _ _ _ _ h, Below.heap_setCell _ _ _ _ h, Below.heap_setCell _ _ _ _ h, Below.heap_setCell _ _ _ _ h, Below.heap_setCell _ _ _ _ h, Below.heap_setCell _ _ _ _ h, Below.heap_setCell _ _ _ _ h, Below.heap_setCell _ _ _ _ h, Below.heap_setCell _ _ _ _ h]
theorem set13_size (W : World) (rb : Nat) (v0 v1 v2 v3 v4 v5 v6 v7 v8 v9 v10 v11 v12 : Value) : (set13 W rb v0 v1 v2 v3 v4 v5 v6 v7 v8 v9 v10 v11 v12).heap.size = W.heap.size := by unfold set13; simp
/-- What the result reads as. -/
theorem set13_reads {W : World} {rb : Nat} (h : RBx W rb) (v0 v1 v2 v3 v4 v5 v6 v7 v8 v9 v10 v11 v12 : Value) : (set13 W rb v0 v1 v2 v3 v4 v5 v6 v7 v8 v9 v10 v11 v12).cell? ⟨rb, 0, none⟩ = some v0 ∧ (set13 W rb v0 v1 v2 v3 v4 v5 v6 v7 v8 v9 v10 v11 v12).cell? ⟨rb, 1, none⟩ = some v1 ∧ (set13 W rb v0 v1 v2 v3 v4 v5 v6 v7 v8 v9 v10 v11 v12).cell? ⟨rb, 2, none⟩ = some v2 ∧ (set13 W rb v0 v1 v2 v3 v4 v5 v6 v7 v8 v9 v10 v11 v12).cell? ⟨rb, 3, none⟩ = some v3 ∧ (set13 W rb v0 v1 v2 v3 v4 v5 v6 v7 v8 v9 v10 v11 v12).cell? ⟨rb, 4, none⟩ = some v4 ∧ (set13 W rb v0 v1 v2 v3 v4 v5 v6 v7 v8 v9 v10 v11 v12).cell? ⟨rb, 5, none⟩ = some v5 ∧ (set13 W rb v0 v1 v2 v3 v4 v5 v6 v7 v8 v9 v10 v11 v12).cell? ⟨rb, 6, none⟩ = some v6 ∧ (set13 W rb v0 v1 v2 v3 v4 v5 v6 v7 v8 v9 v10 v11 v12).cell? ⟨rb, 7, none⟩ = some v7 ∧ (set13 W rb v0 v1 v2 v3 v4 v5 v6 v7 v8 v9 v10 v11 v12).cell? ⟨rb, 8, none⟩ = some v8 ∧ (set13 W rb v0 v1 v2 v3 v4 v5 v6 v7 v8 v9 v10 v11 v12).cell? ⟨rb, 9, none⟩ = some v9 ∧ (set13 W rb v0 v1 v2 v3 v4 v5 v6 v7 v8 v9 v10 v11 v12).cell? ⟨rb, 10, none⟩ = some v10 ∧ (set13 W rb v0 v1 v2 v3 v4 v5 v6 v7 v8 v9 v10 v11 v12).cell? ⟨rb, 11, none⟩ = some v11 ∧ (set13 W rb v0 v1 v2 v3 v4 v5 v6 v7 v8 v9 v10 v11 v12).cell? ⟨rb, 12, none⟩ = some v12 := by
  unfold set13
  refine ⟨?_, ?_, ?_, ?_, ?_, ?_, ?_, ?_, ?_, ?_, ?_, ?_, ?_⟩
  · rw [set_cell_ne _ _ _ _ _ (by omega), set_cell_ne _ _ _ _ _ (by omega), set_cell_ne _ _ _ _ _ (by omega), set_cell_ne _ _ _ _ _ (by omega), set_cell_ne _ _ _ _ _ (by omega), set_cell_ne _ _ _ _ _ (by omega), set_cell_ne _ _ _ _ _ (by omega), set_cell_ne _ _ _ _ _ (by omega), set_cell_ne _ _ _ _ _ (by omega), set_cell_ne _ _ _ _ _ (by omega), set_cell_ne _ _ _ _ _ (by omega), set_cell_ne _ _ _ _ _ (by omega)]; exact set_cell_eq _ _ _ _ _ h.k0
  · rw [set_cell_ne _ _ _ _ _ (by omega), set_cell_ne _ _ _ _ _ (by omega), set_cell_ne _ _ _ _ _ (by omega), set_cell_ne _ _ _ _ _ (by omega), set_cell_ne _ _ _ _ _ (by omega), set_cell_ne _ _ _ _ _ (by omega), set_cell_ne _ _ _ _ _ (by omega), set_cell_ne _ _ _ _ _ (by omega), set_cell_ne _ _ _ _ _ (by omega), set_cell_ne _ _ _ _ _ (by omega), set_cell_ne _ _ _ _ _ (by omega)]; exact set_cell_eq _ _ _ _ _ ((set_cell_ne _ _ _ _ _ (by omega)).trans h.k1)
  · rw [set_cell_ne _ _ _ _ _ (by omega), set_cell_ne _ _ _ _ _ (by omega), set_cell_ne _ _ _ _ _ (by omega), set_cell_ne _ _ _ _ _ (by omega), set_cell_ne _ _ _ _ _ (by omega), set_cell_ne _ _ _ _ _ (by omega), set_cell_ne _ _ _ _ _ (by omega), set_cell_ne _ _ _ _ _ (by omega), set_cell_ne _ _ _ _ _ (by omega), set_cell_ne _ _ _ _ _ (by omega)]; exact set_cell_eq _ _ _ _ _ ((set_cell_ne _ _ _ _ _ (by omega)).trans ((set_cell_ne _ _ _ _ _ (by omega)).trans h.k2))
  · rw [set_cell_ne _ _ _ _ _ (by omega), set_cell_ne _ _ _ _ _ (by omega), set_cell_ne _ _ _ _ _ (by omega), set_cell_ne _ _ _ _ _ (by omega), set_cell_ne _ _ _ _ _ (by omega), set_cell_ne _ _ _ _ _ (by omega), set_cell_ne _ _ _ _ _ (by omega), set_cell_ne _ _ _ _ _ (by omega), set_cell_ne _ _ _ _ _ (by omega)]; exact set_cell_eq _ _ _ _ _ ((set_cell_ne _ _ _ _ _ (by omega)).trans ((set_cell_ne _ _ _ _ _ (by omega)).trans ((set_cell_ne _ _ _ _ _ (by omega)).trans h.k3)))
  · rw [set_cell_ne _ _ _ _ _ (by omega), set_cell_ne _ _ _ _ _ (by omega), set_cell_ne _ _ _ _ _ (by omega), set_cell_ne _ _ _ _ _ (by omega), set_cell_ne _ _ _ _ _ (by omega), set_cell_ne _ _ _ _ _ (by omega), set_cell_ne _ _ _ _ _ (by omega), set_cell_ne _ _ _ _ _ (by omega)]; exact set_cell_eq _ _ _ _ _ ((set_cell_ne _ _ _ _ _ (by omega)).trans ((set_cell_ne _ _ _ _ _ (by omega)).trans ((set_cell_ne _ _ _ _ _ (by omega)).trans ((set_cell_ne _ _ _ _ _ (by omega)).trans h.k4))))
  · rw [set_cell_ne _ _ _ _ _ (by omega), set_cell_ne _ _ _ _ _ (by omega), set_cell_ne _ _ _ _ _ (by omega), set_cell_ne _ _ _ _ _ (by omega), set_cell_ne _ _ _ _ _ (by omega), set_cell_ne _ _ _ _ _ (by omega), set_cell_ne _ _ _ _ _ (by omega)]; exact set_cell_eq _ _ _ _ _ ((set_cell_ne _ _ _ _ _ (by omega)).trans ((set_cell_ne _ _ _ _ _ (by omega)).trans ((set_cell_ne _ _ _ _ _ (by omega)).trans ((set_cell_ne _ _ _ _ _ (by omega)).trans ((set_cell_ne _ _ _ _ _ (by omega)).trans h.k5)))))
  · rw [set_cell_ne _ _ _ _ _ (by omega), set_cell_ne _ _ _ _ _ (by omega), set_cell_ne _ _ _ _ _ (by omega), set_cell_ne _ _ _ _ _ (by omega), set_cell_ne _ _ _ _ _ (by omega), set_cell_ne _ _ _ _ _ (by omega)]; exact set_cell_eq _ _ _ _ _ ((set_cell_ne _ _ _ _ _ (by omega)).trans ((set_cell_ne _ _ _ _ _ (by omega)).trans ((set_cell_ne _ _ _ _ _ (by omega)).trans ((set_cell_ne _ _ _ _ _ (by omega)).trans ((set_cell_ne _ _ _ _ _ (by omega)).trans ((set_cell_ne _ _ _ _ _ (by omega)).trans h.k6))))))
  · rw [set_cell_ne _ _ _ _ _ (by omega), set_cell_ne _ _ _ _ _ (by omega), set_cell_ne _ _ _ _ _ (by omega), set_cell_ne _ _ _ _ _ (by omega), set_cell_ne _ _ _ _ _ (by omega)]; exact set_cell_eq _ _ _ _ _ ((set_cell_ne _ _ _ _ _ (by omega)).trans ((set_cell_ne _ _ _ _ _ (by omega)).trans ((set_cell_ne _ _ _ _ _ (by omega)).trans ((set_cell_ne _ _ _ _ _ (by omega)).trans ((set_cell_ne _ _ _ _ _ (by omega)).trans ((set_cell_ne _ _ _ _ _ (by omega)).trans ((set_cell_ne _ _ _ _ _ (by omega)).trans h.k7)))))))
  · rw [set_cell_ne _ _ _ _ _ (by omega), set_cell_ne _ _ _ _ _ (by omega), set_cell_ne _ _ _ _ _ (by omega), set_cell_ne _ _ _ _ _ (by omega)]; exact set_cell_eq _ _ _ _ _ ((set_cell_ne _ _ _ _ _ (by omega)).trans ((set_cell_ne _ _ _ _ _ (by omega)).trans ((set_cell_ne _ _ _ _ _ (by omega)).trans ((set_cell_ne _ _ _ _ _ (by omega)).trans ((set_cell_ne _ _ _ _ _ (by omega)).trans ((set_cell_ne _ _ _ _ _ (by omega)).trans ((set_cell_ne _ _ _ _ _ (by omega)).trans ((set_cell_ne _ _ _ _ _ (by omega)).trans h.k8))))))))
  · rw [set_cell_ne _ _ _ _ _ (by omega), set_cell_ne _ _ _ _ _ (by omega), set_cell_ne _ _ _ _ _ (by omega)]; exact set_cell_eq _ _ _ _ _ ((set_cell_ne _ _ _ _ _ (by omega)).trans ((set_cell_ne _ _ _ _ _ (by omega)).trans ((set_cell_ne _ _ _ _ _ (by omega)).trans ((set_cell_ne _ _ _ _ _ (by omega)).trans ((set_cell_ne _ _ _ _ _ (by omega)).trans ((set_cell_ne _ _ _ _ _ (by omega)).trans ((set_cell_ne _ _ _ _ _ (by omega)).trans ((set_cell_ne _ _ _ _ _ (by omega)).trans ((set_cell_ne _ _ _ _ _ (by omega)).trans h.k9)))))))))
  · rw [set_cell_ne _ _ _ _ _ (by omega), set_cell_ne _ _ _ _ _ (by omega)]; exact set_cell_eq _ _ _ _ _ ((set_cell_ne _ _ _ _ _ (by omega)).trans ((set_cell_ne _ _ _ _ _ (by omega)).trans ((set_cell_ne _ _ _ _ _ (by omega)).trans ((set_cell_ne _ _ _ _ _ (by omega)).trans ((set_cell_ne _ _ _ _ _ (by omega)).trans ((set_cell_ne _ _ _ _ _ (by omega)).trans ((set_cell_ne _ _ _ _ _ (by omega)).trans ((set_cell_ne _ _ _ _ _ (by omega)).trans ((set_cell_ne _ _ _ _ _ (by omega)).trans ((set_cell_ne _ _ _ _ _ (by omega)).trans h.k10))))))))))
  · rw [set_cell_ne _ _ _ _ _ (by omega)]; exact set_cell_eq _ _ _ _ _ ((set_cell_ne _ _ _ _ _ (by omega)).trans ((set_cell_ne _ _ _ _ _ (by omega)).trans ((set_cell_ne _ _ _ _ _ (by omega)).trans ((set_cell_ne _ _ _ _ _ (by omega)).trans ((set_cell_ne _ _ _ _ _ (by omega)).trans ((set_cell_ne _ _ _ _ _ (by omega)).trans ((set_cell_ne _ _ _ _ _ (by omega)).trans ((set_cell_ne _ _ _ _ _ (by omega)).trans ((set_cell_ne _ _ _ _ _ (by omega)).trans ((set_cell_ne _ _ _ _ _ (by omega)).trans ((set_cell_ne _ _ _ _ _ (by omega)).trans h.k11)))))))))))
  · exact set_cell_eq _ _ _ _ _ ((set_cell_ne _ _ _ _ _ (by omega)).trans ((set_cell_ne _ _ _ _ _ (by omega)).trans ((set_cell_ne _ _ _ _ _ (by omega)).trans ((set_cell_ne _ _ _ _ _ (by omega)).trans ((set_cell_ne _ _ _ _ _ (by omega)).trans ((set_cell_ne _ _ _ _ _ (by omega)).trans ((set_cell_ne _ _ _ _ _ (by omega)).trans ((set_cell_ne _ _ _ _ _ (by omega)).trans ((set_cell_ne _ _ _ _ _ (by omega)).trans ((set_cell_ne _ _ _ _ _ (by omega)).trans ((set_cell_ne _ _ _ _ _ (by omega)).trans ((set_cell_ne _ _ _ _ _ (by omega)).trans h.k12))))))))))))
theorem set13_readsA {W : World} {rb : Nat} (h : RBx W rb) (hz : rb < W.heap.size) (O : Obj) (v0 v1 v2 v3 v4 v5 v6 v7 v8 v9 v10 v11 v12 : Value) : ((set13 W rb v0 v1 v2 v3 v4 v5 v6 v7 v8 v9 v10 v11 v12).alloc O).cell? ⟨rb, 0, none⟩ = some v0 ∧ ((set13 W rb v0 v1 v2 v3 v4 v5 v6 v7 v8 v9 v10 v11 v12).alloc O).cell? ⟨rb, 1, none⟩ = some v1 ∧ ((set13 W rb v0 v1 v2 v3 v4 v5 v6 v7 v8 v9 v10 v11 v12).alloc O).cell? ⟨rb, 2, none⟩ = some v2 ∧ ((set13 W rb v0 v1 v2 v3 v4 v5 v6 v7 v8 v9 v10 v11 v12).alloc O).cell? ⟨rb, 3, none⟩ = some v3 ∧ ((set13 W rb v0 v1 v2 v3 v4 v5 v6 v7 v8 v9 v10 v11 v12).alloc O).cell? ⟨rb, 4, none⟩ = some v4 ∧ ((set13 W rb v0 v1 v2 v3 v4 v5 v6 v7 v8 v9 v10 v11 v12).alloc O).cell? ⟨rb, 5, none⟩ = some v5 ∧ ((set13 W rb v0 v1 v2 v3 v4 v5 v6 v7 v8 v9 v10 v11 v12).alloc O).cell? ⟨rb, 6, none⟩ = some v6 ∧ ((set13 W rb v0 v1 v2 v3 v4 v5 v6 v7 v8 v9 v10 v11 v12).alloc O).cell? ⟨rb, 7, none⟩ = some v7 ∧ ((set13 W rb v0 v1 v2 v3 v4 v5 v6 v7 v8 v9 v10 v11 v12).alloc O).cell? ⟨rb, 8, none⟩ = some v8 ∧ ((set13 W rb v0 v1 v2 v3 v4 v5 v6 v7 v8 v9 v10 v11 v12).alloc O).cell? ⟨rb, 9, none⟩ = some v9 ∧ ((set13 W rb v0 v1 v2 v3 v4 v5 v6 v7 v8 v9 v10 v11 v12).alloc O).cell? ⟨rb, 10, none⟩ = some v10 ∧ ((set13 W rb v0 v1 v2 v3 v4 v5 v6 v7 v8 v9 v10 v11 v12).alloc O).cell? ⟨rb, 11, none⟩ = some v11 ∧ ((set13 W rb v0 v1 v2 v3 v4 v5 v6 v7 v8 v9 v10 v11 v12).alloc O).cell? ⟨rb, 12, none⟩ = some v12 := by
  have e : ∀ j, ((set13 W rb v0 v1 v2 v3 v4 v5 v6 v7 v8 v9 v10 v11 v12).alloc O).cell? ⟨rb, j, none⟩ = (set13 W rb v0 v1 v2 v3 v4 v5 v6 v7 v8 v9 v10 v11 v12).cell? ⟨rb, j, none⟩ := fun j => World.cell?_of_block (w := set13 W rb v0 v1 v2 v3 v4 v5 v6 v7 v8 v9 v10 v11 v12) (a := ⟨rb, j, none⟩) (Below.heap_alloc _ _ rb (by rw [set13_size]; exact hz))
  simp only [e]
  exact set13_reads h v0 v1 v2 v3 v4 v5 v6 v7 v8 v9 v10 v11 v12
/-- The subtrees' blocks. -/
theorem PdS.same {P : Nat → Prop} {W W' : World} {args : List PT} {a : Option Addr} {c : Nat} (h : PdS P W args a c) (hs : W.heap.size ≤ W'.heap.size) (hk : ∀ b, P b → b < W.heap.size → W'.heap[b]? = W.heap[b]?) : PdS P W' args a c := h.keep hs hk
mutual
theorem PdC.ltP {P : Nat → Prop} {W : World} : ∀ (p : PT) (b o : Nat), PdC P W p b o → PdC (fun b => P b ∧ b < W.heap.size) W p b o
  | .mk op cmp l r args, b, o, h => by
    unfold PdC at h ⊢
    obtain ⟨h0, h1, h2, h3, a, c, h4, h5, h6⟩ := h
    refine ⟨h0, h1, h2, h3, a, c, h4, h5, ?_⟩
    rcases h6 with h6 | ⟨b', o', ha, hP, hl, hps⟩
    · exact .inl h6
    · exact .inr ⟨b', o', ha, ⟨hP, hl⟩, hl, PdL.ltP args b' o' hps⟩
theorem PdL.ltP {P : Nat → Prop} {W : World} : ∀ (ps : List PT) (b o : Nat), PdL P W ps b o → PdL (fun b => P b ∧ b < W.heap.size) W ps b o
  | [], _, _, _ => by unfold PdL; trivial
  | p :: t, b, o, h => by
    unfold PdL at h ⊢
    exact ⟨PdC.ltP p b o h.1, PdL.ltP t b (o + 13) h.2⟩
end
theorem PdS.ltP {P : Nat → Prop} {W : World} {args : List PT} {a : Option Addr} {c : Nat} (h : PdS P W args a c) : PdS (fun b => P b ∧ b < W.heap.size) W args a c := by
  obtain ⟨h1, h2⟩ := h
  refine ⟨h1, ?_⟩
  rcases h2 with h2 | ⟨b', o', ha, hP, hl, hps⟩
  · exact .inl h2
  · exact .inr ⟨b', o', ha, ⟨hP, hl⟩, hl, PdL.ltP args b' o' hps⟩
/-- A comparison that is valid. -/
theorem vld_cmp {C Q : List Int} {kind c : Int} {x y : Od} (hx : GoodO C Q kind x) (hy : GoodO C Q kind y) (h1 : 1 ≤ c) (h6 : c ≤ 6) : vldP C Q (.mk 3 c x y []) = true := by
  rw [vldP_eq]
  have e : vldPs C Q (PT.mk 3 c x y []).args = true := rfl
  rw [e, Bool.and_true]
  unfold vnB
  show (if (3 : Int) = 3 then (([] : List PT).length == 0 && (cmpB c && alikeB C Q x y)) else _) = true
  rw [if_pos rfl]
  unfold alikeB cmpB
  rw [hx.1, hx.2, hy.1, hy.2]
  simp [h1, h6]
theorem vld_const {C Q : List Int} {op : Int} (h : op = 1 ∨ op = 2) : vldP C Q (.mk op 0 zO zO []) = true := by
  rcases h with rfl | rfl <;> rfl
theorem vld_not {C Q : List Int} {p : PT} (h : vldP C Q p = true) : vldP C Q (.mk 6 0 zO zO [p]) = true := by
  rw [vldP_eq]
  show (vnB C Q (.mk 6 0 zO zO [p]) && (vldP C Q p && true)) = true
  rw [h]
  rfl
theorem vld_join {C Q : List Int} {op : Int} {L : List PT} (ho : op = 4 ∨ op = 5) (h : ∀ p ∈ L, vldP C Q p = true) : vldP C Q (.mk op 0 zO zO L) = true := by
  rw [vldP_eq]
  have e : vldPs C Q (PT.mk op 0 zO zO L).args = true := vldPs_all.2 h
  rw [e, Bool.and_true]
  rcases ho with rfl | rfl <;> rfl
theorem depthP_le {L : List PT} {d : Nat} (h : ∀ p ∈ L, p.depth ≤ d) : depthP L ≤ d := by
  induction L with
  | nil => simp [depthP]
  | cons p t ih =>
    have h1 := h p (by simp)
    have h2 := ih (fun q hq => h q (by simp [hq]))
    simp only [depthP]; omega
theorem nodesL_le {L : List PT} {d : Nat} (h : ∀ p ∈ L, p.nodes ≤ d) : nodesL L ≤ L.length * d := by
  induction L with
  | nil => simp [nodesL]
  | cons p t ih =>
    have h1 := h p (by simp)
    have h2 := ih (fun q hq => h q (by simp [hq]))
    simp only [nodesL, List.length_cons, Nat.succ_mul]; omega
end Go.Proofs.Ytjcbmeannhafjaa

/- The conjunctions and disjunctions of a case: what their walk needs. -/
namespace Go.Proofs.Ytjcbmeannhafjaa

open Go.RowKit Go.Deep

/-- An element of a list of predicates in memory. -/
structure TE where
  p : PT
  a : Option Addr
  c : Nat
def TE.cells (x : TE) : List Value := [.int .i64 x.p.op, .int .i64 x.p.cmp, .int .i64 x.p.l.k, .int .i64 x.p.l.i, .int .i64 x.p.l.v.k, .int .i64 x.p.l.v.n, .string x.p.l.v.s, .int .i64 x.p.r.k, .int .i64 x.p.r.i, .int .i64 x.p.r.v.k, .int .i64 x.p.r.v.n, .string x.p.r.v.s, .slice x.a x.p.args.length x.c]
def teCells (L : List TE) : List Value := L.flatMap TE.cells
theorem length_teCells : ∀ L : List TE, (teCells L).length = L.length * 13
  | [] => rfl
  | x :: r => by
    have := length_teCells r
    unfold teCells at this ⊢
    simp [TE.cells, this]; omega
theorem teCells_snoc (L : List TE) (x : TE) : teCells (L ++ [x]) = teCells L ++ x.cells := by unfold teCells; simp
theorem teCells_at : ∀ (L : List TE) (i : Nat) (h : i < L.length) (j : Nat), j < 13 → (teCells L)[i * 13 + j]? = (L[i].cells)[j]?
  | x :: r, 0, _, j, hj => by
    unfold teCells
    rw [List.flatMap_cons, List.getElem?_append_left (by simp [TE.cells]; omega)]
    simp
  | x :: r, i + 1, h, j, hj => by
    have ih := teCells_at r i (by simpa using h) j hj
    have : (i + 1) * 13 + j = 13 + (i * 13 + j) := by omega
    rw [this]
    unfold teCells at ih ⊢
    rw [List.flatMap_cons, List.getElem?_append_right (by simp [TE.cells])]
    simp [TE.cells]
    simpa [TE.cells] using ih
theorem te_one (x : TE) : ∀ u ∈ x.cells, u.oneCell' = true := by
  intro u hu
  unfold TE.cells at hu
  simp only [List.mem_cons, List.not_mem_nil, or_false] at hu
  rcases hu with rfl | rfl | rfl | rfl | rfl | rfl | rfl | rfl | rfl | rfl | rfl | rfl | rfl <;> rfl
theorem te_new (w : World) (x : TE) (t : TypeId) : ∀ (j : Nat) (u : Value), x.cells[j]? = some u → (w.alloc (.cells x.cells.toArray t)).cell? ((⟨w.heap.size, 0, none⟩ : Addr).add j) = some u := by
  intro j u hj
  have ha : (⟨w.heap.size, 0, none⟩ : Addr).add j = ⟨w.heap.size, j, none⟩ := by unfold Addr.add; split <;> simp_all
  rw [ha]
  have := World.cell?_alloc_mark w x.cells.toArray t (0, 0) j
  refine this.trans ?_
  rw [← hj]; simp
theorem grown_of_alloc' {w w' : World} {o : Obj} {row : Option Nat} (h : (w.alloc o).grownBy w' row) : w.grownBy w' row :=
  ⟨h.os, h.tape, h.output, by have := h.size; simp at this; omega, fun k hk hn => (h.block k (by simp; omega) hn).trans ((World.grownBy_alloc w o row).block k hk hn)⟩
/-- append to an own row, as a step of a region that draws its order. -/
theorem step_append_own {P : Program} {ops : Array Oper} {o : Oper} {a : Act} {w : World} {K : Act → World → Prop} {Q : Exit → Act → World → Prop} {E : Prop} (hgd : o.guard = none) (s x : Operand) (t : TypeId)
    (ho : o.op = .call { callee := .builtin .append, args := #[s, x], argTypes := #[t, t] })
    (base : Nat) (e : TypeId) (i : TypeInfo) (z : Value) (size bytes : Nat) (ht : P.underlying t = some (.slice e)) (hi : P.info? e = some i) (hz : i.zero = some z)
    (hsize : i.size = size) (hby : i.bytes = bytes) (hzs : z.cells.size = size) (hsz : 0 < size)
    (v : Value) (n : Nat) (xs : List Value) (hs : a.eval s = v) (hown : w.ownsRow base e size v n xs)
    (ad : Addr) (m c : Nat) (news : List Value) (hx : a.eval x = .slice (some ad) m c) (hl : news.length = m * size) (hnews : ∀ j u, news[j]? = some u → w.cell? (ad.add j) = some u) (h1 : ∀ u ∈ news, u.oneCell' = true)
    (h63 : n + m ≤ maxLen) (hbytes : (n + m) * bytes ≤ 140737488355328) (hbase : base ≤ w.heap.size)
    (h : ∀ v' w', w'.ownsRow base e size v' (n + m) (xs ++ news) → w.grownBy w' v.ownBlock → (v'.ownBlock = v.ownBlock ∨ v'.ownBlock = some w.heap.size) → K (a.put o.dst v') w') : if Region.wanted o (yielded ops a.tmps) = true then Oper.wp P o a w K Q else E := by
  have hw : Region.wanted o (yielded ops a.tmps) = true := by simp [Region.wanted, hgd]
  rw [if_pos hw]
  obtain ⟨v', w', hr, h2, h3, _, h5⟩ := run_append_own_at (P := P) w base t o.type e i z size bytes ht hi hz hsize hby hzs hsz v n xs hown ad m c news hl hnews h1 h63 hbytes hbase
  unfold Oper.wp execOp
  simp only [ho, resolve, invoke, builtin, Sem.run_bind, Sem.run_pure, Result.andThen_ok, List.map_toArray, List.map_cons, List.map_nil, hs, hx, hr]
  exact h v' w' h2 h3 h5
/-- The box of a predicate whose arguments grow. -/
structure JBx (W : World) (pb : Nat) (op : Int) (v : Value) : Prop where
  k0 : W.cell? ⟨pb, 0, none⟩ = some (.int .i64 op)
  k1 : W.cell? ⟨pb, 1, none⟩ = some (.int .i64 0)
  k2 : W.cell? ⟨pb, 2, none⟩ = some (.int .i64 0)
  k3 : W.cell? ⟨pb, 3, none⟩ = some (.int .i64 0)
  k4 : W.cell? ⟨pb, 4, none⟩ = some (.int .i64 0)
  k5 : W.cell? ⟨pb, 5, none⟩ = some (.int .i64 0)
  k6 : W.cell? ⟨pb, 6, none⟩ = some (.string ⟨#[]⟩)
  k7 : W.cell? ⟨pb, 7, none⟩ = some (.int .i64 0)
  k8 : W.cell? ⟨pb, 8, none⟩ = some (.int .i64 0)
  k9 : W.cell? ⟨pb, 9, none⟩ = some (.int .i64 0)
  k10 : W.cell? ⟨pb, 10, none⟩ = some (.int .i64 0)
  k11 : W.cell? ⟨pb, 11, none⟩ = some (.string ⟨#[]⟩)
  k12 : W.cell? ⟨pb, 12, none⟩ = some v
  kf : ∀ j, W.frozen? ⟨pb, j, none⟩ = false
theorem JBx.same {W W' : World} {pb : Nat} {op : Int} {v : Value} (h : JBx W pb op v) (e : W'.heap[pb]? = W.heap[pb]?) : JBx W' pb op v := by
  have ec : ∀ j, W'.cell? ⟨pb, j, none⟩ = W.cell? ⟨pb, j, none⟩ := fun j => World.cell?_of_block (w := W) (a := ⟨pb, j, none⟩) e
  exact ⟨(ec _).trans h.k0, (ec _).trans h.k1, (ec _).trans h.k2, (ec _).trans h.k3, (ec _).trans h.k4, (ec _).trans h.k5, (ec _).trans h.k6, (ec _).trans h.k7, (ec _).trans h.k8, (ec _).trans h.k9, (ec _).trans h.k10, (ec _).trans h.k11, (ec _).trans h.k12, fun j => (World.frozen?_of_block (w := W) (a := ⟨pb, j, none⟩) e).trans (h.kf j)⟩
theorem JBx.set {W : World} {pb : Nat} {op : Int} {v : Value} (h : JBx W pb op v) (v' : Value) : JBx (W.setCell ⟨pb, 12, none⟩ v') pb op v' :=
  ⟨(set_cell_ne _ _ _ _ _ (by omega)).trans h.k0, (set_cell_ne _ _ _ _ _ (by omega)).trans h.k1, (set_cell_ne _ _ _ _ _ (by omega)).trans h.k2, (set_cell_ne _ _ _ _ _ (by omega)).trans h.k3, (set_cell_ne _ _ _ _ _ (by omega)).trans h.k4, (set_cell_ne _ _ _ _ _ (by omega)).trans h.k5, (set_cell_ne _ _ _ _ _ (by omega)).trans h.k6, (set_cell_ne _ _ _ _ _ (by omega)).trans h.k7, (set_cell_ne _ _ _ _ _ (by omega)).trans h.k8, (set_cell_ne _ _ _ _ _ (by omega)).trans h.k9, (set_cell_ne _ _ _ _ _ (by omega)).trans h.k10, (set_cell_ne _ _ _ _ _ (by omega)).trans h.k11, set_cell_eq _ _ _ _ _ h.k12, fun j => by rw [World.frozen?_setCell]; exact h.kf j⟩
/-- What the loop knows. -/
structure JInv (bc B pb : Nat) (op : Int) (wq : World) (G : PT → Prop) (v : Value) (L : List TE) (W : World) : Prop where
  own : W.ownsRow (pb + 1) 77 13 v L.length (teCells L)
  subs : ∀ x ∈ L, PdS (fun b => pb < b ∧ v.ownBlock ≠ some b) W x.p.args x.a x.c
  good : ∀ x ∈ L, G x.p
  box : JBx W pb op v
  lt : pb < W.heap.size
  mv : Mv bc wq W
  ok : CaseOk bc B W
/-- A draw between. -/
theorem JInv.step {bc B pb : Nat} {op : Int} {wq : World} {G : PT → Prop} {v : Value} {L : List TE} {W W' : World} (h : JInv bc B pb op wq G v L W) (hm : Mv bc W W') (ho : CaseOk bc B W') (hb : bc < pb) : JInv bc B pb op wq G v L W' :=
  ⟨own_mv h.own hm (by omega), fun x hx => (h.subs x hx).keep hm.size fun b hP hl => hm.block b hl (by omega), h.good, h.box.same (hm.block pb h.lt (by omega)), Nat.lt_of_lt_of_le h.lt hm.size, h.mv.trans hm, ho⟩
/-- One more. -/
theorem JInv.app {bc B pb : Nat} {op : Int} {wq : World} {G : PT → Prop} {v v' : Value} {L : List TE} {W W2 : World} {O : Obj} (h : JInv bc B pb op wq G v L W) (x : TE) {lo : Nat} (hlo : ∀ k, v.ownBlock = some k → k ≤ lo) (hlo2 : pb ≤ lo) (hx : PdS (fun b => lo < b) W x.p.args x.a x.c) (hG : G x.p) (hq : wq.heap.size ≤ pb) (hB : B ≤ pb)
    (ho : W2.ownsRow (pb + 1) 77 13 v' (L.length + 1) (teCells L ++ x.cells)) (hg : (W.alloc O).grownBy W2 v.ownBlock) (hat : v'.ownBlock = v.ownBlock ∨ v'.ownBlock = some (W.alloc O).heap.size) : JInv bc B pb op wq G v' (L ++ [x]) (W2.setCell ⟨pb, 12, none⟩ v') := by
  have hlt := h.own.lt
  have hgW : W.grownBy W2 v.ownBlock := grown_of_alloc' hg
  have hset : ∀ k, k ≠ pb → (W2.setCell ⟨pb, 12, none⟩ v').heap[k]? = W2.heap[k]? := fun k hk => Below.heap_setCell _ _ _ _ hk
  have hsz : (W2.setCell ⟨pb, 12, none⟩ v').heap.size = W2.heap.size := by simp
  have hpb2 : W2.heap[pb]? = W.heap[pb]? := hgW.block pb h.lt (fun e => by have := (hlt pb e.symm).1; omega)
  have hnew : ∀ b, b < W.heap.size → v.ownBlock ≠ some b → v'.ownBlock ≠ some b := fun b hb hn e => by
    rcases hat with hh | hh
    · rw [hh] at e; exact hn e
    · rw [hh] at e; simp at e; omega
  refine ⟨?_, fun y hy => ?_, fun y hy => ?_, (h.box.same hpb2).set v', by rw [hsz]; exact Nat.lt_of_lt_of_le h.lt hgW.size, ?_, ?_⟩
  · rw [teCells_snoc, List.length_append]
    refine World.ownsRow.kept (row := some pb) ho ⟨rfl, rfl, rfl, by simp, fun k _ hn => hset k (fun e => hn (by rw [e]))⟩ ?_
    cases hob : v'.ownBlock with
    | none => exact .inl rfl
    | some k => right; intro e; simp only [Option.some.injEq] at e; have := (ho.lt k hob).1; omega
  · rw [List.mem_append] at hy
    have key : ∀ {args : List PT} {a : Option Addr} {c : Nat}, PdS (fun b => pb < b ∧ v.ownBlock ≠ some b) W args a c → PdS (fun b => pb < b ∧ v'.ownBlock ≠ some b) (W2.setCell ⟨pb, 12, none⟩ v') args a c := fun hs =>
      (hs.ltP.keep (W' := W2.setCell ⟨pb, 12, none⟩ v') (by rw [hsz]; exact hgW.size) (fun b hP hl => (hset b (by omega)).trans (hgW.block b hl (fun e => hP.1.2 e.symm)))).weak (fun b hb => ⟨hb.1.1, hnew b hb.2 hb.1.2⟩)
    rcases hy with hy | hy
    · exact key (h.subs y hy)
    · simp only [List.mem_singleton] at hy
      subst hy
      exact key (hx.weak fun b hb => ⟨by omega, fun e => by have := hlo b e; omega⟩)
  · rw [List.mem_append] at hy
    rcases hy with hy | hy
    · exact h.good y hy
    · simp only [List.mem_singleton] at hy; subst hy; exact hG
  · exact (h.mv.grown hgW (show wq.heap.size ≤ pb + 1 by omega) (fun k e => (hlt k e).1)).setNew hq _ _
  · exact (h.ok.grown hgW (show B ≤ pb + 1 by omega) (fun k e => (hlt k e).1)).setNew hB _ _
/-- What has been built reads as predicates. -/
theorem JInv.out {bc B pb : Nat} {op : Int} {wq : World} {G : PT → Prop} {v : Value} {L : List TE} {W : World} (h : JInv bc B pb op wq G v L W) (hfew : L.length ≤ 17592186044416) : ∃ a c, v = .slice a L.length c ∧ PdS (fun b => pb < b) W (L.map TE.p) a c := by
  rcases h.own.2 with ⟨rfl, h0⟩ | ⟨g, cap, cur, rfl, hg, hgg, hnc, hcm, hcs, htake⟩
  · have : L = [] := List.eq_nil_of_length_eq_zero h0
    subst this
    exact ⟨none, 0, rfl, PdS.nil _ _⟩
  · have hlen := length_teCells L
    refine ⟨some ⟨g, 0, none⟩, cap, rfl, ⟨by simpa using hnc, hcm, fun e => (by cases e), by simpa using hfew⟩, .inr ⟨g, 0, rfl, by omega, (Array.getElem?_eq_some_iff.1 hgg).1, PdL.mk' fun j hj => ?_⟩⟩
    have hj' : j < L.length := by simpa using hj
    have hc : ∀ i, i < 13 → W.cell? ⟨g, 0 + j * 13 + i, none⟩ = (L[j].cells)[i]? := fun i hi => by
      have := h.own.cellAt (g := g) (j * 13 + i) (by omega)
      rw [teCells_at L j hj' i hi] at this
      rw [← this]; congr 2; omega
    have hs := (h.subs L[j] (List.getElem_mem hj')).weak (Q := fun b => pb < b) (fun b hb => hb.1)
    simp only [List.getElem_map]
    refine PdC.close (a := L[j].a) (c := L[j].c) (hc 0 (by omega)) (hc 1 (by omega)) ⟨hc 2 (by omega), hc 3 (by omega), hc 4 (by omega), hc 5 (by omega), hc 6 (by omega)⟩ ⟨hc 7 (by omega), hc 8 (by omega), hc 9 (by omega), hc 10 (by omega), hc 11 (by omega)⟩ (hc 12 (by omega)) hs
end Go.Proofs.Ytjcbmeannhafjaa
