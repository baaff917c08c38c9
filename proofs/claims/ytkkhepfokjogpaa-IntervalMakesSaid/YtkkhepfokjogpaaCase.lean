
/- Walks over partsynccase: New, Int. -/
import Derived.Test.YtkkhepfokjogpaaLeaf

import Derived.Outline

namespace Go.Proofs.Ytkkhepfokjogpaa

open Go.RowKit

/-- Only block bc may have turned. -/
structure Mv (bc : Nat) (w w' : World) : Prop where
  os : w'.os = w.os
  tape : w'.tape = w.tape
  output : w'.output = w.output
  size : w.heap.size ≤ w'.heap.size
  block : ∀ k, k < w.heap.size → k ≠ bc → w'.heap[k]? = w.heap[k]?
theorem Mv.refl (bc : Nat) (w : World) : Mv bc w w := ⟨rfl, rfl, rfl, Nat.le_refl _, fun _ _ _ => rfl⟩
theorem Mv.trans {bc : Nat} {a b c : World} (h : Mv bc a b) (k : Mv bc b c) : Mv bc a c :=
  ⟨k.os.trans h.os, k.tape.trans h.tape, k.output.trans h.output, Nat.le_trans h.size k.size, fun i hi hn => (k.block i (Nat.lt_of_lt_of_le hi h.size) hn).trans (h.block i hi hn)⟩
theorem Mv.of_below {bc : Nat} {a b : World} (h : Below a.heap.size a b) : Mv bc a b := ⟨h.os, h.tape, h.output, h.size, fun k hk _ => h.block k hk⟩
theorem Mv.below {bc B : Nat} {a b : World} (h : Mv bc a b) (hB : B ≤ bc) (hs : B ≤ a.heap.size) : Below B a b := ⟨h.os, h.tape, h.output, h.size, fun k hk => h.block k (by omega) (by omega)⟩
theorem Mv.drewN {bc : Nat} {a w : World} (h : Mv bc a w) (n : Nat) : Mv bc a (w.drewN n) := ⟨h.os, h.tape, h.output, h.size, h.block⟩
theorem Mv.setCell {bc : Nat} {a w : World} (h : Mv bc a w) (o : Nat) (v : Value) : Mv bc a (w.setCell ⟨bc, o, none⟩ v) :=
  ⟨h.os, h.tape, h.output, by simp; exact h.size, fun k hk hn => by rw [Below.heap_setCell _ _ _ _ hn]; exact h.block k hk hn⟩
theorem Mv.cell {bc : Nat} {a w : World} (h : Mv bc a w) {p : Addr} (hp : p.block < a.heap.size) (hn : p.block ≠ bc) : w.cell? p = a.cell? p := World.cell?_of_block (w := a) (h.block p.block hp hn)

/-- Block bc is a Case: a list of at most 90 codes in a block of its own, and a place in it. -/
def CaseOk (bc B : Nat) (w : World) : Prop :=
  ∃ (a : Option Addr) (n c : Nat) (at_ : Int), (bc < B ∧ B ≤ w.heap.size) ∧ n ≤ 90 ∧ 0 ≤ at_ ∧ at_ ≤ n ∧ w.cell? ⟨bc, 0, none⟩ = some (.slice a n c) ∧ w.cell? ⟨bc, 1, none⟩ = some (.int .i64 at_) ∧ w.frozen? ⟨bc, 1, none⟩ = false ∧
    ∀ j, j < n → ∃ b off x, a = some ⟨b, off, none⟩ ∧ b < B ∧ b ≠ bc ∧ w.cell? ⟨b, off + j, none⟩ = some (.int .u8 x) ∧ 0 ≤ x ∧ x ≤ 255
theorem CaseOk.below {bc B B' : Nat} {w w' : World} (h : CaseOk bc B w) (hb : Below B' w w') (hB : B ≤ B') : CaseOk bc B w' := by
  obtain ⟨a, n, c, at_, ⟨h0, h00⟩, h1, h2, h3, h4, h5, h6, h7⟩ := h
  have hs := hb.size
  refine ⟨a, n, c, at_, ⟨h0, by omega⟩, h1, h2, h3, (hb.cell (p := ⟨bc, 0, none⟩) (show bc < B' by omega)).trans h4, (hb.cell (p := ⟨bc, 1, none⟩) (show bc < B' by omega)).trans h5, (hb.frozen (p := ⟨bc, 1, none⟩) (show bc < B' by omega)).trans h6, fun j hj => ?_⟩
  obtain ⟨b, off, x, e, hb', hn, hc, hx⟩ := h7 j hj
  exact ⟨b, off, x, e, hb', hn, (hb.cell (p := ⟨b, off + j, none⟩) (show b < B' by omega)).trans hc, hx⟩
theorem CaseOk.lt {bc B : Nat} {w : World} (h : CaseOk bc B w) : bc < B ∧ B ≤ w.heap.size := by
  obtain ⟨a, n, c, at_, h0, _⟩ := h
  exact h0

def IntPost (bc B : Nat) (n : Int) (w : World) (e : Ending) (w' : World) : Prop :=
  ∃ r : Int, e = .returned (.int .i64 r) ∧ 0 ≤ r ∧ (r < n ∨ r = 0) ∧ Mv bc w w' ∧ CaseOk bc B w'

set_option maxHeartbeats 400000 in
theorem cInt_any (bc B : Nat) (m : Int) (w : World) (hm : -9223372036854775808 ≤ m) (hm2 : m ≤ 9223372036854775807) (h : CaseOk bc B w) : Calls Try.prog 45 #[.pointer (some ⟨bc, 0, none⟩), .int .i64 m] w (IntPost bc B m w) := by
  have HOK := Lib.hid h
  obtain ⟨a, n, c, at_, ⟨h0, h00⟩, h1, h2, h3, h4, h5, h6, h7⟩ := h
  by_cases hat : at_ < n
  · have hat' : decide ((n : Int) ≤ at_) = false := by simp; omega
    by_cases hm1 : m < 1
    · have hm' : decide (m < 1) = true := by simp; omega
      clear h7
      go_enter Try.func45, Try.ntmps45
      go_wp2_with fail
      go_quiet (fail)
      rename_i nq
      go_wp2_with fail
      go_ret
      exact ⟨0, rfl, by omega, .inr rfl, (Mv.refl _ _).drewN _, HOK.out.below ((Gr.refl _).drewN _).below h00⟩
    · have hm' : decide (m < 1) = false := by simp; omega
      obtain ⟨k, rfl⟩ : ∃ k : Nat, at_ = k := ⟨at_.toNat, by omega⟩
      obtain ⟨b, off, x, rfl, hb, hn, hc, hx0, hx1⟩ := h7 k (by omega)
      have HB := Lib.hid h7
      clear h7
      have hkn : k < n := by omega
      go_enter Try.func45, Try.ntmps45
      go_wp2_with fail
      go_quiet (fail)
      rename_i nq
      go_wp2_with fail
      have e0 : ((w.drewN nq).setCell ⟨bc, 1, none⟩ (.int .i64 ((k : Int) + 1))).cell? ⟨bc, 0, none⟩ = some (.slice (some ⟨b, off, none⟩) n c) := by
        rw [World.cell?_setCell_other _ _ _ _ (by simp)]; exact h4
      have e1 : ((w.drewN nq).setCell ⟨bc, 1, none⟩ (.int .i64 ((k : Int) + 1))).cell? ⟨bc, 1, none⟩ = some (.int .i64 ((k : Int) + 1)) :=
        World.cell?_setCell_same _ _ _ (show (w.drewN nq).cell? ⟨bc, 1, none⟩ = _ from h5)
      have eo : ∀ b' o', b' ≠ bc → ((w.drewN nq).setCell ⟨bc, 1, none⟩ (.int .i64 ((k : Int) + 1))).cell? ⟨b', o', none⟩ = w.cell? ⟨b', o', none⟩ := fun b' o' hb' => by
        rw [World.cell?_setCell_other _ _ _ _ (by first | (simp; done) | (simp; intro e; exact absurd e.symm hb'))]; rfl
      have e2 : ((w.drewN nq).setCell ⟨bc, 1, none⟩ (.int .i64 ((k : Int) + 1))).cell? ⟨b, off + k, none⟩ = some (.int .u8 x) := (eo b _ hn).trans hc
      have HM : Hid (Mv bc w ((w.drewN nq).setCell ⟨bc, 1, none⟩ (.int .i64 ((k : Int) + 1)))) := ((Mv.refl _ _).drewN _).setCell _ _
      have HO2 : Hid (CaseOk bc B ((w.drewN nq).setCell ⟨bc, 1, none⟩ (.int .i64 ((k : Int) + 1)))) := by
        refine ⟨_, n, c, _, ⟨h0, by simp; exact h00⟩, h1, by omega, by omega, e0, e1, by rw [World.frozen?_setCell]; exact h6, fun j hj => ?_⟩
        obtain ⟨b', off', x', e, hb', hn', hc', hx'⟩ := HB.out j hj
        exact ⟨b', off', x', e, hb', hn', (eo _ _ hn').trans hc', hx'⟩
      clear eo hc h4 h5 h6 HB hat
      generalize (w.drewN nq).setCell ⟨bc, 1, none⟩ (.int .i64 ((k : Int) + 1)) = W2 at e0 e1 e2 HM HO2 ⊢
      go_quiet (fail)
      rename_i nq2
      go_wp2_with fail
      go_ret
      refine ⟨x % m, rfl, Int.emod_nonneg _ (by omega), .inl (Int.emod_lt_of_pos _ (by omega)), HM.out.drewN _, HO2.out.below ((Gr.refl _).drewN _).below HO2.out.lt.2⟩
  · have hat' : decide ((n : Int) ≤ at_) = true := by simp; omega
    clear h7
    go_enter Try.func45, Try.ntmps45
    go_wp2_with fail
    go_quiet (fail)
    rename_i nq
    go_wp2_with fail
    go_ret
    exact ⟨0, rfl, by omega, .inr rfl, (Mv.refl _ _).drewN _, HOK.out.below ((Gr.refl _).drewN _).below h00⟩
end Go.Proofs.Ytkkhepfokjogpaa
