
/- Walks over partsynccase: New, Int. -/
import Derived.Test.YtjcbmeannhafjaaVal

import Derived.Outline

import Derived.Laws.AppendOwnNone

import Derived.OpenShut

import Derived.Deep.OwnRows

namespace Go.Proofs.Ytjcbmeannhafjaa

open Go.RowKit

/-- Only block bc may have turned. -/
structure Mv (bc : Nat) (w w' : World) : Prop where
  os : w'.os = w.os
  tape : w'.tape = w.tape
  output : w'.output = w.output
  size : w.heap.size ≤ w'.heap.size
  block : ∀ k, k < w.heap.size → k ≠ bc → w'.heap[k]? = w.heap[k]?
theorem Mv.refl (bc : Nat) (w : World) : Mv bc w w := ⟨rfl, rfl, rfl, Nat.le_refl _, fun _ _ _ => rfl⟩
theorem Mv.trans {bc : Nat} {a b c : World} (h : Mv bc a b) (k : Mv bc b c) : Mv bc a c :=
  ⟨k.os.trans h.os, k.tape.trans h.tape, k.output.trans h.output, Nat.le_trans h.size k.size, fun i hi hn => (k.block i (Nat.lt_of_lt_of_le hi h.size) hn).trans (h.block i hi hn)⟩
theorem Mv.of_below {bc : Nat} {a b : World} (h : Below a.heap.size a b) : Mv bc a b := ⟨h.os, h.tape, h.output, h.size, fun k hk _ => h.block k hk⟩
theorem Mv.below {bc B : Nat} {a b : World} (h : Mv bc a b) (hB : B ≤ bc) (hs : B ≤ a.heap.size) : Below B a b := ⟨h.os, h.tape, h.output, h.size, fun k hk => h.block k (by omega) (by omega)⟩
theorem Mv.drewN {bc : Nat} {a w : World} (h : Mv bc a w) (n : Nat) : Mv bc a (w.drewN n) := ⟨h.os, h.tape, h.output, h.size, h.block⟩
theorem Mv.setCell {bc : Nat} {a w : World} (h : Mv bc a w) (o : Nat) (v : Value) : Mv bc a (w.setCell ⟨bc, o, none⟩ v) :=
  ⟨h.os, h.tape, h.output, by simp; exact h.size, fun k hk hn => by rw [Below.heap_setCell _ _ _ _ hn]; exact h.block k hk hn⟩
theorem Mv.cell {bc : Nat} {a w : World} (h : Mv bc a w) {p : Addr} (hp : p.block < a.heap.size) (hn : p.block ≠ bc) : w.cell? p = a.cell? p := World.cell?_of_block (w := a) (h.block p.block hp hn)

/-- Block bc is a Case: a list of at most 4096 codes in a block of its own, and a place in it. -/
def CaseOk (bc B : Nat) (w : World) : Prop :=
  ∃ (a : Option Addr) (n c : Nat) (at_ : Int), (bc < B ∧ B ≤ w.heap.size) ∧ n ≤ 4096 ∧ 0 ≤ at_ ∧ at_ ≤ n ∧ w.cell? ⟨bc, 0, none⟩ = some (.slice a n c) ∧ w.cell? ⟨bc, 1, none⟩ = some (.int .i64 at_) ∧ w.frozen? ⟨bc, 1, none⟩ = false ∧
    ∀ j, j < n → ∃ b off x, a = some ⟨b, off, none⟩ ∧ b < B ∧ b ≠ bc ∧ w.cell? ⟨b, off + j, none⟩ = some (.int .u8 x) ∧ 0 ≤ x ∧ x ≤ 255
theorem CaseOk.below {bc B B' : Nat} {w w' : World} (h : CaseOk bc B w) (hb : Below B' w w') (hB : B ≤ B') : CaseOk bc B w' := by
  obtain ⟨a, n, c, at_, ⟨h0, h00⟩, h1, h2, h3, h4, h5, h6, h7⟩ := h
  have hs := hb.size
  refine ⟨a, n, c, at_, ⟨h0, by omega⟩, h1, h2, h3, (hb.cell (p := ⟨bc, 0, none⟩) (show bc < B' by omega)).trans h4, (hb.cell (p := ⟨bc, 1, none⟩) (show bc < B' by omega)).trans h5, (hb.frozen (p := ⟨bc, 1, none⟩) (show bc < B' by omega)).trans h6, fun j hj => ?_⟩
  obtain ⟨b, off, x, e, hb', hn, hc, hx⟩ := h7 j hj
  exact ⟨b, off, x, e, hb', hn, (hb.cell (p := ⟨b, off + j, none⟩) (show b < B' by omega)).trans hc, hx⟩
theorem CaseOk.lt {bc B : Nat} {w : World} (h : CaseOk bc B w) : bc < B ∧ B ≤ w.heap.size := by
  obtain ⟨a, n, c, at_, h0, _⟩ := h
  exact h0

def IntPost (bc B : Nat) (n : Int) (w : World) (e : Ending) (w' : World) : Prop :=
  ∃ r : Int, e = .returned (.int .i64 r) ∧ 0 ≤ r ∧ (r < n ∨ r = 0) ∧ Mv bc w w' ∧ CaseOk bc B w'

set_option maxHeartbeats 400000 in
theorem cInt_any (bc B : Nat) (m : Int) (w : World) (hm : -9223372036854775808 ≤ m) (hm2 : m ≤ 9223372036854775807) (h : CaseOk bc B w) : Calls Try.prog 16 #[.pointer (some ⟨bc, 0, none⟩), .int .i64 m] w (IntPost bc B m w) := by
  have HOK := Lib.hid h
  obtain ⟨a, n, c, at_, ⟨h0, h00⟩, h1, h2, h3, h4, h5, h6, h7⟩ := h
  by_cases hat : at_ < n
  · have hat' : decide ((n : Int) ≤ at_) = false := by simp; omega
    by_cases hm1 : m < 1
    · have hm' : decide (m < 1) = true := by simp; omega
      clear h7
      go_enter Try.func16, Try.ntmps16
      go_wp2_with fail
      go_quiet (fail)
      rename_i nq
      go_wp2_with fail
      go_ret
      exact ⟨0, rfl, by omega, .inr rfl, (Mv.refl _ _).drewN _, HOK.out.below ((Gr.refl _).drewN _).below h00⟩
    · have hm' : decide (m < 1) = false := by simp; omega
      obtain ⟨k, rfl⟩ : ∃ k : Nat, at_ = k := ⟨at_.toNat, by omega⟩
      obtain ⟨b, off, x, rfl, hb, hn, hc, hx0, hx1⟩ := h7 k (by omega)
      have HB := Lib.hid h7
      clear h7
      have hkn : k < n := by omega
      go_enter Try.func16, Try.ntmps16
      go_wp2_with fail
      go_quiet (fail)
      rename_i nq
      go_wp2_with fail
      have e0 : ((w.drewN nq).setCell ⟨bc, 1, none⟩ (.int .i64 ((k : Int) + 1))).cell? ⟨bc, 0, none⟩ = some (.slice (some ⟨b, off, none⟩) n c) := by
        rw [World.cell?_setCell_other _ _ _ _ (by simp)]; exact h4
      have e1 : ((w.drewN nq).setCell ⟨bc, 1, none⟩ (.int .i64 ((k : Int) + 1))).cell? ⟨bc, 1, none⟩ = some (.int .i64 ((k : Int) + 1)) :=
        World.cell?_setCell_same _ _ _ (show (w.drewN nq).cell? ⟨bc, 1, none⟩ = _ from h5)
      have eo : ∀ b' o', b' ≠ bc → ((w.drewN nq).setCell ⟨bc, 1, none⟩ (.int .i64 ((k : Int) + 1))).cell? ⟨b', o', none⟩ = w.cell? ⟨b', o', none⟩ := fun b' o' hb' => by
        rw [World.cell?_setCell_other _ _ _ _ (by first | (simp; done) | (simp; intro e; exact absurd e.symm hb'))]; rfl
      have e2 : ((w.drewN nq).setCell ⟨bc, 1, none⟩ (.int .i64 ((k : Int) + 1))).cell? ⟨b, off + k, none⟩ = some (.int .u8 x) := (eo b _ hn).trans hc
      have HM : Hid (Mv bc w ((w.drewN nq).setCell ⟨bc, 1, none⟩ (.int .i64 ((k : Int) + 1)))) := ((Mv.refl _ _).drewN _).setCell _ _
      have HO2 : Hid (CaseOk bc B ((w.drewN nq).setCell ⟨bc, 1, none⟩ (.int .i64 ((k : Int) + 1)))) := by
        refine ⟨_, n, c, _, ⟨h0, by simp; exact h00⟩, h1, by omega, by omega, e0, e1, by rw [World.frozen?_setCell]; exact h6, fun j hj => ?_⟩
        obtain ⟨b', off', x', e, hb', hn', hc', hx'⟩ := HB.out j hj
        exact ⟨b', off', x', e, hb', hn', (eo _ _ hn').trans hc', hx'⟩
      clear eo hc h4 h5 h6 HB hat
      generalize (w.drewN nq).setCell ⟨bc, 1, none⟩ (.int .i64 ((k : Int) + 1)) = W2 at e0 e1 e2 HM HO2 ⊢
      go_quiet (fail)
      rename_i nq2
      go_wp2_with fail
      go_ret
      refine ⟨x % m, rfl, Int.emod_nonneg _ (by omega), .inl (Int.emod_lt_of_pos _ (by omega)), HM.out.drewN _, HO2.out.below ((Gr.refl _).drewN _).below HO2.out.lt.2⟩
  · have hat' : decide ((n : Int) ≤ at_) = true := by simp; omega
    clear h7
    go_enter Try.func16, Try.ntmps16
    go_wp2_with fail
    go_quiet (fail)
    rename_i nq
    go_wp2_with fail
    go_ret
    exact ⟨0, rfl, by omega, .inr rfl, (Mv.refl _ _).drewN _, HOK.out.below ((Gr.refl _).drewN _).below h00⟩
end Go.Proofs.Ytjcbmeannhafjaa

/- Walks over partsynccase: Number, Text, Value, Any. -/
namespace Go.Proofs.Ytjcbmeannhafjaa

open Go.RowKit

def NumPost (bc B : Nat) (w : World) (e : Ending) (w' : World) : Prop :=
  ∃ r : Int, e = .returned (.int .i64 r) ∧ -9223372036854775808 ≤ r ∧ r ≤ 9223372036854775807 ∧ Mv bc w w' ∧ CaseOk bc B w'

set_option maxHeartbeats 400000 in
theorem cNumber_any (bc B : Nat) (w : World) (h : CaseOk bc B w) : Calls Try.prog 101 #[.pointer (some ⟨bc, 0, none⟩)] w (NumPost bc B w) := by
  have HI := Lib.hid (cInt_any bc B 12 w (by omega) (by omega) h)
  clear h
  go_enter Try.func101, Try.ntmps101
  go_wp2_with fail
  refine HI.out.mono ?_
  rintro e w1 ⟨r, rfl, hr0, hr1, hm, ho⟩
  clear HI
  have hr : r < 12 := by omega
  clear hr1
  by_cases h9 : r = 9
  · subst h9
    go_wp2_with fail
    go_ret
    exact ⟨_, rfl, by omega, by omega, hm, ho⟩
  · by_cases h10 : r = 10
    · subst h10
      go_wp2_with fail
      go_ret
      exact ⟨_, rfl, by omega, by omega, hm, ho⟩
    · by_cases h11 : r = 11
      · subst h11
        go_wp2_with fail
        go_ret
        exact ⟨_, rfl, by omega, by omega, hm, ho⟩
      · have b9 : (r == 9) = false := by simp; omega
        have b10 : (r == 10) = false := by simp; omega
        have b11 : (r == 11) = false := by simp; omega
        clear h9 h10 h11
        go_wp2_with fail
        go_ret
        exact ⟨r % 4, rfl, by omega, by omega, hm, ho⟩

def TextPost (bc B : Nat) (w : World) (e : Ending) (w' : World) : Prop :=
  ∃ s : ByteArray, e = .returned (.string s) ∧ s.size ≤ 64 ∧ Mv bc w w' ∧ CaseOk bc B w'

set_option maxHeartbeats 1000000 in
theorem cText_any (bc B : Nat) (w : World) (h : CaseOk bc B w) : Calls Try.prog 102 #[.pointer (some ⟨bc, 0, none⟩)] w (TextPost bc B w) := by
  have HI := Lib.hid (cInt_any bc B 10 w (by omega) (by omega) h)
  clear h
  go_enter Try.func102, Try.ntmps102
  go_wp2_with fail
  refine HI.out.mono ?_
  rintro e w1 ⟨r, rfl, hr0, hr1, hm, ho⟩
  clear HI
  have hr : r < 10 := by omega
  clear hr1
  have hcases : r = 0 ∨ r = 1 ∨ r = 2 ∨ r = 3 ∨ r = 4 ∨ r = 5 ∨ r = 6 ∨ r = 7 ∨ r = 8 ∨ r = 9 := by omega
  rcases hcases with rfl | rfl | rfl | rfl | rfl | rfl | rfl | rfl | rfl | rfl
  all_goals first | (go_wp2_with fail; go_ret; exact ⟨_, rfl, by decide, hm, ho⟩) | skip
  · go_wp2_with fail
    go_loop [3, 4] (fun s i => ∃ (k : Nat) (x : ByteArray), k ≤ 64 ∧ i = .int .i64 k ∧ s = .string x ∧ Hid (x.size = k)) (fun _ i => 64 - (intOf i).toNat)
    case atStart => exact ⟨0, _, by omega, rfl, rfl, rfl⟩
    case round =>
      obtain ⟨k, x, hk, rfl, rfl, hx⟩ := hrel
      have hxl : x.size ≤ 64 := by rw [hx.out]; omega
      by_cases hlt : k < 64
      · go_wp2_with fail
        go_round
        case rel => exact ⟨k + 1, _, by omega, by go_num, rfl, by show _ = _; rw [ByteArray.size_append, hx.out]; rfl⟩
        case measure => simp [intOf]; omega
      · have hk64 : k = 64 := by omega
        clear hlt
        subst hk64
        go_wp2_with fail
        go_ret
        exact ⟨_, rfl, by rw [hx.out]; omega, hm, ho⟩
  · go_wp2_with fail
    go_loop [3, 5] (fun s i => ∃ (k : Nat) (x : ByteArray), k ≤ 64 ∧ i = .int .i64 k ∧ s = .string x ∧ Hid (x.size = k)) (fun _ i => 64 - (intOf i).toNat)
    case atStart => exact ⟨0, _, by omega, rfl, rfl, rfl⟩
    case round =>
      obtain ⟨k, x, hk, rfl, rfl, hx⟩ := hrel
      have hxl : x.size ≤ 64 := by rw [hx.out]; omega
      by_cases hlt : k < 64
      · go_wp2_with fail
        go_round
        case rel => exact ⟨k + 1, _, by omega, by go_num, rfl, by show _ = _; rw [ByteArray.size_append, hx.out]; rfl⟩
        case measure => simp [intOf]; omega
      · have hk64 : k = 64 := by omega
        clear hlt
        subst hk64
        go_wp2_with fail
        go_ret
        exact ⟨_, rfl, by rw [hx.out]; omega, hm, ho⟩
end Go.Proofs.Ytjcbmeannhafjaa

/- Walks over partsynccase: Value, Any. -/
namespace Go.Proofs.Ytjcbmeannhafjaa

open Go.RowKit

/-- A block that was not there when the call began may turn. -/
theorem Mv.setNew {bc : Nat} {a w : World} (h : Mv bc a w) {b : Nat} (hb : a.heap.size ≤ b) (o : Nat) (v : Value) : Mv bc a (w.setCell ⟨b, o, none⟩ v) :=
  ⟨h.os, h.tape, h.output, by simp; exact h.size, fun k hk hn => by rw [Below.heap_setCell _ _ _ _ (show k ≠ b by omega)]; exact h.block k hk hn⟩
theorem Mv.alloc {bc : Nat} {a w : World} (h : Mv bc a w) (o : Obj) : Mv bc a (w.alloc o) :=
  h.trans (Mv.of_below ((Below.refl _ _).alloc (Nat.le_refl _) _))
theorem CaseOk.setNew {bc B : Nat} {w : World} (h : CaseOk bc B w) {b : Nat} (hb : B ≤ b) (o : Nat) (v : Value) : CaseOk bc B (w.setCell ⟨b, o, none⟩ v) :=
  h.below ((Below.refl B w).setCell hb v) (Nat.le_refl _)
theorem CaseOk.alloc {bc B : Nat} {w : World} (h : CaseOk bc B w) (o : Obj) : CaseOk bc B (w.alloc o) :=
  h.below ((Below.refl B w).alloc h.lt.2 o) (Nat.le_refl _)

def ValPost (bc B : Nat) (k : Int) (w : World) (e : Ending) (w' : World) : Prop :=
  ∃ (n : Int) (s : ByteArray), e = .returned (.agg #[.int .i64 k, .int .i64 n, .string s]) ∧ vldB k n s = true ∧ -9223372036854775808 ≤ n ∧ n ≤ 9223372036854775807 ∧ Mv bc w w' ∧ CaseOk bc B w'

/-- What stands in a new block behind a move. -/
theorem Mv.newCell {bc B : Nat} {w w1 : World} {O : Obj} (h : Mv bc (w.alloc O) w1) (ho : CaseOk bc B w) : w.heap.size < w1.heap.size ∧ (∀ o, w1.cell? ⟨w.heap.size, o, none⟩ = (w.alloc O).cell? ⟨w.heap.size, o, none⟩) ∧ ∀ o, w1.frozen? ⟨w.heap.size, o, none⟩ = (w.alloc O).frozen? ⟨w.heap.size, o, none⟩ := by
  have hl := ho.lt
  have hb := h.block w.heap.size (by simp) (by omega)
  refine ⟨by have := h.size; simp at this; omega, fun o => World.cell?_of_block (w := w.alloc O) (a := ⟨w.heap.size, o, none⟩) hb, fun o => World.frozen?_of_block (w := w.alloc O) (a := ⟨w.heap.size, o, none⟩) hb⟩

set_option maxHeartbeats 400000 in
theorem cValue_any (bc B : Nat) (k : Int) (w : World) (hk : k = 3 ∨ k = 4 ∨ k = 5) (h : CaseOk bc B w) : Calls Try.prog 82 #[.pointer (some ⟨bc, 0, none⟩), .int .i64 k] w (ValPost bc B k w) := by
  have hl := h.lt
  have HI := Lib.hid (fun O => cInt_any bc B 2 (w.alloc O) (by omega) (by omega) (h.alloc O))
  have HN := Lib.hid (fun O => cNumber_any bc B (w.alloc O) (h.alloc O))
  have HT := Lib.hid (fun O => cText_any bc B (w.alloc O) (h.alloc O))
  have HO := Lib.hid h
  clear h
  rcases hk with rfl | rfl | rfl
  · go_enter Try.func82, Try.ntmps82
    go_wp2_with fail
    refine (HI.out _).mono ?_
    rintro e w1 ⟨r, rfl, hr0, hr1, hm, ho⟩
    have hr : r = 0 ∨ r = 1 := by omega
    have HM : Hid (Mv bc w w1) := ((Mv.refl bc w).alloc _).trans hm
    have HO1 := Lib.hid ho
    obtain ⟨hs, hc, hf⟩ := hm.newCell HO.out
    clear HI HN HT hm ho hr0 hr1
    go_wp2_with fail
    refine bodyPost_ret (v := .agg #[.int .i64 3, .int .i64 r, .string ⟨#[]⟩]) (by simp [results, Try.results82, go_sem, *]) rfl ?_
    refine ⟨r, ⟨#[]⟩, rfl, ?_, by omega, by omega, ((HM.out.setNew (Nat.le_refl _) _ _).setNew (Nat.le_refl _) _ _).setNew (Nat.le_refl _) _ _, ((HO1.out.setNew hl.2 _ _).setNew hl.2 _ _).setNew hl.2 _ _⟩
    rcases hr with rfl | rfl <;> decide
  · go_enter Try.func82, Try.ntmps82
    go_wp2_with fail
    refine (HN.out _).mono ?_
    rintro e w1 ⟨r, rfl, hr0, hr1, hm, ho⟩
    have HM : Hid (Mv bc w w1) := ((Mv.refl bc w).alloc _).trans hm
    have HO1 := Lib.hid ho
    obtain ⟨hs, hc, hf⟩ := hm.newCell HO.out
    clear HI HN HT hm ho
    go_wp2_with fail
    refine bodyPost_ret (v := .agg #[.int .i64 4, .int .i64 r, .string ⟨#[]⟩]) (by simp [results, Try.results82, go_sem, *]) rfl ?_
    refine ⟨r, ⟨#[]⟩, rfl, ?_, hr0, hr1, ((HM.out.setNew (Nat.le_refl _) _ _).setNew (Nat.le_refl _) _ _).setNew (Nat.le_refl _) _ _, ((HO1.out.setNew hl.2 _ _).setNew hl.2 _ _).setNew hl.2 _ _⟩
    simp [vldB]; rfl
  · go_enter Try.func82, Try.ntmps82
    go_wp2_with fail
    refine (HT.out _).mono ?_
    rintro e w1 ⟨s, rfl, hr0, hm, ho⟩
    have HM : Hid (Mv bc w w1) := ((Mv.refl bc w).alloc _).trans hm
    have HO1 := Lib.hid ho
    obtain ⟨hs, hc, hf⟩ := hm.newCell HO.out
    clear HI HN HT hm ho
    go_wp2_with fail
    refine bodyPost_ret (v := .agg #[.int .i64 5, .int .i64 0, .string s]) (by simp [results, Try.results82, go_sem, *]) rfl ?_
    refine ⟨0, s, rfl, ?_, by omega, by omega, ((HM.out.setNew (Nat.le_refl _) _ _).setNew (Nat.le_refl _) _ _).setNew (Nat.le_refl _) _ _, ((HO1.out.setNew hl.2 _ _).setNew hl.2 _ _).setNew hl.2 _ _⟩
    simp [vldB, hr0]

def AnyPost (bc B : Nat) (w : World) (e : Ending) (w' : World) : Prop :=
  ∃ (k n : Int) (s : ByteArray), e = .returned (.agg #[.int .i64 k, .int .i64 n, .string s]) ∧ vldB k n s = true ∧ -9223372036854775808 ≤ n ∧ n ≤ 9223372036854775807 ∧ Mv bc w w' ∧ CaseOk bc B w'

set_option maxHeartbeats 400000 in
theorem cAny_any (bc B : Nat) (w : World) (h : CaseOk bc B w) : Calls Try.prog 59 #[.pointer (some ⟨bc, 0, none⟩)] w (AnyPost bc B w) := by
  have hl := h.lt
  have HI := Lib.hid (fun O => cInt_any bc B 5 (w.alloc O) (by omega) (by omega) (h.alloc O))
  have HO := Lib.hid h
  clear h
  go_enter Try.func59, Try.ntmps59
  go_wp2_with fail
  refine (HI.out _).mono ?_
  rintro e w1 ⟨r, rfl, hr0, hr1, hm, ho⟩
  have hr : r < 5 := by omega
  have HM : Hid (Mv bc w w1) := ((Mv.refl bc w).alloc _).trans hm
  have HO1 := Lib.hid ho
  obtain ⟨hs, hc, hf⟩ := hm.newCell HO.out
  clear HI hm ho hr1
  by_cases h2 : r < 2
  · have hr' : r = 0 ∨ r = 1 := by omega
    go_wp2_with fail
    refine bodyPost_ret (v := .agg #[.int .i64 (1 + r), .int .i64 0, .string ⟨#[]⟩]) (by simp [results, Try.results59, go_sem, *]) rfl ?_
    refine ⟨1 + r, 0, ⟨#[]⟩, rfl, ?_, by omega, by omega, ((HM.out.setNew (Nat.le_refl _) _ _).setNew (Nat.le_refl _) _ _).setNew (Nat.le_refl _) _ _, ((HO1.out.setNew hl.2 _ _).setNew hl.2 _ _).setNew hl.2 _ _⟩
    rcases hr' with rfl | rfl <;> decide
  · have hbig : decide (1 + r < 3) = false := by simp; omega
    have HV := Lib.hid (cValue_any bc B (1 + r) w1 (by omega) HO1.out)
    have hl1 := hs
    go_wp2_with fail
    refine HV.out.mono ?_
    rintro e w2 ⟨n, s, rfl, hv, hn0, hn1, hm2, ho2⟩
    have HM2 : Hid (Mv bc w w2) := HM.out.trans hm2
    have HO2 := Lib.hid ho2
    have HVV := Lib.hid hv
    have hb2 := hm2.block w.heap.size hs (by omega)
    have hc2 : ∀ o, w2.cell? ⟨w.heap.size, o, none⟩ = w1.cell? ⟨w.heap.size, o, none⟩ := fun o => World.cell?_of_block (w := w1) (a := ⟨w.heap.size, o, none⟩) hb2
    have hf2 : ∀ o, w2.frozen? ⟨w.heap.size, o, none⟩ = w1.frozen? ⟨w.heap.size, o, none⟩ := fun o => World.frozen?_of_block (w := w1) (a := ⟨w.heap.size, o, none⟩) hb2
    have hs2 : w.heap.size < w2.heap.size := Nat.lt_of_lt_of_le hs hm2.size
    clear HV hm2 ho2 hv hb2 HM HO1
    go_wp2_with fail
    refine bodyPost_ret (v := .agg #[.int .i64 (1 + r), .int .i64 n, .string s]) (by simp [results, Try.results59, go_sem, *]) rfl ?_
    exact ⟨1 + r, n, s, rfl, HVV.out, hn0, hn1, ((HM2.out.setNew (Nat.le_refl _) _ _).setNew (Nat.le_refl _) _ _).setNew (Nat.le_refl _) _ _, ((HO2.out.setNew hl.2 _ _).setNew hl.2 _ _).setNew hl.2 _ _⟩
end Go.Proofs.Ytjcbmeannhafjaa

/- Walk of partsynccase.New. -/
namespace Go.Proofs.Ytjcbmeannhafjaa

open Go.RowKit

/-- 'append(nil, src...)': a new row of the call's own. -/
theorem wpList_append_nil {P : Program} {w : World} {ops : Array Oper} {rest : List Oper} {o : Oper} {a : Act} {Q : Exit → Act → World → Prop} (hgd : o.guard = none) (s x : Operand) (t : TypeId)
    (ho : o.op = .call { callee := .builtin .append, args := #[s, x], argTypes := #[t, t] })
    (e : TypeId) (i : TypeInfo) (z : Value) (size bytes : Nat) (ht : P.underlying t = some (.slice e)) (hi : P.info? e = some i) (hz : i.zero = some z)
    (hsize : i.size = size) (hby : i.bytes = bytes) (hzs : z.cells.size = size) (hsz : 0 < size)
    (hs : a.eval s = .slice none 0 0) (ad : Option Addr) (m c : Nat) (news : List Value) (hx : a.eval x = .slice ad m c) (hnil : ad = none → m = 0 ∧ c = 0) (hl : news.length = m * size)
    (hnews : ∀ p, ad = some p → ∀ j u, news[j]? = some u → w.cell? (p.add j) = some u) (h1 : ∀ u ∈ news, u.oneCell' = true)
    (h63 : m ≤ maxLen) (hbytes : m * bytes ≤ 140737488355328)
    (h : ∀ v' w', w'.ownsRow w.heap.size e size v' m news → Below w.heap.size w w' → wpList P ops Q rest (a.put o.dst v') w') : wpList P ops Q (o :: rest) a w := by
  have hown0 : w.ownsRow w.heap.size e size (.slice none 0 0) 0 [] := ⟨by simp, .inl ⟨rfl, rfl⟩⟩
  cases ad with
  | none =>
    obtain ⟨rfl, rfl⟩ := hnil rfl
    have hn : news = [] := List.eq_nil_of_length_eq_zero (by simpa using hl)
    subst hn
    exact wpList_append_own_none hgd s x t ho w.heap.size e i size ht hi (.slice none 0 0) 0 [] hs hown0 hx (h _ _ hown0 (Below.refl _ _))
  | some p =>
    refine wpList_append_own w hgd s x t ho w.heap.size e i z size bytes ht hi hz hsize hby hzs hsz (.slice none 0 0) 0 [] hs hown0 p m c news hx hl (hnews p rfl) h1 (by omega) (by rw [Nat.zero_add]; exact hbytes) (Nat.le_refl _) ?_
    intro v' w' ho' hg _
    rw [Nat.zero_add, List.nil_append] at ho'
    exact h v' w' ho' ((Below.refl _ _).grown hg (Nat.le_refl _) (fun k hk => by simp [Value.ownBlock] at hk))

/-- A slice value reads as bytes. -/
def BytesAt (w : World) (v : Value) (n : Nat) : Prop :=
  ∃ (a : Option Addr) (c : Nat), v = .slice a n c ∧ n ≤ c ∧ c ≤ 9223372036854775807 ∧ (a = none → n = 0 ∧ c = 0) ∧ ∃ xs : List Int, xs.length = n ∧ (∀ p, a = some p → ∀ j (h : j < xs.length), w.cell? (p.add j) = some (.int .u8 xs[j])) ∧ ∀ x ∈ xs, 0 ≤ x ∧ x ≤ 255

def NewPost (w : World) (e : Ending) (w' : World) : Prop :=
  ∃ bc, e = .returned (.pointer (some ⟨bc, 0, none⟩)) ∧ Below w.heap.size w w' ∧ w.heap.size ≤ bc ∧ CaseOk bc w'.heap.size w'

theorem own_slice {w : World} {base : Nat} {e : TypeId} {size : Nat} {v : Value} {n : Nat} {xs : List Value} (h : w.ownsRow base e size v n xs) : ∃ a c, v = .slice a n c := by
  rcases h.2 with ⟨rfl, rfl⟩ | ⟨g, cap, cur, rfl, _⟩
  · exact ⟨_, _, rfl⟩
  · exact ⟨_, _, rfl⟩

/-- What New lays down. -/
theorem new_ok {w w1 : World} {v : Value} {m : Nat} {xs : List Int} (hm : m ≤ 4096) (hl : xs.length = m) (hx : ∀ x ∈ xs, 0 ≤ x ∧ x ≤ 255) (ho : w1.ownsRow w.heap.size 5 1 v m (xs.map (Value.int .u8))) (hb : Below w.heap.size w w1) (t : TypeId) :
    NewPost w (.returned (.pointer (some ⟨w1.heap.size, 0, none⟩))) (w1.alloc (.cells #[v, .int .i64 0] t)) := by
  have hbl : Below w1.heap.size w1 (w1.alloc (.cells #[v, .int .i64 0] t)) := (Below.refl _ _).alloc (Nat.le_refl _) _
  refine ⟨w1.heap.size, rfl, hb.trans (hbl.mono hb.size), hb.size, ?_⟩
  have c0 := World.cell?_alloc_mark w1 #[v, .int .i64 0] t (0, 0) 0
  have c1 := World.cell?_alloc_mark w1 #[v, .int .i64 0] t (0, 0) 1
  have f1 := World.frozen?_alloc_mark w1 #[v, .int .i64 0] t 0 0 1
  rcases ho.2 with ⟨rfl, rfl⟩ | ⟨g, cap, cur, rfl, hg, hgg, hnc, hcm, hcs, htake⟩
  · exact ⟨none, 0, 0, 0, ⟨by simp, Nat.le_refl _⟩, by omega, by omega, by omega, c0, c1, by rw [f1]; simp, fun j hj => absurd hj (by omega)⟩
  · have hgs : g < w1.heap.size := (Array.getElem?_eq_some_iff.1 hgg).1
    refine ⟨some ⟨g, 0, none⟩, m, cap, 0, ⟨by simp, Nat.le_refl _⟩, hm, by omega, by omega, c0, c1, by rw [f1]; simp, fun j hj => ⟨g, 0, xs[j]'(by omega), rfl, by simp; omega, by omega, ?_, ?_⟩⟩
    · rw [hbl.cell (p := ⟨g, 0 + j, none⟩) hgs, Nat.zero_add]
      have hc := ho.cellAt j (by omega)
      rw [hc]
      simp [List.getElem?_eq_getElem (show j < xs.length by omega)]
    · exact hx _ (List.getElem_mem _)

set_option maxRecDepth 100000 in
set_option maxHeartbeats 400000 in
theorem cNew_any (v : Value) (n : Nat) (w : World) (h : BytesAt w v n) : Calls Try.prog 7 #[v, .int .i64 90] w (NewPost w) := by
  obtain ⟨a, c, rfl, hnc, hcm, hnil, xs, hxl, hxs, hx⟩ := h
  have hinfo : (Try.prog.info? 5).map (fun i => (i.zero, i.size, i.bytes)) = some (some (.int .u8 0), 1, 1) := by kernel_rfl
  obtain ⟨i0, hi, hz0, hz1, hz2⟩ := info_parts hinfo
  obtain ⟨m, hm, hmn, hmmin⟩ : ∃ m : Nat, m ≤ 90 ∧ m ≤ n ∧ (m = 90 ∨ m = n) := by
    by_cases h : 90 < n
    · exact ⟨90, by omega, by omega, .inl rfl⟩
    · exact ⟨n, by omega, by omega, .inr rfl⟩
  have hnews : ∀ p, a = some p → ∀ j u, ((xs.take m).map (Value.int .u8))[j]? = some u → w.cell? (p.add j) = some u := by
    intro p hp j u hj
    have hc := hxs p hp
    have hjl : j < m := by have := (List.getElem?_eq_some_iff.1 hj).1; simp at this; omega
    rw [hc j (by omega), ← hj]
    rw [List.getElem?_map, List.getElem?_take, if_pos hjl, List.getElem?_eq_getElem (by omega)]
    rfl
  have hone : ∀ u ∈ (xs.take m).map (Value.int .u8), u.oneCell' = true := by
    intro u hu
    obtain ⟨x, _, rfl⟩ := List.mem_map.1 hu
    rfl
  have hlen : ((xs.take m).map (Value.int .u8)).length = m * 1 := by simp; omega
  have hx' : Hid (∀ x ∈ xs.take m, 0 ≤ x ∧ x ≤ 255) := fun x h => hx x (List.mem_of_mem_take h)
  have hlt : Hid ((xs.take m).length = m) := by show _ = _; simp; omega
  clear hx hxs hxl hinfo
  generalize xs.take m = ys at *
  have HNEWS := Lib.hid hnews
  have HONE := Lib.hid hone
  have HLEN := Lib.hid hlen
  have HNIL := Lib.hid hnil
  clear hnews hone hlen hnil
  have HI := Lib.hid hi
  have HZ0 := Lib.hid hz0
  have HZ1 := Lib.hid hz1
  have HZ2 := Lib.hid hz2
  clear hi hz0 hz1 hz2
  have HN1 : Hid (a = none → m = 0 ∧ c = 0) := fun e => by have := HNIL.out e; omega
  have HM1 : Hid (m ≤ maxLen) := by show m ≤ maxLen; unfold maxLen; omega
  have HM2 : Hid (m * 1 ≤ 140737488355328) := by show m * 1 ≤ _; omega
  rcases hmmin with rfl | rfl
  · by_cases h90 : (90 : Int) < n
    · go_enter Try.func7, Try.ntmps7
      go_wp2_with (at_builtin; refine wpList_append_nil rfl _ _ 22 rfl 5 i0 (.int .u8 0) 1 1 Try.underlying22 HI.out HZ0.out HZ1.out HZ2.out rfl (by decide) rfl _ _ _ _ rfl HN1.out HLEN.out HNEWS.out HONE.out HM1.out HM2.out ?_; intro v' w1 hown hb1; obtain ⟨va, vc, rfl⟩ := own_slice hown; have HOWN := Lib.hid hown; have HB1 := Lib.hid hb1; clear hown hb1)
      go_ret
      exact new_ok (by omega) hlt.out hx'.out HOWN.out HB1.out _
    · have hn90 : n = 90 := by omega
      subst hn90
      clear h90
      go_enter Try.func7, Try.ntmps7
      go_wp2_with (at_builtin; refine wpList_append_nil rfl _ _ 22 rfl 5 i0 (.int .u8 0) 1 1 Try.underlying22 HI.out HZ0.out HZ1.out HZ2.out rfl (by decide) rfl _ _ _ _ rfl HN1.out HLEN.out HNEWS.out HONE.out HM1.out HM2.out ?_; intro v' w1 hown hb1; obtain ⟨va, vc, rfl⟩ := own_slice hown; have HOWN := Lib.hid hown; have HB1 := Lib.hid hb1; clear hown hb1)
      go_ret
      exact new_ok (by omega) hlt.out hx'.out HOWN.out HB1.out _
  · by_cases h90 : (90 : Int) < m
    · omega
    · go_enter Try.func7, Try.ntmps7
      go_wp2_with (at_builtin; refine wpList_append_nil rfl _ _ 22 rfl 5 i0 (.int .u8 0) 1 1 Try.underlying22 HI.out HZ0.out HZ1.out HZ2.out rfl (by decide) rfl _ _ _ _ rfl HN1.out HLEN.out HNEWS.out HONE.out HM1.out HM2.out ?_; intro v' w1 hown hb1; obtain ⟨va, vc, rfl⟩ := own_slice hown; have HOWN := Lib.hid hown; have HB1 := Lib.hid hb1; clear hown hb1)
      go_ret
      exact new_ok (by omega) hlt.out hx'.out HOWN.out HB1.out _
end Go.Proofs.Ytjcbmeannhafjaa

/- Bytes that came in; an own slice that is not empty. -/
namespace Go.Proofs.Ytjcbmeannhafjaa

open Go.RowKit Go.Deep
theorem bytesAt_nil (w : World) : BytesAt w (.slice none 0 0) 0 := ⟨none, 0, rfl, Nat.le_refl _, by omega, fun _ => ⟨rfl, rfl⟩, [], rfl, fun p h => by simp at h, fun x h => by simp at h⟩
theorem BytesAt.below {w w' : World} {v : Value} {n : Nat} (h : BytesAt w v n) (hb : Below w.heap.size w w') : BytesAt w' v n := by
  obtain ⟨a, c, e, h1, h2, h3, xs, hl, hc, hx⟩ := h
  exact ⟨a, c, e, h1, h2, h3, xs, hl, fun p hp j hj => cell_later hb (hc p hp j hj), hx⟩
theorem bytesAt_some (w : World) (x : Addr) (n c : Nat) (zs : List Int) (hl : n ≤ c) (hm : c ≤ maxLen) (hz : n ≤ zs.length) (hc : ∀ i, i < zs.length → w.cell? (x.add i) = some (.int .u8 (zs.getD i 0))) (hw : ∀ z ∈ zs, (Lit.int .u8 z).wf = true) : BytesAt w (.slice (some x) n c) n := by
  unfold maxLen at hm
  refine ⟨some x, c, rfl, hl, hm, fun h => by simp at h, zs.take n, by simp; omega, fun p hp j hj => ?_, fun z hz' => bounds_u8 (hw z (List.mem_of_mem_take hz'))⟩
  simp only [Option.some.injEq] at hp
  subst hp
  have hj' : j < zs.length := by simp at hj; omega
  rw [hc j hj', List.getElem_take, List.getD_eq_getElem?_getD, List.getElem?_eq_getElem hj']
  rfl

theorem own_some {w : World} {base : Nat} {e : TypeId} {size : Nat} {v : Value} {n : Nat} {xs : List Value} (hn : 0 < n) (h : w.ownsRow base e size v n xs) : ∃ g cap, v = .slice (some ⟨g, 0, none⟩) n cap ∧ w.ownsRow base e size (.slice (some ⟨g, 0, none⟩) n cap) n xs := by
  rcases h.2 with ⟨_, h0⟩ | ⟨g, cap, cur, hv, _⟩
  · omega
  · exact ⟨g, cap, hv, by rw [← hv]; exact h⟩

end Go.Proofs.Ytjcbmeannhafjaa
