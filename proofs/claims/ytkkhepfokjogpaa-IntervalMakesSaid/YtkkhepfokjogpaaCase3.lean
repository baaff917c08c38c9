
/- Walks over partsynccase: Value, Any. -/
import Derived.Test.YtkkhepfokjogpaaCase2

namespace Go.Proofs.Ytkkhepfokjogpaa

open Go.RowKit

/-- A block that was not there when the call began may turn. -/
theorem Mv.setNew {bc : Nat} {a w : World} (h : Mv bc a w) {b : Nat} (hb : a.heap.size ≤ b) (o : Nat) (v : Value) : Mv bc a (w.setCell ⟨b, o, none⟩ v) :=
  ⟨h.os, h.tape, h.output, by simp; exact h.size, fun k hk hn => by rw [Below.heap_setCell _ _ _ _ (show k ≠ b by omega)]; exact h.block k hk hn⟩
theorem Mv.alloc {bc : Nat} {a w : World} (h : Mv bc a w) (o : Obj) : Mv bc a (w.alloc o) :=
  h.trans (Mv.of_below ((Below.refl _ _).alloc (Nat.le_refl _) _))
theorem CaseOk.setNew {bc B : Nat} {w : World} (h : CaseOk bc B w) {b : Nat} (hb : B ≤ b) (o : Nat) (v : Value) : CaseOk bc B (w.setCell ⟨b, o, none⟩ v) :=
  h.below ((Below.refl B w).setCell hb v) (Nat.le_refl _)
theorem CaseOk.alloc {bc B : Nat} {w : World} (h : CaseOk bc B w) (o : Obj) : CaseOk bc B (w.alloc o) :=
  h.below ((Below.refl B w).alloc h.lt.2 o) (Nat.le_refl _)

def ValPost (bc B : Nat) (k : Int) (w : World) (e : Ending) (w' : World) : Prop :=
  ∃ (n : Int) (s : ByteArray), e = .returned (.agg #[.int .i64 k, .int .i64 n, .string s]) ∧ vldB k n s = true ∧ -9223372036854775808 ≤ n ∧ n ≤ 9223372036854775807 ∧ Mv bc w w' ∧ CaseOk bc B w'

/-- What stands in a new block behind a move. -/
theorem Mv.newCell {bc B : Nat} {w w1 : World} {O : Obj} (h : Mv bc (w.alloc O) w1) (ho : CaseOk bc B w) : w.heap.size < w1.heap.size ∧ (∀ o, w1.cell? ⟨w.heap.size, o, none⟩ = (w.alloc O).cell? ⟨w.heap.size, o, none⟩) ∧ ∀ o, w1.frozen? ⟨w.heap.size, o, none⟩ = (w.alloc O).frozen? ⟨w.heap.size, o, none⟩ := by
  have hl := ho.lt
  have hb := h.block w.heap.size (by simp) (by omega)
  refine ⟨by have := h.size; simp at this; omega, fun o => World.cell?_of_block (w := w.alloc O) (a := ⟨w.heap.size, o, none⟩) hb, fun o => World.frozen?_of_block (w := w.alloc O) (a := ⟨w.heap.size, o, none⟩) hb⟩

set_option maxHeartbeats 400000 in
theorem cValue_any (bc B : Nat) (k : Int) (w : World) (hk : k = 3 ∨ k = 4 ∨ k = 5) (h : CaseOk bc B w) : Calls Try.prog 52 #[.pointer (some ⟨bc, 0, none⟩), .int .i64 k] w (ValPost bc B k w) := by
  have hl := h.lt
  have HI := Lib.hid (fun O => cInt_any bc B 2 (w.alloc O) (by omega) (by omega) (h.alloc O))
  have HN := Lib.hid (fun O => cNumber_any bc B (w.alloc O) (h.alloc O))
  have HT := Lib.hid (fun O => cText_any bc B (w.alloc O) (h.alloc O))
  have HO := Lib.hid h
  clear h
  rcases hk with rfl | rfl | rfl
  · go_enter Try.func52, Try.ntmps52
    go_wp2_with fail
    refine (HI.out _).mono ?_
    rintro e w1 ⟨r, rfl, hr0, hr1, hm, ho⟩
    have hr : r = 0 ∨ r = 1 := by omega
    have HM : Hid (Mv bc w w1) := ((Mv.refl bc w).alloc _).trans hm
    have HO1 := Lib.hid ho
    obtain ⟨hs, hc, hf⟩ := hm.newCell HO.out
    clear HI HN HT hm ho hr0 hr1
    go_wp2_with fail
    refine bodyPost_ret (v := .agg #[.int .i64 3, .int .i64 r, .string ⟨#[]⟩]) (by simp [results, Try.results52, go_sem, *]) rfl ?_
    refine ⟨r, ⟨#[]⟩, rfl, ?_, by omega, by omega, ((HM.out.setNew (Nat.le_refl _) _ _).setNew (Nat.le_refl _) _ _).setNew (Nat.le_refl _) _ _, ((HO1.out.setNew hl.2 _ _).setNew hl.2 _ _).setNew hl.2 _ _⟩
    rcases hr with rfl | rfl <;> decide
  · go_enter Try.func52, Try.ntmps52
    go_wp2_with fail
    refine (HN.out _).mono ?_
    rintro e w1 ⟨r, rfl, hr0, hr1, hm, ho⟩
    have HM : Hid (Mv bc w w1) := ((Mv.refl bc w).alloc _).trans hm
    have HO1 := Lib.hid ho
    obtain ⟨hs, hc, hf⟩ := hm.newCell HO.out
    clear HI HN HT hm ho
    go_wp2_with fail
    refine bodyPost_ret (v := .agg #[.int .i64 4, .int .i64 r, .string ⟨#[]⟩]) (by simp [results, Try.results52, go_sem, *]) rfl ?_
    refine ⟨r, ⟨#[]⟩, rfl, ?_, hr0, hr1, ((HM.out.setNew (Nat.le_refl _) _ _).setNew (Nat.le_refl _) _ _).setNew (Nat.le_refl _) _ _, ((HO1.out.setNew hl.2 _ _).setNew hl.2 _ _).setNew hl.2 _ _⟩
    simp [vldB]; rfl
  · go_enter Try.func52, Try.ntmps52
    go_wp2_with fail
    refine (HT.out _).mono ?_
    rintro e w1 ⟨s, rfl, hr0, hm, ho⟩
    have HM : Hid (Mv bc w w1) := ((Mv.refl bc w).alloc _).trans hm
    have HO1 := Lib.hid ho
    obtain ⟨hs, hc, hf⟩ := hm.newCell HO.out
    clear HI HN HT hm ho
    go_wp2_with fail
    refine bodyPost_ret (v := .agg #[.int .i64 5, .int .i64 0, .string s]) (by simp [results, Try.results52, go_sem, *]) rfl ?_
    refine ⟨0, s, rfl, ?_, by omega, by omega, ((HM.out.setNew (Nat.le_refl _) _ _).setNew (Nat.le_refl _) _ _).setNew (Nat.le_refl _) _ _, ((HO1.out.setNew hl.2 _ _).setNew hl.2 _ _).setNew hl.2 _ _⟩
    simp [vldB, hr0]

def AnyPost (bc B : Nat) (w : World) (e : Ending) (w' : World) : Prop :=
  ∃ (k n : Int) (s : ByteArray), e = .returned (.agg #[.int .i64 k, .int .i64 n, .string s]) ∧ vldB k n s = true ∧ -9223372036854775808 ≤ n ∧ n ≤ 9223372036854775807 ∧ Mv bc w w' ∧ CaseOk bc B w'

set_option maxHeartbeats 400000 in
theorem cAny_any (bc B : Nat) (w : World) (h : CaseOk bc B w) : Calls Try.prog 17 #[.pointer (some ⟨bc, 0, none⟩)] w (AnyPost bc B w) := by
  have hl := h.lt
  have HI := Lib.hid (fun O => cInt_any bc B 5 (w.alloc O) (by omega) (by omega) (h.alloc O))
  have HO := Lib.hid h
  clear h
  go_enter Try.func17, Try.ntmps17
  go_wp2_with fail
  refine (HI.out _).mono ?_
  rintro e w1 ⟨r, rfl, hr0, hr1, hm, ho⟩
  have hr : r < 5 := by omega
  have HM : Hid (Mv bc w w1) := ((Mv.refl bc w).alloc _).trans hm
  have HO1 := Lib.hid ho
  obtain ⟨hs, hc, hf⟩ := hm.newCell HO.out
  clear HI hm ho hr1
  by_cases h2 : r < 2
  · have hr' : r = 0 ∨ r = 1 := by omega
    go_wp2_with fail
    refine bodyPost_ret (v := .agg #[.int .i64 (1 + r), .int .i64 0, .string ⟨#[]⟩]) (by simp [results, Try.results17, go_sem, *]) rfl ?_
    refine ⟨1 + r, 0, ⟨#[]⟩, rfl, ?_, by omega, by omega, ((HM.out.setNew (Nat.le_refl _) _ _).setNew (Nat.le_refl _) _ _).setNew (Nat.le_refl _) _ _, ((HO1.out.setNew hl.2 _ _).setNew hl.2 _ _).setNew hl.2 _ _⟩
    rcases hr' with rfl | rfl <;> decide
  · have hbig : decide (1 + r < 3) = false := by simp; omega
    have HV := Lib.hid (cValue_any bc B (1 + r) w1 (by omega) HO1.out)
    have hl1 := hs
    go_wp2_with fail
    refine HV.out.mono ?_
    rintro e w2 ⟨n, s, rfl, hv, hn0, hn1, hm2, ho2⟩
    have HM2 : Hid (Mv bc w w2) := HM.out.trans hm2
    have HO2 := Lib.hid ho2
    have HVV := Lib.hid hv
    have hb2 := hm2.block w.heap.size hs (by omega)
    have hc2 : ∀ o, w2.cell? ⟨w.heap.size, o, none⟩ = w1.cell? ⟨w.heap.size, o, none⟩ := fun o => World.cell?_of_block (w := w1) (a := ⟨w.heap.size, o, none⟩) hb2
    have hf2 : ∀ o, w2.frozen? ⟨w.heap.size, o, none⟩ = w1.frozen? ⟨w.heap.size, o, none⟩ := fun o => World.frozen?_of_block (w := w1) (a := ⟨w.heap.size, o, none⟩) hb2
    have hs2 : w.heap.size < w2.heap.size := Nat.lt_of_lt_of_le hs hm2.size
    clear HV hm2 ho2 hv hb2 HM HO1
    go_wp2_with fail
    refine bodyPost_ret (v := .agg #[.int .i64 (1 + r), .int .i64 n, .string s]) (by simp [results, Try.results17, go_sem, *]) rfl ?_
    exact ⟨1 + r, n, s, rfl, HVV.out, hn0, hn1, ((HM2.out.setNew (Nat.le_refl _) _ _).setNew (Nat.le_refl _) _ _).setNew (Nat.le_refl _) _ _, ((HO2.out.setNew hl.2 _ _).setNew hl.2 _ _).setNew hl.2 _ _⟩
end Go.Proofs.Ytkkhepfokjogpaa
