
/- interval.span, All, One, Between, From, OfKind; Has, Least. -/
import Derived.Test.YtmhgmlnnipdomaaIv

import Derived.Test.YtmhgmlnnipdomaaNext

namespace Go.Proofs.Ytmhgmlnnipdomaa

open Go.RowKit

/-- A list of intervals in new memory. -/
def IvOut (w : World) (L : List IV) (e : Ending) (w' : World) : Prop := ∃ v, e = .returned v ∧ IvsAt (fun b => w.heap.size ≤ b) w' v L ∧ Below w.heap.size w w'
/-- The same, and an error number. -/
def IvOut2 (w : World) (L : List IV) (er : Int) (e : Ending) (w' : World) : Prop := ∃ v, e = .returned (.tuple #[v, .int .i64 er]) ∧ IvsAt (fun b => w.heap.size ≤ b) w' v L ∧ Below w.heap.size w w'
theorem IvsAt.shape {P : Nat → Prop} {w : World} {v : Value} {L : List IV} (h : IvsAt P w v L) : ∃ a c, v = .slice a L.length c := by
  obtain ⟨a, c, e, _⟩ := h
  exact ⟨a, c, e⟩
theorem IvsAt.lo {B B' : Nat} {w : World} {v : Value} {L : List IV} (h : IvsAt (fun b => B ≤ b) w v L) (hB : B' ≤ B) : IvsAt (fun b => B' ≤ b) w v L := h.weak fun _ h => Nat.le_trans hB h
/-- A new block of one interval. -/
theorem iv_one (w : World) (x : IV) (t : TypeId) : IvsAt (fun b => w.heap.size ≤ b) (w.alloc (.cells #[.int .i64 x.f.k, .int .i64 x.f.n, .string x.f.s, .int .i64 x.t.k, .int .i64 x.t.n, .string x.t.s, .bool x.o] t)) (.slice (some ⟨w.heap.size, 0, none⟩) 1 1) [x] := by
  refine ⟨_, 1, rfl, by simp, by unfold maxLen; omega, fun h => by simp at h, by simp, fun j hj => ⟨w.heap.size, 0, rfl, Nat.le_refl _, by simp, ?_⟩⟩
  simp only [List.length_singleton] at hj
  obtain rfl : j = 0 := by omega
  refine ivC_cells fun i hi => ?_
  have := World.cell?_alloc_mark w #[.int .i64 x.f.k, .int .i64 x.f.n, .string x.f.s, .int .i64 x.t.k, .int .i64 x.t.n, .string x.t.s, .bool x.o] t (0, 0) i
  simp only [Nat.zero_mul, Nat.zero_add]
  refine this.trans ?_
  simp [IV.cells]

set_option maxHeartbeats 400000 in
theorem iSpan_any (fk fn : Int) (fs : ByteArray) (tk tn : Int) (ts : ByteArray) (bd : Bool) (w : World) :
    Calls Try.prog 59 #[.agg #[.int .i64 fk, .int .i64 fn, .string fs], .agg #[.int .i64 tk, .int .i64 tn, .string ts], .bool bd] w (IvOut w [⟨⟨fk, fn, fs⟩, ⟨tk, tn, ts⟩, !bd⟩]) := by
  go_enter Try.func59, Try.ntmps59
  go_wp2_with fail
  go_ret
  have h := iv_one ((w.alloc (.cells #[.int .i64 fk, .int .i64 fn, .string fs] 25)).alloc (.cells #[.int .i64 tk, .int .i64 tn, .string ts] 25)) ⟨⟨fk, fn, fs⟩, ⟨tk, tn, ts⟩, !bd⟩ 59
  exact ⟨.slice (some ⟨w.heap.size + 1 + 1, 0, none⟩) 1 1, rfl, by have h2 := h.lo (B' := w.heap.size) (by first | omega | (simp only [World.size_alloc]; omega) | (simp; done) | (simp; omega)); simpa only [World.size_alloc] using h2, (((Gr.refl _).alloc _).alloc _).alloc _ |>.below⟩

set_option maxHeartbeats 400000 in
theorem iAll_any (w : World) : Calls Try.prog 33 #[] w (IvOut w [⟨⟨1, 0, ⟨#[]⟩⟩, z0, true⟩]) := by
  have HF := Lib.hid (fun W => vFirst_any 1 W)
  have HS := Lib.hid (fun W => iSpan_any 1 0 ⟨#[]⟩ 0 0 ⟨#[]⟩ false W)
  simp only [firstV, retV] at HF
  simp only [if_true, true_or] at HF
  go_enter Try.func33, Try.ntmps33
  go_wp2_with fail
  refine (HF.out _).mono ?_
  rintro e w1 ⟨rfl, hg⟩
  go_wp2_with fail
  refine (HS.out _).mono ?_
  rintro e w2 ⟨v, rfl, hv, hb⟩
  obtain ⟨a, c, rfl⟩ := hv.shape
  go_wp2_with fail
  go_ret
  have hs := hg.below.size
  simp only [World.size_alloc] at hv hb
  refine ⟨_, rfl, hv.lo (B' := w.heap.size) (by omega), hg.below.trans ?_⟩
  have h1 : Below w.heap.size w1 w2 := Below.trans (by (repeat (first | exact Below.refl _ _ | assumption | refine Below.drew ?_ | refine Below.setCell ?_ (by first | omega | (simp only [World.size_alloc]; omega) | (simp; try omega)) _ | refine Below.alloc ?_ (by first | omega | (simp only [World.size_alloc]; omega) | (simp; try omega)) _))) (hb.mono (by omega))
  exact h1

set_option maxHeartbeats 1000000 in
theorem iBetween_any (fk fn : Int) (fs : ByteArray) (tk tn : Int) (ts : ByteArray) (w : World) : Calls Try.prog 50 #[.agg #[.int .i64 fk, .int .i64 fn, .string fs], .agg #[.int .i64 tk, .int .i64 tn, .string ts]] w
    (IvOut2 w (if vldB fk fn fs && vldB tk tn ts then (if cmpV ⟨fk, fn, fs⟩ ⟨tk, tn, ts⟩ < 0 then [⟨⟨fk, fn, fs⟩, ⟨tk, tn, ts⟩, false⟩] else []) else []) (if vldB fk fn fs && vldB tk tn ts then 0 else 10)) := by
  have HV := Lib.hid (fun W => vValid_any fk fn fs W)
  have HT := Lib.hid (fun W => vValid_any tk tn ts W)
  have HC := Lib.hid (fun W => vCompare_any fk fn fs tk tn ts W)
  have HS := Lib.hid (fun W => iSpan_any fk fn fs tk tn ts true W)
  generalize vldB fk fn fs = x at HV ⊢
  generalize vldB tk tn ts = y at HT ⊢
  generalize cmpV ⟨fk, fn, fs⟩ ⟨tk, tn, ts⟩ = z at HC ⊢
  cases x
  · simp only [Bool.false_and, Bool.false_eq_true, if_false]
    go_enter Try.func50, Try.ntmps50
    go_wp2_with fail
    refine (HV.out _).mono ?_
    rintro e w1 ⟨rfl, hg⟩
    go_wp2_with fail
    go_ret2
    exact ⟨_, rfl, IvsAt.nil _ _, ((((Gr.refl _).alloc _).alloc _).trans hg).below⟩
  cases y
  · simp only [Bool.and_false, Bool.false_eq_true, if_false]
    go_enter Try.func50, Try.ntmps50
    go_wp2_with fail
    refine (HV.out _).mono ?_
    rintro e w1 ⟨rfl, hg⟩
    have hk0 : ∀ o, w1.cell? ⟨w.heap.size, o, none⟩ = _ := fun o => (hg.below.cell (p := ⟨w.heap.size, o, none⟩) (show w.heap.size < _ by simp only [World.size_alloc]; omega))
    have hk1 : ∀ o, w1.cell? ⟨w.heap.size + 1, o, none⟩ = _ := fun o => (hg.below.cell (p := ⟨w.heap.size + 1, o, none⟩) (show w.heap.size + 1 < _ by simp only [World.size_alloc]; omega))
    have hs1 : w.heap.size + 1 < w1.heap.size := by have := hg.below.size; simp only [World.size_alloc] at this; omega
    go_wp2_with fail
    refine (HT.out _).mono ?_
    rintro e w2 ⟨rfl, hg2⟩
    have hj0 : ∀ o, w2.cell? ⟨w.heap.size, o, none⟩ = _ := fun o => (hg2.below.cell (p := ⟨w.heap.size, o, none⟩) (show w.heap.size < _ by omega)).trans (hk0 o)
    have hj1 : ∀ o, w2.cell? ⟨w.heap.size + 1, o, none⟩ = _ := fun o => (hg2.below.cell (p := ⟨w.heap.size + 1, o, none⟩) hs1).trans (hk1 o)
    have hs2 : w.heap.size + 1 < w2.heap.size := by have := hg2.below.size; omega
    have HG : Hid (Gr w w2) := ((((Gr.refl _).alloc _).alloc _).trans hg).trans hg2
    clear hk0 hk1 hg hg2
    go_wp2_with fail
    go_ret2
    exact ⟨_, rfl, IvsAt.nil _ _, HG.out.below⟩
  by_cases hz : z < 0
  · have hz0 : decide (0 ≤ z) = false := by simp; omega
    simp only [hz, Bool.and_self, if_true]
    go_enter Try.func50, Try.ntmps50
    go_wp2_with fail
    refine (HV.out _).mono ?_
    rintro e w1 ⟨rfl, hg⟩
    have hk0 : ∀ o, w1.cell? ⟨w.heap.size, o, none⟩ = _ := fun o => (hg.below.cell (p := ⟨w.heap.size, o, none⟩) (show w.heap.size < _ by simp only [World.size_alloc]; omega))
    have hk1 : ∀ o, w1.cell? ⟨w.heap.size + 1, o, none⟩ = _ := fun o => (hg.below.cell (p := ⟨w.heap.size + 1, o, none⟩) (show w.heap.size + 1 < _ by simp only [World.size_alloc]; omega))
    have hs1 : w.heap.size + 1 < w1.heap.size := by have := hg.below.size; simp only [World.size_alloc] at this; omega
    go_wp2_with fail
    refine (HT.out _).mono ?_
    rintro e w2 ⟨rfl, hg2⟩
    have hj0 : ∀ o, w2.cell? ⟨w.heap.size, o, none⟩ = _ := fun o => (hg2.below.cell (p := ⟨w.heap.size, o, none⟩) (show w.heap.size < _ by omega)).trans (hk0 o)
    have hj1 : ∀ o, w2.cell? ⟨w.heap.size + 1, o, none⟩ = _ := fun o => (hg2.below.cell (p := ⟨w.heap.size + 1, o, none⟩) hs1).trans (hk1 o)
    have hs2 : w.heap.size + 1 < w2.heap.size := by have := hg2.below.size; omega
    have HG : Hid (Gr w w2) := ((((Gr.refl _).alloc _).alloc _).trans hg).trans hg2
    clear hk0 hk1 hg hg2
    go_wp2_with fail
    refine (HC.out _).mono ?_
    rintro e w3 ⟨rfl, hg3⟩
    have hl0 : ∀ o, w3.cell? ⟨w.heap.size, o, none⟩ = _ := fun o => (hg3.below.cell (p := ⟨w.heap.size, o, none⟩) (show w.heap.size < _ by omega)).trans (hj0 o)
    have hl1 : ∀ o, w3.cell? ⟨w.heap.size + 1, o, none⟩ = _ := fun o => (hg3.below.cell (p := ⟨w.heap.size + 1, o, none⟩) hs2).trans (hj1 o)
    have hs3 : w.heap.size + 1 < w3.heap.size := by have := hg3.below.size; omega
    clear hj0 hj1
    go_wp2_with fail
    refine (HS.out _).mono ?_
    rintro e w4 ⟨v, rfl, hv, hb⟩
    obtain ⟨a, c, rfl⟩ := hv.shape
    go_wp2_with fail
    go_ret2
    exact ⟨_, rfl, hv.lo (B' := w.heap.size) (by omega), (HG.out.trans hg3).below.trans (hb.mono (by omega))⟩
  · have hz0 : decide (0 ≤ z) = true := by simp; omega
    simp only [hz, Bool.and_self, if_true, if_false]
    go_enter Try.func50, Try.ntmps50
    go_wp2_with fail
    refine (HV.out _).mono ?_
    rintro e w1 ⟨rfl, hg⟩
    have hk0 : ∀ o, w1.cell? ⟨w.heap.size, o, none⟩ = _ := fun o => (hg.below.cell (p := ⟨w.heap.size, o, none⟩) (show w.heap.size < _ by simp only [World.size_alloc]; omega))
    have hk1 : ∀ o, w1.cell? ⟨w.heap.size + 1, o, none⟩ = _ := fun o => (hg.below.cell (p := ⟨w.heap.size + 1, o, none⟩) (show w.heap.size + 1 < _ by simp only [World.size_alloc]; omega))
    have hs1 : w.heap.size + 1 < w1.heap.size := by have := hg.below.size; simp only [World.size_alloc] at this; omega
    go_wp2_with fail
    refine (HT.out _).mono ?_
    rintro e w2 ⟨rfl, hg2⟩
    have hj0 : ∀ o, w2.cell? ⟨w.heap.size, o, none⟩ = _ := fun o => (hg2.below.cell (p := ⟨w.heap.size, o, none⟩) (show w.heap.size < _ by omega)).trans (hk0 o)
    have hj1 : ∀ o, w2.cell? ⟨w.heap.size + 1, o, none⟩ = _ := fun o => (hg2.below.cell (p := ⟨w.heap.size + 1, o, none⟩) hs1).trans (hk1 o)
    have hs2 : w.heap.size + 1 < w2.heap.size := by have := hg2.below.size; omega
    have HG : Hid (Gr w w2) := ((((Gr.refl _).alloc _).alloc _).trans hg).trans hg2
    clear hk0 hk1 hg hg2
    go_wp2_with fail
    refine (HC.out _).mono ?_
    rintro e w3 ⟨rfl, hg3⟩
    have hl0 : ∀ o, w3.cell? ⟨w.heap.size, o, none⟩ = _ := fun o => (hg3.below.cell (p := ⟨w.heap.size, o, none⟩) (show w.heap.size < _ by omega)).trans (hj0 o)
    have hl1 : ∀ o, w3.cell? ⟨w.heap.size + 1, o, none⟩ = _ := fun o => (hg3.below.cell (p := ⟨w.heap.size + 1, o, none⟩) hs2).trans (hj1 o)
    have hs3 : w.heap.size + 1 < w3.heap.size := by have := hg3.below.size; omega
    clear hj0 hj1
    go_wp2_with fail
    go_ret2
    exact ⟨_, rfl, IvsAt.nil _ _, (HG.out.trans hg3).below⟩

/-- The set of a kind. -/
def kindL (k : Int) : List IV := if (firstV k).2 then [⟨(firstV k).1, (firstV (IntKind.i64.wrap (k + 1))).1, !(firstV (IntKind.i64.wrap (k + 1))).2⟩] else []
end Go.Proofs.Ytmhgmlnnipdomaa
