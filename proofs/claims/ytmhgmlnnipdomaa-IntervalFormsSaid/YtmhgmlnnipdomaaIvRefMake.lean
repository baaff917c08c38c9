
/- The reference's All, One, Between, From, OfKind, Same. -/
import Derived.Test.YtmhgmlnnipdomaaIvMake

import Derived.Test.YtmhgmlnnipdomaaRNext

namespace Go.Proofs.Ytmhgmlnnipdomaa

open Go.RowKit

set_option maxHeartbeats 400000 in
theorem rAll_any (w : World) : Calls Try.prog 41 #[] w (IvOut w [⟨⟨1, 0, ⟨#[]⟩⟩, z0, true⟩]) := by
  go_enter Try.func41, Try.ntmps41
  go_wp2_with fail
  go_ret
  exact ⟨.slice (some ⟨w.heap.size, 0, none⟩) 1 1, rfl, iv_one w ⟨⟨1, 0, ⟨#[]⟩⟩, z0, true⟩ 59, ((Gr.refl _).alloc _).below⟩

set_option maxHeartbeats 1000000 in
theorem rFrom_any (fk fn : Int) (fs : ByteArray) (w : World) : Calls Try.prog 36 #[.agg #[.int .i64 fk, .int .i64 fn, .string fs]] w (IvOut2 w (if vldB fk fn fs then [⟨⟨fk, fn, fs⟩, z0, true⟩] else []) (if vldB fk fn fs then 0 else 10)) := by
  have HV := Lib.hid (fun W => rValid_any fk fn fs W)
  generalize vldB fk fn fs = x at HV ⊢
  cases x
  · simp only [Bool.false_eq_true, if_false]
    go_enter Try.func36, Try.ntmps36
    go_wp2_with fail
    refine (HV.out _).mono ?_
    rintro e w1 ⟨rfl, hg⟩
    go_wp2_with fail
    go_ret2
    exact ⟨_, rfl, IvsAt.nil _ _, (((Gr.refl _).alloc _).trans hg).below⟩
  · simp only [if_true]
    go_enter Try.func36, Try.ntmps36
    go_wp2_with fail
    refine (HV.out _).mono ?_
    rintro e w1 ⟨rfl, hg⟩
    have hc := kept_new hg
    have hs := hg.below.size
    simp only [World.size_alloc] at hs
    have hb1 := (((Gr.refl w).alloc _).trans hg).below
    go_wp2_with fail
    go_ret2
    exact ⟨.slice (some ⟨w1.heap.size, 0, none⟩) 1 1, rfl, (iv_one w1 ⟨⟨fk, fn, fs⟩, z0, true⟩ 59).lo (B' := w.heap.size) (by omega), hb1.trans (((Gr.refl w1).alloc _).below.mono (by omega))⟩

set_option maxHeartbeats 1000000 in
theorem rOne_any (fk fn : Int) (fs : ByteArray) (w : World) (hlo : -9223372036854775808 ≤ fn) (hhi : fn ≤ 9223372036854775807) : Calls Try.prog 37 #[.agg #[.int .i64 fk, .int .i64 fn, .string fs]] w (IvOut2 w (if vldB fk fn fs then [⟨⟨fk, fn, fs⟩, (nextV fk fn fs).1, !(nextV fk fn fs).2⟩] else []) (if vldB fk fn fs then 0 else 10)) := by
  have HV := Lib.hid (fun W => rValid_any fk fn fs W)
  have HX := Lib.hid (fun W => rNext_any fk fn fs W hlo hhi)
  generalize vldB fk fn fs = x at HV ⊢
  generalize nextV fk fn fs = y at HX ⊢
  obtain ⟨⟨tk, tn, ts⟩, bd⟩ := y
  simp only [retV] at HX
  cases x
  · simp only [Bool.false_eq_true, if_false]
    go_enter Try.func37, Try.ntmps37
    go_wp2_with fail
    refine (HV.out _).mono ?_
    rintro e w1 ⟨rfl, hg⟩
    go_wp2_with fail
    go_ret2
    exact ⟨_, rfl, IvsAt.nil _ _, (((Gr.refl _).alloc _).trans hg).below⟩
  · simp only [if_true]
    go_enter Try.func37, Try.ntmps37
    go_wp2_with fail
    refine (HV.out _).mono ?_
    rintro e w1 ⟨rfl, hg⟩
    have hc := kept_new hg
    have hs := hg.below.size
    simp only [World.size_alloc] at hs
    have hb1 := (((Gr.refl w).alloc _).trans hg).below
    go_wp2_with fail
    refine (HX.out _).mono ?_
    rintro e w2 ⟨rfl, hb2⟩
    have hs2 := hb2.size
    have hl2 : w.heap.size < w2.heap.size := by omega
    have hc2 : ∀ o, w2.cell? ⟨w.heap.size, o, none⟩ = _ := fun o => (hb2.cell (p := ⟨w.heap.size, o, none⟩) (show w.heap.size < _ by omega)).trans (hc o)
    clear hc
    have hb3 := hb1.trans (hb2.mono hb1.size)
    go_wp2_with fail
    go_ret2
    have h1 := iv_one (w2.alloc (.cells #[.int .i64 tk, .int .i64 tn, .string ts] 25)) ⟨⟨fk, fn, fs⟩, ⟨tk, tn, ts⟩, !bd⟩ 59
    simp only [World.size_alloc] at h1
    exact ⟨.slice (some ⟨w2.heap.size + 1, 0, none⟩) 1 1, rfl, h1.lo (B' := w.heap.size) (by omega), hb3.trans ((((Gr.refl w2).alloc _).alloc _).below.mono (by omega))⟩

set_option maxHeartbeats 1000000 in
theorem rBetween_any (fk fn : Int) (fs : ByteArray) (tk tn : Int) (ts : ByteArray) (w : World) : Calls Try.prog 38 #[.agg #[.int .i64 fk, .int .i64 fn, .string fs], .agg #[.int .i64 tk, .int .i64 tn, .string ts]] w
    (IvOut2 w (if vldB fk fn fs && vldB tk tn ts then (if cmpV ⟨fk, fn, fs⟩ ⟨tk, tn, ts⟩ < 0 then [⟨⟨fk, fn, fs⟩, ⟨tk, tn, ts⟩, false⟩] else []) else []) (if vldB fk fn fs && vldB tk tn ts then 0 else 10)) := by
  have HV := Lib.hid (fun W => rValid_any fk fn fs W)
  have HT := Lib.hid (fun W => rValid_any tk tn ts W)
  have HC := Lib.hid (fun W => rCompare_any fk fn fs tk tn ts W)
  generalize vldB fk fn fs = x at HV ⊢
  generalize vldB tk tn ts = y at HT ⊢
  generalize cmpV ⟨fk, fn, fs⟩ ⟨tk, tn, ts⟩ = z at HC ⊢
  cases x
  · simp only [Bool.false_and, Bool.false_eq_true, if_false]
    go_enter Try.func38, Try.ntmps38
    go_wp2_with fail
    refine (HV.out _).mono ?_
    rintro e w1 ⟨rfl, hg⟩
    go_wp2_with fail
    go_ret2
    exact ⟨_, rfl, IvsAt.nil _ _, ((((Gr.refl _).alloc _).alloc _).trans hg).below⟩
  cases y
  · simp only [Bool.and_false, Bool.false_eq_true, if_false]
    go_enter Try.func38, Try.ntmps38
    go_wp2_with fail
    refine (HV.out _).mono ?_
    rintro e w1 ⟨rfl, hg⟩
    have hk0 : ∀ o, w1.cell? ⟨w.heap.size, o, none⟩ = _ := fun o => (hg.below.cell (p := ⟨w.heap.size, o, none⟩) (show w.heap.size < _ by simp only [World.size_alloc]; omega))
    have hk1 : ∀ o, w1.cell? ⟨w.heap.size + 1, o, none⟩ = _ := fun o => (hg.below.cell (p := ⟨w.heap.size + 1, o, none⟩) (show w.heap.size + 1 < _ by simp only [World.size_alloc]; omega))
    have hs1 : w.heap.size + 1 < w1.heap.size := by have := hg.below.size; simp only [World.size_alloc] at this; omega
    go_wp2_with fail
    refine (HT.out _).mono ?_
    rintro e w2 ⟨rfl, hg2⟩
    have hj0 : ∀ o, w2.cell? ⟨w.heap.size, o, none⟩ = _ := fun o => (hg2.below.cell (p := ⟨w.heap.size, o, none⟩) (show w.heap.size < _ by omega)).trans (hk0 o)
    have hj1 : ∀ o, w2.cell? ⟨w.heap.size + 1, o, none⟩ = _ := fun o => (hg2.below.cell (p := ⟨w.heap.size + 1, o, none⟩) hs1).trans (hk1 o)
    have hs2 : w.heap.size + 1 < w2.heap.size := by have := hg2.below.size; omega
    have HG : Hid (Gr w w2) := ((((Gr.refl _).alloc _).alloc _).trans hg).trans hg2
    clear hk0 hk1 hg hg2
    go_wp2_with fail
    go_ret2
    exact ⟨_, rfl, IvsAt.nil _ _, HG.out.below⟩
  by_cases hz : z < 0
  · have hz0 : decide (0 ≤ z) = false := by simp; omega
    simp only [hz, Bool.and_self, if_true]
    go_enter Try.func38, Try.ntmps38
    go_wp2_with fail
    refine (HV.out _).mono ?_
    rintro e w1 ⟨rfl, hg⟩
    have hk0 : ∀ o, w1.cell? ⟨w.heap.size, o, none⟩ = _ := fun o => (hg.below.cell (p := ⟨w.heap.size, o, none⟩) (show w.heap.size < _ by simp only [World.size_alloc]; omega))
    have hk1 : ∀ o, w1.cell? ⟨w.heap.size + 1, o, none⟩ = _ := fun o => (hg.below.cell (p := ⟨w.heap.size + 1, o, none⟩) (show w.heap.size + 1 < _ by simp only [World.size_alloc]; omega))
    have hs1 : w.heap.size + 1 < w1.heap.size := by have := hg.below.size; simp only [World.size_alloc] at this; omega
    go_wp2_with fail
    refine (HT.out _).mono ?_
    rintro e w2 ⟨rfl, hg2⟩
    have hj0 : ∀ o, w2.cell? ⟨w.heap.size, o, none⟩ = _ := fun o => (hg2.below.cell (p := ⟨w.heap.size, o, none⟩) (show w.heap.size < _ by omega)).trans (hk0 o)
    have hj1 : ∀ o, w2.cell? ⟨w.heap.size + 1, o, none⟩ = _ := fun o => (hg2.below.cell (p := ⟨w.heap.size + 1, o, none⟩) hs1).trans (hk1 o)
    have hs2 : w.heap.size + 1 < w2.heap.size := by have := hg2.below.size; omega
    have HG : Hid (Gr w w2) := ((((Gr.refl _).alloc _).alloc _).trans hg).trans hg2
    clear hk0 hk1 hg hg2
    go_wp2_with fail
    refine (HC.out _).mono ?_
    rintro e w3 ⟨rfl, hg3⟩
    have hl0 : ∀ o, w3.cell? ⟨w.heap.size, o, none⟩ = _ := fun o => (hg3.below.cell (p := ⟨w.heap.size, o, none⟩) (show w.heap.size < _ by omega)).trans (hj0 o)
    have hl1 : ∀ o, w3.cell? ⟨w.heap.size + 1, o, none⟩ = _ := fun o => (hg3.below.cell (p := ⟨w.heap.size + 1, o, none⟩) hs2).trans (hj1 o)
    have hs3 : w.heap.size + 1 < w3.heap.size := by have := hg3.below.size; omega
    clear hj0 hj1
    go_wp2_with fail
    go_ret2
    exact ⟨.slice (some ⟨w3.heap.size, 0, none⟩) 1 1, rfl, (iv_one w3 ⟨⟨fk, fn, fs⟩, ⟨tk, tn, ts⟩, false⟩ 59).lo (B' := w.heap.size) (by omega), ((HG.out.trans hg3).alloc _).below⟩
  · have hz0 : decide (0 ≤ z) = true := by simp; omega
    simp only [hz, Bool.and_self, if_true, if_false]
    go_enter Try.func38, Try.ntmps38
    go_wp2_with fail
    refine (HV.out _).mono ?_
    rintro e w1 ⟨rfl, hg⟩
    have hk0 : ∀ o, w1.cell? ⟨w.heap.size, o, none⟩ = _ := fun o => (hg.below.cell (p := ⟨w.heap.size, o, none⟩) (show w.heap.size < _ by simp only [World.size_alloc]; omega))
    have hk1 : ∀ o, w1.cell? ⟨w.heap.size + 1, o, none⟩ = _ := fun o => (hg.below.cell (p := ⟨w.heap.size + 1, o, none⟩) (show w.heap.size + 1 < _ by simp only [World.size_alloc]; omega))
    have hs1 : w.heap.size + 1 < w1.heap.size := by have := hg.below.size; simp only [World.size_alloc] at this; omega
    go_wp2_with fail
    refine (HT.out _).mono ?_
    rintro e w2 ⟨rfl, hg2⟩
    have hj0 : ∀ o, w2.cell? ⟨w.heap.size, o, none⟩ = _ := fun o => (hg2.below.cell (p := ⟨w.heap.size, o, none⟩) (show w.heap.size < _ by omega)).trans (hk0 o)
    have hj1 : ∀ o, w2.cell? ⟨w.heap.size + 1, o, none⟩ = _ := fun o => (hg2.below.cell (p := ⟨w.heap.size + 1, o, none⟩) hs1).trans (hk1 o)
    have hs2 : w.heap.size + 1 < w2.heap.size := by have := hg2.below.size; omega
    have HG : Hid (Gr w w2) := ((((Gr.refl _).alloc _).alloc _).trans hg).trans hg2
    clear hk0 hk1 hg hg2
    go_wp2_with fail
    refine (HC.out _).mono ?_
    rintro e w3 ⟨rfl, hg3⟩
    have hl0 : ∀ o, w3.cell? ⟨w.heap.size, o, none⟩ = _ := fun o => (hg3.below.cell (p := ⟨w.heap.size, o, none⟩) (show w.heap.size < _ by omega)).trans (hj0 o)
    have hl1 : ∀ o, w3.cell? ⟨w.heap.size + 1, o, none⟩ = _ := fun o => (hg3.below.cell (p := ⟨w.heap.size + 1, o, none⟩) hs2).trans (hj1 o)
    have hs3 : w.heap.size + 1 < w3.heap.size := by have := hg3.below.size; omega
    clear hj0 hj1
    go_wp2_with fail
    go_ret2
    exact ⟨_, rfl, IvsAt.nil _ _, (HG.out.trans hg3).below⟩

end Go.Proofs.Ytmhgmlnnipdomaa
