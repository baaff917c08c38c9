
/- The reference's Has, Least. -/
import Derived.Test.YtmhgmlnnipdomaaIvIn

import Derived.Test.YtmhgmlnnipdomaaIvOrd

import Derived.Test.YtmhgmlnnipdomaaRNext

namespace Go.Proofs.Ytmhgmlnnipdomaa

open Go.RowKit

set_option linter.unusedSimpArgs false in
set_option maxHeartbeats 1000000 in
theorem rHasL_any (v : Value) (L : List IV) (gk gn : Int) (gs : ByteArray) (w : World) (h : Ivs w v L) : Calls Try.prog 17 #[v, .agg #[.int .i64 gk, .int .i64 gn, .string gs]] w fun e w' => e = .returned (.bool (hasB L ⟨gk, gn, gs⟩)) ∧ Below w.heap.size w w' := by
  have HL : Hid (∀ W, Below w.heap.size w W → Calls Try.prog 12 #[v] W fun e w' => e = .returned (.bool (vldL L)) ∧ Below W.heap.size W w') := fun W hb => rValidL_any v L W (h.below hb)
  have HI : Hid (∀ W, Below w.heap.size w W → Calls Try.prog 49 #[v, .agg #[.int .i64 gk, .int .i64 gn, .string gs]] W fun e w' => e = .returned (.bool (inL L ⟨gk, gn, gs⟩)) ∧ Below W.heap.size W w') := fun W hb => rIn_any v L gk gn gs W (h.below hb)
  have HV := Lib.hid (fun W => rValid_any gk gn gs W)
  obtain ⟨a, c, rfl⟩ := h.shape
  have he : hasB L ⟨gk, gn, gs⟩ = (vldB gk gn gs && (vldL L && inL L ⟨gk, gn, gs⟩)) := rfl
  rw [he]
  generalize L.length = n at *
  generalize vldB gk gn gs = x at *
  generalize vldL L = y at *
  generalize inL L ⟨gk, gn, gs⟩ = z at *
  clear h he
  cases x
  · go_enter Try.func17, Try.ntmps17
    go_wp2_with fail
    refine (HV.out _).mono ?_
    rintro e w1 ⟨rfl, hg⟩
    have hb1 : Below w.heap.size w w1 := Below.trans (by (repeat (first | exact Below.refl _ _ | assumption | refine Below.drew ?_ | refine Below.setCell ?_ (by first | omega | (simp only [World.size_alloc]; omega) | (simp; try omega)) _ | refine Below.alloc ?_ (by first | omega | (simp only [World.size_alloc]; omega) | (simp; try omega)) _))) (hg.below.mono (by first | exact Nat.le_refl _ | (simp only [World.size_alloc]; omega)))
    go_wp2_with fail
    go_ret
    exact ⟨rfl, hb1⟩
  cases y
  · go_enter Try.func17, Try.ntmps17
    go_wp2_with fail
    refine (HV.out _).mono ?_
    rintro e w1 ⟨rfl, hg⟩
    have hb1 : Below w.heap.size w w1 := Below.trans (by (repeat (first | exact Below.refl _ _ | assumption | refine Below.drew ?_ | refine Below.setCell ?_ (by first | omega | (simp only [World.size_alloc]; omega) | (simp; try omega)) _ | refine Below.alloc ?_ (by first | omega | (simp only [World.size_alloc]; omega) | (simp; try omega)) _))) (hg.below.mono (by first | exact Nat.le_refl _ | (simp only [World.size_alloc]; omega)))
    go_wp2_with fail
    refine (HL.out _ hb1).mono ?_
    rintro e w2 ⟨rfl, hb2⟩
    have hb3 := hb1.trans (hb2.mono hb1.size)
    go_wp2_with fail
    go_ret
    exact ⟨rfl, hb3⟩
  · go_enter Try.func17, Try.ntmps17
    go_wp2_with fail
    refine (HV.out _).mono ?_
    rintro e w1 ⟨rfl, hg⟩
    have hb1 : Below w.heap.size w w1 := Below.trans (by (repeat (first | exact Below.refl _ _ | assumption | refine Below.drew ?_ | refine Below.setCell ?_ (by first | omega | (simp only [World.size_alloc]; omega) | (simp; try omega)) _ | refine Below.alloc ?_ (by first | omega | (simp only [World.size_alloc]; omega) | (simp; try omega)) _))) (hg.below.mono (by first | exact Nat.le_refl _ | (simp only [World.size_alloc]; omega)))
    have hc := kept_new hg
    have hs1 := hg.below.size
    simp only [World.size_alloc] at hs1
    go_wp2_with fail
    refine (HL.out _ hb1).mono ?_
    rintro e w2 ⟨rfl, hb2⟩
    have hb3 := hb1.trans (hb2.mono hb1.size)
    have e0 : ∀ o, w2.cell? ⟨w.heap.size, o, none⟩ = w1.cell? ⟨w.heap.size, o, none⟩ := fun o => hb2.cell (p := ⟨w.heap.size, o, none⟩) (show w.heap.size < w1.heap.size by omega)
    have u0 := (e0 0).trans (hc 0)
    have u1 := (e0 1).trans (hc 1)
    have u2 := (e0 2).trans (hc 2)
    clear e0 hc
    go_wp2_with fail
    refine (HI.out _ hb3).mono ?_
    rintro e w3 ⟨rfl, hb4⟩
    have hb5 := hb3.trans (hb4.mono hb3.size)
    go_wp2_with fail
    go_ret
    exact ⟨rfl, hb5⟩

set_option linter.unusedSimpArgs false in
set_option maxHeartbeats 1000000 in
theorem rLeast_any (v : Value) (L : List IV) (w : World) (h : Ivs w v L) : Calls Try.prog 14 #[v] w fun e w' => e = .returned (retV (leastV L)) ∧ Below w.heap.size w w' := by
  have HL : Hid (∀ W, Below w.heap.size w W → Calls Try.prog 12 #[v] W fun e w' => e = .returned (.bool (vldL L)) ∧ Below W.heap.size W w') := fun W hb => rValidL_any v L W (h.below hb)
  obtain ⟨a, c, rfl, hc1, hc2, hnil, hn, hi⟩ := h
  cases L with
  | nil =>
    clear HL hi hnil
    simp only [List.length_nil, leastV, retV, z0]
    go_enter Try.func14, Try.ntmps14
    go_wp2_with fail
    refine bodyPost_ret (v := .tuple #[.agg #[.int .i64 0, .int .i64 0, .string ⟨#[]⟩], .bool false]) (by simp [results, Try.results14, go_sem, *]) rfl ?_
    exact ⟨rfl, by (repeat (first | exact Below.refl _ _ | assumption | refine Below.drew ?_ | refine Below.setCell ?_ (by first | omega | (simp only [World.size_alloc]; omega) | (simp; try omega)) _ | refine Below.alloc ?_ (by first | omega | (simp only [World.size_alloc]; omega) | (simp; try omega)) _))⟩
  | cons x r =>
    obtain ⟨b, off, rfl, -, hb', hc⟩ := hi 0 (by simp)
    simp only [List.getElem_cons_zero, Nat.zero_mul, Nat.add_zero] at hc
    simp only [leastV]
    generalize vldL (x :: r) = y at HL ⊢
    obtain ⟨n, hnn⟩ : ∃ n, (x :: r).length = n := ⟨_, rfl⟩
    have hn0 : ((n : Int) == 0) = false := by rw [beq_eq_false_iff_ne]; simp at hnn; omega
    have hn1 : (0 : Int) < n := by simp at hnn; omega
    rw [hnn] at hc1 hn HL ⊢
    clear hnn hi hnil
    obtain ⟨⟨fk, fn, fs⟩, ⟨tk, tn, ts⟩, xo⟩ := x
    have HC := Lib.hid hc
    clear hc
    cases y
    · simp only [Bool.false_eq_true, if_false, retV, z0]
      go_enter Try.func14, Try.ntmps14
      go_wp2_with fail
      refine (HL.out _ (by (repeat (first | exact Below.refl _ _ | assumption | refine Below.drew ?_ | refine Below.setCell ?_ (by first | omega | (simp only [World.size_alloc]; omega) | (simp; try omega)) _ | refine Below.alloc ?_ (by first | omega | (simp only [World.size_alloc]; omega) | (simp; try omega)) _)))).mono ?_
      rintro e w1 ⟨rfl, hb⟩
      have hs := hb.size
      simp only [World.size_alloc] at hs
      have hlt : w.heap.size < w1.heap.size := by omega
      have hcl : ∀ o, w1.cell? ⟨w.heap.size, o, none⟩ = _ := fun o => hb.cell (p := ⟨w.heap.size, o, none⟩) (show w.heap.size < _ by simp only [World.size_alloc]; omega)
      have hfl : ∀ o, w1.frozen? ⟨w.heap.size, o, none⟩ = _ := fun o => hb.frozen (p := ⟨w.heap.size, o, none⟩) (show w.heap.size < _ by simp only [World.size_alloc]; omega)
      have hbw : Below w.heap.size w w1 := Below.trans (by (repeat (first | exact Below.refl _ _ | assumption | refine Below.drew ?_ | refine Below.setCell ?_ (by first | omega | (simp only [World.size_alloc]; omega) | (simp; try omega)) _ | refine Below.alloc ?_ (by first | omega | (simp only [World.size_alloc]; omega) | (simp; try omega)) _))) (hb.mono (by simp only [World.size_alloc]; omega))
      go_wp2_with fail
      refine bodyPost_ret (v := .tuple #[.agg #[.int .i64 0, .int .i64 0, .string ⟨#[]⟩], .bool false]) (by simp [results, Try.results14, go_sem, *]) rfl ?_
      exact ⟨rfl, by (repeat (first | exact Below.refl _ _ | assumption | refine Below.drew ?_ | refine Below.setCell ?_ (by first | omega | (simp only [World.size_alloc]; omega) | (simp; try omega)) _ | refine Below.alloc ?_ (by first | omega | (simp only [World.size_alloc]; omega) | (simp; try omega)) _))⟩
    · simp only [if_true, retV]
      go_enter Try.func14, Try.ntmps14
      go_wp2_with fail
      refine (HL.out _ (by (repeat (first | exact Below.refl _ _ | assumption | refine Below.drew ?_ | refine Below.setCell ?_ (by first | omega | (simp only [World.size_alloc]; omega) | (simp; try omega)) _ | refine Below.alloc ?_ (by first | omega | (simp only [World.size_alloc]; omega) | (simp; try omega)) _)))).mono ?_
      rintro e w1 ⟨rfl, hb⟩
      have hs := hb.size
      simp only [World.size_alloc] at hs
      have hlt : w.heap.size < w1.heap.size := by omega
      have hbw : Below w.heap.size w w1 := Below.trans (by (repeat (first | exact Below.refl _ _ | assumption | refine Below.drew ?_ | refine Below.setCell ?_ (by first | omega | (simp only [World.size_alloc]; omega) | (simp; try omega)) _ | refine Below.alloc ?_ (by first | omega | (simp only [World.size_alloc]; omega) | (simp; try omega)) _))) (hb.mono (by simp only [World.size_alloc]; omega))
      have hcl : ∀ o, w1.cell? ⟨w.heap.size, o, none⟩ = _ := fun o => hb.cell (p := ⟨w.heap.size, o, none⟩) (show w.heap.size < _ by simp only [World.size_alloc]; omega)
      have hfl : ∀ o, w1.frozen? ⟨w.heap.size, o, none⟩ = _ := fun o => hb.frozen (p := ⟨w.heap.size, o, none⟩) (show w.heap.size < _ by simp only [World.size_alloc]; omega)
      obtain ⟨⟨p0, p1, p2⟩, _, _⟩ := HC.out.same (hbw.block b hb')
      simp only at p0 p1 p2
      go_wp2_with fail
      refine bodyPost_ret (v := .tuple #[.agg #[.int .i64 fk, .int .i64 fn, .string fs], .bool true]) (by simp [results, Try.results14, go_sem, *]) rfl ?_
      exact ⟨rfl, by (repeat (first | exact Below.refl _ _ | assumption | refine Below.drew ?_ | refine Below.setCell ?_ (by first | omega | (simp only [World.size_alloc]; omega) | (simp; try omega)) _ | refine Below.alloc ?_ (by first | omega | (simp only [World.size_alloc]; omega) | (simp; try omega)) _))⟩
end Go.Proofs.Ytmhgmlnnipdomaa
