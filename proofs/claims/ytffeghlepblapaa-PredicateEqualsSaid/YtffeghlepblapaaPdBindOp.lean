
/- predicate.bindOperand. -/
import Derived.Test.YtffeghlepblapaaPdLeaf2

import Derived.Test.YtffeghlepblapaaPdBindMath

namespace Go.Proofs.Ytffeghlepblapaa

open Go.RowKit

set_option linter.unusedSimpArgs false in
set_option maxHeartbeats 1000000 in
theorem pBindOp_any (o : Od) (qv : Value) (Q : List V) (w : World) (hq : RowAt w qv Q) : Calls Try.prog 45 #[oA o, qv] w fun e w' => e = .returned (oA (bndO Q o)) ∧ Below w.heap.size w w' := by
  have HQ : Hid (∀ W, Below w.heap.size w W → Calls Try.prog 64 #[qv, .int .i64 o.i] W fun e w' => e = .returned (.tuple #[vA (atV Q o.i), .bool (inB Q.length o.i)]) ∧ Below W.heap.size W w') := fun W hb => pAtV_any qv Q o.i W (hq.blw hb)
  clear hq
  by_cases h2 : o.k = 2
  · cases hin : inB Q.length o.i with
    | true =>
      have e : bndO Q o = ⟨3, 0, atV Q o.i⟩ := by unfold bndO; rw [if_pos ⟨h2, hin⟩]
      rw [e]
      rw [hin] at HQ
      clear e hin
      obtain ⟨ok, oi, ⟨vk, vn, vs⟩⟩ := o
      simp only at h2 HQ ⊢
      subst h2
      generalize atV Q oi = y at *
      obtain ⟨yk, yn, ys⟩ := y
      simp only [vA, oA] at HQ ⊢
      go_enter Try.func45, Try.ntmps45
      go_wp2_with fail
      refine (HQ.out _ (by (repeat (first | exact Below.refl _ _ | assumption | refine Below.drew ?_ | refine Below.setCell ?_ (by first | omega | (simp only [World.size_alloc]; omega) | (simp; try omega)) _ | refine Below.alloc ?_ (by first | omega | (simp only [World.size_alloc]; omega) | (simp; try omega)) _)))).mono ?_
      rintro e w1 ⟨rfl, hb⟩
      have B1 : Hid (Below w.heap.size w w1) := Below.trans (by (repeat (first | exact Below.refl _ _ | assumption | refine Below.drew ?_ | refine Below.setCell ?_ (by first | omega | (simp only [World.size_alloc]; omega) | (simp; try omega)) _ | refine Below.alloc ?_ (by first | omega | (simp only [World.size_alloc]; omega) | (simp; try omega)) _))) (hb.mono (by simp only [World.size_alloc]; omega))
      have z1 := hb.size
      simp only [World.size_alloc] at z1
      have z0 : w.heap.size ≤ w1.heap.size := by omega
      have z2 : w.heap.size + 1 < w1.heap.size := by omega
      have z3 : w.heap.size < w1.heap.size := by omega
      have p0 : w1.cell? ⟨w.heap.size, 0, none⟩ = some (.int .i64 2) := (hb.cell (p := ⟨w.heap.size, 0, none⟩) (show w.heap.size < _ by simp only [World.size_alloc]; omega)).trans (by go_simp)
      have p1 : w1.cell? ⟨w.heap.size, 1, none⟩ = some (.int .i64 oi) := (hb.cell (p := ⟨w.heap.size, 1, none⟩) (show w.heap.size < _ by simp only [World.size_alloc]; omega)).trans (by go_simp)
      have p2 : w1.cell? ⟨w.heap.size, 2, none⟩ = some (.int .i64 vk) := (hb.cell (p := ⟨w.heap.size, 2, none⟩) (show w.heap.size < _ by simp only [World.size_alloc]; omega)).trans (by go_simp)
      have p3 : w1.cell? ⟨w.heap.size, 3, none⟩ = some (.int .i64 vn) := (hb.cell (p := ⟨w.heap.size, 3, none⟩) (show w.heap.size < _ by simp only [World.size_alloc]; omega)).trans (by go_simp)
      have p4 : w1.cell? ⟨w.heap.size, 4, none⟩ = some (.string vs) := (hb.cell (p := ⟨w.heap.size, 4, none⟩) (show w.heap.size < _ by simp only [World.size_alloc]; omega)).trans (by go_simp)
      have r0 : w1.cell? ⟨w.heap.size + 1, 0, none⟩ = some (.int .i64 0) := (hb.cell (p := ⟨w.heap.size + 1, 0, none⟩) (show w.heap.size + 1 < _ by simp only [World.size_alloc]; omega)).trans (by go_simp)
      have r1 : w1.cell? ⟨w.heap.size + 1, 1, none⟩ = some (.int .i64 0) := (hb.cell (p := ⟨w.heap.size + 1, 1, none⟩) (show w.heap.size + 1 < _ by simp only [World.size_alloc]; omega)).trans (by go_simp)
      have r2 : w1.cell? ⟨w.heap.size + 1, 2, none⟩ = some (.int .i64 0) := (hb.cell (p := ⟨w.heap.size + 1, 2, none⟩) (show w.heap.size + 1 < _ by simp only [World.size_alloc]; omega)).trans (by go_simp)
      have r3 : w1.cell? ⟨w.heap.size + 1, 3, none⟩ = some (.int .i64 0) := (hb.cell (p := ⟨w.heap.size + 1, 3, none⟩) (show w.heap.size + 1 < _ by simp only [World.size_alloc]; omega)).trans (by go_simp)
      have r4 : w1.cell? ⟨w.heap.size + 1, 4, none⟩ = some (.string ⟨#[]⟩) := (hb.cell (p := ⟨w.heap.size + 1, 4, none⟩) (show w.heap.size + 1 < _ by simp only [World.size_alloc]; omega)).trans (by go_simp)
      have fr : ∀ o, w1.frozen? ⟨w.heap.size + 1, o, none⟩ = false := fun o => (hb.frozen (p := ⟨w.heap.size + 1, o, none⟩) (show w.heap.size + 1 < _ by simp only [World.size_alloc]; omega)).trans (by go_simp)
      clear hb
      go_wp2_with fail
      have hB := B1.out
      refine bodyPost_ret (v := .agg #[.int .i64 3, .int .i64 0, .int .i64 yk, .int .i64 yn, .string ys]) ?_ rfl ?_
      · simp [results, Try.results45, go_sem, r0, r1, r2, r3, r4, z2, z3]
      · exact ⟨rfl, by with_reducible (repeat (first | exact hB | refine Below.setCell ?_ (show w.heap.size ≤ _ by simp only []; omega) _ | refine Below.alloc ?_ (by simp only [World.size_setCell]; exact z0) _))⟩
    | false =>
      have e : bndO Q o = o := by unfold bndO; rw [hin, if_neg (fun hh => absurd hh.2 (by simp))]
      rw [e]
      rw [hin] at HQ
      clear e hin
      obtain ⟨ok, oi, ⟨vk, vn, vs⟩⟩ := o
      simp only at h2 HQ ⊢
      subst h2
      generalize atV Q oi = y at *
      obtain ⟨yk, yn, ys⟩ := y
      simp only [vA, oA] at HQ ⊢
      go_enter Try.func45, Try.ntmps45
      go_wp2_with fail
      refine (HQ.out _ (by (repeat (first | exact Below.refl _ _ | assumption | refine Below.drew ?_ | refine Below.setCell ?_ (by first | omega | (simp only [World.size_alloc]; omega) | (simp; try omega)) _ | refine Below.alloc ?_ (by first | omega | (simp only [World.size_alloc]; omega) | (simp; try omega)) _)))).mono ?_
      rintro e w1 ⟨rfl, hb⟩
      have B1 : Hid (Below w.heap.size w w1) := Below.trans (by (repeat (first | exact Below.refl _ _ | assumption | refine Below.drew ?_ | refine Below.setCell ?_ (by first | omega | (simp only [World.size_alloc]; omega) | (simp; try omega)) _ | refine Below.alloc ?_ (by first | omega | (simp only [World.size_alloc]; omega) | (simp; try omega)) _))) (hb.mono (by simp only [World.size_alloc]; omega))
      have z1 := hb.size
      simp only [World.size_alloc] at z1
      have z0 : w.heap.size ≤ w1.heap.size := by omega
      have z2 : w.heap.size + 1 < w1.heap.size := by omega
      have z3 : w.heap.size < w1.heap.size := by omega
      have p0 : w1.cell? ⟨w.heap.size, 0, none⟩ = some (.int .i64 2) := (hb.cell (p := ⟨w.heap.size, 0, none⟩) (show w.heap.size < _ by simp only [World.size_alloc]; omega)).trans (by go_simp)
      have p1 : w1.cell? ⟨w.heap.size, 1, none⟩ = some (.int .i64 oi) := (hb.cell (p := ⟨w.heap.size, 1, none⟩) (show w.heap.size < _ by simp only [World.size_alloc]; omega)).trans (by go_simp)
      have p2 : w1.cell? ⟨w.heap.size, 2, none⟩ = some (.int .i64 vk) := (hb.cell (p := ⟨w.heap.size, 2, none⟩) (show w.heap.size < _ by simp only [World.size_alloc]; omega)).trans (by go_simp)
      have p3 : w1.cell? ⟨w.heap.size, 3, none⟩ = some (.int .i64 vn) := (hb.cell (p := ⟨w.heap.size, 3, none⟩) (show w.heap.size < _ by simp only [World.size_alloc]; omega)).trans (by go_simp)
      have p4 : w1.cell? ⟨w.heap.size, 4, none⟩ = some (.string vs) := (hb.cell (p := ⟨w.heap.size, 4, none⟩) (show w.heap.size < _ by simp only [World.size_alloc]; omega)).trans (by go_simp)
      have r0 : w1.cell? ⟨w.heap.size + 1, 0, none⟩ = some (.int .i64 0) := (hb.cell (p := ⟨w.heap.size + 1, 0, none⟩) (show w.heap.size + 1 < _ by simp only [World.size_alloc]; omega)).trans (by go_simp)
      have r1 : w1.cell? ⟨w.heap.size + 1, 1, none⟩ = some (.int .i64 0) := (hb.cell (p := ⟨w.heap.size + 1, 1, none⟩) (show w.heap.size + 1 < _ by simp only [World.size_alloc]; omega)).trans (by go_simp)
      have r2 : w1.cell? ⟨w.heap.size + 1, 2, none⟩ = some (.int .i64 0) := (hb.cell (p := ⟨w.heap.size + 1, 2, none⟩) (show w.heap.size + 1 < _ by simp only [World.size_alloc]; omega)).trans (by go_simp)
      have r3 : w1.cell? ⟨w.heap.size + 1, 3, none⟩ = some (.int .i64 0) := (hb.cell (p := ⟨w.heap.size + 1, 3, none⟩) (show w.heap.size + 1 < _ by simp only [World.size_alloc]; omega)).trans (by go_simp)
      have r4 : w1.cell? ⟨w.heap.size + 1, 4, none⟩ = some (.string ⟨#[]⟩) := (hb.cell (p := ⟨w.heap.size + 1, 4, none⟩) (show w.heap.size + 1 < _ by simp only [World.size_alloc]; omega)).trans (by go_simp)
      have fr : ∀ o, w1.frozen? ⟨w.heap.size + 1, o, none⟩ = false := fun o => (hb.frozen (p := ⟨w.heap.size + 1, o, none⟩) (show w.heap.size + 1 < _ by simp only [World.size_alloc]; omega)).trans (by go_simp)
      clear hb
      go_wp2_with fail
      have hB := B1.out
      refine bodyPost_ret (v := .agg #[.int .i64 2, .int .i64 oi, .int .i64 vk, .int .i64 vn, .string vs]) ?_ rfl ?_
      · simp [results, Try.results45, go_sem, r0, r1, r2, r3, r4, z2, z3]
      · exact ⟨rfl, by with_reducible (repeat (first | exact hB | refine Below.setCell ?_ (show w.heap.size ≤ _ by simp only []; omega) _ | refine Below.alloc ?_ (by simp only [World.size_setCell]; exact z0) _))⟩
  · have e : bndO Q o = o := by unfold bndO; rw [if_neg (fun hh => h2 hh.1)]
    rw [e]
    clear e HQ
    obtain ⟨ok, oi, ⟨vk, vn, vs⟩⟩ := o
    have b2 : (ok != 2) = true := by simpa using h2
    simp only [oA] at h2 ⊢
    go_enter Try.func45, Try.ntmps45
    go_wp2_with fail
    exact bodyPost_ret (v := .agg #[.int .i64 ok, .int .i64 oi, .int .i64 vk, .int .i64 vn, .string vs]) (by simp [results, Try.results45, go_sem]) rfl ⟨rfl, by (repeat (first | exact Below.refl _ _ | assumption | refine Below.drew ?_ | refine Below.setCell ?_ (by first | omega | (simp only [World.size_alloc]; omega) | (simp; try omega)) _ | refine Below.alloc ?_ (by first | omega | (simp only [World.size_alloc]; omega) | (simp; try omega)) _))⟩

set_option linter.unusedSimpArgs false in
set_option maxHeartbeats 1000000 in
theorem rBound_any (o : Od) (qv : Value) (Q : List V) (w : World) (hq : RowAt w qv Q) : Calls Try.prog 46 #[oA o, qv] w fun e w' => e = .returned (oA (bndO Q o)) ∧ Below w.heap.size w w' := by
  obtain ⟨a, c, rfl, hl, hi⟩ := hq
  obtain ⟨ok, oi, ⟨vk, vn, vs⟩⟩ := o
  by_cases h2 : ok = 2
  · cases hin : inB Q.length oi with
    | true =>
      obtain ⟨k, rfl, hk⟩ := inB_true hin
      have e : bndO Q ⟨ok, k, ⟨vk, vn, vs⟩⟩ = ⟨3, 0, Q[k]⟩ := by unfold bndO; rw [if_pos ⟨h2, hin⟩, atV_in hk]
      rw [e]
      obtain ⟨b, off, rfl, hb, c0, c1, c2⟩ := hi k hk
      clear hi hin e
      subst h2
      generalize Q[k] = v at *
      generalize Q.length = n at *
      obtain ⟨yk, yn, ys⟩ := v
      simp only [oA] at c0 c1 c2 ⊢
      have d1 : decide (0 ≤ (k : Int)) = true := by simp
      have d2 : decide ((k : Int) < n) = true := by simp; omega
      have hlt' : (k : Int) < n := by omega
      go_enter Try.func46, Try.ntmps46
      go_wp2_with fail
      exact bodyPost_ret (v := .agg #[.int .i64 3, .int .i64 0, .int .i64 yk, .int .i64 yn, .string ys]) (by simp [results, Try.results46, go_sem]) rfl ⟨rfl, by (repeat (first | exact Below.refl _ _ | assumption | refine Below.drew ?_ | refine Below.setCell ?_ (by first | omega | (simp only [World.size_alloc]; omega) | (simp; try omega)) _ | refine Below.alloc ?_ (by first | omega | (simp only [World.size_alloc]; omega) | (simp; try omega)) _))⟩
    | false =>
      have e : bndO Q ⟨ok, oi, ⟨vk, vn, vs⟩⟩ = ⟨ok, oi, ⟨vk, vn, vs⟩⟩ := by unfold bndO; rw [hin, if_neg (fun hh => absurd hh.2 (by simp))]
      rw [e]
      have hcs := inB_false hin
      clear hi hin e
      subst h2
      generalize Q.length = n at *
      simp only [oA]
      by_cases h0 : oi < 0
      · have d1 : decide (0 ≤ oi) = false := by simp; omega
        go_enter Try.func46, Try.ntmps46
        go_wp2_with fail
        exact bodyPost_ret (v := .agg #[.int .i64 2, .int .i64 oi, .int .i64 vk, .int .i64 vn, .string vs]) (by simp [results, Try.results46, go_sem]) rfl ⟨rfl, by (repeat (first | exact Below.refl _ _ | assumption | refine Below.drew ?_ | refine Below.setCell ?_ (by first | omega | (simp only [World.size_alloc]; omega) | (simp; try omega)) _ | refine Below.alloc ?_ (by first | omega | (simp only [World.size_alloc]; omega) | (simp; try omega)) _))⟩
      · have d1 : decide (0 ≤ oi) = true := by simp; omega
        have d2 : decide (oi < (n : Int)) = false := by simp; omega
        go_enter Try.func46, Try.ntmps46
        go_wp2_with fail
        exact bodyPost_ret (v := .agg #[.int .i64 2, .int .i64 oi, .int .i64 vk, .int .i64 vn, .string vs]) (by simp [results, Try.results46, go_sem]) rfl ⟨rfl, by (repeat (first | exact Below.refl _ _ | assumption | refine Below.drew ?_ | refine Below.setCell ?_ (by first | omega | (simp only [World.size_alloc]; omega) | (simp; try omega)) _ | refine Below.alloc ?_ (by first | omega | (simp only [World.size_alloc]; omega) | (simp; try omega)) _))⟩
  · have e : bndO Q ⟨ok, oi, ⟨vk, vn, vs⟩⟩ = ⟨ok, oi, ⟨vk, vn, vs⟩⟩ := by unfold bndO; rw [if_neg (fun hh => h2 hh.1)]
    rw [e]
    clear e hi
    have b2 : (ok == 2) = false := by simpa using h2
    generalize Q.length = n at *
    simp only [oA]
    go_enter Try.func46, Try.ntmps46
    go_wp2_with fail
    exact bodyPost_ret (v := .agg #[.int .i64 ok, .int .i64 oi, .int .i64 vk, .int .i64 vn, .string vs]) (by simp [results, Try.results46, go_sem]) rfl ⟨rfl, by (repeat (first | exact Below.refl _ _ | assumption | refine Below.drew ?_ | refine Below.setCell ?_ (by first | omega | (simp only [World.size_alloc]; omega) | (simp; try omega)) _ | refine Below.alloc ?_ (by first | omega | (simp only [World.size_alloc]; omega) | (simp; try omega)) _))⟩
end Go.Proofs.Ytffeghlepblapaa
