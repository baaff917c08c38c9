
/- The reference's Holds. -/
import Derived.Test.YtffeghlepblapaaPdHolds

import Derived.Test.YtffeghlepblapaaPdRefLeaf

namespace Go.Proofs.Ytffeghlepblapaa

open Go.RowKit

def RHoldsAt (R Q : List V) (p : PT) : Prop := ∀ (v rv qv : Value) (w : World), Pd w v p → RowAt w rv R → RowAt w qv Q → Calls Try.prog 18 #[v, rv, qv] w fun e w' => e = .returned (.bool (holdsP R Q p)) ∧ Below w.heap.size w w'

set_option maxRecDepth 100000 in
set_option maxHeartbeats 4000000 in
theorem rHolds_cmp (R Q : List V) (p : PT) (hop : p.op = 3) : RHoldsAt R Q p := by
  intro v rv qv w h hr hq
  obtain ⟨op, cmp, lk, li, lvk, lvn, lvs, rk, ri, rvk, rvn, rvs, ps, a, c, rfl, rfl, hp⟩ := pd_fields h
  have hv : holdsP R Q (.mk op cmp ⟨lk, li, ⟨lvk, lvn, lvs⟩⟩ ⟨rk, ri, ⟨rvk, rvn, rvs⟩⟩ ps) = cmpsB cmp (denV ⟨lk, li, ⟨lvk, lvn, lvs⟩⟩ R Q) (denV ⟨rk, ri, ⟨rvk, rvn, rvs⟩⟩ R Q) := by
    have e : op = 3 := hop
    subst e; rw [holdsP]; simp
  rw [hv]
  obtain rfl : op = 3 := hop
  have HL : Hid (∀ W, Below w.heap.size w W → Calls Try.prog 43 #[.agg #[.int .i64 lk, .int .i64 li, .int .i64 lvk, .int .i64 lvn, .string lvs], rv, qv] W fun e w' => e = .returned (.tuple #[vA (denV ⟨lk, li, ⟨lvk, lvn, lvs⟩⟩ R Q), .bool (denB ⟨lk, li, ⟨lvk, lvn, lvs⟩⟩ R Q)]) ∧ Below W.heap.size W w') := fun W hb => rDenoted_any ⟨lk, li, ⟨lvk, lvn, lvs⟩⟩ rv qv R Q W (hr.blw hb) (hq.blw hb)
  have HR : Hid (∀ W, Below w.heap.size w W → Calls Try.prog 43 #[.agg #[.int .i64 rk, .int .i64 ri, .int .i64 rvk, .int .i64 rvn, .string rvs], rv, qv] W fun e w' => e = .returned (.tuple #[vA (denV ⟨rk, ri, ⟨rvk, rvn, rvs⟩⟩ R Q), .bool (denB ⟨rk, ri, ⟨rvk, rvn, rvs⟩⟩ R Q)]) ∧ Below W.heap.size W w') := fun W hb => rDenoted_any ⟨rk, ri, ⟨rvk, rvn, rvs⟩⟩ rv qv R Q W (hr.blw hb) (hq.blw hb)
  have HC : Hid (∀ W, Calls Try.prog 44 #[.int .i64 cmp, vA (denV ⟨lk, li, ⟨lvk, lvn, lvs⟩⟩ R Q), vA (denV ⟨rk, ri, ⟨rvk, rvn, rvs⟩⟩ R Q)] W fun e w' => e = .returned (.bool (cmpsB cmp (denV ⟨lk, li, ⟨lvk, lvn, lvs⟩⟩ R Q) (denV ⟨rk, ri, ⟨rvk, rvn, rvs⟩⟩ R Q))) ∧ Below W.heap.size W w') := fun W => rCompares_any _ _ _ W
  have hzl : denB ⟨lk, li, ⟨lvk, lvn, lvs⟩⟩ R Q = false → cmpsB cmp (denV ⟨lk, li, ⟨lvk, lvn, lvs⟩⟩ R Q) (denV ⟨rk, ri, ⟨rvk, rvn, rvs⟩⟩ R Q) = false := fun h => by rw [den_zero h, cmpsB_zl]
  have hzr : denB ⟨rk, ri, ⟨rvk, rvn, rvs⟩⟩ R Q = false → cmpsB cmp (denV ⟨lk, li, ⟨lvk, lvn, lvs⟩⟩ R Q) (denV ⟨rk, ri, ⟨rvk, rvn, rvs⟩⟩ R Q) = false := fun h => by rw [den_zero h, cmpsB_zr]
  generalize ps.length = n at *
  generalize cmpsB cmp (denV ⟨lk, li, ⟨lvk, lvn, lvs⟩⟩ R Q) (denV ⟨rk, ri, ⟨rvk, rvn, rvs⟩⟩ R Q) = z at *
  generalize denV ⟨lk, li, ⟨lvk, lvn, lvs⟩⟩ R Q = x at *
  generalize denV ⟨rk, ri, ⟨rvk, rvn, rvs⟩⟩ R Q = y at *
  generalize denB ⟨lk, li, ⟨lvk, lvn, lvs⟩⟩ R Q = xb at *
  generalize denB ⟨rk, ri, ⟨rvk, rvn, rvs⟩⟩ R Q = yb at *
  obtain ⟨xk, xn, xs⟩ := x
  obtain ⟨yk, yn, ys⟩ := y
  simp only [vA] at HL HR HC
  clear hr hq hp hv h
  have HK : Hid (∀ W, Below (w.heap.size + 1) (w.alloc (.cells #[.int .i64 3, .int .i64 cmp, .int .i64 lk, .int .i64 li, .int .i64 lvk, .int .i64 lvn, .string lvs, .int .i64 rk, .int .i64 ri, .int .i64 rvk, .int .i64 rvn, .string rvs, .slice a n c] 29)) W → W.cell? ⟨w.heap.size, 1, none⟩ = some (.int .i64 cmp) ∧ (W.cell? ⟨w.heap.size, 7, none⟩ = some (.int .i64 rk) ∧ W.cell? ⟨w.heap.size, 8, none⟩ = some (.int .i64 ri) ∧ W.cell? ⟨w.heap.size, 9, none⟩ = some (.int .i64 rvk) ∧ W.cell? ⟨w.heap.size, 10, none⟩ = some (.int .i64 rvn) ∧ W.cell? ⟨w.heap.size, 11, none⟩ = some (.string rvs))) := fun W hb =>
    ⟨(hb.cell (p := ⟨w.heap.size, 1, none⟩) (show w.heap.size < _ by omega)).trans (by go_simp), (hb.cell (p := ⟨w.heap.size, 7, none⟩) (show w.heap.size < _ by omega)).trans (by go_simp), (hb.cell (p := ⟨w.heap.size, 8, none⟩) (show w.heap.size < _ by omega)).trans (by go_simp), (hb.cell (p := ⟨w.heap.size, 9, none⟩) (show w.heap.size < _ by omega)).trans (by go_simp), (hb.cell (p := ⟨w.heap.size, 10, none⟩) (show w.heap.size < _ by omega)).trans (by go_simp), (hb.cell (p := ⟨w.heap.size, 11, none⟩) (show w.heap.size < _ by omega)).trans (by go_simp)⟩
  cases xb with
  | false =>
    obtain rfl := hzl rfl
    clear hzl hzr HC
    go_enter Try.func18, Try.ntmps18
    go_wp2_with fail
    refine (HL.out _ (by (repeat (first | exact Below.refl _ _ | assumption | refine Below.drew ?_ | refine Below.setCell ?_ (by first | omega | (simp only [World.size_alloc]; omega) | (simp; try omega)) _ | refine Below.alloc ?_ (by first | omega | (simp only [World.size_alloc]; omega) | (simp; try omega)) _)))).mono ?_
    rintro e w1 ⟨rfl, hb⟩
    have B1 : Hid (Below w.heap.size w w1) := Below.trans (by (repeat (first | exact Below.refl _ _ | assumption | refine Below.drew ?_ | refine Below.setCell ?_ (by first | omega | (simp only [World.size_alloc]; omega) | (simp; try omega)) _ | refine Below.alloc ?_ (by first | omega | (simp only [World.size_alloc]; omega) | (simp; try omega)) _))) (hb.mono (by simp only [World.size_alloc]; omega))
    have z1 := hb.size
    simp only [World.size_alloc] at hb z1
    have zw : w.heap.size < w1.heap.size := by omega
    obtain ⟨a0, c0, c1, c2, c3, c4⟩ := HK.out _ hb
    clear hb
    go_wp2_with fail
    refine (HR.out _ (by have hB := B1.out; have hS := hB.size; (repeat (first | exact Below.refl _ _ | assumption | refine Below.drew ?_ | refine Below.setCell ?_ (by first | omega | (simp only [World.size_alloc]; omega) | (simp; try omega)) _ | refine Below.alloc ?_ (by first | omega | (simp only [World.size_alloc]; omega) | (simp; try omega)) _)))).mono ?_
    rintro e w2 ⟨rfl, hb⟩
    have B2 : Hid (Below w.heap.size w w2) := Below.trans (by have hB := B1.out; have hS := hB.size; (repeat (first | exact Below.refl _ _ | assumption | refine Below.drew ?_ | refine Below.setCell ?_ (by first | omega | (simp only [World.size_alloc]; omega) | (simp; try omega)) _ | refine Below.alloc ?_ (by first | omega | (simp only [World.size_alloc]; omega) | (simp; try omega)) _))) (hb.mono (by simp only [World.size_alloc]; have := B1.out.size; omega))
    clear hb a0 c0 c1 c2 c3 c4
    go_wp2_with fail
    go_ret
    exact ⟨rfl, by have hB := B2.out; have hS := hB.size; (repeat (first | exact Below.refl _ _ | assumption | refine Below.drew ?_ | refine Below.setCell ?_ (by first | omega | (simp only [World.size_alloc]; omega) | (simp; try omega)) _ | refine Below.alloc ?_ (by first | omega | (simp only [World.size_alloc]; omega) | (simp; try omega)) _))⟩
  | true =>
    cases yb with
    | false =>
      obtain rfl := hzr rfl
      clear hzl hzr HC
      go_enter Try.func18, Try.ntmps18
      go_wp2_with fail
      refine (HL.out _ (by (repeat (first | exact Below.refl _ _ | assumption | refine Below.drew ?_ | refine Below.setCell ?_ (by first | omega | (simp only [World.size_alloc]; omega) | (simp; try omega)) _ | refine Below.alloc ?_ (by first | omega | (simp only [World.size_alloc]; omega) | (simp; try omega)) _)))).mono ?_
      rintro e w1 ⟨rfl, hb⟩
      have B1 : Hid (Below w.heap.size w w1) := Below.trans (by (repeat (first | exact Below.refl _ _ | assumption | refine Below.drew ?_ | refine Below.setCell ?_ (by first | omega | (simp only [World.size_alloc]; omega) | (simp; try omega)) _ | refine Below.alloc ?_ (by first | omega | (simp only [World.size_alloc]; omega) | (simp; try omega)) _))) (hb.mono (by simp only [World.size_alloc]; omega))
      have z1 := hb.size
      simp only [World.size_alloc] at hb z1
      have zw : w.heap.size < w1.heap.size := by omega
      obtain ⟨a0, c0, c1, c2, c3, c4⟩ := HK.out _ hb
      clear hb
      go_wp2_with fail
      refine (HR.out _ (by have hB := B1.out; have hS := hB.size; (repeat (first | exact Below.refl _ _ | assumption | refine Below.drew ?_ | refine Below.setCell ?_ (by first | omega | (simp only [World.size_alloc]; omega) | (simp; try omega)) _ | refine Below.alloc ?_ (by first | omega | (simp only [World.size_alloc]; omega) | (simp; try omega)) _)))).mono ?_
      rintro e w2 ⟨rfl, hb⟩
      have B2 : Hid (Below w.heap.size w w2) := Below.trans (by have hB := B1.out; have hS := hB.size; (repeat (first | exact Below.refl _ _ | assumption | refine Below.drew ?_ | refine Below.setCell ?_ (by first | omega | (simp only [World.size_alloc]; omega) | (simp; try omega)) _ | refine Below.alloc ?_ (by first | omega | (simp only [World.size_alloc]; omega) | (simp; try omega)) _))) (hb.mono (by simp only [World.size_alloc]; have := B1.out.size; omega))
      clear hb a0 c0 c1 c2 c3 c4
      go_wp2_with fail
      go_ret
      exact ⟨rfl, by have hB := B2.out; have hS := hB.size; (repeat (first | exact Below.refl _ _ | assumption | refine Below.drew ?_ | refine Below.setCell ?_ (by first | omega | (simp only [World.size_alloc]; omega) | (simp; try omega)) _ | refine Below.alloc ?_ (by first | omega | (simp only [World.size_alloc]; omega) | (simp; try omega)) _))⟩
    | true =>
      clear hzl hzr
      go_enter Try.func18, Try.ntmps18
      go_wp2_with fail
      refine (HL.out _ (by (repeat (first | exact Below.refl _ _ | assumption | refine Below.drew ?_ | refine Below.setCell ?_ (by first | omega | (simp only [World.size_alloc]; omega) | (simp; try omega)) _ | refine Below.alloc ?_ (by first | omega | (simp only [World.size_alloc]; omega) | (simp; try omega)) _)))).mono ?_
      rintro e w1 ⟨rfl, hb⟩
      have B1 : Hid (Below w.heap.size w w1) := Below.trans (by (repeat (first | exact Below.refl _ _ | assumption | refine Below.drew ?_ | refine Below.setCell ?_ (by first | omega | (simp only [World.size_alloc]; omega) | (simp; try omega)) _ | refine Below.alloc ?_ (by first | omega | (simp only [World.size_alloc]; omega) | (simp; try omega)) _))) (hb.mono (by simp only [World.size_alloc]; omega))
      have z1 := hb.size
      simp only [World.size_alloc] at hb z1
      have zw : w.heap.size < w1.heap.size := by omega
      have K1 := Lib.hid hb
      obtain ⟨a0, c0, c1, c2, c3, c4⟩ := HK.out _ hb
      clear hb
      go_wp2_with fail
      refine (HR.out _ (by have hB := B1.out; have hS := hB.size; (repeat (first | exact Below.refl _ _ | assumption | refine Below.drew ?_ | refine Below.setCell ?_ (by first | omega | (simp only [World.size_alloc]; omega) | (simp; try omega)) _ | refine Below.alloc ?_ (by first | omega | (simp only [World.size_alloc]; omega) | (simp; try omega)) _)))).mono ?_
      rintro e w2 ⟨rfl, hb⟩
      have B2 : Hid (Below w.heap.size w w2) := Below.trans (by have hB := B1.out; have hS := hB.size; (repeat (first | exact Below.refl _ _ | assumption | refine Below.drew ?_ | refine Below.setCell ?_ (by first | omega | (simp only [World.size_alloc]; omega) | (simp; try omega)) _ | refine Below.alloc ?_ (by first | omega | (simp only [World.size_alloc]; omega) | (simp; try omega)) _))) (hb.mono (by simp only [World.size_alloc]; have := B1.out.size; omega))
      have K2 : Below (w.heap.size + 1) (w.alloc (.cells #[.int .i64 3, .int .i64 cmp, .int .i64 lk, .int .i64 li, .int .i64 lvk, .int .i64 lvn, .string lvs, .int .i64 rk, .int .i64 ri, .int .i64 rvk, .int .i64 rvn, .string rvs, .slice a n c] 29)) w2 := (K1.out.alloc z1 _).trans (hb.mono (by simp only [World.size_alloc]; omega))
      have z2 := hb.size
      simp only [World.size_alloc] at z2
      have x0 : w2.cell? ⟨w1.heap.size, 0, none⟩ = some (.int .i64 xk) := (hb.cell (p := ⟨w1.heap.size, 0, none⟩) (show w1.heap.size < _ by simp only [World.size_alloc]; omega)).trans (by go_simp)
      have x1 : w2.cell? ⟨w1.heap.size, 1, none⟩ = some (.int .i64 xn) := (hb.cell (p := ⟨w1.heap.size, 1, none⟩) (show w1.heap.size < _ by simp only [World.size_alloc]; omega)).trans (by go_simp)
      have x2 : w2.cell? ⟨w1.heap.size, 2, none⟩ = some (.string xs) := (hb.cell (p := ⟨w1.heap.size, 2, none⟩) (show w1.heap.size < _ by simp only [World.size_alloc]; omega)).trans (by go_simp)
      clear a0 c0 c1 c2 c3 c4
      obtain ⟨a0, -⟩ := HK.out _ K2
      have zz : w.heap.size < w2.heap.size := by omega
      have zx : w1.heap.size < w2.heap.size := by omega
      clear hb K2 z1 z2
      go_wp2_with fail
      refine (HC.out _).mono ?_
      rintro e w3 ⟨rfl, hb⟩
      have B3 : Hid (Below w.heap.size w w3) := Below.trans (by have hB := B2.out; have hS := hB.size; (repeat (first | exact Below.refl _ _ | assumption | refine Below.drew ?_ | refine Below.setCell ?_ (by first | omega | (simp only [World.size_alloc]; omega) | (simp; try omega)) _ | refine Below.alloc ?_ (by first | omega | (simp only [World.size_alloc]; omega) | (simp; try omega)) _))) (hb.mono (by simp only [World.size_alloc]; have := B2.out.size; omega))
      clear hb
      go_wp2_with fail
      go_ret
      exact ⟨rfl, B3.out⟩

set_option maxRecDepth 100000 in
set_option maxHeartbeats 1000000 in
theorem rHolds_plain (R Q : List V) (p : PT) (hop : p.op ≠ 3 ∧ p.op ≠ 4 ∧ p.op ≠ 5 ∧ p.op ≠ 6) : RHoldsAt R Q p := by
  intro v rv qv w h hr hq
  by_cases h1 : p.op = 1
  · rw [holds_true R Q p h1]
    obtain ⟨op, cmp, lk, li, lvk, lvn, lvs, rk, ri, rvk, rvn, rvs, ps, a, c, rfl, rfl, hp⟩ := pd_fields h
    obtain rfl : op = 1 := h1
    generalize ps.length = n at *
    clear hr hq hp h hop
    go_enter Try.func18, Try.ntmps18
    go_wp2_with fail
    go_ret
    exact ⟨rfl, by (repeat (first | exact Below.refl _ _ | assumption | refine Below.drew ?_ | refine Below.setCell ?_ (by first | omega | (simp only [World.size_alloc]; omega) | (simp; try omega)) _ | refine Below.alloc ?_ (by first | omega | (simp only [World.size_alloc]; omega) | (simp; try omega)) _))⟩
  · rw [holds_other R Q p h1 hop.1 hop.2.1 hop.2.2.1 hop.2.2.2]
    obtain ⟨op, cmp, lk, li, lvk, lvn, lvs, rk, ri, rvk, rvn, rvs, ps, a, c, rfl, rfl, hp⟩ := pd_fields h
    have b1 : (op == 1) = false := by have h : ¬ op = 1 := h1; simpa using h
    have b3 : (op == 3) = false := by have h : ¬ op = 3 := hop.1; simpa using h
    have b4 : (op == 4) = false := by have h : ¬ op = 4 := hop.2.1; simpa using h
    have b5 : (op == 5) = false := by have h : ¬ op = 5 := hop.2.2.1; simpa using h
    have b6 : (op == 6) = false := by have h : ¬ op = 6 := hop.2.2.2; simpa using h
    generalize ps.length = n at *
    clear hr hq hp h hop h1
    go_enter Try.func18, Try.ntmps18
    go_wp2_with fail
    go_ret
    exact ⟨rfl, by (repeat (first | exact Below.refl _ _ | assumption | refine Below.drew ?_ | refine Below.setCell ?_ (by first | omega | (simp only [World.size_alloc]; omega) | (simp; try omega)) _ | refine Below.alloc ?_ (by first | omega | (simp only [World.size_alloc]; omega) | (simp; try omega)) _))⟩

set_option maxRecDepth 100000 in
set_option maxHeartbeats 4000000 in
theorem rHolds_and (R Q : List V) (p : PT) (hop : p.op = 4) (IH : ∀ j (hj : j < p.args.length), RHoldsAt R Q p.args[j]) : RHoldsAt R Q p := by
  intro v rv qv w h hr hq
  rw [holds_and R Q p hop]
  obtain ⟨op, cmp, lk, li, lvk, lvn, lvs, rk, ri, rvk, rvn, rvs, ps, a, c, rfl, rfl, hp⟩ := pd_fields h
  obtain rfl : op = 4 := hop
  change ∀ j (hj : j < ps.length), RHoldsAt R Q ps[j] at IH
  change Calls _ _ _ _ (fun e w' => e = .returned (.bool (allP R Q (ps.drop 0))) ∧ _)
  have HI := Lib.hid IH
  have HP := Lib.hid hp
  have HRR := Lib.hid hr
  have HQQ := Lib.hid hq
  obtain ⟨n, hn⟩ : ∃ n, ps.length = n := ⟨_, rfl⟩
  have HN := Lib.hid hn
  have hfew := hp.1.few
  rw [hn] at hfew
  obtain ⟨z, hz⟩ : ∃ z, allP R Q (ps.drop 0) = z := ⟨_, rfl⟩
  have HZ : Hid (allP R Q (ps.drop 0) = z) := hz
  rw [hz, hn]
  clear hr hq hp h IH hn hz
  go_enter Try.func18, Try.ntmps18
  go_wp2_with fail
  obtain ⟨wq, hwq⟩ : ∃ wq, w.alloc (.cells #[.int .i64 4, .int .i64 cmp, .int .i64 lk, .int .i64 li, .int .i64 lvk, .int .i64 lvn, .string lvs, .int .i64 rk, .int .i64 ri, .int .i64 rvk, .int .i64 rvn, .string rvs, .slice a n c] 29) = wq := ⟨_, rfl⟩
  have HB : Hid (Below w.heap.size w wq) := by rw [← hwq]; exact (Below.refl _ _).alloc (Nat.le_refl _) _
  have hc : wq.cell? ⟨w.heap.size, 12, none⟩ = some (.slice a n c) := by subst hwq; go_simp
  have hzq : w.heap.size + 1 ≤ wq.heap.size := by subst hwq; simp
  have HS : Hid (∀ W, Below (w.heap.size + 1) wq W → W.cell? ⟨w.heap.size, 12, none⟩ = some (.slice a n c)) := fun W hb => (hb.cell (p := ⟨w.heap.size, 12, none⟩) (show w.heap.size < _ by omega)).trans hc
  rw [hwq]
  clear hwq hc
  go_loopw [51] (fun i wr => ∃ k : Nat, k ≤ n ∧ i = .int .i64 k ∧ Hid (Below (w.heap.size + 1) wq wr) ∧ Hid (allP R Q (ps.drop k) = z)) (fun i _ => n - (intOf i).toNat)
  case atStart => exact ⟨0, by omega, rfl, Below.refl _ _, HZ.out⟩
  case round =>
    obtain ⟨k, hk, rfl, HQ, HT⟩ := hrel
    have HW : Hid (Below w.heap.size w wr) := HB.out.trans (HQ.out.mono (by omega))
    have c12 := HS.out wr HQ.out
    have zq : w.heap.size + 1 ≤ wr.heap.size := by have := HQ.out.size; omega
    have zw : w.heap.size < wr.heap.size := by omega
    clear HB HZ HS
    by_cases hlt : k < n
    · have hlt' : (k : Int) < n := by omega
      have hkn : k < ps.length := by rw [HN.out]; exact hlt
      obtain ⟨b, o, a1, c1, rfl, -, hb, g0, g1, g2, g3, g4, g5, g6, g7, g8, g9, g10, g11, g12, hps⟩ := (HP.out.below HW.out).get hkn
      have HH : Hid (∀ W, Below wr.heap.size wr W → Calls Try.prog 18 #[.agg #[.int .i64 ps[k].op, .int .i64 ps[k].cmp, .int .i64 ps[k].l.k, .int .i64 ps[k].l.i, .int .i64 ps[k].l.v.k, .int .i64 ps[k].l.v.n, .string ps[k].l.v.s, .int .i64 ps[k].r.k, .int .i64 ps[k].r.i, .int .i64 ps[k].r.v.k, .int .i64 ps[k].r.v.n, .string ps[k].r.v.s, .slice a1 ps[k].args.length c1], rv, qv] W fun e w' => e = .returned (.bool (holdsP R Q ps[k])) ∧ Below W.heap.size W w') := fun W hb =>
        HI.out k hkn _ rv qv W ⟨a1, c1, rfl, hps.below hb⟩ ((HRR.out.blw HW.out).blw hb) ((HQQ.out.blw HW.out).blw hb)
      have HD : Hid (allP R Q (ps.drop k) = (holdsP R Q ps[k] && allP R Q (ps.drop (k + 1)))) := allP_drop R Q ps k hkn
      clear hps
      generalize holdsP R Q ps[k] = y at *
      generalize ps[k].op = eop at *
      generalize ps[k].cmp = ecmp at *
      generalize ps[k].l.k = elk at *
      generalize ps[k].l.i = eli at *
      generalize ps[k].l.v.k = elvk at *
      generalize ps[k].l.v.n = elvn at *
      generalize ps[k].l.v.s = elvs at *
      generalize ps[k].r.k = erk at *
      generalize ps[k].r.i = eri at *
      generalize ps[k].r.v.k = ervk at *
      generalize ps[k].r.v.n = ervn at *
      generalize ps[k].r.v.s = ervs at *
      generalize ps[k].args.length = en at *
      cases y with
      | true =>
        have HX : Hid (allP R Q (ps.drop (k + 1)) = z) := by show _ = _; rw [← HT.out, HD.out]; simp
        go_wp2_with fail
        refine (HH.out _ (by (repeat (first | exact Below.refl _ _ | assumption | refine Below.drew ?_ | refine Below.setCell ?_ (by first | omega | (simp only [World.size_alloc]; omega) | (simp; try omega)) _ | refine Below.alloc ?_ (by first | omega | (simp only [World.size_alloc]; omega) | (simp; try omega)) _)))).mono ?_
        rintro e w5 ⟨rfl, hb5⟩
        have B5 : Hid (Below wr.heap.size wr w5) := Below.trans (by (repeat (first | exact Below.refl _ _ | assumption | refine Below.drew ?_ | refine Below.setCell ?_ (by first | omega | (simp only [World.size_alloc]; omega) | (simp; try omega)) _ | refine Below.alloc ?_ (by first | omega | (simp only [World.size_alloc]; omega) | (simp; try omega)) _))) (hb5.mono (by first | omega | (simp only [World.size_alloc]; omega) | (simp; done) | (simp; omega)))
        clear hb5 g0 g1 g2 g3 g4 g5 g6 g7 g8 g9 g10 g11 g12
        go_wp2_with fail
        go_roundw
        case rel => exact ⟨k + 1, by omega, by go_num, HQ.out.trans (B5.out.mono zq), HX.out⟩
        case measure => simp [intOf]; omega
      | false =>
        have HX : Hid (z = false) := by show _ = _; rw [← HT.out, HD.out]; simp
        go_wp2_with fail
        refine (HH.out _ (by (repeat (first | exact Below.refl _ _ | assumption | refine Below.drew ?_ | refine Below.setCell ?_ (by first | omega | (simp only [World.size_alloc]; omega) | (simp; try omega)) _ | refine Below.alloc ?_ (by first | omega | (simp only [World.size_alloc]; omega) | (simp; try omega)) _)))).mono ?_
        rintro e w5 ⟨rfl, hb5⟩
        have B5 : Hid (Below wr.heap.size wr w5) := Below.trans (by (repeat (first | exact Below.refl _ _ | assumption | refine Below.drew ?_ | refine Below.setCell ?_ (by first | omega | (simp only [World.size_alloc]; omega) | (simp; try omega)) _ | refine Below.alloc ?_ (by first | omega | (simp only [World.size_alloc]; omega) | (simp; try omega)) _))) (hb5.mono (by first | omega | (simp only [World.size_alloc]; omega) | (simp; done) | (simp; omega)))
        clear hb5 g0 g1 g2 g3 g4 g5 g6 g7 g8 g9 g10 g11 g12
        go_wp2_with fail
        go_ret
        exact ⟨by rw [HX.out]; rfl, HW.out.trans (B5.out.mono HW.out.size)⟩
    · have HX : Hid (z = true) := by show _ = _; rw [← HT.out]; exact allP_end R Q ps k (by rw [HN.out]; omega)
      go_wp2_with fail
      go_ret
      exact ⟨by rw [HX.out]; rfl, HW.out⟩

set_option maxRecDepth 100000 in
set_option maxHeartbeats 4000000 in
theorem rHolds_or (R Q : List V) (p : PT) (hop : p.op = 5) (IH : ∀ j (hj : j < p.args.length), RHoldsAt R Q p.args[j]) : RHoldsAt R Q p := by
  intro v rv qv w h hr hq
  rw [holds_or R Q p hop]
  obtain ⟨op, cmp, lk, li, lvk, lvn, lvs, rk, ri, rvk, rvn, rvs, ps, a, c, rfl, rfl, hp⟩ := pd_fields h
  obtain rfl : op = 5 := hop
  change ∀ j (hj : j < ps.length), RHoldsAt R Q ps[j] at IH
  change Calls _ _ _ _ (fun e w' => e = .returned (.bool (anyP R Q (ps.drop 0))) ∧ _)
  have HI := Lib.hid IH
  have HP := Lib.hid hp
  have HRR := Lib.hid hr
  have HQQ := Lib.hid hq
  obtain ⟨n, hn⟩ : ∃ n, ps.length = n := ⟨_, rfl⟩
  have HN := Lib.hid hn
  have hfew := hp.1.few
  rw [hn] at hfew
  obtain ⟨z, hz⟩ : ∃ z, anyP R Q (ps.drop 0) = z := ⟨_, rfl⟩
  have HZ : Hid (anyP R Q (ps.drop 0) = z) := hz
  rw [hz, hn]
  clear hr hq hp h IH hn hz
  go_enter Try.func18, Try.ntmps18
  go_wp2_with fail
  obtain ⟨wq, hwq⟩ : ∃ wq, w.alloc (.cells #[.int .i64 5, .int .i64 cmp, .int .i64 lk, .int .i64 li, .int .i64 lvk, .int .i64 lvn, .string lvs, .int .i64 rk, .int .i64 ri, .int .i64 rvk, .int .i64 rvn, .string rvs, .slice a n c] 29) = wq := ⟨_, rfl⟩
  have HB : Hid (Below w.heap.size w wq) := by rw [← hwq]; exact (Below.refl _ _).alloc (Nat.le_refl _) _
  have hc : wq.cell? ⟨w.heap.size, 12, none⟩ = some (.slice a n c) := by subst hwq; go_simp
  have hzq : w.heap.size + 1 ≤ wq.heap.size := by subst hwq; simp
  have HS : Hid (∀ W, Below (w.heap.size + 1) wq W → W.cell? ⟨w.heap.size, 12, none⟩ = some (.slice a n c)) := fun W hb => (hb.cell (p := ⟨w.heap.size, 12, none⟩) (show w.heap.size < _ by omega)).trans hc
  rw [hwq]
  clear hwq hc
  go_loopw [69] (fun i wr => ∃ k : Nat, k ≤ n ∧ i = .int .i64 k ∧ Hid (Below (w.heap.size + 1) wq wr) ∧ Hid (anyP R Q (ps.drop k) = z)) (fun i _ => n - (intOf i).toNat)
  case atStart => exact ⟨0, by omega, rfl, Below.refl _ _, HZ.out⟩
  case round =>
    obtain ⟨k, hk, rfl, HQ, HT⟩ := hrel
    have HW : Hid (Below w.heap.size w wr) := HB.out.trans (HQ.out.mono (by omega))
    have c12 := HS.out wr HQ.out
    have zq : w.heap.size + 1 ≤ wr.heap.size := by have := HQ.out.size; omega
    have zw : w.heap.size < wr.heap.size := by omega
    clear HB HZ HS
    by_cases hlt : k < n
    · have hlt' : (k : Int) < n := by omega
      have hkn : k < ps.length := by rw [HN.out]; exact hlt
      obtain ⟨b, o, a1, c1, rfl, -, hb, g0, g1, g2, g3, g4, g5, g6, g7, g8, g9, g10, g11, g12, hps⟩ := (HP.out.below HW.out).get hkn
      have HH : Hid (∀ W, Below wr.heap.size wr W → Calls Try.prog 18 #[.agg #[.int .i64 ps[k].op, .int .i64 ps[k].cmp, .int .i64 ps[k].l.k, .int .i64 ps[k].l.i, .int .i64 ps[k].l.v.k, .int .i64 ps[k].l.v.n, .string ps[k].l.v.s, .int .i64 ps[k].r.k, .int .i64 ps[k].r.i, .int .i64 ps[k].r.v.k, .int .i64 ps[k].r.v.n, .string ps[k].r.v.s, .slice a1 ps[k].args.length c1], rv, qv] W fun e w' => e = .returned (.bool (holdsP R Q ps[k])) ∧ Below W.heap.size W w') := fun W hb =>
        HI.out k hkn _ rv qv W ⟨a1, c1, rfl, hps.below hb⟩ ((HRR.out.blw HW.out).blw hb) ((HQQ.out.blw HW.out).blw hb)
      have HD : Hid (anyP R Q (ps.drop k) = (holdsP R Q ps[k] || anyP R Q (ps.drop (k + 1)))) := anyP_drop R Q ps k hkn
      clear hps
      generalize holdsP R Q ps[k] = y at *
      generalize ps[k].op = eop at *
      generalize ps[k].cmp = ecmp at *
      generalize ps[k].l.k = elk at *
      generalize ps[k].l.i = eli at *
      generalize ps[k].l.v.k = elvk at *
      generalize ps[k].l.v.n = elvn at *
      generalize ps[k].l.v.s = elvs at *
      generalize ps[k].r.k = erk at *
      generalize ps[k].r.i = eri at *
      generalize ps[k].r.v.k = ervk at *
      generalize ps[k].r.v.n = ervn at *
      generalize ps[k].r.v.s = ervs at *
      generalize ps[k].args.length = en at *
      cases y with
      | false =>
        have HX : Hid (anyP R Q (ps.drop (k + 1)) = z) := by show _ = _; rw [← HT.out, HD.out]; simp
        go_wp2_with fail
        refine (HH.out _ (by (repeat (first | exact Below.refl _ _ | assumption | refine Below.drew ?_ | refine Below.setCell ?_ (by first | omega | (simp only [World.size_alloc]; omega) | (simp; try omega)) _ | refine Below.alloc ?_ (by first | omega | (simp only [World.size_alloc]; omega) | (simp; try omega)) _)))).mono ?_
        rintro e w5 ⟨rfl, hb5⟩
        have B5 : Hid (Below wr.heap.size wr w5) := Below.trans (by (repeat (first | exact Below.refl _ _ | assumption | refine Below.drew ?_ | refine Below.setCell ?_ (by first | omega | (simp only [World.size_alloc]; omega) | (simp; try omega)) _ | refine Below.alloc ?_ (by first | omega | (simp only [World.size_alloc]; omega) | (simp; try omega)) _))) (hb5.mono (by first | omega | (simp only [World.size_alloc]; omega) | (simp; done) | (simp; omega)))
        clear hb5 g0 g1 g2 g3 g4 g5 g6 g7 g8 g9 g10 g11 g12
        go_wp2_with fail
        go_roundw
        case rel => exact ⟨k + 1, by omega, by go_num, HQ.out.trans (B5.out.mono zq), HX.out⟩
        case measure => simp [intOf]; omega
      | true =>
        have HX : Hid (z = true) := by show _ = _; rw [← HT.out, HD.out]; simp
        go_wp2_with fail
        refine (HH.out _ (by (repeat (first | exact Below.refl _ _ | assumption | refine Below.drew ?_ | refine Below.setCell ?_ (by first | omega | (simp only [World.size_alloc]; omega) | (simp; try omega)) _ | refine Below.alloc ?_ (by first | omega | (simp only [World.size_alloc]; omega) | (simp; try omega)) _)))).mono ?_
        rintro e w5 ⟨rfl, hb5⟩
        have B5 : Hid (Below wr.heap.size wr w5) := Below.trans (by (repeat (first | exact Below.refl _ _ | assumption | refine Below.drew ?_ | refine Below.setCell ?_ (by first | omega | (simp only [World.size_alloc]; omega) | (simp; try omega)) _ | refine Below.alloc ?_ (by first | omega | (simp only [World.size_alloc]; omega) | (simp; try omega)) _))) (hb5.mono (by first | omega | (simp only [World.size_alloc]; omega) | (simp; done) | (simp; omega)))
        clear hb5 g0 g1 g2 g3 g4 g5 g6 g7 g8 g9 g10 g11 g12
        go_wp2_with fail
        go_ret
        exact ⟨by rw [HX.out]; rfl, HW.out.trans (B5.out.mono HW.out.size)⟩
    · have HX : Hid (z = false) := by show _ = _; rw [← HT.out]; exact anyP_end R Q ps k (by rw [HN.out]; omega)
      go_wp2_with fail
      go_ret
      exact ⟨by rw [HX.out]; rfl, HW.out⟩

set_option maxRecDepth 100000 in
set_option maxHeartbeats 4000000 in
theorem rHolds_not (R Q : List V) (p : PT) (hop : p.op = 6) (IH : ∀ j (hj : j < p.args.length), RHoldsAt R Q p.args[j]) : RHoldsAt R Q p := by
  intro v rv qv w h hr hq
  rw [holds_not R Q p hop]
  obtain ⟨op, cmp, lk, li, lvk, lvn, lvs, rk, ri, rvk, rvn, rvs, ps, a, c, rfl, rfl, hp⟩ := pd_fields h
  obtain rfl : op = 6 := hop
  change ∀ j (hj : j < ps.length), RHoldsAt R Q ps[j] at IH
  change Calls _ _ _ _ (fun e w' => e = .returned (.bool (firstP R Q ps)) ∧ _)
  by_cases h0 : 0 < ps.length
  · rw [firstP_some R Q ps h0]
    have h0' : decide ((0 : Int) < ps.length) = true := by simp; omega
    obtain ⟨b, o, a1, c1, rfl, -, hb, g0, g1, g2, g3, g4, g5, g6, g7, g8, g9, g10, g11, g12, hps⟩ := hp.get h0
    have HH : Hid (∀ W, Below w.heap.size w W → Calls Try.prog 18 #[.agg #[.int .i64 ps[0].op, .int .i64 ps[0].cmp, .int .i64 ps[0].l.k, .int .i64 ps[0].l.i, .int .i64 ps[0].l.v.k, .int .i64 ps[0].l.v.n, .string ps[0].l.v.s, .int .i64 ps[0].r.k, .int .i64 ps[0].r.i, .int .i64 ps[0].r.v.k, .int .i64 ps[0].r.v.n, .string ps[0].r.v.s, .slice a1 ps[0].args.length c1], rv, qv] W fun e w' => e = .returned (.bool (holdsP R Q ps[0])) ∧ Below W.heap.size W w') := fun W hb =>
      IH 0 h0 _ rv qv W ⟨a1, c1, rfl, hps.below hb⟩ (hr.blw hb) (hq.blw hb)
    simp only [Nat.zero_mul, Nat.add_zero] at g0 g1 g2 g3 g4 g5 g6 g7 g8 g9 g10 g11 g12
    clear hps h hr hq hp IH
    generalize holdsP R Q ps[0] = y at *
    generalize ps[0].op = eop at *
    generalize ps[0].cmp = ecmp at *
    generalize ps[0].l.k = elk at *
    generalize ps[0].l.i = eli at *
    generalize ps[0].l.v.k = elvk at *
    generalize ps[0].l.v.n = elvn at *
    generalize ps[0].l.v.s = elvs at *
    generalize ps[0].r.k = erk at *
    generalize ps[0].r.i = eri at *
    generalize ps[0].r.v.k = ervk at *
    generalize ps[0].r.v.n = ervn at *
    generalize ps[0].r.v.s = ervs at *
    generalize ps[0].args.length = en at *
    generalize ps.length = n at *
    go_enter Try.func18, Try.ntmps18
    go_wp2_with fail
    refine (HH.out _ (by (repeat (first | exact Below.refl _ _ | assumption | refine Below.drew ?_ | refine Below.setCell ?_ (by first | omega | (simp only [World.size_alloc]; omega) | (simp; try omega)) _ | refine Below.alloc ?_ (by first | omega | (simp only [World.size_alloc]; omega) | (simp; try omega)) _)))).mono ?_
    rintro e w5 ⟨rfl, hb5⟩
    have B5 : Hid (Below w.heap.size w w5) := Below.trans (by (repeat (first | exact Below.refl _ _ | assumption | refine Below.drew ?_ | refine Below.setCell ?_ (by first | omega | (simp only [World.size_alloc]; omega) | (simp; try omega)) _ | refine Below.alloc ?_ (by first | omega | (simp only [World.size_alloc]; omega) | (simp; try omega)) _))) (hb5.mono (by first | omega | (simp only [World.size_alloc]; omega) | (simp; done) | (simp; omega)))
    clear hb5 g0 g1 g2 g3 g4 g5 g6 g7 g8 g9 g10 g11 g12
    go_wp2_with fail
    go_ret
    exact ⟨rfl, B5.out⟩
  · have hz : ps.length = 0 := by omega
    rw [firstP_none R Q ps hz, hz]
    clear hr hq hp h IH h0 hz
    go_enter Try.func18, Try.ntmps18
    go_wp2_with fail
    go_ret
    exact ⟨rfl, by (repeat (first | exact Below.refl _ _ | assumption | refine Below.drew ?_ | refine Below.setCell ?_ (by first | omega | (simp only [World.size_alloc]; omega) | (simp; try omega)) _ | refine Below.alloc ?_ (by first | omega | (simp only [World.size_alloc]; omega) | (simp; try omega)) _))⟩

theorem rHolds_any (R Q : List V) : ∀ (d : Nat) (p : PT), p.depth ≤ d → RHoldsAt R Q p
  | 0, p, hd => by have := p.depth_pos; omega
  | d + 1, p, hd => by
    have IH : ∀ j (hj : j < p.args.length), RHoldsAt R Q p.args[j] := fun j hj => rHolds_any R Q d _ (PT.depth_arg hj hd)
    by_cases h3 : p.op = 3
    · exact rHolds_cmp R Q p h3
    by_cases h4 : p.op = 4
    · exact rHolds_and R Q p h4 IH
    by_cases h5 : p.op = 5
    · exact rHolds_or R Q p h5 IH
    by_cases h6 : p.op = 6
    · exact rHolds_not R Q p h6 IH
    exact rHolds_plain R Q p ⟨h3, h4, h5, h6⟩
end Go.Proofs.Ytffeghlepblapaa
