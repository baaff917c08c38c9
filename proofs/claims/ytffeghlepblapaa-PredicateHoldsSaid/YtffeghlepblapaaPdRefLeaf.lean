
/- The reference's denoted, Compares. -/
import Derived.Test.YtffeghlepblapaaPdLeaf2

namespace Go.Proofs.Ytffeghlepblapaa

open Go.RowKit

/-- Does an operand denote something? -/
def denB (o : Od) (R Q : List V) : Bool := if o.k = 1 then inB R.length o.i else if o.k = 2 then inB Q.length o.i else o.k == 3
theorem den_zero {o : Od} {R Q : List V} (h : denB o R Q = false) : denV o R Q = zV := by
  unfold denB at h
  unfold denV
  by_cases h1 : o.k = 1
  · rw [if_pos h1] at h ⊢; exact atV_out h
  · rw [if_neg h1] at h ⊢
    by_cases h2 : o.k = 2
    · rw [if_pos h2] at h ⊢; exact atV_out h
    · rw [if_neg h2] at h ⊢
      rw [if_neg (by simpa using h)]


set_option maxRecDepth 100000 in
set_option maxHeartbeats 1000000 in
theorem rDenoted_1 (i vk vn : Int) (vs : ByteArray) (rv qv : Value) (R Q : List V) (w : World) (hr : RowAt w rv R) (hq : RowAt w qv Q) : Calls Try.prog 43 #[.agg #[.int .i64 1, .int .i64 i, .int .i64 vk, .int .i64 vn, .string vs], rv, qv] w fun e w' => e = .returned (.tuple #[vA (atV R i), .bool (inB R.length i)]) ∧ Below w.heap.size w w' := by
  obtain ⟨ar, cr, rfl, hlr, hir⟩ := hr
  obtain ⟨aq, cq, rfl, hlq, hiq⟩ := hq
  cases hin : inB R.length i with
  | true =>
    obtain ⟨k, rfl, hk⟩ := inB_true hin
    obtain ⟨b, off, rfl, hb, c0, c1, c2⟩ := hir k hk
    rw [atV_in hk]
    clear hir hiq hin
    generalize R[k] = v at *
    generalize R.length = n at *
    generalize Q.length = m at *
    obtain ⟨yk, yn, ys⟩ := v
    simp only at c0 c1 c2
    have d1 : decide (0 ≤ (k : Int)) = true := by simp
    have d2 : decide ((k : Int) < n) = true := by simp; omega
    have d3 : (0 : Int) ≤ k := by omega
    have hlt' : (k : Int) < n := by omega
    go_enter Try.func43, Try.ntmps43
    go_wp2_with fail
    exact bodyPost_ret (v := .tuple #[.agg #[.int .i64 yk, .int .i64 yn, .string ys], .bool true]) (by simp [results, Try.results43, go_sem]) rfl ⟨rfl, by (repeat (first | exact Below.refl _ _ | assumption | refine Below.drew ?_ | refine Below.setCell ?_ (by first | omega | (simp only [World.size_alloc]; omega) | (simp; try omega)) _ | refine Below.alloc ?_ (by first | omega | (simp only [World.size_alloc]; omega) | (simp; try omega)) _))⟩
  | false =>
    rw [atV_out hin]
    have hcs := inB_false hin
    clear hir hiq hin
    generalize R.length = n at *
    generalize Q.length = m at *
    by_cases h0 : i < 0
    · have d1 : decide (0 ≤ i) = false := by simp; omega
      clear hcs
      go_enter Try.func43, Try.ntmps43
      go_wp2_with fail
      exact bodyPost_ret (v := .tuple #[.agg #[.int .i64 0, .int .i64 0, .string ⟨#[]⟩], .bool false]) (by simp [results, Try.results43, go_sem]) rfl ⟨rfl, by (repeat (first | exact Below.refl _ _ | assumption | refine Below.drew ?_ | refine Below.setCell ?_ (by first | omega | (simp only [World.size_alloc]; omega) | (simp; try omega)) _ | refine Below.alloc ?_ (by first | omega | (simp only [World.size_alloc]; omega) | (simp; try omega)) _))⟩
    · have d1 : decide (0 ≤ i) = true := by simp; omega
      have d2 : decide (i < n) = false := by simp; omega
      clear hcs
      go_enter Try.func43, Try.ntmps43
      go_wp2_with fail
      exact bodyPost_ret (v := .tuple #[.agg #[.int .i64 0, .int .i64 0, .string ⟨#[]⟩], .bool false]) (by simp [results, Try.results43, go_sem]) rfl ⟨rfl, by (repeat (first | exact Below.refl _ _ | assumption | refine Below.drew ?_ | refine Below.setCell ?_ (by first | omega | (simp only [World.size_alloc]; omega) | (simp; try omega)) _ | refine Below.alloc ?_ (by first | omega | (simp only [World.size_alloc]; omega) | (simp; try omega)) _))⟩

set_option maxRecDepth 100000 in
set_option maxHeartbeats 1000000 in
theorem rDenoted_2 (i vk vn : Int) (vs : ByteArray) (rv qv : Value) (R Q : List V) (w : World) (hr : RowAt w rv R) (hq : RowAt w qv Q) : Calls Try.prog 43 #[.agg #[.int .i64 2, .int .i64 i, .int .i64 vk, .int .i64 vn, .string vs], rv, qv] w fun e w' => e = .returned (.tuple #[vA (atV Q i), .bool (inB Q.length i)]) ∧ Below w.heap.size w w' := by
  obtain ⟨ar, cr, rfl, hlr, hir⟩ := hr
  obtain ⟨aq, cq, rfl, hlq, hiq⟩ := hq
  cases hin : inB Q.length i with
  | true =>
    obtain ⟨k, rfl, hk⟩ := inB_true hin
    obtain ⟨b, off, rfl, hb, c0, c1, c2⟩ := hiq k hk
    rw [atV_in hk]
    clear hir hiq hin
    generalize Q[k] = v at *
    generalize R.length = n at *
    generalize Q.length = m at *
    obtain ⟨yk, yn, ys⟩ := v
    simp only at c0 c1 c2
    have d1 : decide (0 ≤ (k : Int)) = true := by simp
    have d2 : decide ((k : Int) < m) = true := by simp; omega
    have d3 : (0 : Int) ≤ k := by omega
    have hlt' : (k : Int) < m := by omega
    go_enter Try.func43, Try.ntmps43
    go_wp2_with fail
    exact bodyPost_ret (v := .tuple #[.agg #[.int .i64 yk, .int .i64 yn, .string ys], .bool true]) (by simp [results, Try.results43, go_sem]) rfl ⟨rfl, by (repeat (first | exact Below.refl _ _ | assumption | refine Below.drew ?_ | refine Below.setCell ?_ (by first | omega | (simp only [World.size_alloc]; omega) | (simp; try omega)) _ | refine Below.alloc ?_ (by first | omega | (simp only [World.size_alloc]; omega) | (simp; try omega)) _))⟩
  | false =>
    rw [atV_out hin]
    have hcs := inB_false hin
    clear hir hiq hin
    generalize R.length = n at *
    generalize Q.length = m at *
    by_cases h0 : i < 0
    · have d1 : decide (0 ≤ i) = false := by simp; omega
      clear hcs
      go_enter Try.func43, Try.ntmps43
      go_wp2_with fail
      exact bodyPost_ret (v := .tuple #[.agg #[.int .i64 0, .int .i64 0, .string ⟨#[]⟩], .bool false]) (by simp [results, Try.results43, go_sem]) rfl ⟨rfl, by (repeat (first | exact Below.refl _ _ | assumption | refine Below.drew ?_ | refine Below.setCell ?_ (by first | omega | (simp only [World.size_alloc]; omega) | (simp; try omega)) _ | refine Below.alloc ?_ (by first | omega | (simp only [World.size_alloc]; omega) | (simp; try omega)) _))⟩
    · have d1 : decide (0 ≤ i) = true := by simp; omega
      have d2 : decide (i < m) = false := by simp; omega
      clear hcs
      go_enter Try.func43, Try.ntmps43
      go_wp2_with fail
      exact bodyPost_ret (v := .tuple #[.agg #[.int .i64 0, .int .i64 0, .string ⟨#[]⟩], .bool false]) (by simp [results, Try.results43, go_sem]) rfl ⟨rfl, by (repeat (first | exact Below.refl _ _ | assumption | refine Below.drew ?_ | refine Below.setCell ?_ (by first | omega | (simp only [World.size_alloc]; omega) | (simp; try omega)) _ | refine Below.alloc ?_ (by first | omega | (simp only [World.size_alloc]; omega) | (simp; try omega)) _))⟩

set_option maxHeartbeats 1000000 in
theorem rDenoted_any (o : Od) (rv qv : Value) (R Q : List V) (w : World) (hr : RowAt w rv R) (hq : RowAt w qv Q) : Calls Try.prog 43 #[oA o, rv, qv] w fun e w' => e = .returned (.tuple #[vA (denV o R Q), .bool (denB o R Q)]) ∧ Below w.heap.size w w' := by
  unfold denV denB
  obtain ⟨ok, oi, ⟨vk, vn, vs⟩⟩ := o
  by_cases h1 : ok = 1
  · subst h1
    simp only [if_true]
    exact rDenoted_1 oi vk vn vs rv qv R Q w hr hq
  by_cases h2 : ok = 2
  · subst h2
    simp only [if_true, if_neg (show ¬ (2 : Int) = 1 by omega)]
    exact rDenoted_2 oi vk vn vs rv qv R Q w hr hq
  simp only [if_neg h1, if_neg h2]
  clear hr hq
  have b1 : (ok == 1) = false := by simpa using h1
  have b2 : (ok == 2) = false := by simpa using h2
  by_cases h3 : ok = 3
  · subst h3
    simp only [if_true, vA, oA]
    clear b1 b2
    go_enter Try.func43, Try.ntmps43
    go_wp2_with fail
    exact bodyPost_ret (v := .tuple #[.agg #[.int .i64 vk, .int .i64 vn, .string vs], .bool true]) (by simp [results, Try.results43, go_sem]) rfl ⟨rfl, by (repeat (first | exact Below.refl _ _ | assumption | refine Below.drew ?_ | refine Below.setCell ?_ (by first | omega | (simp only [World.size_alloc]; omega) | (simp; try omega)) _ | refine Below.alloc ?_ (by first | omega | (simp only [World.size_alloc]; omega) | (simp; try omega)) _))⟩
  · have b3 : (ok == 3) = false := by simpa using h3
    simp only [if_neg h3, vA, oA, b3]
    go_enter Try.func43, Try.ntmps43
    go_wp2_with fail
    exact bodyPost_ret (v := .tuple #[.agg #[.int .i64 0, .int .i64 0, .string ⟨#[]⟩], .bool false]) (by simp [results, Try.results43, go_sem]) rfl ⟨rfl, by (repeat (first | exact Below.refl _ _ | assumption | refine Below.drew ?_ | refine Below.setCell ?_ (by first | omega | (simp only [World.size_alloc]; omega) | (simp; try omega)) _ | refine Below.alloc ?_ (by first | omega | (simp only [World.size_alloc]; omega) | (simp; try omega)) _))⟩

set_option maxRecDepth 100000 in
set_option maxHeartbeats 4000000 in
theorem rCompares_any (c : Int) (a b : V) (w : World) : Calls Try.prog 44 #[.int .i64 c, vA a, vA b] w fun e w' => e = .returned (.bool (cmpsB c a b)) ∧ Below w.heap.size w w' := by
  have HA : Hid (∀ W, Calls Try.prog 65 #[vA a] W fun e w' => e = .returned (.bool (realV a)) ∧ Below W.heap.size W w') := fun W => (rReal_any _ _ _ W).mono fun _ _ ⟨x, y⟩ => ⟨x, y.below⟩
  have HB : Hid (∀ W, Calls Try.prog 65 #[vA b] W fun e w' => e = .returned (.bool (realV b)) ∧ Below W.heap.size W w') := fun W => (rReal_any _ _ _ W).mono fun _ _ ⟨x, y⟩ => ⟨x, y.below⟩
  have HC : Hid (∀ W, Calls Try.prog 66 #[vA a, vA b] W fun e w' => e = .returned (.int .i64 (cmpV a b)) ∧ Below W.heap.size W w') := fun W => (rCompare_any _ _ _ _ _ _ W).mono fun _ _ ⟨x, y⟩ => ⟨x, y.below⟩
  unfold cmpsB
  generalize realV a = ra at *
  generalize realV b = rb at *
  generalize cmpV a b = r at *
  obtain ⟨ak, an, as0⟩ := a
  obtain ⟨bk, bn, bs0⟩ := b
  simp only [vA] at *
  have cells : Hid (∀ W, Below (w.heap.size + 1 + 1) ((w.alloc (.cells #[.int .i64 ak, .int .i64 an, .string as0] 24)).alloc (.cells #[.int .i64 bk, .int .i64 bn, .string bs0] 24)) W → (W.cell? ⟨w.heap.size, 0, none⟩ = some (.int .i64 ak) ∧ W.cell? ⟨w.heap.size, 1, none⟩ = some (.int .i64 an) ∧ W.cell? ⟨w.heap.size, 2, none⟩ = some (.string as0)) ∧
      (W.cell? ⟨w.heap.size + 1, 0, none⟩ = some (.int .i64 bk) ∧ W.cell? ⟨w.heap.size + 1, 1, none⟩ = some (.int .i64 bn) ∧ W.cell? ⟨w.heap.size + 1, 2, none⟩ = some (.string bs0))) := fun W hb =>
    ⟨⟨(hb.cell (p := ⟨w.heap.size, 0, none⟩) (show w.heap.size < _ by omega)).trans (by go_simp), (hb.cell (p := ⟨w.heap.size, 1, none⟩) (show w.heap.size < _ by omega)).trans (by go_simp), (hb.cell (p := ⟨w.heap.size, 2, none⟩) (show w.heap.size < _ by omega)).trans (by go_simp)⟩,
     (hb.cell (p := ⟨w.heap.size + 1, 0, none⟩) (show w.heap.size + 1 < _ by omega)).trans (by go_simp), (hb.cell (p := ⟨w.heap.size + 1, 1, none⟩) (show w.heap.size + 1 < _ by omega)).trans (by go_simp), (hb.cell (p := ⟨w.heap.size + 1, 2, none⟩) (show w.heap.size + 1 < _ by omega)).trans (by go_simp)⟩
  cases ra with
  | false =>
    clear HB HC
    simp only [Bool.false_and, Bool.and_false]
    go_enter Try.func44, Try.ntmps44
    go_wp2_with fail
    refine (HA.out _).mono ?_
    rintro e w1 ⟨rfl, hb⟩
    have B1 : Hid (Below w.heap.size w w1) := Below.trans (by (repeat (first | exact Below.refl _ _ | assumption | refine Below.drew ?_ | refine Below.setCell ?_ (by first | omega | (simp only [World.size_alloc]; omega) | (simp; try omega)) _ | refine Below.alloc ?_ (by first | omega | (simp only [World.size_alloc]; omega) | (simp; try omega)) _))) (hb.mono (by simp only [World.size_alloc]; omega))
    clear hb
    go_wp2_with fail
    go_ret
    exact ⟨rfl, B1.out⟩
  | true =>
    simp only [Bool.true_and]
    cases rb with
    | false =>
      clear HC
      simp only [Bool.false_and, Bool.and_false]
      go_enter Try.func44, Try.ntmps44
      go_wp2_with fail
      refine (HA.out _).mono ?_
      rintro e w1 ⟨rfl, hb⟩
      have B1 : Hid (Below w.heap.size w w1) := Below.trans (by (repeat (first | exact Below.refl _ _ | assumption | refine Below.drew ?_ | refine Below.setCell ?_ (by first | omega | (simp only [World.size_alloc]; omega) | (simp; try omega)) _ | refine Below.alloc ?_ (by first | omega | (simp only [World.size_alloc]; omega) | (simp; try omega)) _))) (hb.mono (by simp only [World.size_alloc]; omega))
      have z1 := hb.size
      simp only [World.size_alloc] at hb z1
      obtain ⟨⟨a0, a1, a2⟩, c0, c1, c2⟩ := cells.out _ hb
      clear hb
      go_wp2_with fail
      refine (HB.out _).mono ?_
      rintro e w2 ⟨rfl, hb⟩
      have B2 : Hid (Below w.heap.size w w2) := B1.out.trans (hb.mono B1.out.size)
      clear hb
      go_wp2_with fail
      go_ret
      exact ⟨rfl, B2.out⟩
    | true =>
      simp only [Bool.true_and]
      cases hk : (ak == bk) with
      | false =>
        have hk' : (ak != bk) = true := by simpa using hk
        simp only [Bool.false_and]
        clear hk HC
        go_enter Try.func44, Try.ntmps44
        go_wp2_with fail
        refine (HA.out _).mono ?_
        rintro e w1 ⟨rfl, hb⟩
        have B1 : Hid (Below w.heap.size w w1) := Below.trans (by (repeat (first | exact Below.refl _ _ | assumption | refine Below.drew ?_ | refine Below.setCell ?_ (by first | omega | (simp only [World.size_alloc]; omega) | (simp; try omega)) _ | refine Below.alloc ?_ (by first | omega | (simp only [World.size_alloc]; omega) | (simp; try omega)) _))) (hb.mono (by simp only [World.size_alloc]; omega))
        have z1 := hb.size
        simp only [World.size_alloc] at hb z1
        have K1 := Lib.hid hb
        obtain ⟨⟨a0, a1, a2⟩, c0, c1, c2⟩ := cells.out _ hb
        clear hb
        go_wp2_with fail
        refine (HB.out _).mono ?_
        rintro e w2 ⟨rfl, hb⟩
        have B2 : Hid (Below w.heap.size w w2) := B1.out.trans (hb.mono B1.out.size)
        have K2 := K1.out.trans (hb.mono z1)
        clear a0 a1 a2 c0 c1 c2
        obtain ⟨⟨a0, a1, a2⟩, c0, c1, c2⟩ := cells.out _ K2
        clear hb K2
        go_wp2_with fail
        go_ret
        exact ⟨rfl, B2.out⟩
      | true =>
        have hk' : (ak != bk) = false := by simpa using hk
        simp only [Bool.true_and]
        clear hk
        have hc : c = 1 ∨ c = 2 ∨ c = 3 ∨ c = 4 ∨ c = 5 ∨ c = 6 ∨ (c ≠ 1 ∧ c ≠ 2 ∧ c ≠ 3 ∧ c ≠ 4 ∧ c ≠ 5 ∧ c ≠ 6) := by omega
        rcases hc with rfl | rfl | rfl | rfl | rfl | rfl | ⟨n1, n2, n3, n4, n5, n6⟩
        · rw [show testB 1 r = (r == 0) from rfl]
          skip
          skip
          go_enter Try.func44, Try.ntmps44
          go_wp2_with fail
          refine (HA.out _).mono ?_
          rintro e w1 ⟨rfl, hb⟩
          have B1 : Hid (Below w.heap.size w w1) := Below.trans (by (repeat (first | exact Below.refl _ _ | assumption | refine Below.drew ?_ | refine Below.setCell ?_ (by first | omega | (simp only [World.size_alloc]; omega) | (simp; try omega)) _ | refine Below.alloc ?_ (by first | omega | (simp only [World.size_alloc]; omega) | (simp; try omega)) _))) (hb.mono (by simp only [World.size_alloc]; omega))
          have z1 := hb.size
          simp only [World.size_alloc] at hb z1
          have K1 := Lib.hid hb
          obtain ⟨⟨a0, a1, a2⟩, c0, c1, c2⟩ := cells.out _ hb
          clear hb
          go_wp2_with fail
          refine (HB.out _).mono ?_
          rintro e w2 ⟨rfl, hb⟩
          have B2 : Hid (Below w.heap.size w w2) := B1.out.trans (hb.mono B1.out.size)
          have K2 := K1.out.trans (hb.mono z1)
          clear a0 a1 a2 c0 c1 c2
          obtain ⟨⟨a0, a1, a2⟩, c0, c1, c2⟩ := cells.out _ K2
          clear hb K2
          go_wp2_with fail
          refine (HC.out _).mono ?_
          rintro e w4 ⟨rfl, hb⟩
          have B4 : Hid (Below w.heap.size w w4) := B2.out.trans (hb.mono B2.out.size)
          clear hb a0 a1 a2 c0 c1 c2
          go_wp2_with fail
          go_ret
          exact ⟨rfl, B4.out⟩
        · rw [show testB 2 r = (r != 0) from rfl]
          skip
          skip
          go_enter Try.func44, Try.ntmps44
          go_wp2_with fail
          refine (HA.out _).mono ?_
          rintro e w1 ⟨rfl, hb⟩
          have B1 : Hid (Below w.heap.size w w1) := Below.trans (by (repeat (first | exact Below.refl _ _ | assumption | refine Below.drew ?_ | refine Below.setCell ?_ (by first | omega | (simp only [World.size_alloc]; omega) | (simp; try omega)) _ | refine Below.alloc ?_ (by first | omega | (simp only [World.size_alloc]; omega) | (simp; try omega)) _))) (hb.mono (by simp only [World.size_alloc]; omega))
          have z1 := hb.size
          simp only [World.size_alloc] at hb z1
          have K1 := Lib.hid hb
          obtain ⟨⟨a0, a1, a2⟩, c0, c1, c2⟩ := cells.out _ hb
          clear hb
          go_wp2_with fail
          refine (HB.out _).mono ?_
          rintro e w2 ⟨rfl, hb⟩
          have B2 : Hid (Below w.heap.size w w2) := B1.out.trans (hb.mono B1.out.size)
          have K2 := K1.out.trans (hb.mono z1)
          clear a0 a1 a2 c0 c1 c2
          obtain ⟨⟨a0, a1, a2⟩, c0, c1, c2⟩ := cells.out _ K2
          clear hb K2
          go_wp2_with fail
          refine (HC.out _).mono ?_
          rintro e w4 ⟨rfl, hb⟩
          have B4 : Hid (Below w.heap.size w w4) := B2.out.trans (hb.mono B2.out.size)
          clear hb a0 a1 a2 c0 c1 c2
          go_wp2_with fail
          go_ret
          exact ⟨rfl, B4.out⟩
        · rw [show testB 3 r = (decide (r < 0)) from rfl]
          skip
          skip
          go_enter Try.func44, Try.ntmps44
          go_wp2_with fail
          refine (HA.out _).mono ?_
          rintro e w1 ⟨rfl, hb⟩
          have B1 : Hid (Below w.heap.size w w1) := Below.trans (by (repeat (first | exact Below.refl _ _ | assumption | refine Below.drew ?_ | refine Below.setCell ?_ (by first | omega | (simp only [World.size_alloc]; omega) | (simp; try omega)) _ | refine Below.alloc ?_ (by first | omega | (simp only [World.size_alloc]; omega) | (simp; try omega)) _))) (hb.mono (by simp only [World.size_alloc]; omega))
          have z1 := hb.size
          simp only [World.size_alloc] at hb z1
          have K1 := Lib.hid hb
          obtain ⟨⟨a0, a1, a2⟩, c0, c1, c2⟩ := cells.out _ hb
          clear hb
          go_wp2_with fail
          refine (HB.out _).mono ?_
          rintro e w2 ⟨rfl, hb⟩
          have B2 : Hid (Below w.heap.size w w2) := B1.out.trans (hb.mono B1.out.size)
          have K2 := K1.out.trans (hb.mono z1)
          clear a0 a1 a2 c0 c1 c2
          obtain ⟨⟨a0, a1, a2⟩, c0, c1, c2⟩ := cells.out _ K2
          clear hb K2
          go_wp2_with fail
          refine (HC.out _).mono ?_
          rintro e w4 ⟨rfl, hb⟩
          have B4 : Hid (Below w.heap.size w w4) := B2.out.trans (hb.mono B2.out.size)
          clear hb a0 a1 a2 c0 c1 c2
          go_wp2_with fail
          go_ret
          exact ⟨rfl, B4.out⟩
        · rw [show testB 4 r = (decide (r ≤ 0)) from rfl]
          skip
          skip
          go_enter Try.func44, Try.ntmps44
          go_wp2_with fail
          refine (HA.out _).mono ?_
          rintro e w1 ⟨rfl, hb⟩
          have B1 : Hid (Below w.heap.size w w1) := Below.trans (by (repeat (first | exact Below.refl _ _ | assumption | refine Below.drew ?_ | refine Below.setCell ?_ (by first | omega | (simp only [World.size_alloc]; omega) | (simp; try omega)) _ | refine Below.alloc ?_ (by first | omega | (simp only [World.size_alloc]; omega) | (simp; try omega)) _))) (hb.mono (by simp only [World.size_alloc]; omega))
          have z1 := hb.size
          simp only [World.size_alloc] at hb z1
          have K1 := Lib.hid hb
          obtain ⟨⟨a0, a1, a2⟩, c0, c1, c2⟩ := cells.out _ hb
          clear hb
          go_wp2_with fail
          refine (HB.out _).mono ?_
          rintro e w2 ⟨rfl, hb⟩
          have B2 : Hid (Below w.heap.size w w2) := B1.out.trans (hb.mono B1.out.size)
          have K2 := K1.out.trans (hb.mono z1)
          clear a0 a1 a2 c0 c1 c2
          obtain ⟨⟨a0, a1, a2⟩, c0, c1, c2⟩ := cells.out _ K2
          clear hb K2
          go_wp2_with fail
          refine (HC.out _).mono ?_
          rintro e w4 ⟨rfl, hb⟩
          have B4 : Hid (Below w.heap.size w w4) := B2.out.trans (hb.mono B2.out.size)
          clear hb a0 a1 a2 c0 c1 c2
          go_wp2_with fail
          go_ret
          exact ⟨rfl, B4.out⟩
        · rw [show testB 5 r = (decide (0 < r)) from rfl]
          skip
          skip
          go_enter Try.func44, Try.ntmps44
          go_wp2_with fail
          refine (HA.out _).mono ?_
          rintro e w1 ⟨rfl, hb⟩
          have B1 : Hid (Below w.heap.size w w1) := Below.trans (by (repeat (first | exact Below.refl _ _ | assumption | refine Below.drew ?_ | refine Below.setCell ?_ (by first | omega | (simp only [World.size_alloc]; omega) | (simp; try omega)) _ | refine Below.alloc ?_ (by first | omega | (simp only [World.size_alloc]; omega) | (simp; try omega)) _))) (hb.mono (by simp only [World.size_alloc]; omega))
          have z1 := hb.size
          simp only [World.size_alloc] at hb z1
          have K1 := Lib.hid hb
          obtain ⟨⟨a0, a1, a2⟩, c0, c1, c2⟩ := cells.out _ hb
          clear hb
          go_wp2_with fail
          refine (HB.out _).mono ?_
          rintro e w2 ⟨rfl, hb⟩
          have B2 : Hid (Below w.heap.size w w2) := B1.out.trans (hb.mono B1.out.size)
          have K2 := K1.out.trans (hb.mono z1)
          clear a0 a1 a2 c0 c1 c2
          obtain ⟨⟨a0, a1, a2⟩, c0, c1, c2⟩ := cells.out _ K2
          clear hb K2
          go_wp2_with fail
          refine (HC.out _).mono ?_
          rintro e w4 ⟨rfl, hb⟩
          have B4 : Hid (Below w.heap.size w w4) := B2.out.trans (hb.mono B2.out.size)
          clear hb a0 a1 a2 c0 c1 c2
          go_wp2_with fail
          go_ret
          exact ⟨rfl, B4.out⟩
        · rw [show testB 6 r = (decide (0 ≤ r)) from rfl]
          skip
          skip
          go_enter Try.func44, Try.ntmps44
          go_wp2_with fail
          refine (HA.out _).mono ?_
          rintro e w1 ⟨rfl, hb⟩
          have B1 : Hid (Below w.heap.size w w1) := Below.trans (by (repeat (first | exact Below.refl _ _ | assumption | refine Below.drew ?_ | refine Below.setCell ?_ (by first | omega | (simp only [World.size_alloc]; omega) | (simp; try omega)) _ | refine Below.alloc ?_ (by first | omega | (simp only [World.size_alloc]; omega) | (simp; try omega)) _))) (hb.mono (by simp only [World.size_alloc]; omega))
          have z1 := hb.size
          simp only [World.size_alloc] at hb z1
          have K1 := Lib.hid hb
          obtain ⟨⟨a0, a1, a2⟩, c0, c1, c2⟩ := cells.out _ hb
          clear hb
          go_wp2_with fail
          refine (HB.out _).mono ?_
          rintro e w2 ⟨rfl, hb⟩
          have B2 : Hid (Below w.heap.size w w2) := B1.out.trans (hb.mono B1.out.size)
          have K2 := K1.out.trans (hb.mono z1)
          clear a0 a1 a2 c0 c1 c2
          obtain ⟨⟨a0, a1, a2⟩, c0, c1, c2⟩ := cells.out _ K2
          clear hb K2
          go_wp2_with fail
          refine (HC.out _).mono ?_
          rintro e w4 ⟨rfl, hb⟩
          have B4 : Hid (Below w.heap.size w w4) := B2.out.trans (hb.mono B2.out.size)
          clear hb a0 a1 a2 c0 c1 c2
          go_wp2_with fail
          go_ret
          exact ⟨rfl, B4.out⟩
        · rw [show testB c r = (false) from by unfold testB; rw [if_neg n1, if_neg n2, if_neg n3, if_neg n4, if_neg n5, if_neg n6]]
          have b1 : (c == 1) = false := by simpa using n1
          have b2 : (c == 2) = false := by simpa using n2
          have b3 : (c == 3) = false := by simpa using n3
          have b4 : (c == 4) = false := by simpa using n4
          have b5 : (c == 5) = false := by simpa using n5
          have b6 : (c == 6) = false := by simpa using n6
          clear n1 n2 n3 n4 n5 n6
          go_enter Try.func44, Try.ntmps44
          go_wp2_with fail
          refine (HA.out _).mono ?_
          rintro e w1 ⟨rfl, hb⟩
          have B1 : Hid (Below w.heap.size w w1) := Below.trans (by (repeat (first | exact Below.refl _ _ | assumption | refine Below.drew ?_ | refine Below.setCell ?_ (by first | omega | (simp only [World.size_alloc]; omega) | (simp; try omega)) _ | refine Below.alloc ?_ (by first | omega | (simp only [World.size_alloc]; omega) | (simp; try omega)) _))) (hb.mono (by simp only [World.size_alloc]; omega))
          have z1 := hb.size
          simp only [World.size_alloc] at hb z1
          have K1 := Lib.hid hb
          obtain ⟨⟨a0, a1, a2⟩, c0, c1, c2⟩ := cells.out _ hb
          clear hb
          go_wp2_with fail
          refine (HB.out _).mono ?_
          rintro e w2 ⟨rfl, hb⟩
          have B2 : Hid (Below w.heap.size w w2) := B1.out.trans (hb.mono B1.out.size)
          have K2 := K1.out.trans (hb.mono z1)
          clear a0 a1 a2 c0 c1 c2
          obtain ⟨⟨a0, a1, a2⟩, c0, c1, c2⟩ := cells.out _ K2
          clear hb K2
          go_wp2_with fail
          refine (HC.out _).mono ?_
          rintro e w4 ⟨rfl, hb⟩
          have B4 : Hid (Below w.heap.size w w4) := B2.out.trans (hb.mono B2.out.size)
          clear hb a0 a1 a2 c0 c1 c2
          go_wp2_with fail
          go_ret
          exact ⟨rfl, B4.out⟩
end Go.Proofs.Ytffeghlepblapaa
