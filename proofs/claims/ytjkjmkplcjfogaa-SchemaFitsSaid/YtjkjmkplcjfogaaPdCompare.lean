
/- predicate.compare; the reference's Compares. -/
import Derived.Test.YtjkjmkplcjfogaaPdLeaf

namespace Go.Proofs.Ytjkjmkplcjfogaa

open Go.RowKit

set_option maxRecDepth 100000 in
set_option maxHeartbeats 4000000 in
theorem pCompare_any (c : Int) (a b : V) (w : World) : Calls Try.prog 51 #[vA a, .int .i64 c, vA b] w fun e w' => e = .returned (.bool (cmpsB c a b)) ∧ Below w.heap.size w w' := by
  have HA : Hid (∀ W, Calls Try.prog 80 #[vA a] W fun e w' => e = .returned (.bool (realV a)) ∧ Below W.heap.size W w') := fun W => (vReal_any _ _ _ W).mono fun _ _ ⟨x, y⟩ => ⟨x, y.below⟩
  have HB : Hid (∀ W, Calls Try.prog 80 #[vA b] W fun e w' => e = .returned (.bool (realV b)) ∧ Below W.heap.size W w') := fun W => (vReal_any _ _ _ W).mono fun _ _ ⟨x, y⟩ => ⟨x, y.below⟩
  have HC : Hid (∀ W, Calls Try.prog 82 #[vA a, vA b] W fun e w' => e = .returned (.int .i64 (cmpV a b)) ∧ Below W.heap.size W w') := fun W => (vCompare_any _ _ _ _ _ _ W).mono fun _ _ ⟨x, y⟩ => ⟨x, y.below⟩
  have HT : Hid (∀ W, Calls Try.prog 81 #[.int .i64 c] W fun e w' => e = .returned (tstF c) ∧ Below W.heap.size W w') := pComparison_any c
  unfold cmpsB
  generalize realV a = ra at *
  generalize realV b = rb at *
  generalize cmpV a b = r at *
  obtain ⟨ak, an, as0⟩ := a
  obtain ⟨bk, bn, bs0⟩ := b
  simp only [vA] at *
  cases hk : (ak == bk) with
  | false =>
    have hk' : (ak != bk) = true := by simpa using hk
    simp only [Bool.false_and]
    clear hk HA HB HC HT
    go_enter Try.func51, Try.ntmps51
    go_wp2_with fail
    go_ret
    exact ⟨rfl, by (repeat (first | exact Below.refl _ _ | assumption | refine Below.drew ?_ | refine Below.setCell ?_ (by first | omega | (simp only [World.size_alloc]; omega) | (simp; try omega)) _ | refine Below.alloc ?_ (by first | omega | (simp only [World.size_alloc]; omega) | (simp; try omega)) _))⟩
  | true =>
    have hk' : (ak != bk) = false := by simpa using hk
    simp only [Bool.true_and]
    have cells : Hid (∀ W, Below (w.heap.size + 1 + 1) ((w.alloc (.cells #[.int .i64 ak, .int .i64 an, .string as0] 24)).alloc (.cells #[.int .i64 bk, .int .i64 bn, .string bs0] 24)) W → (W.cell? ⟨w.heap.size, 0, none⟩ = some (.int .i64 ak) ∧ W.cell? ⟨w.heap.size, 1, none⟩ = some (.int .i64 an) ∧ W.cell? ⟨w.heap.size, 2, none⟩ = some (.string as0)) ∧
        (W.cell? ⟨w.heap.size + 1, 0, none⟩ = some (.int .i64 bk) ∧ W.cell? ⟨w.heap.size + 1, 1, none⟩ = some (.int .i64 bn) ∧ W.cell? ⟨w.heap.size + 1, 2, none⟩ = some (.string bs0))) := fun W hb =>
      ⟨⟨(hb.cell (p := ⟨w.heap.size, 0, none⟩) (show w.heap.size < _ by omega)).trans (by go_simp), (hb.cell (p := ⟨w.heap.size, 1, none⟩) (show w.heap.size < _ by omega)).trans (by go_simp), (hb.cell (p := ⟨w.heap.size, 2, none⟩) (show w.heap.size < _ by omega)).trans (by go_simp)⟩,
       (hb.cell (p := ⟨w.heap.size + 1, 0, none⟩) (show w.heap.size + 1 < _ by omega)).trans (by go_simp), (hb.cell (p := ⟨w.heap.size + 1, 1, none⟩) (show w.heap.size + 1 < _ by omega)).trans (by go_simp), (hb.cell (p := ⟨w.heap.size + 1, 2, none⟩) (show w.heap.size + 1 < _ by omega)).trans (by go_simp)⟩
    clear hk
    cases ra with
    | false =>
      clear HB HC HT
      simp only [Bool.false_and]
      go_enter Try.func51, Try.ntmps51
      go_wp2_with fail
      refine (HA.out _).mono ?_
      rintro e w1 ⟨rfl, hb⟩
      have B1 : Hid (Below w.heap.size w w1) := Below.trans (by (repeat (first | exact Below.refl _ _ | assumption | refine Below.drew ?_ | refine Below.setCell ?_ (by first | omega | (simp only [World.size_alloc]; omega) | (simp; try omega)) _ | refine Below.alloc ?_ (by first | omega | (simp only [World.size_alloc]; omega) | (simp; try omega)) _))) (hb.mono (by simp only [World.size_alloc]; omega))
      clear hb
      go_wp2_with fail
      go_ret
      exact ⟨rfl, B1.out⟩
    | true =>
      simp only [Bool.true_and]
      cases rb with
      | false =>
        clear HC HT
        simp only [Bool.false_and]
        go_enter Try.func51, Try.ntmps51
        go_wp2_with fail
        refine (HA.out _).mono ?_
        rintro e w1 ⟨rfl, hb⟩
        have B1 : Hid (Below w.heap.size w w1) := Below.trans (by (repeat (first | exact Below.refl _ _ | assumption | refine Below.drew ?_ | refine Below.setCell ?_ (by first | omega | (simp only [World.size_alloc]; omega) | (simp; try omega)) _ | refine Below.alloc ?_ (by first | omega | (simp only [World.size_alloc]; omega) | (simp; try omega)) _))) (hb.mono (by simp only [World.size_alloc]; omega))
        have z1 := hb.size
        simp only [World.size_alloc] at hb z1
        obtain ⟨⟨a0, a1, a2⟩, c0, c1, c2⟩ := cells.out _ hb
        clear hb
        go_wp2_with fail
        refine (HB.out _).mono ?_
        rintro e w2 ⟨rfl, hb⟩
        have B2 : Hid (Below w.heap.size w w2) := B1.out.trans (hb.mono B1.out.size)
        clear hb
        go_wp2_with fail
        go_ret
        exact ⟨rfl, B2.out⟩
      | true =>
        simp only [Bool.true_and]
        have hc : c = 1 ∨ c = 2 ∨ c = 3 ∨ c = 4 ∨ c = 5 ∨ c = 6 ∨ (c ≠ 1 ∧ c ≠ 2 ∧ c ≠ 3 ∧ c ≠ 4 ∧ c ≠ 5 ∧ c ≠ 6) := by omega
        rcases hc with rfl | rfl | rfl | rfl | rfl | rfl | ⟨n1, n2, n3, n4, n5, n6⟩
        · rw [show tstF 1 = .func (.func 103) #[] #[] from rfl] at HT
          rw [show testB 1 r = (r == 0) from rfl]
          skip
          have nn : ∀ w, (binOp .neq 115 (.func (.func 103) #[] #[]) .nilFunc).run Try.prog w = .ok (.bool true) w := fun _ => by kernel_rfl
          go_enter Try.func51, Try.ntmps51
          go_wp2_with fail
          refine (HA.out _).mono ?_
          rintro e w1 ⟨rfl, hb⟩
          have B1 : Hid (Below w.heap.size w w1) := Below.trans (by (repeat (first | exact Below.refl _ _ | assumption | refine Below.drew ?_ | refine Below.setCell ?_ (by first | omega | (simp only [World.size_alloc]; omega) | (simp; try omega)) _ | refine Below.alloc ?_ (by first | omega | (simp only [World.size_alloc]; omega) | (simp; try omega)) _))) (hb.mono (by simp only [World.size_alloc]; omega))
          have z1 := hb.size
          simp only [World.size_alloc] at hb z1
          have K1 := Lib.hid hb
          obtain ⟨⟨a0, a1, a2⟩, c0, c1, c2⟩ := cells.out _ hb
          clear hb
          go_wp2_with fail
          refine (HB.out _).mono ?_
          rintro e w2 ⟨rfl, hb⟩
          have B2 : Hid (Below w.heap.size w w2) := B1.out.trans (hb.mono B1.out.size)
          have z2 : w.heap.size + 1 + 1 ≤ w2.heap.size := by have := hb.size; omega
          have K2 := Lib.hid (K1.out.trans (hb.mono z1))
          clear hb a0 a1 a2 c0 c1 c2
          go_wp2_with fail
          refine (HT.out _).mono ?_
          rintro e w3 ⟨rfl, hb⟩
          have B3 : Hid (Below w.heap.size w w3) := B2.out.trans (hb.mono B2.out.size)
          have z3 : w.heap.size + 1 + 1 ≤ w3.heap.size := by have := hb.size; omega
          have K3 := Lib.hid (K2.out.trans (hb.mono z2))
          obtain ⟨⟨a0, a1, a2⟩, c0, c1, c2⟩ := cells.out _ K3.out
          clear hb
          go_wp2_with fail
          refine (HC.out _).mono ?_
          rintro e w4 ⟨rfl, hb⟩
          have B4 : Hid (Below w.heap.size w w4) := B3.out.trans (hb.mono B3.out.size)
          clear hb a0 a1 a2 c0 c1 c2
          go_wp2_with fail
          refine (pEqual_any r _).mono ?_
          rintro e w5 ⟨rfl, rfl⟩
          go_wp2_with fail
          go_ret
          exact ⟨rfl, B4.out⟩
        · rw [show tstF 2 = .func (.func 104) #[] #[] from rfl] at HT
          rw [show testB 2 r = (r != 0) from rfl]
          skip
          have nn : ∀ w, (binOp .neq 115 (.func (.func 104) #[] #[]) .nilFunc).run Try.prog w = .ok (.bool true) w := fun _ => by kernel_rfl
          go_enter Try.func51, Try.ntmps51
          go_wp2_with fail
          refine (HA.out _).mono ?_
          rintro e w1 ⟨rfl, hb⟩
          have B1 : Hid (Below w.heap.size w w1) := Below.trans (by (repeat (first | exact Below.refl _ _ | assumption | refine Below.drew ?_ | refine Below.setCell ?_ (by first | omega | (simp only [World.size_alloc]; omega) | (simp; try omega)) _ | refine Below.alloc ?_ (by first | omega | (simp only [World.size_alloc]; omega) | (simp; try omega)) _))) (hb.mono (by simp only [World.size_alloc]; omega))
          have z1 := hb.size
          simp only [World.size_alloc] at hb z1
          have K1 := Lib.hid hb
          obtain ⟨⟨a0, a1, a2⟩, c0, c1, c2⟩ := cells.out _ hb
          clear hb
          go_wp2_with fail
          refine (HB.out _).mono ?_
          rintro e w2 ⟨rfl, hb⟩
          have B2 : Hid (Below w.heap.size w w2) := B1.out.trans (hb.mono B1.out.size)
          have z2 : w.heap.size + 1 + 1 ≤ w2.heap.size := by have := hb.size; omega
          have K2 := Lib.hid (K1.out.trans (hb.mono z1))
          clear hb a0 a1 a2 c0 c1 c2
          go_wp2_with fail
          refine (HT.out _).mono ?_
          rintro e w3 ⟨rfl, hb⟩
          have B3 : Hid (Below w.heap.size w w3) := B2.out.trans (hb.mono B2.out.size)
          have z3 : w.heap.size + 1 + 1 ≤ w3.heap.size := by have := hb.size; omega
          have K3 := Lib.hid (K2.out.trans (hb.mono z2))
          obtain ⟨⟨a0, a1, a2⟩, c0, c1, c2⟩ := cells.out _ K3.out
          clear hb
          go_wp2_with fail
          refine (HC.out _).mono ?_
          rintro e w4 ⟨rfl, hb⟩
          have B4 : Hid (Below w.heap.size w w4) := B3.out.trans (hb.mono B3.out.size)
          clear hb a0 a1 a2 c0 c1 c2
          go_wp2_with fail
          refine (pOther_any r _).mono ?_
          rintro e w5 ⟨rfl, rfl⟩
          go_wp2_with fail
          go_ret
          exact ⟨rfl, B4.out⟩
        · rw [show tstF 3 = .func (.func 105) #[] #[] from rfl] at HT
          rw [show testB 3 r = (decide (r < 0)) from rfl]
          skip
          have nn : ∀ w, (binOp .neq 115 (.func (.func 105) #[] #[]) .nilFunc).run Try.prog w = .ok (.bool true) w := fun _ => by kernel_rfl
          go_enter Try.func51, Try.ntmps51
          go_wp2_with fail
          refine (HA.out _).mono ?_
          rintro e w1 ⟨rfl, hb⟩
          have B1 : Hid (Below w.heap.size w w1) := Below.trans (by (repeat (first | exact Below.refl _ _ | assumption | refine Below.drew ?_ | refine Below.setCell ?_ (by first | omega | (simp only [World.size_alloc]; omega) | (simp; try omega)) _ | refine Below.alloc ?_ (by first | omega | (simp only [World.size_alloc]; omega) | (simp; try omega)) _))) (hb.mono (by simp only [World.size_alloc]; omega))
          have z1 := hb.size
          simp only [World.size_alloc] at hb z1
          have K1 := Lib.hid hb
          obtain ⟨⟨a0, a1, a2⟩, c0, c1, c2⟩ := cells.out _ hb
          clear hb
          go_wp2_with fail
          refine (HB.out _).mono ?_
          rintro e w2 ⟨rfl, hb⟩
          have B2 : Hid (Below w.heap.size w w2) := B1.out.trans (hb.mono B1.out.size)
          have z2 : w.heap.size + 1 + 1 ≤ w2.heap.size := by have := hb.size; omega
          have K2 := Lib.hid (K1.out.trans (hb.mono z1))
          clear hb a0 a1 a2 c0 c1 c2
          go_wp2_with fail
          refine (HT.out _).mono ?_
          rintro e w3 ⟨rfl, hb⟩
          have B3 : Hid (Below w.heap.size w w3) := B2.out.trans (hb.mono B2.out.size)
          have z3 : w.heap.size + 1 + 1 ≤ w3.heap.size := by have := hb.size; omega
          have K3 := Lib.hid (K2.out.trans (hb.mono z2))
          obtain ⟨⟨a0, a1, a2⟩, c0, c1, c2⟩ := cells.out _ K3.out
          clear hb
          go_wp2_with fail
          refine (HC.out _).mono ?_
          rintro e w4 ⟨rfl, hb⟩
          have B4 : Hid (Below w.heap.size w w4) := B3.out.trans (hb.mono B3.out.size)
          clear hb a0 a1 a2 c0 c1 c2
          go_wp2_with fail
          refine (pLess_any r _).mono ?_
          rintro e w5 ⟨rfl, rfl⟩
          go_wp2_with fail
          go_ret
          exact ⟨rfl, B4.out⟩
        · rw [show tstF 4 = .func (.func 106) #[] #[] from rfl] at HT
          rw [show testB 4 r = (decide (r ≤ 0)) from rfl]
          skip
          have nn : ∀ w, (binOp .neq 115 (.func (.func 106) #[] #[]) .nilFunc).run Try.prog w = .ok (.bool true) w := fun _ => by kernel_rfl
          go_enter Try.func51, Try.ntmps51
          go_wp2_with fail
          refine (HA.out _).mono ?_
          rintro e w1 ⟨rfl, hb⟩
          have B1 : Hid (Below w.heap.size w w1) := Below.trans (by (repeat (first | exact Below.refl _ _ | assumption | refine Below.drew ?_ | refine Below.setCell ?_ (by first | omega | (simp only [World.size_alloc]; omega) | (simp; try omega)) _ | refine Below.alloc ?_ (by first | omega | (simp only [World.size_alloc]; omega) | (simp; try omega)) _))) (hb.mono (by simp only [World.size_alloc]; omega))
          have z1 := hb.size
          simp only [World.size_alloc] at hb z1
          have K1 := Lib.hid hb
          obtain ⟨⟨a0, a1, a2⟩, c0, c1, c2⟩ := cells.out _ hb
          clear hb
          go_wp2_with fail
          refine (HB.out _).mono ?_
          rintro e w2 ⟨rfl, hb⟩
          have B2 : Hid (Below w.heap.size w w2) := B1.out.trans (hb.mono B1.out.size)
          have z2 : w.heap.size + 1 + 1 ≤ w2.heap.size := by have := hb.size; omega
          have K2 := Lib.hid (K1.out.trans (hb.mono z1))
          clear hb a0 a1 a2 c0 c1 c2
          go_wp2_with fail
          refine (HT.out _).mono ?_
          rintro e w3 ⟨rfl, hb⟩
          have B3 : Hid (Below w.heap.size w w3) := B2.out.trans (hb.mono B2.out.size)
          have z3 : w.heap.size + 1 + 1 ≤ w3.heap.size := by have := hb.size; omega
          have K3 := Lib.hid (K2.out.trans (hb.mono z2))
          obtain ⟨⟨a0, a1, a2⟩, c0, c1, c2⟩ := cells.out _ K3.out
          clear hb
          go_wp2_with fail
          refine (HC.out _).mono ?_
          rintro e w4 ⟨rfl, hb⟩
          have B4 : Hid (Below w.heap.size w w4) := B3.out.trans (hb.mono B3.out.size)
          clear hb a0 a1 a2 c0 c1 c2
          go_wp2_with fail
          refine (pAtMost_any r _).mono ?_
          rintro e w5 ⟨rfl, rfl⟩
          go_wp2_with fail
          go_ret
          exact ⟨rfl, B4.out⟩
        · rw [show tstF 5 = .func (.func 107) #[] #[] from rfl] at HT
          rw [show testB 5 r = (decide (0 < r)) from rfl]
          skip
          have nn : ∀ w, (binOp .neq 115 (.func (.func 107) #[] #[]) .nilFunc).run Try.prog w = .ok (.bool true) w := fun _ => by kernel_rfl
          go_enter Try.func51, Try.ntmps51
          go_wp2_with fail
          refine (HA.out _).mono ?_
          rintro e w1 ⟨rfl, hb⟩
          have B1 : Hid (Below w.heap.size w w1) := Below.trans (by (repeat (first | exact Below.refl _ _ | assumption | refine Below.drew ?_ | refine Below.setCell ?_ (by first | omega | (simp only [World.size_alloc]; omega) | (simp; try omega)) _ | refine Below.alloc ?_ (by first | omega | (simp only [World.size_alloc]; omega) | (simp; try omega)) _))) (hb.mono (by simp only [World.size_alloc]; omega))
          have z1 := hb.size
          simp only [World.size_alloc] at hb z1
          have K1 := Lib.hid hb
          obtain ⟨⟨a0, a1, a2⟩, c0, c1, c2⟩ := cells.out _ hb
          clear hb
          go_wp2_with fail
          refine (HB.out _).mono ?_
          rintro e w2 ⟨rfl, hb⟩
          have B2 : Hid (Below w.heap.size w w2) := B1.out.trans (hb.mono B1.out.size)
          have z2 : w.heap.size + 1 + 1 ≤ w2.heap.size := by have := hb.size; omega
          have K2 := Lib.hid (K1.out.trans (hb.mono z1))
          clear hb a0 a1 a2 c0 c1 c2
          go_wp2_with fail
          refine (HT.out _).mono ?_
          rintro e w3 ⟨rfl, hb⟩
          have B3 : Hid (Below w.heap.size w w3) := B2.out.trans (hb.mono B2.out.size)
          have z3 : w.heap.size + 1 + 1 ≤ w3.heap.size := by have := hb.size; omega
          have K3 := Lib.hid (K2.out.trans (hb.mono z2))
          obtain ⟨⟨a0, a1, a2⟩, c0, c1, c2⟩ := cells.out _ K3.out
          clear hb
          go_wp2_with fail
          refine (HC.out _).mono ?_
          rintro e w4 ⟨rfl, hb⟩
          have B4 : Hid (Below w.heap.size w w4) := B3.out.trans (hb.mono B3.out.size)
          clear hb a0 a1 a2 c0 c1 c2
          go_wp2_with fail
          refine (pGreater_any r _).mono ?_
          rintro e w5 ⟨rfl, rfl⟩
          go_wp2_with fail
          go_ret
          exact ⟨rfl, B4.out⟩
        · rw [show tstF 6 = .func (.func 108) #[] #[] from rfl] at HT
          rw [show testB 6 r = (decide (0 ≤ r)) from rfl]
          skip
          have nn : ∀ w, (binOp .neq 115 (.func (.func 108) #[] #[]) .nilFunc).run Try.prog w = .ok (.bool true) w := fun _ => by kernel_rfl
          go_enter Try.func51, Try.ntmps51
          go_wp2_with fail
          refine (HA.out _).mono ?_
          rintro e w1 ⟨rfl, hb⟩
          have B1 : Hid (Below w.heap.size w w1) := Below.trans (by (repeat (first | exact Below.refl _ _ | assumption | refine Below.drew ?_ | refine Below.setCell ?_ (by first | omega | (simp only [World.size_alloc]; omega) | (simp; try omega)) _ | refine Below.alloc ?_ (by first | omega | (simp only [World.size_alloc]; omega) | (simp; try omega)) _))) (hb.mono (by simp only [World.size_alloc]; omega))
          have z1 := hb.size
          simp only [World.size_alloc] at hb z1
          have K1 := Lib.hid hb
          obtain ⟨⟨a0, a1, a2⟩, c0, c1, c2⟩ := cells.out _ hb
          clear hb
          go_wp2_with fail
          refine (HB.out _).mono ?_
          rintro e w2 ⟨rfl, hb⟩
          have B2 : Hid (Below w.heap.size w w2) := B1.out.trans (hb.mono B1.out.size)
          have z2 : w.heap.size + 1 + 1 ≤ w2.heap.size := by have := hb.size; omega
          have K2 := Lib.hid (K1.out.trans (hb.mono z1))
          clear hb a0 a1 a2 c0 c1 c2
          go_wp2_with fail
          refine (HT.out _).mono ?_
          rintro e w3 ⟨rfl, hb⟩
          have B3 : Hid (Below w.heap.size w w3) := B2.out.trans (hb.mono B2.out.size)
          have z3 : w.heap.size + 1 + 1 ≤ w3.heap.size := by have := hb.size; omega
          have K3 := Lib.hid (K2.out.trans (hb.mono z2))
          obtain ⟨⟨a0, a1, a2⟩, c0, c1, c2⟩ := cells.out _ K3.out
          clear hb
          go_wp2_with fail
          refine (HC.out _).mono ?_
          rintro e w4 ⟨rfl, hb⟩
          have B4 : Hid (Below w.heap.size w w4) := B3.out.trans (hb.mono B3.out.size)
          clear hb a0 a1 a2 c0 c1 c2
          go_wp2_with fail
          refine (pAtLeast_any r _).mono ?_
          rintro e w5 ⟨rfl, rfl⟩
          go_wp2_with fail
          go_ret
          exact ⟨rfl, B4.out⟩
        · rw [show tstF c = .nilFunc from by unfold tstF; rw [if_neg n1, if_neg n2, if_neg n3, if_neg n4, if_neg n5, if_neg n6]] at HT
          rw [show testB c r = (false) from by unfold testB; rw [if_neg n1, if_neg n2, if_neg n3, if_neg n4, if_neg n5, if_neg n6]]
          clear n1 n2 n3 n4 n5 n6
          have nn : ∀ w, (binOp .neq 115 (.nilFunc) .nilFunc).run Try.prog w = .ok (.bool false) w := fun _ => by kernel_rfl
          go_enter Try.func51, Try.ntmps51
          go_wp2_with fail
          refine (HA.out _).mono ?_
          rintro e w1 ⟨rfl, hb⟩
          have B1 : Hid (Below w.heap.size w w1) := Below.trans (by (repeat (first | exact Below.refl _ _ | assumption | refine Below.drew ?_ | refine Below.setCell ?_ (by first | omega | (simp only [World.size_alloc]; omega) | (simp; try omega)) _ | refine Below.alloc ?_ (by first | omega | (simp only [World.size_alloc]; omega) | (simp; try omega)) _))) (hb.mono (by simp only [World.size_alloc]; omega))
          have z1 := hb.size
          simp only [World.size_alloc] at hb z1
          have K1 := Lib.hid hb
          obtain ⟨⟨a0, a1, a2⟩, c0, c1, c2⟩ := cells.out _ hb
          clear hb
          go_wp2_with fail
          refine (HB.out _).mono ?_
          rintro e w2 ⟨rfl, hb⟩
          have B2 : Hid (Below w.heap.size w w2) := B1.out.trans (hb.mono B1.out.size)
          have z2 : w.heap.size + 1 + 1 ≤ w2.heap.size := by have := hb.size; omega
          have K2 := Lib.hid (K1.out.trans (hb.mono z1))
          clear hb a0 a1 a2 c0 c1 c2
          go_wp2_with fail
          refine (HT.out _).mono ?_
          rintro e w3 ⟨rfl, hb⟩
          have B3 : Hid (Below w.heap.size w w3) := B2.out.trans (hb.mono B2.out.size)
          have z3 : w.heap.size + 1 + 1 ≤ w3.heap.size := by have := hb.size; omega
          have K3 := Lib.hid (K2.out.trans (hb.mono z2))
          obtain ⟨⟨a0, a1, a2⟩, c0, c1, c2⟩ := cells.out _ K3.out
          clear hb
          go_wp2_with fail
          go_ret
          exact ⟨rfl, B3.out⟩
end Go.Proofs.Ytjkjmkplcjfogaa
