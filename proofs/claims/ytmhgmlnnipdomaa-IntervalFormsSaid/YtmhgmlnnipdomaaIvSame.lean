
/- The reference's Same. -/
import Derived.Test.YtmhgmlnnipdomaaIvMake

import Derived.BigRegion

namespace Go.Proofs.Ytmhgmlnnipdomaa

open Go.RowKit

theorem eqVin_run (d : Nat) (k n : Int) (s : ByteArray) (k' n' : Int) (s' : ByteArray) (w : World) :
    (Op.equalIn (d + 2) 25 (.agg #[.int .i64 k, .int .i64 n, .string s]) (.agg #[.int .i64 k', .int .i64 n', .string s'])).run Try.prog w = .ok (decide (V.mk k n s = V.mk k' n' s')) w := by
  have u3 := Try.underlying3
  have a3 := Try.isAgg3
  have z3 := Try.sizeOf3
  have u2 := Try.underlying2
  have a2 := Try.isAgg2
  have z2 := Try.sizeOf2
  have u9 := Try.underlying9
  have a9 := Try.isAgg9
  have z9 := Try.sizeOf9
  have hS : Try.prog.underlying 25 = some (.struct (Try.prog.fieldsOf 25)) := by kernel_rfl
  have hp : Try.prog.stoodInHeld 25 = false := by kernel_rfl
  rw [run_equalIn_agg w (d + 1) 25 _ _ hS hp]
  simp only [Program.fieldsOf, Try.underlying25]
  clear hS hp
  go_simp
  by_cases h1 : k = k' <;> by_cases h2 : n = n' <;> by_cases h3 : s = s' <;> simp [h1, h2, h3, toList_inj]
theorem neI_run (x y : IV) (w : World) :
    (binOp .neq 59 (.agg #[.int .i64 x.f.k, .int .i64 x.f.n, .string x.f.s, .int .i64 x.t.k, .int .i64 x.t.n, .string x.t.s, .bool x.o]) (.agg #[.int .i64 y.f.k, .int .i64 y.f.n, .string y.f.s, .int .i64 y.t.k, .int .i64 y.t.n, .string y.t.s, .bool y.o])).run Try.prog w = .ok (.bool !(decide (x = y))) w := by
  obtain ⟨⟨fk, fn, fs⟩, ⟨tk, tn, ts⟩, xo⟩ := x
  obtain ⟨⟨gk, gn, gs⟩, ⟨uk, un, us⟩, yo⟩ := y
  simp only
  have e1 := eqVin_run 9997 fk fn fs gk gn gs
  have e2 := eqVin_run 9997 tk tn ts uk un us
  have u4 := Try.underlying4
  have a4 := Try.isAgg4
  have z4 := Try.sizeOf4
  have av := Try.isAgg25
  have zv := Try.sizeOf25
  have hS : Try.prog.underlying 59 = some (.struct (Try.prog.fieldsOf 59)) := by kernel_rfl
  have hp : Try.prog.stoodInHeld 59 = false := by kernel_rfl
  rw [run_neq_struct, show (10000 : Nat) = 9999 + 1 from rfl, run_equalIn_agg w 9999 59 _ _ hS hp]
  simp only [Program.fieldsOf, Try.underlying59]
  clear hS hp
  have hx : (IV.mk ⟨fk, fn, fs⟩ ⟨tk, tn, ts⟩ xo = IV.mk ⟨gk, gn, gs⟩ ⟨uk, un, us⟩ yo) ↔ (V.mk fk fn fs = V.mk gk gn gs ∧ V.mk tk tn ts = V.mk uk un us ∧ xo = yo) := by rw [IV.mk.injEq]
  have hd : decide (IV.mk ⟨fk, fn, fs⟩ ⟨tk, tn, ts⟩ xo = IV.mk ⟨gk, gn, gs⟩ ⟨uk, un, us⟩ yo) = (decide (V.mk fk fn fs = V.mk gk gn gs) && (decide (V.mk tk tn ts = V.mk uk un us) && (xo == yo))) := by
    rw [Bool.eq_iff_iff]; simp only [decide_eq_true_eq, Bool.and_eq_true, beq_iff_eq]; exact hx
  rw [hd]
  clear hx hd
  generalize decide (V.mk fk fn fs = V.mk gk gn gs) = p at e1 ⊢
  generalize decide (V.mk tk tn ts = V.mk uk un us) = q at e2 ⊢
  cases p <;> cases q <;> cases xo <;> cases yo <;> (go_simp; try rfl)

theorem drop_eq_iff' (l1 l2 : List IV) (k : Nat) (i1 : k < l1.length) (i2 : k < l2.length) : (l1.drop k = l2.drop k) ↔ (l1[k] = l2[k] ∧ l1.drop (k + 1) = l2.drop (k + 1)) := by
  rw [List.drop_eq_getElem_cons i1, List.drop_eq_getElem_cons i2, List.cons.injEq]

set_option maxHeartbeats 1000000 in
theorem rSameL_any (va vb : Value) (A B : List IV) (w : World) (ha : Ivs w va A) (hb : Ivs w vb B) : Calls Try.prog 21 #[va, vb] w fun e w' => e = .returned (.bool (decide (A = B))) ∧ Below w.heap.size w w' := by
  obtain ⟨aa, ac, rfl, ha1, ha2, _, ha4, hai⟩ := ha
  obtain ⟨ba, bc, rfl, hb1, hb2, _, hb4, hbi⟩ := hb
  by_cases hl : A.length = B.length
  · obtain ⟨n, hn⟩ : ∃ n, A.length = n := ⟨_, rfl⟩
    have HNA := Lib.hid hn
    have HNB : Hid (B.length = n) := by show _ = _; omega
    have HA := Lib.hid hai
    have HB := Lib.hid hbi
    have hnn : n ≤ 4398046511104 := by omega
    have hna : n ≤ ac := by omega
    have hnb : n ≤ bc := by omega
    rw [hn, show B.length = n from HNB.out]
    clear hl hn hai hbi ha1 hb1 ha4 hb4
    go_enter Try.func21, Try.ntmps21
    go_wp2_with fail
    go_loopw [13] (fun i wr => ∃ k : Nat, k ≤ n ∧ i = .int .i64 k ∧ Below w.heap.size w wr ∧ Hid ((A = B) ↔ (A.drop k = B.drop k))) (fun i _ => n - (intOf i).toNat)
    case atStart => exact ⟨0, by omega, rfl, Below.refl _ _, Iff.rfl⟩
    case round =>
      obtain ⟨k, hk, rfl, hbw, ht⟩ := hrel
      by_cases hlt : k < n
      · have i1 : k < A.length := by rw [HNA.out]; exact hlt
        have i2 : k < B.length := by rw [HNB.out]; exact hlt
        obtain ⟨b1, o1, rfl, -, hb1, hc1⟩ := HA.out k i1
        obtain ⟨b2, o2, rfl, -, hb2', hc2⟩ := HB.out k i2
        have hx0 := hc1.same (hbw.block b1 hb1)
        have hy0 := hc2.same (hbw.block b2 hb2')
        have HD := Lib.hid (drop_eq_iff' A B k i1 i2)
        generalize A[k] = x at hx0 HD
        generalize B[k] = y at hy0 HD
        have hne := fun W => neI_run x y W
        obtain ⟨⟨fk, fn, fs⟩, ⟨tk, tn, ts⟩, xo⟩ := x
        obtain ⟨⟨gk, gn, gs⟩, ⟨uk, un, us⟩, yo⟩ := y
        obtain ⟨⟨p0, p1, p2⟩, ⟨p3, p4, p5⟩, p6⟩ := hx0
        obtain ⟨⟨q0, q1, q2⟩, ⟨q3, q4, q5⟩, q6⟩ := hy0
        simp only at p0 p1 p2 p3 p4 p5 p6 q0 q1 q2 q3 q4 q5 q6 hne
        clear hc1 hc2 i1 i2
        by_cases he : (IV.mk ⟨fk, fn, fs⟩ ⟨tk, tn, ts⟩ xo) = (IV.mk ⟨gk, gn, gs⟩ ⟨uk, un, us⟩ yo)
        · simp only [he, decide_true, Bool.not_true] at hne
          have HX : Hid ((A = B) ↔ (A.drop (k + 1) = B.drop (k + 1))) := ht.out.trans (HD.out.trans ⟨fun h => h.2, fun h => ⟨he, h⟩⟩)
          clear he ht HD
          go_wp2_with fail
          go_quiet (fail)
          rename_i nq
          go_wp2_with fail
          go_roundw
          case rel => exact ⟨k + 1, by omega, by go_num, hbw.trans (((Gr.refl _).drewN nq).below.mono hbw.size), HX⟩
          case measure => simp [intOf]; omega
        · have hdf : decide ((IV.mk ⟨fk, fn, fs⟩ ⟨tk, tn, ts⟩ xo) = (IV.mk ⟨gk, gn, gs⟩ ⟨uk, un, us⟩ yo)) = false := by simpa using he
          rw [hdf] at hne
          simp only [Bool.not_false] at hne
          have HX : Hid (decide (A = B) = false) := by
            have : ¬ A = B := fun h => he (HD.out.1 (ht.out.1 h)).1
            show decide (A = B) = false
            simpa using this
          clear he ht HD hdf
          go_wp2_with fail
          go_quiet (fail)
          rename_i nq
          go_wp2_with fail
          go_ret
          exact ⟨by rw [HX.out]; try rfl, hbw.trans (((Gr.refl _).drewN nq).below.mono hbw.size)⟩
      · have HX : Hid (decide (A = B) = true) := by
          have : A = B := by
            refine ht.out.2 ?_
            rw [List.drop_eq_nil_of_le (by rw [HNA.out]; omega), List.drop_eq_nil_of_le (by rw [HNB.out]; omega)]
          show decide (A = B) = true
          simpa using this
        clear ht
        go_wp2_with fail
        go_ret
        exact ⟨by rw [HX.out]; try rfl, hbw⟩
  · have hd : decide (A = B) = false := by
      have : ¬ A = B := fun e => hl (by rw [e])
      simpa using this
    rw [hd]
    have hb : ((A.length : Int) != B.length) = true := by simp; omega
    clear hai hbi hd
    generalize A.length = n1 at *
    generalize B.length = n2 at *
    go_enter Try.func21, Try.ntmps21
    go_wp2_with fail
    go_ret
    exact ⟨rfl, Below.refl _ _⟩
end Go.Proofs.Ytmhgmlnnipdomaa
