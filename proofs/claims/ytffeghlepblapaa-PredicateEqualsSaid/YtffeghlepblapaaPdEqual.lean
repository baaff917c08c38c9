
/- predicate.Equal, with slices.EqualFunc. -/
import Derived.Test.YtffeghlepblapaaPdEq

import Derived.Test.YtffeghlepblapaaPdEqMath

import Derived.Test.YtffeghlepblapaaPdHolds

import Derived.Laws.EntriesVeiled

namespace Go.Proofs.Ytffeghlepblapaa

open Go.RowKit

def EqualAt (p q : PT) : Prop := ∀ (v v' : Value) (W : World), Pd W v p → Pd W v' q → Calls Try.prog 25 #[v, v'] W fun e w' => e = .returned (.bool (eqT p q)) ∧ Below W.heap.size W w'

set_option maxRecDepth 100000 in
set_option maxHeartbeats 4000000 in
theorem pEqFunc_any (ps qs : List PT) (a a' : Option Addr) (c c' : Nat) (w : World) (hp : PdS (fun _ => True) w ps a c) (hq : PdS (fun _ => True) w qs a' c') (hs : ∀ j (h : j < ps.length) (h' : j < qs.length), EqualAt ps[j] qs[j]) :
    Calls Try.prog 52 #[.slice a ps.length c, .slice a' qs.length c', .func (.func 25) #[] #[]] w fun e w' => e = .returned (.bool (eqTs ps qs)) ∧ Below w.heap.size w w' := by
  by_cases hl : ps.length = qs.length
  · have HC := Lib.hid hs
    obtain ⟨n, hn⟩ : ∃ n, ps.length = n := ⟨_, rfl⟩
    have HNA := Lib.hid hn
    have HNB : Hid (qs.length = n) := by show _ = _; omega
    have HP := Lib.hid hp
    have HQ := Lib.hid hq
    have hnn : n ≤ 17592186044416 := by have := hp.1.few; omega
    have hna : n ≤ c := by have := hp.1.le; omega
    have hnb : n ≤ c' := by have := hq.1.le; omega
    rw [hn, show qs.length = n from HNB.out]
    obtain ⟨z, hz⟩ : ∃ z, eqTs ps qs = z := ⟨_, rfl⟩
    rw [hz]
    have HZ : Hid (z = true ↔ ps.drop 0 = qs.drop 0) := by show _ ↔ _; rw [← hz, eqTs_iff, List.drop_zero, List.drop_zero]
    clear hl hn hp hq hs hz
    go_enter Try.func52, Try.ntmps52
    go_wp2_with fail
    go_loopw [17] (fun i wr => ∃ k : Nat, k ≤ n ∧ i = .int .i64 k ∧ Hid (Below w.heap.size w wr) ∧ Hid (z = true ↔ ps.drop k = qs.drop k)) (fun i _ => n - (intOf i).toNat)
    case atStart => exact ⟨0, by omega, rfl, Below.refl _ _, HZ.out⟩
    case round =>
      obtain ⟨k, hk, rfl, HB, HT⟩ := hrel
      by_cases hlt : k < n
      · have hlt' : (k : Int) < n := by omega
        have i1 : k < ps.length := by rw [HNA.out]; exact hlt
        have i2 : k < qs.length := by rw [HNB.out]; exact hlt
        obtain ⟨b, o, a1, c1, rfl, -, hb, p0, p1, p2, p3, p4, p5, p6, p7, p8, p9, p10, p11, p12, hps⟩ := (HP.out.below HB.out).get i1
        obtain ⟨b', o', a2, c2, rfl, -, hb', q0, q1, q2, q3, q4, q5, q6, q7, q8, q9, q10, q11, q12, hqs⟩ := (HQ.out.below HB.out).get i2
        have HCC : Hid (∀ W, Below wr.heap.size wr W → Calls Try.prog 25 #[.agg #[.int .i64 ps[k].op, .int .i64 ps[k].cmp, .int .i64 ps[k].l.k, .int .i64 ps[k].l.i, .int .i64 ps[k].l.v.k, .int .i64 ps[k].l.v.n, .string ps[k].l.v.s, .int .i64 ps[k].r.k, .int .i64 ps[k].r.i, .int .i64 ps[k].r.v.k, .int .i64 ps[k].r.v.n, .string ps[k].r.v.s, .slice a1 ps[k].args.length c1], .agg #[.int .i64 qs[k].op, .int .i64 qs[k].cmp, .int .i64 qs[k].l.k, .int .i64 qs[k].l.i, .int .i64 qs[k].l.v.k, .int .i64 qs[k].l.v.n, .string qs[k].l.v.s, .int .i64 qs[k].r.k, .int .i64 qs[k].r.i, .int .i64 qs[k].r.v.k, .int .i64 qs[k].r.v.n, .string qs[k].r.v.s, .slice a2 qs[k].args.length c2]] W fun e w' => e = .returned (.bool (eqT ps[k] qs[k])) ∧ Below W.heap.size W w') := fun W hb =>
          HC.out k i1 i2 _ _ W ⟨a1, c1, rfl, hps.below hb⟩ ⟨a2, c2, rfl, hqs.below hb⟩
        have HD : Hid (z = true ↔ (eqT ps[k] qs[k] = true ∧ ps.drop (k + 1) = qs.drop (k + 1))) := by show _ ↔ _; rw [HT.out, dropT_iff ps qs k i1 i2]
        clear hps hqs HC HT
        generalize eqT ps[k] qs[k] = y at *
        generalize ps[k].op = xop at *
        generalize ps[k].cmp = xcmp at *
        generalize ps[k].l.k = xlk at *
        generalize ps[k].l.i = xli at *
        generalize ps[k].l.v.k = xlvk at *
        generalize ps[k].l.v.n = xlvn at *
        generalize ps[k].l.v.s = xlvs at *
        generalize ps[k].r.k = xrk at *
        generalize ps[k].r.i = xri at *
        generalize ps[k].r.v.k = xrvk at *
        generalize ps[k].r.v.n = xrvn at *
        generalize ps[k].r.v.s = xrvs at *
        generalize ps[k].args.length = xn at *
        generalize qs[k].op = yop at *
        generalize qs[k].cmp = ycmp at *
        generalize qs[k].l.k = ylk at *
        generalize qs[k].l.i = yli at *
        generalize qs[k].l.v.k = ylvk at *
        generalize qs[k].l.v.n = ylvn at *
        generalize qs[k].l.v.s = ylvs at *
        generalize qs[k].r.k = yrk at *
        generalize qs[k].r.i = yri at *
        generalize qs[k].r.v.k = yrvk at *
        generalize qs[k].r.v.n = yrvn at *
        generalize qs[k].r.v.s = yrvs at *
        generalize qs[k].args.length = yn at *
        cases y with
        | true =>
          have HX : Hid (z = true ↔ ps.drop (k + 1) = qs.drop (k + 1)) := by show _ ↔ _; rw [HD.out]; simp
          go_wp2_with fail
          refine (HCC.out _ (by (repeat (first | exact Below.refl _ _ | assumption | refine Below.drew ?_ | refine Below.setCell ?_ (by first | omega | (simp only [World.size_alloc]; omega) | (simp; try omega)) _ | refine Below.alloc ?_ (by first | omega | (simp only [World.size_alloc]; omega) | (simp; try omega)) _)))).mono ?_
          rintro e w1 ⟨rfl, hb1⟩
          have B1 : Hid (Below w.heap.size w w1) := HB.out.trans (Below.mono (Below.trans (B := wr.heap.size) (by (repeat (first | exact Below.refl _ _ | assumption | refine Below.drew ?_ | refine Below.setCell ?_ (by first | omega | (simp only [World.size_alloc]; omega) | (simp; try omega)) _ | refine Below.alloc ?_ (by first | omega | (simp only [World.size_alloc]; omega) | (simp; try omega)) _))) (hb1.mono (by simp only [World.size_alloc]; omega))) HB.out.size)
          clear hb1 p0 p1 p2 p3 p4 p5 p6 p7 p8 p9 p10 p11 p12 q0 q1 q2 q3 q4 q5 q6 q7 q8 q9 q10 q11 q12
          go_wp2_with fail
          go_roundw
          case rel => exact ⟨k + 1, by omega, by go_num, B1.out, HX.out⟩
          case measure => simp [intOf]; omega
        | false =>
          have HX : Hid (z = false) := by
            show _ = _
            cases z with
            | false => rfl
            | true => have := HD.out.1 rfl; simp at this
          go_wp2_with fail
          refine (HCC.out _ (by (repeat (first | exact Below.refl _ _ | assumption | refine Below.drew ?_ | refine Below.setCell ?_ (by first | omega | (simp only [World.size_alloc]; omega) | (simp; try omega)) _ | refine Below.alloc ?_ (by first | omega | (simp only [World.size_alloc]; omega) | (simp; try omega)) _)))).mono ?_
          rintro e w1 ⟨rfl, hb1⟩
          have B1 : Hid (Below w.heap.size w w1) := HB.out.trans (Below.mono (Below.trans (B := wr.heap.size) (by (repeat (first | exact Below.refl _ _ | assumption | refine Below.drew ?_ | refine Below.setCell ?_ (by first | omega | (simp only [World.size_alloc]; omega) | (simp; try omega)) _ | refine Below.alloc ?_ (by first | omega | (simp only [World.size_alloc]; omega) | (simp; try omega)) _))) (hb1.mono (by simp only [World.size_alloc]; omega))) HB.out.size)
          clear hb1 p0 p1 p2 p3 p4 p5 p6 p7 p8 p9 p10 p11 p12 q0 q1 q2 q3 q4 q5 q6 q7 q8 q9 q10 q11 q12
          go_wp2_with fail
          go_ret
          exact ⟨by rw [HX.out]; rfl, B1.out⟩
      · have HX : Hid (z = true) := by
          refine HT.out.2 ?_
          rw [List.drop_eq_nil_of_le (by rw [HNA.out]; omega), List.drop_eq_nil_of_le (by rw [HNB.out]; omega)]
        go_wp2_with fail
        go_ret
        exact ⟨by rw [HX.out]; rfl, HB.out⟩
  · have hd : eqTs ps qs = false := by
      rw [← Bool.not_eq_true, eqTs_iff]; exact fun e => hl (by rw [e])
    rw [hd]
    have hb : ((ps.length : Int) != qs.length) = true := by simp; omega
    clear hp hq hs hd
    generalize ps.length = n1 at *
    generalize qs.length = n2 at *
    go_enter Try.func52, Try.ntmps52
    go_wp2_with fail
    go_ret
    exact ⟨rfl, Below.refl _ _⟩

set_option maxRecDepth 100000 in
set_option maxHeartbeats 4000000 in
theorem pEqualP_any : ∀ (d : Nat) (p q : PT), p.depth ≤ d → EqualAt p q
  | 0, p, _, hd => by have := p.depth_pos; omega
  | d + 1, p, q, hd => by
    intro v v' w h h'
    have hIH : ∀ j (hj : j < p.args.length) (hj' : j < q.args.length), EqualAt p.args[j] q.args[j] := fun j hj hj' => pEqualP_any d _ _ (PT.depth_arg hj hd)
    obtain ⟨op, cmp, lk, li, lvk, lvn, lvs, rk, ri, rvk, rvn, rvs, ps, a, c, rfl, rfl, hp⟩ := pd_fields h
    obtain ⟨op', cmp', lk', li', lvk', lvn', lvs', rk', ri', rvk', rvn', rvs', ps', a', c', rfl, rfl, hp'⟩ := pd_fields h'
    change ∀ j (hj : j < ps.length) (hj' : j < ps'.length), EqualAt ps[j] ps'[j] at hIH
    clear hd h h'
    by_cases hop : op = op'
    rotate_left
    · rw [eqT_op hop]
      have b1 : (op == op') = false := by simpa using hop
      clear hIH hp hp'
      generalize ps.length = n at *
      generalize ps'.length = n' at *
      go_enter Try.func25, Try.ntmps25
      go_wp2_with fail
      go_ret
      exact ⟨rfl, by (repeat (first | exact Below.refl _ _ | assumption | refine Below.drew ?_ | refine Below.setCell ?_ (by first | omega | (simp only [World.size_alloc]; omega) | (simp; try omega)) _ | refine Below.alloc ?_ (by first | omega | (simp only [World.size_alloc]; omega) | (simp; try omega)) _))⟩
    subst hop
    by_cases hcmp : cmp = cmp'
    rotate_left
    · rw [eqT_cmp hcmp]
      have b1 : (cmp == cmp') = false := by simpa using hcmp
      clear hIH hp hp'
      generalize ps.length = n at *
      generalize ps'.length = n' at *
      go_enter Try.func25, Try.ntmps25
      go_wp2_with fail
      go_ret
      exact ⟨rfl, by (repeat (first | exact Below.refl _ _ | assumption | refine Below.drew ?_ | refine Below.setCell ?_ (by first | omega | (simp only [World.size_alloc]; omega) | (simp; try omega)) _ | refine Below.alloc ?_ (by first | omega | (simp only [World.size_alloc]; omega) | (simp; try omega)) _))⟩
    subst hcmp
    by_cases hl : (Od.mk lk li ⟨lvk, lvn, lvs⟩) = (Od.mk lk' li' ⟨lvk', lvn', lvs'⟩)
    rotate_left
    · rw [eqT_l hl]
      have hOl : ∀ W, (binOp .eql 26 (.agg #[.int .i64 lk, .int .i64 li, .int .i64 lvk, .int .i64 lvn, .string lvs]) (.agg #[.int .i64 lk', .int .i64 li', .int .i64 lvk', .int .i64 lvn', .string lvs'])).run Try.prog W = .ok (.bool false) W := fun W => by have := eqO_run lk li lvk lvn lvs lk' li' lvk' lvn' lvs' W; rw [show decide ((Od.mk lk li ⟨lvk, lvn, lvs⟩) = (Od.mk lk' li' ⟨lvk', lvn', lvs'⟩)) = false from by simpa using hl] at this; exact this
      clear hIH hp hp' hl
      generalize ps.length = n at *
      generalize ps'.length = n' at *
      go_enter Try.func25, Try.ntmps25
      go_wp2_with fail
      go_ret
      exact ⟨rfl, by (repeat (first | exact Below.refl _ _ | assumption | refine Below.drew ?_ | refine Below.setCell ?_ (by first | omega | (simp only [World.size_alloc]; omega) | (simp; try omega)) _ | refine Below.alloc ?_ (by first | omega | (simp only [World.size_alloc]; omega) | (simp; try omega)) _))⟩
    simp only [Od.mk.injEq, V.mk.injEq] at hl
    obtain ⟨rfl, rfl, rfl, rfl, rfl⟩ := hl
    have hOl : ∀ W, (binOp .eql 26 (.agg #[.int .i64 lk, .int .i64 li, .int .i64 lvk, .int .i64 lvn, .string lvs]) (.agg #[.int .i64 lk, .int .i64 li, .int .i64 lvk, .int .i64 lvn, .string lvs])).run Try.prog W = .ok (.bool true) W := fun W => by have := eqO_run lk li lvk lvn lvs lk li lvk lvn lvs W; simpa using this
    by_cases hr : (Od.mk rk ri ⟨rvk, rvn, rvs⟩) = (Od.mk rk' ri' ⟨rvk', rvn', rvs'⟩)
    rotate_left
    · rw [eqT_r hr]
      have hOr : ∀ W, (binOp .eql 26 (.agg #[.int .i64 rk, .int .i64 ri, .int .i64 rvk, .int .i64 rvn, .string rvs]) (.agg #[.int .i64 rk', .int .i64 ri', .int .i64 rvk', .int .i64 rvn', .string rvs'])).run Try.prog W = .ok (.bool false) W := fun W => by have := eqO_run rk ri rvk rvn rvs rk' ri' rvk' rvn' rvs' W; rw [show decide ((Od.mk rk ri ⟨rvk, rvn, rvs⟩) = (Od.mk rk' ri' ⟨rvk', rvn', rvs'⟩)) = false from by simpa using hr] at this; exact this
      clear hIH hp hp' hr
      generalize ps.length = n at *
      generalize ps'.length = n' at *
      go_enter Try.func25, Try.ntmps25
      go_wp2_with fail
      go_ret
      exact ⟨rfl, by (repeat (first | exact Below.refl _ _ | assumption | refine Below.drew ?_ | refine Below.setCell ?_ (by first | omega | (simp only [World.size_alloc]; omega) | (simp; try omega)) _ | refine Below.alloc ?_ (by first | omega | (simp only [World.size_alloc]; omega) | (simp; try omega)) _))⟩
    simp only [Od.mk.injEq, V.mk.injEq] at hr
    obtain ⟨rfl, rfl, rfl, rfl, rfl⟩ := hr
    have hOr : ∀ W, (binOp .eql 26 (.agg #[.int .i64 rk, .int .i64 ri, .int .i64 rvk, .int .i64 rvn, .string rvs]) (.agg #[.int .i64 rk, .int .i64 ri, .int .i64 rvk, .int .i64 rvn, .string rvs])).run Try.prog W = .ok (.bool true) W := fun W => by have := eqO_run rk ri rvk rvn rvs rk ri rvk rvn rvs W; simpa using this
    rw [eqT_args]
    have HE : Hid (∀ W, Below w.heap.size w W → Calls Try.prog 52 #[.slice a ps.length c, .slice a' ps'.length c', .func (.func 25) #[] #[]] W fun e w' => e = .returned (.bool (eqTs ps ps')) ∧ Below W.heap.size W w') := fun W hb => pEqFunc_any ps ps' a a' c c' W (hp.below hb) (hp'.below hb) hIH
    clear hIH hp hp'
    generalize eqTs ps ps' = z at *
    generalize ps.length = n at *
    generalize ps'.length = n' at *
    go_enter Try.func25, Try.ntmps25
    go_wp2_with fail
    refine (HE.out _ (by (repeat (first | exact Below.refl _ _ | assumption | refine Below.drew ?_ | refine Below.setCell ?_ (by first | omega | (simp only [World.size_alloc]; omega) | (simp; try omega)) _ | refine Below.alloc ?_ (by first | omega | (simp only [World.size_alloc]; omega) | (simp; try omega)) _)))).mono ?_
    rintro e w1 ⟨rfl, hb⟩
    have B1 : Hid (Below w.heap.size w w1) := Below.trans (by (repeat (first | exact Below.refl _ _ | assumption | refine Below.drew ?_ | refine Below.setCell ?_ (by first | omega | (simp only [World.size_alloc]; omega) | (simp; try omega)) _ | refine Below.alloc ?_ (by first | omega | (simp only [World.size_alloc]; omega) | (simp; try omega)) _))) (hb.mono (by simp only [World.size_alloc]; omega))
    clear hb
    go_wp2_with fail
    go_ret
    exact ⟨rfl, B1.out⟩
end Go.Proofs.Ytffeghlepblapaa
