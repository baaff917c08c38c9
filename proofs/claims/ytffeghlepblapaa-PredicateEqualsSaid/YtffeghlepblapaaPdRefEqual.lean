
/- The reference's Equal. -/
import Derived.Test.YtffeghlepblapaaPdEq

import Derived.Test.YtffeghlepblapaaPdEqMath

import Derived.Test.YtffeghlepblapaaPdHolds

import Derived.Deep.RegionHeld3

namespace Go.Proofs.Ytffeghlepblapaa

open Go.RowKit

def REqualAt (p q : PT) : Prop := ∀ (v v' : Value) (W : World), Pd W v p → Pd W v' q → Calls Try.prog 20 #[v, v'] W fun e w' => e = .returned (.bool (eqT p q)) ∧ Below W.heap.size W w'

set_option maxRecDepth 100000 in
set_option maxHeartbeats 4000000 in
theorem rEqualP_any : ∀ (d : Nat) (p q : PT), p.depth ≤ d → REqualAt p q
  | 0, p, _, hd => by have := p.depth_pos; omega
  | d + 1, p, q, hd => by
    intro v v' w h h'
    have hIH : ∀ j (hj : j < p.args.length) (hj' : j < q.args.length), REqualAt p.args[j] q.args[j] := fun j hj hj' => rEqualP_any d _ _ (PT.depth_arg hj hd)
    obtain ⟨op, cmp, lk, li, lvk, lvn, lvs, rk, ri, rvk, rvn, rvs, ps, a, c, rfl, rfl, hp⟩ := pd_fields h
    obtain ⟨op', cmp', lk', li', lvk', lvn', lvs', rk', ri', rvk', rvn', rvs', ps', a', c', rfl, rfl, hp'⟩ := pd_fields h'
    change ∀ j (hj : j < ps.length) (hj' : j < ps'.length), REqualAt ps[j] ps'[j] at hIH
    clear hd h h'
    by_cases hop : op = op'
    rotate_left
    · rw [eqT_op hop]
      have b1 : (op != op') = true := by simpa using hop
      clear hIH hp hp'
      generalize ps.length = n at *
      generalize ps'.length = n' at *
      go_enter Try.func20, Try.ntmps20
      go_wp2_with fail
      go_ret
      exact ⟨rfl, by (repeat (first | exact Below.refl _ _ | assumption | refine Below.drew ?_ | refine Below.setCell ?_ (by first | omega | (simp only [World.size_alloc]; omega) | (simp; try omega)) _ | refine Below.alloc ?_ (by first | omega | (simp only [World.size_alloc]; omega) | (simp; try omega)) _))⟩
    subst hop
    by_cases hcmp : cmp = cmp'
    rotate_left
    · rw [eqT_cmp hcmp]
      have b1 : (cmp != cmp') = true := by simpa using hcmp
      clear hIH hp hp'
      generalize ps.length = n at *
      generalize ps'.length = n' at *
      go_enter Try.func20, Try.ntmps20
      go_wp2_with fail
      go_ret
      exact ⟨rfl, by (repeat (first | exact Below.refl _ _ | assumption | refine Below.drew ?_ | refine Below.setCell ?_ (by first | omega | (simp only [World.size_alloc]; omega) | (simp; try omega)) _ | refine Below.alloc ?_ (by first | omega | (simp only [World.size_alloc]; omega) | (simp; try omega)) _))⟩
    subst hcmp
    by_cases hl : (Od.mk lk li ⟨lvk, lvn, lvs⟩) = (Od.mk lk' li' ⟨lvk', lvn', lvs'⟩)
    rotate_left
    · rw [eqT_l hl]
      have hOl : ∀ W, (binOp .neq 26 (.agg #[.int .i64 lk, .int .i64 li, .int .i64 lvk, .int .i64 lvn, .string lvs]) (.agg #[.int .i64 lk', .int .i64 li', .int .i64 lvk', .int .i64 lvn', .string lvs'])).run Try.prog W = .ok (.bool true) W := fun W => by have := neO_run lk li lvk lvn lvs lk' li' lvk' lvn' lvs' W; rw [show decide ((Od.mk lk li ⟨lvk, lvn, lvs⟩) = (Od.mk lk' li' ⟨lvk', lvn', lvs'⟩)) = false from by simpa using hl] at this; exact this
      clear hIH hp hp' hl
      generalize ps.length = n at *
      generalize ps'.length = n' at *
      go_enter Try.func20, Try.ntmps20
      go_wp2_with fail
      go_ret
      exact ⟨rfl, by (repeat (first | exact Below.refl _ _ | assumption | refine Below.drew ?_ | refine Below.setCell ?_ (by first | omega | (simp only [World.size_alloc]; omega) | (simp; try omega)) _ | refine Below.alloc ?_ (by first | omega | (simp only [World.size_alloc]; omega) | (simp; try omega)) _))⟩
    simp only [Od.mk.injEq, V.mk.injEq] at hl
    obtain ⟨rfl, rfl, rfl, rfl, rfl⟩ := hl
    have hOl : ∀ W, (binOp .neq 26 (.agg #[.int .i64 lk, .int .i64 li, .int .i64 lvk, .int .i64 lvn, .string lvs]) (.agg #[.int .i64 lk, .int .i64 li, .int .i64 lvk, .int .i64 lvn, .string lvs])).run Try.prog W = .ok (.bool false) W := fun W => by have := neO_run lk li lvk lvn lvs lk li lvk lvn lvs W; simpa using this
    by_cases hr : (Od.mk rk ri ⟨rvk, rvn, rvs⟩) = (Od.mk rk' ri' ⟨rvk', rvn', rvs'⟩)
    rotate_left
    · rw [eqT_r hr]
      have hOr : ∀ W, (binOp .neq 26 (.agg #[.int .i64 rk, .int .i64 ri, .int .i64 rvk, .int .i64 rvn, .string rvs]) (.agg #[.int .i64 rk', .int .i64 ri', .int .i64 rvk', .int .i64 rvn', .string rvs'])).run Try.prog W = .ok (.bool true) W := fun W => by have := neO_run rk ri rvk rvn rvs rk' ri' rvk' rvn' rvs' W; rw [show decide ((Od.mk rk ri ⟨rvk, rvn, rvs⟩) = (Od.mk rk' ri' ⟨rvk', rvn', rvs'⟩)) = false from by simpa using hr] at this; exact this
      clear hIH hp hp' hr
      generalize ps.length = n at *
      generalize ps'.length = n' at *
      go_enter Try.func20, Try.ntmps20
      go_wp2_with fail
      go_ret
      exact ⟨rfl, by (repeat (first | exact Below.refl _ _ | assumption | refine Below.drew ?_ | refine Below.setCell ?_ (by first | omega | (simp only [World.size_alloc]; omega) | (simp; try omega)) _ | refine Below.alloc ?_ (by first | omega | (simp only [World.size_alloc]; omega) | (simp; try omega)) _))⟩
    simp only [Od.mk.injEq, V.mk.injEq] at hr
    obtain ⟨rfl, rfl, rfl, rfl, rfl⟩ := hr
    have hOr : ∀ W, (binOp .neq 26 (.agg #[.int .i64 rk, .int .i64 ri, .int .i64 rvk, .int .i64 rvn, .string rvs]) (.agg #[.int .i64 rk, .int .i64 ri, .int .i64 rvk, .int .i64 rvn, .string rvs])).run Try.prog W = .ok (.bool false) W := fun W => by have := neO_run rk ri rvk rvn rvs rk ri rvk rvn rvs W; simpa using this
    by_cases hlen : ps.length = ps'.length
    rotate_left
    · rw [eqT_len hlen]
      have b1 : ((ps.length : Int) != ps'.length) = true := by simp; omega
      clear hIH hp hp'
      generalize ps.length = n at *
      generalize ps'.length = n' at *
      go_enter Try.func20, Try.ntmps20
      go_wp2_with fail
      go_ret
      exact ⟨rfl, by (repeat (first | exact Below.refl _ _ | assumption | refine Below.drew ?_ | refine Below.setCell ?_ (by first | omega | (simp only [World.size_alloc]; omega) | (simp; try omega)) _ | refine Below.alloc ?_ (by first | omega | (simp only [World.size_alloc]; omega) | (simp; try omega)) _))⟩
    rw [eqT_args]
    have HC := Lib.hid hIH
    obtain ⟨n, hn⟩ : ∃ n, ps.length = n := ⟨_, rfl⟩
    have HNA := Lib.hid hn
    have HNB : Hid (ps'.length = n) := by show _ = _; omega
    have HP := Lib.hid hp
    have HQ := Lib.hid hp'
    have hnn : n ≤ 17592186044416 := by have := hp.1.few; omega
    have hna : n ≤ c := by have := hp.1.le; omega
    have hnb : n ≤ c' := by have := hp'.1.le; omega
    rw [hn, show ps'.length = n from HNB.out]
    obtain ⟨z, hz⟩ : ∃ z, eqTs ps ps' = z := ⟨_, rfl⟩
    rw [hz]
    have HZ : Hid (z = true ↔ ps.drop 0 = ps'.drop 0) := by show _ ↔ _; rw [← hz, eqTs_iff, List.drop_zero, List.drop_zero]
    clear hlen hn hp hp' hIH hz
    go_enter Try.func20, Try.ntmps20
    go_wp2_with fail
    obtain ⟨wq, hwq⟩ : ∃ wq, (w.alloc (.cells #[.int .i64 op, .int .i64 cmp, .int .i64 lk, .int .i64 li, .int .i64 lvk, .int .i64 lvn, .string lvs, .int .i64 rk, .int .i64 ri, .int .i64 rvk, .int .i64 rvn, .string rvs, .slice a n c] 29)).alloc (.cells #[.int .i64 op, .int .i64 cmp, .int .i64 lk, .int .i64 li, .int .i64 lvk, .int .i64 lvn, .string lvs, .int .i64 rk, .int .i64 ri, .int .i64 rvk, .int .i64 rvn, .string rvs, .slice a' n c'] 29) = wq := ⟨_, rfl⟩
    have HB0 : Hid (Below w.heap.size w wq) := by rw [← hwq]; exact ((Below.refl _ _).alloc (Nat.le_refl _) _).alloc (by simp) _
    have hc0 : wq.cell? ⟨w.heap.size, 12, none⟩ = some (.slice a n c) := by subst hwq; go_simp
    have hc1 : wq.cell? ⟨w.heap.size + 1, 12, none⟩ = some (.slice a' n c') := by subst hwq; go_simp
    have hzq : w.heap.size + 2 ≤ wq.heap.size := by subst hwq; simp
    have HS : Hid (∀ W, Below (w.heap.size + 2) wq W → W.cell? ⟨w.heap.size, 12, none⟩ = some (.slice a n c) ∧ W.cell? ⟨w.heap.size + 1, 12, none⟩ = some (.slice a' n c')) := fun W hb => ⟨(hb.cell (p := ⟨w.heap.size, 12, none⟩) (show w.heap.size < _ by omega)).trans hc0, (hb.cell (p := ⟨w.heap.size + 1, 12, none⟩) (show w.heap.size + 1 < _ by omega)).trans hc1⟩
    rw [hwq]
    clear hwq hc0 hc1 hOl hOr
    go_loopw [44] (fun i wr => ∃ k : Nat, k ≤ n ∧ i = .int .i64 k ∧ Hid (Below (w.heap.size + 2) wq wr) ∧ Hid (z = true ↔ ps.drop k = ps'.drop k)) (fun i _ => n - (intOf i).toNat)
    case atStart => exact ⟨0, by omega, rfl, Below.refl _ _, HZ.out⟩
    case round =>
      obtain ⟨k, hk, rfl, HQQ, HT⟩ := hrel
      have HB : Hid (Below w.heap.size w wr) := HB0.out.trans (HQQ.out.mono (by omega))
      obtain ⟨s0, t0⟩ := HS.out wr HQQ.out
      have zq : w.heap.size + 2 ≤ wr.heap.size := by have := HQQ.out.size; omega
      have zs : w.heap.size < wr.heap.size := by omega
      have zt : (w.heap.size + 1) < wr.heap.size := by omega
      clear HB0 HZ HS
      by_cases hlt : k < n
      · have hlt' : (k : Int) < n := by omega
        have i1 : k < ps.length := by rw [HNA.out]; exact hlt
        have i2 : k < ps'.length := by rw [HNB.out]; exact hlt
        obtain ⟨b, o, a1, c1, rfl, -, zp, p0, p1, p2, p3, p4, p5, p6, p7, p8, p9, p10, p11, p12, hps⟩ := (HP.out.below HB.out).get i1
        obtain ⟨b', o', a2, c2, rfl, -, zq', q0, q1, q2, q3, q4, q5, q6, q7, q8, q9, q10, q11, q12, hqs⟩ := (HQ.out.below HB.out).get i2
        have HCC : Hid (∀ W, Below wr.heap.size wr W → Calls Try.prog 20 #[.agg #[.int .i64 ps[k].op, .int .i64 ps[k].cmp, .int .i64 ps[k].l.k, .int .i64 ps[k].l.i, .int .i64 ps[k].l.v.k, .int .i64 ps[k].l.v.n, .string ps[k].l.v.s, .int .i64 ps[k].r.k, .int .i64 ps[k].r.i, .int .i64 ps[k].r.v.k, .int .i64 ps[k].r.v.n, .string ps[k].r.v.s, .slice a1 ps[k].args.length c1], .agg #[.int .i64 ps'[k].op, .int .i64 ps'[k].cmp, .int .i64 ps'[k].l.k, .int .i64 ps'[k].l.i, .int .i64 ps'[k].l.v.k, .int .i64 ps'[k].l.v.n, .string ps'[k].l.v.s, .int .i64 ps'[k].r.k, .int .i64 ps'[k].r.i, .int .i64 ps'[k].r.v.k, .int .i64 ps'[k].r.v.n, .string ps'[k].r.v.s, .slice a2 ps'[k].args.length c2]] W fun e w' => e = .returned (.bool (eqT ps[k] ps'[k])) ∧ Below W.heap.size W w') := fun W hb =>
          HC.out k i1 i2 _ _ W ⟨a1, c1, rfl, hps.below hb⟩ ⟨a2, c2, rfl, hqs.below hb⟩
        have HD : Hid (z = true ↔ (eqT ps[k] ps'[k] = true ∧ ps.drop (k + 1) = ps'.drop (k + 1))) := by show _ ↔ _; rw [HT.out, dropT_iff ps ps' k i1 i2]
        have zqq := zq
        clear hps hqs HC HT zq
        have zq := zq'
        generalize eqT ps[k] ps'[k] = y at *
        generalize ps[k].op = xop at *
        generalize ps[k].cmp = xcmp at *
        generalize ps[k].l.k = xlk at *
        generalize ps[k].l.i = xli at *
        generalize ps[k].l.v.k = xlvk at *
        generalize ps[k].l.v.n = xlvn at *
        generalize ps[k].l.v.s = xlvs at *
        generalize ps[k].r.k = xrk at *
        generalize ps[k].r.i = xri at *
        generalize ps[k].r.v.k = xrvk at *
        generalize ps[k].r.v.n = xrvn at *
        generalize ps[k].r.v.s = xrvs at *
        generalize ps[k].args.length = xn at *
        generalize ps'[k].op = yop at *
        generalize ps'[k].cmp = ycmp at *
        generalize ps'[k].l.k = ylk at *
        generalize ps'[k].l.i = yli at *
        generalize ps'[k].l.v.k = ylvk at *
        generalize ps'[k].l.v.n = ylvn at *
        generalize ps'[k].l.v.s = ylvs at *
        generalize ps'[k].r.k = yrk at *
        generalize ps'[k].r.i = yri at *
        generalize ps'[k].r.v.k = yrvk at *
        generalize ps'[k].r.v.n = yrvn at *
        generalize ps'[k].r.v.s = yrvs at *
        generalize ps'[k].args.length = yn at *
        have HK : Hid (∀ W, Below wr.heap.size wr W → W.cell? ⟨w.heap.size, 12, none⟩ = some (.slice (some ⟨b, o, none⟩) n c) ∧ W.cell? ⟨(w.heap.size + 1), 12, none⟩ = some (.slice (some ⟨b', o', none⟩) n c') ∧ W.cell? ⟨b, o + k * 13, none⟩ = some (.int .i64 xop) ∧ W.cell? ⟨b, o + k * 13 + 1, none⟩ = some (.int .i64 xcmp) ∧ W.cell? ⟨b, o + k * 13 + 2, none⟩ = some (.int .i64 xlk) ∧ W.cell? ⟨b, o + k * 13 + 3, none⟩ = some (.int .i64 xli) ∧ W.cell? ⟨b, o + k * 13 + 4, none⟩ = some (.int .i64 xlvk) ∧ W.cell? ⟨b, o + k * 13 + 5, none⟩ = some (.int .i64 xlvn) ∧ W.cell? ⟨b, o + k * 13 + 6, none⟩ = some (.string xlvs) ∧ W.cell? ⟨b, o + k * 13 + 7, none⟩ = some (.int .i64 xrk) ∧ W.cell? ⟨b, o + k * 13 + 8, none⟩ = some (.int .i64 xri) ∧ W.cell? ⟨b, o + k * 13 + 9, none⟩ = some (.int .i64 xrvk) ∧ W.cell? ⟨b, o + k * 13 + 10, none⟩ = some (.int .i64 xrvn) ∧ W.cell? ⟨b, o + k * 13 + 11, none⟩ = some (.string xrvs) ∧ W.cell? ⟨b, o + k * 13 + 12, none⟩ = some (.slice a1 xn c1) ∧ W.cell? ⟨b', o' + k * 13, none⟩ = some (.int .i64 yop) ∧ W.cell? ⟨b', o' + k * 13 + 1, none⟩ = some (.int .i64 ycmp) ∧ W.cell? ⟨b', o' + k * 13 + 2, none⟩ = some (.int .i64 ylk) ∧ W.cell? ⟨b', o' + k * 13 + 3, none⟩ = some (.int .i64 yli) ∧ W.cell? ⟨b', o' + k * 13 + 4, none⟩ = some (.int .i64 ylvk) ∧ W.cell? ⟨b', o' + k * 13 + 5, none⟩ = some (.int .i64 ylvn) ∧ W.cell? ⟨b', o' + k * 13 + 6, none⟩ = some (.string ylvs) ∧ W.cell? ⟨b', o' + k * 13 + 7, none⟩ = some (.int .i64 yrk) ∧ W.cell? ⟨b', o' + k * 13 + 8, none⟩ = some (.int .i64 yri) ∧ W.cell? ⟨b', o' + k * 13 + 9, none⟩ = some (.int .i64 yrvk) ∧ W.cell? ⟨b', o' + k * 13 + 10, none⟩ = some (.int .i64 yrvn) ∧ W.cell? ⟨b', o' + k * 13 + 11, none⟩ = some (.string yrvs) ∧ W.cell? ⟨b', o' + k * 13 + 12, none⟩ = some (.slice a2 yn c2)) := fun W hb => ⟨(hb.cell (p := ⟨w.heap.size, 12, none⟩) zs).trans s0, (hb.cell (p := ⟨(w.heap.size + 1), 12, none⟩) zt).trans t0, (hb.cell (p := ⟨b, o + k * 13, none⟩) zp).trans p0, (hb.cell (p := ⟨b, o + k * 13 + 1, none⟩) zp).trans p1, (hb.cell (p := ⟨b, o + k * 13 + 2, none⟩) zp).trans p2, (hb.cell (p := ⟨b, o + k * 13 + 3, none⟩) zp).trans p3, (hb.cell (p := ⟨b, o + k * 13 + 4, none⟩) zp).trans p4, (hb.cell (p := ⟨b, o + k * 13 + 5, none⟩) zp).trans p5, (hb.cell (p := ⟨b, o + k * 13 + 6, none⟩) zp).trans p6, (hb.cell (p := ⟨b, o + k * 13 + 7, none⟩) zp).trans p7, (hb.cell (p := ⟨b, o + k * 13 + 8, none⟩) zp).trans p8, (hb.cell (p := ⟨b, o + k * 13 + 9, none⟩) zp).trans p9, (hb.cell (p := ⟨b, o + k * 13 + 10, none⟩) zp).trans p10, (hb.cell (p := ⟨b, o + k * 13 + 11, none⟩) zp).trans p11, (hb.cell (p := ⟨b, o + k * 13 + 12, none⟩) zp).trans p12, (hb.cell (p := ⟨b', o' + k * 13, none⟩) zq).trans q0, (hb.cell (p := ⟨b', o' + k * 13 + 1, none⟩) zq).trans q1, (hb.cell (p := ⟨b', o' + k * 13 + 2, none⟩) zq).trans q2, (hb.cell (p := ⟨b', o' + k * 13 + 3, none⟩) zq).trans q3, (hb.cell (p := ⟨b', o' + k * 13 + 4, none⟩) zq).trans q4, (hb.cell (p := ⟨b', o' + k * 13 + 5, none⟩) zq).trans q5, (hb.cell (p := ⟨b', o' + k * 13 + 6, none⟩) zq).trans q6, (hb.cell (p := ⟨b', o' + k * 13 + 7, none⟩) zq).trans q7, (hb.cell (p := ⟨b', o' + k * 13 + 8, none⟩) zq).trans q8, (hb.cell (p := ⟨b', o' + k * 13 + 9, none⟩) zq).trans q9, (hb.cell (p := ⟨b', o' + k * 13 + 10, none⟩) zq).trans q10, (hb.cell (p := ⟨b', o' + k * 13 + 11, none⟩) zq).trans q11, (hb.cell (p := ⟨b', o' + k * 13 + 12, none⟩) zq).trans q12⟩
        go_wp2_with fail
        go_region_held3 (fun W => W.cell? ⟨w.heap.size, 12, none⟩ = some (.slice (some ⟨b, o, none⟩) n c) ∧ W.cell? ⟨(w.heap.size + 1), 12, none⟩ = some (.slice (some ⟨b', o', none⟩) n c') ∧ W.cell? ⟨b, o + k * 13, none⟩ = some (.int .i64 xop) ∧ W.cell? ⟨b, o + k * 13 + 1, none⟩ = some (.int .i64 xcmp) ∧ W.cell? ⟨b, o + k * 13 + 2, none⟩ = some (.int .i64 xlk) ∧ W.cell? ⟨b, o + k * 13 + 3, none⟩ = some (.int .i64 xli) ∧ W.cell? ⟨b, o + k * 13 + 4, none⟩ = some (.int .i64 xlvk) ∧ W.cell? ⟨b, o + k * 13 + 5, none⟩ = some (.int .i64 xlvn) ∧ W.cell? ⟨b, o + k * 13 + 6, none⟩ = some (.string xlvs) ∧ W.cell? ⟨b, o + k * 13 + 7, none⟩ = some (.int .i64 xrk) ∧ W.cell? ⟨b, o + k * 13 + 8, none⟩ = some (.int .i64 xri) ∧ W.cell? ⟨b, o + k * 13 + 9, none⟩ = some (.int .i64 xrvk) ∧ W.cell? ⟨b, o + k * 13 + 10, none⟩ = some (.int .i64 xrvn) ∧ W.cell? ⟨b, o + k * 13 + 11, none⟩ = some (.string xrvs) ∧ W.cell? ⟨b, o + k * 13 + 12, none⟩ = some (.slice a1 xn c1) ∧ W.cell? ⟨b', o' + k * 13, none⟩ = some (.int .i64 yop) ∧ W.cell? ⟨b', o' + k * 13 + 1, none⟩ = some (.int .i64 ycmp) ∧ W.cell? ⟨b', o' + k * 13 + 2, none⟩ = some (.int .i64 ylk) ∧ W.cell? ⟨b', o' + k * 13 + 3, none⟩ = some (.int .i64 yli) ∧ W.cell? ⟨b', o' + k * 13 + 4, none⟩ = some (.int .i64 ylvk) ∧ W.cell? ⟨b', o' + k * 13 + 5, none⟩ = some (.int .i64 ylvn) ∧ W.cell? ⟨b', o' + k * 13 + 6, none⟩ = some (.string ylvs) ∧ W.cell? ⟨b', o' + k * 13 + 7, none⟩ = some (.int .i64 yrk) ∧ W.cell? ⟨b', o' + k * 13 + 8, none⟩ = some (.int .i64 yri) ∧ W.cell? ⟨b', o' + k * 13 + 9, none⟩ = some (.int .i64 yrvk) ∧ W.cell? ⟨b', o' + k * 13 + 10, none⟩ = some (.int .i64 yrvn) ∧ W.cell? ⟨b', o' + k * 13 + 11, none⟩ = some (.string yrvs) ∧ W.cell? ⟨b', o' + k * 13 + 12, none⟩ = some (.slice a2 yn c2))
          (first | exact ⟨s0d, t0d, p0d, p1d, p2d, p3d, p4d, p5d, p6d, p7d, p8d, p9d, p10d, p11d, p12d, q0d, q1d, q2d, q3d, q4d, q5d, q6d, q7d, q8d, q9d, q10d, q11d, q12d⟩ | exact ⟨s0, t0, p0, p1, p2, p3, p4, p5, p6, p7, p8, p9, p10, p11, p12, q0, q1, q2, q3, q4, q5, q6, q7, q8, q9, q10, q11, q12⟩)
          (first | (go_at_call 20; (with_reducible refine (HCC.out _ (by (repeat (first | exact Below.refl _ _ | assumption | refine Below.drew ?_ | refine Below.setCell ?_ (by simp; try omega) _ | refine Below.alloc ?_ (by simp; try omega) _)))).mono ?_); rintro e wzd ⟨rfl, hg⟩; have hbd : Below wr.heap.size wr wzd := Below.trans (by (repeat (first | exact Below.refl _ _ | assumption | refine Below.drew ?_ | refine Below.setCell ?_ (by simp; try omega) _ | refine Below.alloc ?_ (by simp; try omega) _))) (hg.mono (by first | (simp; done) | ((try simp); exact Below.size (by assumption)))); obtain ⟨s0d, t0d, p0d, p1d, p2d, p3d, p4d, p5d, p6d, p7d, p8d, p9d, p10d, p11d, p12d, q0d, q1d, q2d, q3d, q4d, q5d, q6d, q7d, q8d, q9d, q10d, q11d, q12d⟩ := HK.out wzd hbd; clear hg))
        have B1 : Hid (Below wr.heap.size wr wzd) := hbd
        clear HCC HK s0 t0 p0 p1 p2 p3 p4 p5 p6 p7 p8 p9 p10 p11 p12 q0 q1 q2 q3 q4 q5 q6 q7 q8 q9 q10 q11 q12 hbd
        cases y with
        | true =>
          have HX : Hid (z = true ↔ ps.drop (k + 1) = ps'.drop (k + 1)) := by show _ ↔ _; rw [HD.out]; simp
          go_wp2_with fail
          go_roundw
          case rel => exact ⟨k + 1, by omega, by go_num, HQQ.out.trans (B1.out.mono zqq), HX.out⟩
          case measure => simp [intOf]; omega
        | false =>
          have HX : Hid (z = false) := by
            show _ = _
            cases z with
            | false => rfl
            | true => have := HD.out.1 rfl; simp at this
          go_wp2_with fail
          go_ret
          exact ⟨by rw [HX.out]; rfl, HB.out.trans (B1.out.mono HB.out.size)⟩
      · have HX : Hid (z = true) := by
          refine HT.out.2 ?_
          rw [List.drop_eq_nil_of_le (by rw [HNA.out]; omega), List.drop_eq_nil_of_le (by rw [HNB.out]; omega)]
        go_wp2_with fail
        go_ret
        exact ⟨by rw [HX.out]; rfl, HB.out⟩
end Go.Proofs.Ytffeghlepblapaa
