
/- The reference's nodes, deeper, plain, kind. -/
import Derived.Test.YtjcbmeannhafjaaPdEvery

import Derived.Test.YtjcbmeannhafjaaPdHolds

import Derived.Test.YtjcbmeannhafjaaPdOf

import Derived.Test.YtjcbmeannhafjaaRNext

namespace Go.Proofs.Ytjcbmeannhafjaa

open Go.RowKit

mutual
/-- What the reference's nodes answers. -/
def ndP : Nat → PT → Nat
  | n, .mk _ _ _ _ args => ndL (n + 1) args
def ndL : Nat → List PT → Nat
  | n, [] => n
  | n, p :: t => if n ≤ 24 then ndL (ndP n p) t else n
end
theorem ndP_eq (n : Nat) (p : PT) : ndP n p = ndL (n + 1) p.args := by cases p; rw [ndP]; rfl
theorem ndL_step (n : Nat) (ps : List PT) (k : Nat) (h : k < ps.length) (hn : n ≤ 24) : ndL n (ps.drop k) = ndL (ndP n ps[k]) (ps.drop (k + 1)) := by
  rw [List.drop_eq_getElem_cons h, ndL, if_pos hn]
theorem ndL_stop (n : Nat) (ps : List PT) (hn : 24 < n) : ndL n ps = n := by
  cases ps with
  | nil => rw [ndL]
  | cons p t => rw [ndL, if_neg (by omega)]
theorem ndL_end (n : Nat) (ps : List PT) (k : Nat) (h : ps.length ≤ k) : ndL n (ps.drop k) = n := by rw [List.drop_eq_nil_of_le h, ndL]
mutual
theorem ndP_le : ∀ (p : PT) (n : Nat), n ≤ 24 → ndP n p ≤ 25
  | .mk _ _ _ _ args, n, h => by rw [ndP]; exact ndL_le args (n + 1) (by omega)
theorem ndL_le : ∀ (ps : List PT) (n : Nat), n ≤ 25 → ndL n ps ≤ 25
  | [], n, h => by rw [ndL]; exact h
  | p :: t, n, h => by
    rw [ndL]
    split
    · exact ndL_le t _ (ndP_le p n (by assumption))
    · exact h
end
mutual
theorem ndP_is : ∀ (p : PT) (n : Nat), (n + p.nodes ≤ 24 → ndP n p = n + p.nodes) ∧ (24 < n + p.nodes → 24 < ndP n p)
  | .mk _ _ _ _ args, n => by
    have en : ∀ a b c d, (PT.mk a b c d args).nodes = nodesL args + 1 := fun _ _ _ _ => rfl
    rw [en, ndP]
    obtain ⟨h1, h2⟩ := ndL_is args (n + 1)
    exact ⟨fun h => by rw [h1 (by omega)]; omega, fun h => h2 (by omega)⟩
theorem ndL_is : ∀ (ps : List PT) (n : Nat), (n + nodesL ps ≤ 24 → ndL n ps = n + nodesL ps) ∧ (24 < n + nodesL ps → 24 < ndL n ps)
  | [], n => by
    have en : nodesL [] = 0 := rfl
    rw [ndL, en]; exact ⟨fun _ => rfl, fun h => by omega⟩
  | p :: t, n => by
    have en : nodesL (p :: t) = p.nodes + nodesL t := rfl
    rw [ndL, en]
    obtain ⟨h1, h2⟩ := ndP_is p n
    by_cases h : n ≤ 24
    · rw [if_pos h]
      obtain ⟨h3, h4⟩ := ndL_is t (ndP n p)
      by_cases hp : n + p.nodes ≤ 24
      · rw [h1 hp] at h3 h4 ⊢
        exact ⟨fun hx => by rw [h3 (by omega)]; omega, fun hx => h4 (by omega)⟩
      · have := h2 (by omega)
        exact ⟨fun hx => by omega, fun _ => by rw [ndL_stop _ t this]; exact this⟩
    · rw [if_neg h]
      exact ⟨fun hx => by omega, fun _ => by omega⟩
end
theorem nd_small (p : PT) : (ndP 0 p ≤ 24) ↔ p.nodes ≤ 24 := by
  obtain ⟨h1, h2⟩ := ndP_is p 0
  by_cases h : p.nodes ≤ 24
  · rw [h1 (by omega)]; omega
  · have := h2 (by omega); omega


def NodesAt (p : PT) : Prop := ∀ (n : Nat) (v : Value) (w : World), n ≤ 24 → Pd w v p → Calls Try.prog 70 #[v, .int .i64 n] w fun e w' => e = .returned (.int .i64 (ndP n p)) ∧ Below w.heap.size w w'

set_option maxRecDepth 100000 in
set_option maxHeartbeats 4000000 in
theorem rNodes_any : ∀ (d : Nat) (p : PT), p.depth ≤ d → NodesAt p
  | 0, p, hd => by have := p.depth_pos; omega
  | d + 1, p, hd => by
    have IH : ∀ j (hj : j < p.args.length), NodesAt p.args[j] := fun j hj => rNodes_any d _ (PT.depth_arg hj hd)
    intro n v w hn h
    obtain ⟨op, cmp, lk, li, lvk, lvn, lvs, rk, ri, rvk, rvn, rvs, ps, a, c, rfl, rfl, hps⟩ := pd_fields h
    change ∀ j (hj : j < ps.length), NodesAt ps[j] at IH
    have HI := Lib.hid IH
    have HP := Lib.hid hps
    have hfew := hps.1.few
    obtain ⟨m, hm⟩ : ∃ m, ps.length = m := ⟨_, rfl⟩
    have HM := Lib.hid hm
    rw [hm] at hfew ⊢
    obtain ⟨r, hr⟩ : ∃ r, ndP n (.mk op cmp ⟨lk, li, ⟨lvk, lvn, lvs⟩⟩ ⟨rk, ri, ⟨rvk, rvn, rvs⟩⟩ ps) = r := ⟨_, rfl⟩
    have HR : Hid (ndL (n + 1) (ps.drop 0) = r) := by rw [← hr]; show ndL (n + 1) (ps.drop 0) = ndP n _; rw [ndP_eq]; rfl
    rw [hr]
    clear IH h hps hm hr hd
    go_enter Try.func70, Try.ntmps70
    go_wp2_with fail
    obtain ⟨wq, hwq⟩ : ∃ wq, w.alloc (.cells #[.int .i64 op, .int .i64 cmp, .int .i64 lk, .int .i64 li, .int .i64 lvk, .int .i64 lvn, .string lvs, .int .i64 rk, .int .i64 ri, .int .i64 rvk, .int .i64 rvn, .string rvs, .slice a m c] 77) = wq := ⟨_, rfl⟩
    have HB : Hid (Below w.heap.size w wq) := by rw [← hwq]; exact (Below.refl _ _).alloc (Nat.le_refl _) _
    have hc : wq.cell? ⟨w.heap.size, 12, none⟩ = some (.slice a m c) := by subst hwq; go_simp
    have hzq : w.heap.size + 1 ≤ wq.heap.size := by subst hwq; simp
    have HS : Hid (∀ W, Below (w.heap.size + 1) wq W → W.cell? ⟨w.heap.size, 12, none⟩ = some (.slice a m c)) := fun W hb => (hb.cell (p := ⟨w.heap.size, 12, none⟩) (show w.heap.size < _ by omega)).trans hc
    rw [hwq]
    clear hwq hc
    go_loopw [1, 5] (fun nn i wr => ∃ (k q : Nat), k ≤ m ∧ q ≤ 25 ∧ i = .int .i64 k ∧ nn = .int .i64 q ∧ Hid (Below (w.heap.size + 1) wq wr) ∧ Hid (ndL q (ps.drop k) = r)) (fun _ i _ => m - (intOf i).toNat)
    case atStart => exact ⟨0, n + 1, by omega, by omega, rfl, by first | rfl | go_num, Below.refl _ _, HR.out⟩
    case round =>
      obtain ⟨k, q, hk, hq, rfl, rfl, HQ, HT⟩ := hrel
      have HW : Hid (Below w.heap.size w wr) := HB.out.trans (HQ.out.mono (by omega))
      have c12 := HS.out wr HQ.out
      have zq : w.heap.size + 1 ≤ wr.heap.size := by have := HQ.out.size; omega
      have zw : w.heap.size < wr.heap.size := by omega
      clear HB HS HR
      by_cases hlt : k < m
      · have hlt' : (k : Int) < m := by omega
        by_cases h24 : q ≤ 24
        · have d24 : decide ((q : Int) ≤ 24) = true := by simp; omega
          have hkn : k < ps.length := by rw [HM.out]; exact hlt
          obtain ⟨b, o, a1, c1, rfl, hPb, hb, g0, g1, g2, g3, g4, g5, g6, g7, g8, g9, g10, g11, g12, hps⟩ := (HP.out.below HW.out).get hkn
          have HH : Hid (∀ W, Below wr.heap.size wr W → Calls Try.prog 70 #[.agg #[.int .i64 ps[k].op, .int .i64 ps[k].cmp, .int .i64 ps[k].l.k, .int .i64 ps[k].l.i, .int .i64 ps[k].l.v.k, .int .i64 ps[k].l.v.n, .string ps[k].l.v.s, .int .i64 ps[k].r.k, .int .i64 ps[k].r.i, .int .i64 ps[k].r.v.k, .int .i64 ps[k].r.v.n, .string ps[k].r.v.s, .slice a1 ps[k].args.length c1], .int .i64 q] W fun e w' => e = .returned (.int .i64 (ndP q ps[k])) ∧ Below W.heap.size W w') := fun W hb =>
            HI.out k hkn q _ W h24 ⟨a1, c1, rfl, hps.below hb⟩
          have HX : Hid (ndL (ndP q ps[k]) (ps.drop (k + 1)) = r) := by show _ = _; rw [← HT.out, ndL_step q ps k hkn h24]
          have hle := ndP_le ps[k] q h24
          clear hps
          generalize ndP q ps[k] = y at *
          generalize ps[k].op = eop at *
          generalize ps[k].cmp = ecmp at *
          generalize ps[k].l.k = elk at *
          generalize ps[k].l.i = eli at *
          generalize ps[k].l.v.k = elvk at *
          generalize ps[k].l.v.n = elvn at *
          generalize ps[k].l.v.s = elvs at *
          generalize ps[k].r.k = erk at *
          generalize ps[k].r.i = eri at *
          generalize ps[k].r.v.k = ervk at *
          generalize ps[k].r.v.n = ervn at *
          generalize ps[k].r.v.s = ervs at *
          generalize ps[k].args.length = en at *
          go_wp2_with fail
          refine (HH.out _ (by (repeat (first | exact Below.refl _ _ | assumption | refine Below.drew ?_ | refine Below.setCell ?_ (by first | omega | (simp only [World.size_alloc]; omega) | (simp; try omega)) _ | refine Below.alloc ?_ (by first | omega | (simp only [World.size_alloc]; omega) | (simp; try omega)) _)))).mono ?_
          rintro e w5 ⟨rfl, hb5⟩
          have B5 : Hid (Below wr.heap.size wr w5) := hb5
          clear hb5 g0 g1 g2 g3 g4 g5 g6 g7 g8 g9 g10 g11 g12
          go_wp2_with fail
          go_roundw
          case rel => exact ⟨k + 1, y, by omega, hle, by go_num, rfl, HQ.out.trans (B5.out.mono zq), HX.out⟩
          case measure => simp [intOf]; omega
        · have d24 : decide ((q : Int) ≤ 24) = false := by simp; omega
          have HX : Hid ((q : Nat) = r) := by show _ = _; rw [← HT.out, ndL_stop q _ (by omega)]
          go_wp2_with fail
          go_ret
          exact ⟨by rw [← HX.out]; rfl, HW.out⟩
      · have HX : Hid ((q : Nat) = r) := by show _ = _; rw [← HT.out, ndL_end q ps k (by rw [HM.out]; omega)]
        go_wp2_with fail
        go_ret
        exact ⟨by rw [← HX.out]; rfl, HW.out⟩

theorem deep_step (n a b : Nat) : decide (n < max a b) = (decide (n < a) || decide (n < b)) := by
  rw [Bool.eq_iff_iff]; simp only [decide_eq_true_eq, Bool.or_eq_true]; omega
def DeepAt (p : PT) : Prop := ∀ (n : Nat) (v : Value) (w : World), n ≤ 8 → Pd w v p → Calls Try.prog 71 #[v, .int .i64 n] w fun e w' => e = .returned (.bool (decide (n < p.depth))) ∧ Below w.heap.size w w'

set_option maxRecDepth 100000 in
set_option maxHeartbeats 4000000 in
theorem rDeeper_any : ∀ (d : Nat) (p : PT), p.depth ≤ d → DeepAt p
  | 0, p, hd => by have := p.depth_pos; omega
  | d + 1, p, hd => by
    have IH : ∀ j (hj : j < p.args.length), DeepAt p.args[j] := fun j hj => rDeeper_any d _ (PT.depth_arg hj hd)
    intro n v w hn h
    have hdp := PT.depth_as p
    cases n with
    | zero =>
      rw [show decide (0 < p.depth) = true by simp; omega]
      obtain ⟨op, cmp, lk, li, lvk, lvn, lvs, rk, ri, rvk, rvn, rvs, ps, a, c, rfl, rfl, hps⟩ := pd_fields h
      generalize ps.length = m at *
      clear IH h hps hd hn hdp
      go_enter Try.func71, Try.ntmps71
      go_wp2_with fail
      go_ret
      exact ⟨rfl, by (repeat (first | exact Below.refl _ _ | assumption | refine Below.drew ?_ | refine Below.setCell ?_ (by first | omega | (simp only [World.size_alloc]; omega) | (simp; try omega)) _ | refine Below.alloc ?_ (by first | omega | (simp only [World.size_alloc]; omega) | (simp; try omega)) _))⟩
    | succ n =>
    obtain ⟨z, hz⟩ : ∃ z, decide (n + 1 < p.depth) = z := ⟨_, rfl⟩
    have HZ : Hid (decide (n < depthP (p.args.drop 0)) = z) := by show _ = _; rw [← hz, hdp, List.drop_zero, Bool.eq_iff_iff]; simp only [decide_eq_true_eq]; omega
    rw [hz]
    obtain ⟨op, cmp, lk, li, lvk, lvn, lvs, rk, ri, rvk, rvn, rvs, ps, a, c, rfl, rfl, hps⟩ := pd_fields h
    change ∀ j (hj : j < ps.length), DeepAt ps[j] at IH
    change Hid (decide (n < depthP (ps.drop 0)) = z) at HZ
    have HI := Lib.hid IH
    have HP := Lib.hid hps
    have hfew := hps.1.few
    obtain ⟨m, hm⟩ : ∃ m, ps.length = m := ⟨_, rfl⟩
    have HM := Lib.hid hm
    rw [hm] at hfew ⊢
    have en : (((n + 1 : Nat) : Int) == 0) = false := by simp; omega
    have es : IntKind.i64.wrap (((n + 1 : Nat) : Int) - 1) = n := by rw [IntKind.wrap_i64]; omega
    have es2 : ((n + 1 : Nat) : Int) - 1 = n := by omega
    obtain ⟨nn, hnn⟩ : ∃ nn : Int, ((n + 1 : Nat) : Int) = nn := ⟨_, rfl⟩
    rw [hnn] at en es es2 ⊢
    have hn0 : 1 ≤ nn := by omega
    have hn1 : nn ≤ 8 := by omega
    clear IH h hps hm hz hd hdp hnn
    go_enter Try.func71, Try.ntmps71
    go_wp2_with fail
    obtain ⟨wq, hwq⟩ : ∃ wq, w.alloc (.cells #[.int .i64 op, .int .i64 cmp, .int .i64 lk, .int .i64 li, .int .i64 lvk, .int .i64 lvn, .string lvs, .int .i64 rk, .int .i64 ri, .int .i64 rvk, .int .i64 rvn, .string rvs, .slice a m c] 77) = wq := ⟨_, rfl⟩
    have HB : Hid (Below w.heap.size w wq) := by rw [← hwq]; exact (Below.refl _ _).alloc (Nat.le_refl _) _
    have hc : wq.cell? ⟨w.heap.size, 12, none⟩ = some (.slice a m c) := by subst hwq; go_simp
    have hzq : w.heap.size + 1 ≤ wq.heap.size := by subst hwq; simp
    have HS : Hid (∀ W, Below (w.heap.size + 1) wq W → W.cell? ⟨w.heap.size, 12, none⟩ = some (.slice a m c)) := fun W hb => (hb.cell (p := ⟨w.heap.size, 12, none⟩) (show w.heap.size < _ by omega)).trans hc
    rw [hwq]
    clear hwq hc
    go_loopw [11] (fun i wr => ∃ (k : Nat), k ≤ m ∧ i = .int .i64 k ∧ Hid (Below (w.heap.size + 1) wq wr) ∧ Hid (decide (n < depthP (ps.drop k)) = z)) (fun i _ => m - (intOf i).toNat)
    case atStart => exact ⟨0, by omega, rfl, Below.refl _ _, HZ.out⟩
    case round =>
      obtain ⟨k, hk, rfl, HQ, HT⟩ := hrel
      have HW : Hid (Below w.heap.size w wr) := HB.out.trans (HQ.out.mono (by omega))
      have c12 := HS.out wr HQ.out
      have zq : w.heap.size + 1 ≤ wr.heap.size := by have := HQ.out.size; omega
      have zw : w.heap.size < wr.heap.size := by omega
      clear HB HS HZ
      by_cases hlt : k < m
      · have hlt' : (k : Int) < m := by omega
        have hkn : k < ps.length := by rw [HM.out]; exact hlt
        obtain ⟨b, o, a1, c1, rfl, hPb, hb, g0, g1, g2, g3, g4, g5, g6, g7, g8, g9, g10, g11, g12, hps⟩ := (HP.out.below HW.out).get hkn
        have HH : Hid (∀ W, Below wr.heap.size wr W → Calls Try.prog 71 #[.agg #[.int .i64 ps[k].op, .int .i64 ps[k].cmp, .int .i64 ps[k].l.k, .int .i64 ps[k].l.i, .int .i64 ps[k].l.v.k, .int .i64 ps[k].l.v.n, .string ps[k].l.v.s, .int .i64 ps[k].r.k, .int .i64 ps[k].r.i, .int .i64 ps[k].r.v.k, .int .i64 ps[k].r.v.n, .string ps[k].r.v.s, .slice a1 ps[k].args.length c1], .int .i64 n] W fun e w' => e = .returned (.bool (decide (n < ps[k].depth))) ∧ Below W.heap.size W w') := fun W hb =>
          HI.out k hkn n _ W (by omega) ⟨a1, c1, rfl, hps.below hb⟩
        have HD : Hid (decide (n < depthP (ps.drop k)) = (decide (n < ps[k].depth) || decide (n < depthP (ps.drop (k + 1))))) := by show _ = _; rw [depthP_drop ps k hkn, deep_step]
        clear hps
        generalize decide (n < ps[k].depth) = y at *
        generalize ps[k].op = eop at *
        generalize ps[k].cmp = ecmp at *
        generalize ps[k].l.k = elk at *
        generalize ps[k].l.i = eli at *
        generalize ps[k].l.v.k = elvk at *
        generalize ps[k].l.v.n = elvn at *
        generalize ps[k].l.v.s = elvs at *
        generalize ps[k].r.k = erk at *
        generalize ps[k].r.i = eri at *
        generalize ps[k].r.v.k = ervk at *
        generalize ps[k].r.v.n = ervn at *
        generalize ps[k].r.v.s = ervs at *
        generalize ps[k].args.length = en at *
        cases y with
        | false =>
          have HX : Hid (decide (n < depthP (ps.drop (k + 1))) = z) := by show _ = _; rw [← HT.out, HD.out]; simp
          go_wp2_with fail
          refine (HH.out _ (by (repeat (first | exact Below.refl _ _ | assumption | refine Below.drew ?_ | refine Below.setCell ?_ (by first | omega | (simp only [World.size_alloc]; omega) | (simp; try omega)) _ | refine Below.alloc ?_ (by first | omega | (simp only [World.size_alloc]; omega) | (simp; try omega)) _)))).mono ?_
          rintro e w5 ⟨rfl, hb5⟩
          have B5 : Hid (Below wr.heap.size wr w5) := hb5
          clear hb5 g0 g1 g2 g3 g4 g5 g6 g7 g8 g9 g10 g11 g12
          go_wp2_with fail
          go_roundw
          case rel => exact ⟨k + 1, by omega, by go_num, HQ.out.trans (B5.out.mono zq), HX.out⟩
          case measure => simp [intOf]; omega
        | true =>
          have HX : Hid (z = true) := by show _ = _; rw [← HT.out, HD.out]; simp
          go_wp2_with fail
          refine (HH.out _ (by (repeat (first | exact Below.refl _ _ | assumption | refine Below.drew ?_ | refine Below.setCell ?_ (by first | omega | (simp only [World.size_alloc]; omega) | (simp; try omega)) _ | refine Below.alloc ?_ (by first | omega | (simp only [World.size_alloc]; omega) | (simp; try omega)) _)))).mono ?_
          rintro e w5 ⟨rfl, hb5⟩
          have B5 : Hid (Below wr.heap.size wr w5) := hb5
          clear hb5 g0 g1 g2 g3 g4 g5 g6 g7 g8 g9 g10 g11 g12
          go_wp2_with fail
          go_ret
          exact ⟨by rw [HX.out]; rfl, HW.out.trans (B5.out.mono HW.out.size)⟩
      · have HX : Hid (z = false) := by show _ = _; rw [← HT.out, List.drop_eq_nil_of_le (by rw [HM.out]; omega)]; simp [depthP]
        go_wp2_with fail
        go_ret
        exact ⟨by rw [HX.out]; rfl, HW.out⟩


set_option maxRecDepth 100000 in
set_option maxHeartbeats 2000000 in
theorem rPlain_any (p : PT) (v : Value) (w : World) (h : Pd w v p) : Calls Try.prog 90 #[v] w fun e w' => e = .returned (.bool (plnB p)) ∧ Below w.heap.size w w' := by
  unfold plnB
  obtain ⟨op, cmp, lk, li, lvk, lvn, lvs, rk, ri, rvk, rvn, rvs, ps, a, c, rfl, rfl, hps⟩ := pd_fields h
  change Calls _ _ _ _ (fun e w' => e = .returned (.bool (cmp == 0 && (decide (Od.mk lk li ⟨lvk, lvn, lvs⟩ = ⟨0, 0, ⟨0, 0, ⟨#[]⟩⟩⟩) && decide (Od.mk rk ri ⟨rvk, rvn, rvs⟩ = ⟨0, 0, ⟨0, 0, ⟨#[]⟩⟩⟩)))) ∧ _)
  have E1 := eqO_run lk li lvk lvn lvs 0 0 0 0 ⟨#[]⟩
  have E2 := eqO_run rk ri rvk rvn rvs 0 0 0 0 ⟨#[]⟩
  generalize decide (Od.mk lk li ⟨lvk, lvn, lvs⟩ = ⟨0, 0, ⟨0, 0, ⟨#[]⟩⟩⟩) = x at *
  generalize decide (Od.mk rk ri ⟨rvk, rvn, rvs⟩ = ⟨0, 0, ⟨0, 0, ⟨#[]⟩⟩⟩) = y at *
  generalize ps.length = n at *
  clear h hps
  cases hb : (cmp == 0) with
  | false =>
    clear E1 E2
    go_enter Try.func90, Try.ntmps90
    go_wp2_with fail
    go_ret
    exact ⟨rfl, by (repeat (first | exact Below.refl _ _ | assumption | refine Below.drew ?_ | refine Below.setCell ?_ (by first | omega | (simp only [World.size_alloc]; omega) | (simp; try omega)) _ | refine Below.alloc ?_ (by first | omega | (simp only [World.size_alloc]; omega) | (simp; try omega)) _))⟩
  | true =>
    cases x with
    | false =>
      clear E2
      go_enter Try.func90, Try.ntmps90
      go_wp2_with fail
      go_ret
      exact ⟨rfl, by (repeat (first | exact Below.refl _ _ | assumption | refine Below.drew ?_ | refine Below.setCell ?_ (by first | omega | (simp only [World.size_alloc]; omega) | (simp; try omega)) _ | refine Below.alloc ?_ (by first | omega | (simp only [World.size_alloc]; omega) | (simp; try omega)) _))⟩
    | true =>
      go_enter Try.func90, Try.ntmps90
      go_wp2_with fail
      go_ret
      exact ⟨rfl, by (repeat (first | exact Below.refl _ _ | assumption | refine Below.drew ?_ | refine Below.setCell ?_ (by first | omega | (simp only [World.size_alloc]; omega) | (simp; try omega)) _ | refine Below.alloc ?_ (by first | omega | (simp only [World.size_alloc]; omega) | (simp; try omega)) _))⟩

/-- The kind of a valid operand, 0 for any other. -/
def kindO (C Q : List Int) (o : Od) : Int := if ofB C Q o then ofK C Q o else 0


set_option maxRecDepth 100000 in
set_option maxHeartbeats 4000000 in
theorem rKind_1 (C Q : List Int) (cv qv : Value) (i vk vn : Int) (vs : ByteArray) (w : World) (hc : IntsAt w cv C) (hq : IntsAt w qv Q) : Calls Try.prog 91 #[cv, qv, .agg #[.int .i64 1, .int .i64 i, .int .i64 vk, .int .i64 vn, .string vs]] w fun e w' => e = .returned (.int .i64 (if inB C.length i && decide (V.mk vk vn vs = zV) then atI C i else 0)) ∧ Below w.heap.size w w' := by
  obtain ⟨ca, cc, rfl, hcf, hci⟩ := hc
  obtain ⟨qa, qc, rfl, hqf, hqi⟩ := hq
  have hn1 := hcf.few
  have hn2 := hqf.few
  have E := neV_run vk vn vs 0 0 ⟨#[]⟩
  rw [zV_mk]
  generalize decide (V.mk vk vn vs = ⟨0, 0, ⟨#[]⟩⟩) = x at *
  cases hin : inB C.length i with
  | true =>
    obtain ⟨k, rfl, hk⟩ := inB_true hin
    obtain ⟨b, off, rfl, hb, c0⟩ := hci k hk
    rw [atI_in hk]
    clear hci hqi hin hcf hqf
    generalize C[k] = y at *
    generalize C.length = nc at *
    generalize Q.length = nq at *
    have d1 : decide ((k : Int) < 0) = false := by simp
    have d2 : decide ((nc : Int) ≤ k) = false := by simp; omega
    have hlt' : (k : Int) < nc := by omega
    cases x with
    | true =>
      go_enter Try.func91, Try.ntmps91
      go_wp2_with fail
      go_ret
      exact ⟨rfl, by (repeat (first | exact Below.refl _ _ | assumption | refine Below.drew ?_ | refine Below.setCell ?_ (by first | omega | (simp only [World.size_alloc]; omega) | (simp; try omega)) _ | refine Below.alloc ?_ (by first | omega | (simp only [World.size_alloc]; omega) | (simp; try omega)) _))⟩
    | false =>
      go_enter Try.func91, Try.ntmps91
      go_wp2_with fail
      go_ret
      exact ⟨rfl, by (repeat (first | exact Below.refl _ _ | assumption | refine Below.drew ?_ | refine Below.setCell ?_ (by first | omega | (simp only [World.size_alloc]; omega) | (simp; try omega)) _ | refine Below.alloc ?_ (by first | omega | (simp only [World.size_alloc]; omega) | (simp; try omega)) _))⟩
  | false =>
    have hcs := inB_false hin
    clear hci hqi hin hcf hqf E
    generalize C.length = nc at *
    generalize Q.length = nq at *
    by_cases h0 : i < 0
    · have d1 : decide (i < 0) = true := by simpa using h0
      go_enter Try.func91, Try.ntmps91
      go_wp2_with fail
      go_ret
      exact ⟨rfl, by (repeat (first | exact Below.refl _ _ | assumption | refine Below.drew ?_ | refine Below.setCell ?_ (by first | omega | (simp only [World.size_alloc]; omega) | (simp; try omega)) _ | refine Below.alloc ?_ (by first | omega | (simp only [World.size_alloc]; omega) | (simp; try omega)) _))⟩
    · have d1 : decide (i < 0) = false := by simpa using h0
      have d2 : decide ((nc : Int) ≤ i) = true := by simp; omega
      go_enter Try.func91, Try.ntmps91
      go_wp2_with fail
      go_ret
      exact ⟨rfl, by (repeat (first | exact Below.refl _ _ | assumption | refine Below.drew ?_ | refine Below.setCell ?_ (by first | omega | (simp only [World.size_alloc]; omega) | (simp; try omega)) _ | refine Below.alloc ?_ (by first | omega | (simp only [World.size_alloc]; omega) | (simp; try omega)) _))⟩

set_option maxRecDepth 100000 in
set_option maxHeartbeats 4000000 in
theorem rKind_2 (C Q : List Int) (cv qv : Value) (i vk vn : Int) (vs : ByteArray) (w : World) (hc : IntsAt w cv C) (hq : IntsAt w qv Q) : Calls Try.prog 91 #[cv, qv, .agg #[.int .i64 2, .int .i64 i, .int .i64 vk, .int .i64 vn, .string vs]] w fun e w' => e = .returned (.int .i64 (if inB Q.length i && decide (V.mk vk vn vs = zV) then atI Q i else 0)) ∧ Below w.heap.size w w' := by
  obtain ⟨ca, cc, rfl, hcf, hci⟩ := hc
  obtain ⟨qa, qc, rfl, hqf, hqi⟩ := hq
  have hn1 := hcf.few
  have hn2 := hqf.few
  have E := neV_run vk vn vs 0 0 ⟨#[]⟩
  rw [zV_mk]
  generalize decide (V.mk vk vn vs = ⟨0, 0, ⟨#[]⟩⟩) = x at *
  cases hin : inB Q.length i with
  | true =>
    obtain ⟨k, rfl, hk⟩ := inB_true hin
    obtain ⟨b, off, rfl, hb, c0⟩ := hqi k hk
    rw [atI_in hk]
    clear hci hqi hin hcf hqf
    generalize Q[k] = y at *
    generalize C.length = nc at *
    generalize Q.length = nq at *
    have d1 : decide ((k : Int) < 0) = false := by simp
    have d2 : decide ((nq : Int) ≤ k) = false := by simp; omega
    have hlt' : (k : Int) < nq := by omega
    cases x with
    | true =>
      go_enter Try.func91, Try.ntmps91
      go_wp2_with fail
      go_ret
      exact ⟨rfl, by (repeat (first | exact Below.refl _ _ | assumption | refine Below.drew ?_ | refine Below.setCell ?_ (by first | omega | (simp only [World.size_alloc]; omega) | (simp; try omega)) _ | refine Below.alloc ?_ (by first | omega | (simp only [World.size_alloc]; omega) | (simp; try omega)) _))⟩
    | false =>
      go_enter Try.func91, Try.ntmps91
      go_wp2_with fail
      go_ret
      exact ⟨rfl, by (repeat (first | exact Below.refl _ _ | assumption | refine Below.drew ?_ | refine Below.setCell ?_ (by first | omega | (simp only [World.size_alloc]; omega) | (simp; try omega)) _ | refine Below.alloc ?_ (by first | omega | (simp only [World.size_alloc]; omega) | (simp; try omega)) _))⟩
  | false =>
    have hcs := inB_false hin
    clear hci hqi hin hcf hqf E
    generalize C.length = nc at *
    generalize Q.length = nq at *
    by_cases h0 : i < 0
    · have d1 : decide (i < 0) = true := by simpa using h0
      go_enter Try.func91, Try.ntmps91
      go_wp2_with fail
      go_ret
      exact ⟨rfl, by (repeat (first | exact Below.refl _ _ | assumption | refine Below.drew ?_ | refine Below.setCell ?_ (by first | omega | (simp only [World.size_alloc]; omega) | (simp; try omega)) _ | refine Below.alloc ?_ (by first | omega | (simp only [World.size_alloc]; omega) | (simp; try omega)) _))⟩
    · have d1 : decide (i < 0) = false := by simpa using h0
      have d2 : decide ((nq : Int) ≤ i) = true := by simp; omega
      go_enter Try.func91, Try.ntmps91
      go_wp2_with fail
      go_ret
      exact ⟨rfl, by (repeat (first | exact Below.refl _ _ | assumption | refine Below.drew ?_ | refine Below.setCell ?_ (by first | omega | (simp only [World.size_alloc]; omega) | (simp; try omega)) _ | refine Below.alloc ?_ (by first | omega | (simp only [World.size_alloc]; omega) | (simp; try omega)) _))⟩

set_option maxRecDepth 100000 in
set_option maxHeartbeats 2000000 in
theorem rKind_any (C Q : List Int) (cv qv : Value) (o : Od) (w : World) (hc : IntsAt w cv C) (hq : IntsAt w qv Q) : Calls Try.prog 91 #[cv, qv, oA o] w fun e w' => e = .returned (.int .i64 (kindO C Q o)) ∧ Below w.heap.size w w' := by
  unfold kindO ofK ofB
  obtain ⟨ok, oi, ⟨vk, vn, vs⟩⟩ := o
  by_cases h1 : ok = 1
  · subst h1
    simp only [if_true]
    exact rKind_1 C Q cv qv oi vk vn vs w hc hq
  by_cases h2 : ok = 2
  · subst h2
    simp only [if_true, if_neg (show ¬ (2 : Int) = 1 by omega)]
    exact rKind_2 C Q cv qv oi vk vn vs w hc hq
  obtain ⟨ca, cc, rfl⟩ := hc.shape
  obtain ⟨qa, qc, rfl⟩ := hq.shape
  clear hc hq
  by_cases h3 : ok = 3
  · subst h3
    simp only [if_true, if_neg (show ¬ (3 : Int) = 1 by omega), if_neg (show ¬ (3 : Int) = 2 by omega), oA]
    change Calls _ _ _ _ (fun e w' => e = .returned (.int .i64 (if (oi == 0 && realB vk vn vs) = true then vk else 0)) ∧ _)
    have HR : Hid (∀ W, Calls Try.prog 111 #[.agg #[.int .i64 vk, .int .i64 vn, .string vs]] W fun e w' => e = .returned (.bool (realB vk vn vs)) ∧ Below W.heap.size W w') := fun W => (rReal_any vk vn vs W).mono fun _ _ ⟨x, y⟩ => ⟨x, y.below⟩
    generalize realB vk vn vs = x at *
    generalize C.length = nc at *
    generalize Q.length = nq at *
    clear h1 h2
    cases hi : (oi == 0) with
    | false =>
      have hi' : (oi != 0) = true := by simpa using hi
      clear hi HR
      go_enter Try.func91, Try.ntmps91
      go_wp2_with fail
      go_ret
      exact ⟨rfl, by (repeat (first | exact Below.refl _ _ | assumption | refine Below.drew ?_ | refine Below.setCell ?_ (by first | omega | (simp only [World.size_alloc]; omega) | (simp; try omega)) _ | refine Below.alloc ?_ (by first | omega | (simp only [World.size_alloc]; omega) | (simp; try omega)) _))⟩
    | true =>
      obtain rfl : oi = 0 := by simpa using hi
      clear hi
      cases x with
      | false =>
        go_enter Try.func91, Try.ntmps91
        go_wp2_with fail
        refine (HR.out _).mono ?_
        rintro e w1 ⟨rfl, hb⟩
        have B1 : Hid (Below w.heap.size w w1) := Below.trans (by (repeat (first | exact Below.refl _ _ | assumption | refine Below.drew ?_ | refine Below.setCell ?_ (by first | omega | (simp only [World.size_alloc]; omega) | (simp; try omega)) _ | refine Below.alloc ?_ (by first | omega | (simp only [World.size_alloc]; omega) | (simp; try omega)) _))) (hb.mono (by simp only [World.size_alloc]; omega))
        clear hb
        go_wp2_with fail
        go_ret
        exact ⟨rfl, B1.out⟩
      | true =>
        go_enter Try.func91, Try.ntmps91
        go_wp2_with fail
        refine (HR.out _).mono ?_
        rintro e w1 ⟨rfl, hb⟩
        have B1 : Hid (Below w.heap.size w w1) := Below.trans (by (repeat (first | exact Below.refl _ _ | assumption | refine Below.drew ?_ | refine Below.setCell ?_ (by first | omega | (simp only [World.size_alloc]; omega) | (simp; try omega)) _ | refine Below.alloc ?_ (by first | omega | (simp only [World.size_alloc]; omega) | (simp; try omega)) _))) (hb.mono (by simp only [World.size_alloc]; omega))
        have c2 : w1.cell? ⟨w.heap.size, 2, none⟩ = some (.int .i64 vk) := (hb.cell (p := ⟨w.heap.size, 2, none⟩) (show w.heap.size < _ by simp)).trans (by go_simp)
        clear hb
        go_wp2_with fail
        go_ret
        exact ⟨rfl, B1.out⟩
  simp only [if_neg h1, if_neg h2, if_neg h3, oA]
  have b1 : (ok == 1) = false := by simpa using h1
  have b2 : (ok == 2) = false := by simpa using h2
  have b3 : (ok == 3) = false := by simpa using h3
  clear h1 h2 h3
  generalize C.length = nc at *
  generalize Q.length = nq at *
  go_enter Try.func91, Try.ntmps91
  go_wp2_with fail
  go_ret
  exact ⟨rfl, by (repeat (first | exact Below.refl _ _ | assumption | refine Below.drew ?_ | refine Below.setCell ?_ (by first | omega | (simp only [World.size_alloc]; omega) | (simp; try omega)) _ | refine Below.alloc ?_ (by first | omega | (simp only [World.size_alloc]; omega) | (simp; try omega)) _))⟩
end Go.Proofs.Ytjcbmeannhafjaa
