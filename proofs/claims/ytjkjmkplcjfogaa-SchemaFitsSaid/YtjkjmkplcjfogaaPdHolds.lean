
/- predicate.Holds. -/
import Derived.Test.YtjkjmkplcjfogaaPdCompare

import Derived.Deep.RegionHeld3

namespace Go.Proofs.Ytjkjmkplcjfogaa

open Go.RowKit

/-- A predicate whose fields are letters. -/
theorem pd_fields {W : World} {v : Value} {p : PT} (h : Pd W v p) : ∃ op cmp lk li lvk lvn lvs rk ri rvk rvn rvs ps a c, p = .mk op cmp ⟨lk, li, ⟨lvk, lvn, lvs⟩⟩ ⟨rk, ri, ⟨rvk, rvn, rvs⟩⟩ ps ∧
    v = .agg #[.int .i64 op, .int .i64 cmp, .int .i64 lk, .int .i64 li, .int .i64 lvk, .int .i64 lvn, .string lvs, .int .i64 rk, .int .i64 ri, .int .i64 rvk, .int .i64 rvn, .string rvs, .slice a ps.length c] ∧ PdS (fun _ => True) W ps a c := by
  obtain ⟨a, c, rfl, h⟩ := h
  obtain ⟨op, cmp, ⟨lk, li, ⟨lvk, lvn, lvs⟩⟩, ⟨rk, ri, ⟨rvk, rvn, rvs⟩⟩, ps⟩ := p
  exact ⟨op, cmp, lk, li, lvk, lvn, lvs, rk, ri, rvk, rvn, rvs, ps, a, c, rfl, rfl, h⟩

def HoldsAt (R Q : List V) (p : PT) : Prop := ∀ (v rv qv : Value) (w : World), Pd w v p → RowAt w rv R → RowAt w qv Q → Calls Try.prog 17 #[v, rv, qv] w fun e w' => e = .returned (.bool (holdsP R Q p)) ∧ Below w.heap.size w w'

set_option maxRecDepth 100000 in
set_option maxHeartbeats 4000000 in
theorem pHolds_cmp (R Q : List V) (p : PT) (hop : p.op = 3) : HoldsAt R Q p := by
  intro v rv qv w h hr hq
  obtain ⟨op, cmp, lk, li, lvk, lvn, lvs, rk, ri, rvk, rvn, rvs, ps, a, c, rfl, rfl, hp⟩ := pd_fields h
  have hv : holdsP R Q (.mk op cmp ⟨lk, li, ⟨lvk, lvn, lvs⟩⟩ ⟨rk, ri, ⟨rvk, rvn, rvs⟩⟩ ps) = cmpsB cmp (denV ⟨lk, li, ⟨lvk, lvn, lvs⟩⟩ R Q) (denV ⟨rk, ri, ⟨rvk, rvn, rvs⟩⟩ R Q) := by
    have e : op = 3 := hop
    subst e; rw [holdsP]; simp
  rw [hv]
  obtain rfl : op = 3 := hop
  have HL : Hid (∀ W, Below w.heap.size w W → Calls Try.prog 52 #[.agg #[.int .i64 lk, .int .i64 li, .int .i64 lvk, .int .i64 lvn, .string lvs], rv, qv] W fun e w' => e = .returned (vA (denV ⟨lk, li, ⟨lvk, lvn, lvs⟩⟩ R Q)) ∧ Below W.heap.size W w') := fun W hb => pDenoted_any ⟨lk, li, ⟨lvk, lvn, lvs⟩⟩ rv qv R Q W (hr.blw hb) (hq.blw hb)
  have HR : Hid (∀ W, Below w.heap.size w W → Calls Try.prog 52 #[.agg #[.int .i64 rk, .int .i64 ri, .int .i64 rvk, .int .i64 rvn, .string rvs], rv, qv] W fun e w' => e = .returned (vA (denV ⟨rk, ri, ⟨rvk, rvn, rvs⟩⟩ R Q)) ∧ Below W.heap.size W w') := fun W hb => pDenoted_any ⟨rk, ri, ⟨rvk, rvn, rvs⟩⟩ rv qv R Q W (hr.blw hb) (hq.blw hb)
  have HC : Hid (∀ W, Calls Try.prog 51 #[vA (denV ⟨lk, li, ⟨lvk, lvn, lvs⟩⟩ R Q), .int .i64 cmp, vA (denV ⟨rk, ri, ⟨rvk, rvn, rvs⟩⟩ R Q)] W fun e w' => e = .returned (.bool (cmpsB cmp (denV ⟨lk, li, ⟨lvk, lvn, lvs⟩⟩ R Q) (denV ⟨rk, ri, ⟨rvk, rvn, rvs⟩⟩ R Q))) ∧ Below W.heap.size W w') := fun W => pCompare_any _ _ _ W
  generalize ps.length = n at *
  generalize denV ⟨lk, li, ⟨lvk, lvn, lvs⟩⟩ R Q = x at *
  generalize denV ⟨rk, ri, ⟨rvk, rvn, rvs⟩⟩ R Q = y at *
  generalize cmpsB cmp x y = z at *
  obtain ⟨xk, xn, xs⟩ := x
  obtain ⟨yk, yn, ys⟩ := y
  simp only [vA] at HL HR HC
  clear hr hq hp hv h
  go_enter Try.func17, Try.ntmps17
  go_wp2_with fail
  obtain ⟨w1, hw1⟩ : ∃ w1, w.alloc (.cells #[.int .i64 3, .int .i64 cmp, .int .i64 lk, .int .i64 li, .int .i64 lvk, .int .i64 lvn, .string lvs, .int .i64 rk, .int .i64 ri, .int .i64 rvk, .int .i64 rvn, .string rvs, .slice a n c] 29) = w1 := ⟨_, rfl⟩
  have p0 : w1.cell? ⟨w.heap.size, 1, none⟩ = some (.int .i64 cmp) := by subst hw1; go_simp
  have p1 : w1.cell? ⟨w.heap.size, 2, none⟩ = some (.int .i64 lk) := by subst hw1; go_simp
  have p2 : w1.cell? ⟨w.heap.size, 3, none⟩ = some (.int .i64 li) := by subst hw1; go_simp
  have p3 : w1.cell? ⟨w.heap.size, 4, none⟩ = some (.int .i64 lvk) := by subst hw1; go_simp
  have p4 : w1.cell? ⟨w.heap.size, 5, none⟩ = some (.int .i64 lvn) := by subst hw1; go_simp
  have p5 : w1.cell? ⟨w.heap.size, 6, none⟩ = some (.string lvs) := by subst hw1; go_simp
  have p6 : w1.cell? ⟨w.heap.size, 7, none⟩ = some (.int .i64 rk) := by subst hw1; go_simp
  have p7 : w1.cell? ⟨w.heap.size, 8, none⟩ = some (.int .i64 ri) := by subst hw1; go_simp
  have p8 : w1.cell? ⟨w.heap.size, 9, none⟩ = some (.int .i64 rvk) := by subst hw1; go_simp
  have p9 : w1.cell? ⟨w.heap.size, 10, none⟩ = some (.int .i64 rvn) := by subst hw1; go_simp
  have p10 : w1.cell? ⟨w.heap.size, 11, none⟩ = some (.string rvs) := by subst hw1; go_simp
  have zp : w.heap.size < w1.heap.size := by rw [← hw1]; simp
  have BW : Hid (Below w.heap.size w w1) := by rw [← hw1]; exact (Below.refl _ _).alloc (Nat.le_refl _) _
  rw [hw1]
  clear hw1
  have HK : Hid (∀ W, Below w1.heap.size w1 W → W.cell? ⟨w.heap.size, 1, none⟩ = some (.int .i64 cmp) ∧ W.cell? ⟨w.heap.size, 2, none⟩ = some (.int .i64 lk) ∧ W.cell? ⟨w.heap.size, 3, none⟩ = some (.int .i64 li) ∧ W.cell? ⟨w.heap.size, 4, none⟩ = some (.int .i64 lvk) ∧ W.cell? ⟨w.heap.size, 5, none⟩ = some (.int .i64 lvn) ∧ W.cell? ⟨w.heap.size, 6, none⟩ = some (.string lvs) ∧ W.cell? ⟨w.heap.size, 7, none⟩ = some (.int .i64 rk) ∧ W.cell? ⟨w.heap.size, 8, none⟩ = some (.int .i64 ri) ∧ W.cell? ⟨w.heap.size, 9, none⟩ = some (.int .i64 rvk) ∧ W.cell? ⟨w.heap.size, 10, none⟩ = some (.int .i64 rvn) ∧ W.cell? ⟨w.heap.size, 11, none⟩ = some (.string rvs)) := fun W hb => ⟨(hb.cell (p := ⟨w.heap.size, 1, none⟩) zp).trans p0, (hb.cell (p := ⟨w.heap.size, 2, none⟩) zp).trans p1, (hb.cell (p := ⟨w.heap.size, 3, none⟩) zp).trans p2, (hb.cell (p := ⟨w.heap.size, 4, none⟩) zp).trans p3, (hb.cell (p := ⟨w.heap.size, 5, none⟩) zp).trans p4, (hb.cell (p := ⟨w.heap.size, 6, none⟩) zp).trans p5, (hb.cell (p := ⟨w.heap.size, 7, none⟩) zp).trans p6, (hb.cell (p := ⟨w.heap.size, 8, none⟩) zp).trans p7, (hb.cell (p := ⟨w.heap.size, 9, none⟩) zp).trans p8, (hb.cell (p := ⟨w.heap.size, 10, none⟩) zp).trans p9, (hb.cell (p := ⟨w.heap.size, 11, none⟩) zp).trans p10⟩
  have HL1 : Hid (∀ W, Below w1.heap.size w1 W → Calls Try.prog 52 #[.agg #[.int .i64 lk, .int .i64 li, .int .i64 lvk, .int .i64 lvn, .string lvs], rv, qv] W fun e w' => e = .returned (.agg #[.int .i64 xk, .int .i64 xn, .string xs]) ∧ Below W.heap.size W w') := fun W hb => HL.out W (BW.out.trans (hb.mono BW.out.size))
  have HR1 : Hid (∀ W, Below w1.heap.size w1 W → Calls Try.prog 52 #[.agg #[.int .i64 rk, .int .i64 ri, .int .i64 rvk, .int .i64 rvn, .string rvs], rv, qv] W fun e w' => e = .returned (.agg #[.int .i64 yk, .int .i64 yn, .string ys]) ∧ Below W.heap.size W w') := fun W hb => HR.out W (BW.out.trans (hb.mono BW.out.size))
  clear HL HR
  go_region_held3 (fun W => W.cell? ⟨w.heap.size, 1, none⟩ = some (.int .i64 cmp) ∧ W.cell? ⟨w.heap.size, 2, none⟩ = some (.int .i64 lk) ∧ W.cell? ⟨w.heap.size, 3, none⟩ = some (.int .i64 li) ∧ W.cell? ⟨w.heap.size, 4, none⟩ = some (.int .i64 lvk) ∧ W.cell? ⟨w.heap.size, 5, none⟩ = some (.int .i64 lvn) ∧ W.cell? ⟨w.heap.size, 6, none⟩ = some (.string lvs) ∧ W.cell? ⟨w.heap.size, 7, none⟩ = some (.int .i64 rk) ∧ W.cell? ⟨w.heap.size, 8, none⟩ = some (.int .i64 ri) ∧ W.cell? ⟨w.heap.size, 9, none⟩ = some (.int .i64 rvk) ∧ W.cell? ⟨w.heap.size, 10, none⟩ = some (.int .i64 rvn) ∧ W.cell? ⟨w.heap.size, 11, none⟩ = some (.string rvs))
    (first | exact ⟨p0b, p1b, p2b, p3b, p4b, p5b, p6b, p7b, p8b, p9b, p10b⟩ | exact ⟨p0a, p1a, p2a, p3a, p4a, p5a, p6a, p7a, p8a, p9a, p10a⟩ | exact ⟨p0c, p1c, p2c, p3c, p4c, p5c, p6c, p7c, p8c, p9c, p10c⟩ | exact ⟨p0, p1, p2, p3, p4, p5, p6, p7, p8, p9, p10⟩)
    (first | (go_at_call 51; (with_reducible refine (HC.out _).mono ?_); rintro e wzc ⟨rfl, hg⟩; have hbc : Below w1.heap.size w1 wzc := Below.trans (by (repeat (first | exact Below.refl _ _ | assumption | refine Below.drew ?_ | refine Below.setCell ?_ (by simp; try omega) _ | refine Below.alloc ?_ (by simp; try omega) _))) (hg.mono (by first | (simp; done) | ((try simp); exact Below.size (by assumption)))); obtain ⟨p0c, p1c, p2c, p3c, p4c, p5c, p6c, p7c, p8c, p9c, p10c⟩ := HK.out wzc hbc; clear hg) | (go_at_call 52; (with_reducible refine (HL1.out _ (by (repeat (first | exact Below.refl _ _ | assumption | refine Below.drew ?_ | refine Below.setCell ?_ (by simp; try omega) _ | refine Below.alloc ?_ (by simp; try omega) _)))).mono ?_); rintro e wza ⟨rfl, hg⟩; have hba : Below w1.heap.size w1 wza := Below.trans (by (repeat (first | exact Below.refl _ _ | assumption | refine Below.drew ?_ | refine Below.setCell ?_ (by simp; try omega) _ | refine Below.alloc ?_ (by simp; try omega) _))) (hg.mono (by first | (simp; done) | ((try simp); exact Below.size (by assumption)))); obtain ⟨p0a, p1a, p2a, p3a, p4a, p5a, p6a, p7a, p8a, p9a, p10a⟩ := HK.out wza hba; clear hg) | (go_at_call 52; (with_reducible refine (HR1.out _ (by (repeat (first | exact Below.refl _ _ | assumption | refine Below.drew ?_ | refine Below.setCell ?_ (by simp; try omega) _ | refine Below.alloc ?_ (by simp; try omega) _)))).mono ?_); rintro e wzb ⟨rfl, hg⟩; have hbb : Below w1.heap.size w1 wzb := Below.trans (by (repeat (first | exact Below.refl _ _ | assumption | refine Below.drew ?_ | refine Below.setCell ?_ (by simp; try omega) _ | refine Below.alloc ?_ (by simp; try omega) _))) (hg.mono (by first | (simp; done) | ((try simp); exact Below.size (by assumption)))); obtain ⟨p0b, p1b, p2b, p3b, p4b, p5b, p6b, p7b, p8b, p9b, p10b⟩ := HK.out wzb hbb; clear hg))
  all_goals
    go_wp2_with fail
    go_ret
    exact ⟨rfl, BW.out.trans (Below.mono (by assumption) BW.out.size)⟩

theorem holds_other (R Q : List V) (p : PT) (h1 : p.op ≠ 1) (h3 : p.op ≠ 3) (h4 : p.op ≠ 4) (h5 : p.op ≠ 5) (h6 : p.op ≠ 6) : holdsP R Q p = false := by
  rw [holds_eq, if_neg h1, if_neg h3, if_neg h4, if_neg h5, if_neg h6]
theorem holds_and (R Q : List V) (p : PT) (h : p.op = 4) : holdsP R Q p = allP R Q (p.args.drop 0) := by rw [holds_eq, h]; simp
theorem holds_or (R Q : List V) (p : PT) (h : p.op = 5) : holdsP R Q p = anyP R Q (p.args.drop 0) := by rw [holds_eq, h]; simp
theorem holds_not (R Q : List V) (p : PT) (h : p.op = 6) : holdsP R Q p = firstP R Q p.args := by rw [holds_eq, h]; simp
theorem holds_true (R Q : List V) (p : PT) (h : p.op = 1) : holdsP R Q p = true := by rw [holds_eq, h]; simp

set_option maxRecDepth 100000 in
set_option maxHeartbeats 1000000 in
theorem pHolds_plain (R Q : List V) (p : PT) (hop : p.op ≠ 3 ∧ p.op ≠ 4 ∧ p.op ≠ 5 ∧ p.op ≠ 6) : HoldsAt R Q p := by
  intro v rv qv w h hr hq
  by_cases h1 : p.op = 1
  · rw [holds_true R Q p h1]
    obtain ⟨op, cmp, lk, li, lvk, lvn, lvs, rk, ri, rvk, rvn, rvs, ps, a, c, rfl, rfl, hp⟩ := pd_fields h
    obtain rfl : op = 1 := h1
    generalize ps.length = n at *
    clear hr hq hp h hop
    go_enter Try.func17, Try.ntmps17
    go_wp2_with fail
    go_ret
    exact ⟨rfl, by (repeat (first | exact Below.refl _ _ | assumption | refine Below.drew ?_ | refine Below.setCell ?_ (by first | omega | (simp only [World.size_alloc]; omega) | (simp; try omega)) _ | refine Below.alloc ?_ (by first | omega | (simp only [World.size_alloc]; omega) | (simp; try omega)) _))⟩
  · rw [holds_other R Q p h1 hop.1 hop.2.1 hop.2.2.1 hop.2.2.2]
    obtain ⟨op, cmp, lk, li, lvk, lvn, lvs, rk, ri, rvk, rvn, rvs, ps, a, c, rfl, rfl, hp⟩ := pd_fields h
    have b1 : (op == 1) = false := by have h : ¬ op = 1 := h1; simpa using h
    have b3 : (op == 3) = false := by have h : ¬ op = 3 := hop.1; simpa using h
    have b4 : (op == 4) = false := by have h : ¬ op = 4 := hop.2.1; simpa using h
    have b5 : (op == 5) = false := by have h : ¬ op = 5 := hop.2.2.1; simpa using h
    have b6 : (op == 6) = false := by have h : ¬ op = 6 := hop.2.2.2; simpa using h
    generalize ps.length = n at *
    clear hr hq hp h hop h1
    go_enter Try.func17, Try.ntmps17
    go_wp2_with fail
    go_ret
    exact ⟨rfl, by (repeat (first | exact Below.refl _ _ | assumption | refine Below.drew ?_ | refine Below.setCell ?_ (by first | omega | (simp only [World.size_alloc]; omega) | (simp; try omega)) _ | refine Below.alloc ?_ (by first | omega | (simp only [World.size_alloc]; omega) | (simp; try omega)) _))⟩

set_option maxRecDepth 100000 in
set_option maxHeartbeats 4000000 in
theorem pHolds_and (R Q : List V) (p : PT) (hop : p.op = 4) (IH : ∀ j (hj : j < p.args.length), HoldsAt R Q p.args[j]) : HoldsAt R Q p := by
  intro v rv qv w h hr hq
  rw [holds_and R Q p hop]
  obtain ⟨op, cmp, lk, li, lvk, lvn, lvs, rk, ri, rvk, rvn, rvs, ps, a, c, rfl, rfl, hp⟩ := pd_fields h
  obtain rfl : op = 4 := hop
  change ∀ j (hj : j < ps.length), HoldsAt R Q ps[j] at IH
  change Calls _ _ _ _ (fun e w' => e = .returned (.bool (allP R Q (ps.drop 0))) ∧ _)
  have HI := Lib.hid IH
  have HP := Lib.hid hp
  have HRR := Lib.hid hr
  have HQQ := Lib.hid hq
  obtain ⟨n, hn⟩ : ∃ n, ps.length = n := ⟨_, rfl⟩
  have HN := Lib.hid hn
  have hfew := hp.1.few
  rw [hn] at hfew
  obtain ⟨z, hz⟩ : ∃ z, allP R Q (ps.drop 0) = z := ⟨_, rfl⟩
  have HZ : Hid (allP R Q (ps.drop 0) = z) := hz
  rw [hz, hn]
  clear hr hq hp h IH hn hz
  go_enter Try.func17, Try.ntmps17
  go_wp2_with fail
  obtain ⟨wq, hwq⟩ : ∃ wq, w.alloc (.cells #[.int .i64 4, .int .i64 cmp, .int .i64 lk, .int .i64 li, .int .i64 lvk, .int .i64 lvn, .string lvs, .int .i64 rk, .int .i64 ri, .int .i64 rvk, .int .i64 rvn, .string rvs, .slice a n c] 29) = wq := ⟨_, rfl⟩
  have HB : Hid (Below w.heap.size w wq) := by rw [← hwq]; exact (Below.refl _ _).alloc (Nat.le_refl _) _
  rw [hwq]
  clear hwq
  go_loopw [35] (fun i wr => ∃ k : Nat, k ≤ n ∧ i = .int .i64 k ∧ Hid (Below w.heap.size w wr) ∧ Hid (allP R Q (ps.drop k) = z)) (fun i _ => n - (intOf i).toNat)
  case atStart => exact ⟨0, by omega, rfl, HB.out, HZ.out⟩
  case round =>
    obtain ⟨k, hk, rfl, HW, HT⟩ := hrel
    clear HB HZ
    by_cases hlt : k < n
    · have hlt' : (k : Int) < n := by omega
      have hkn : k < ps.length := by rw [HN.out]; exact hlt
      obtain ⟨b, o, a1, c1, rfl, -, hb, g0, g1, g2, g3, g4, g5, g6, g7, g8, g9, g10, g11, g12, hps⟩ := (HP.out.below HW.out).get hkn
      have HH : Hid (∀ W, Below wr.heap.size wr W → Calls Try.prog 17 #[.agg #[.int .i64 ps[k].op, .int .i64 ps[k].cmp, .int .i64 ps[k].l.k, .int .i64 ps[k].l.i, .int .i64 ps[k].l.v.k, .int .i64 ps[k].l.v.n, .string ps[k].l.v.s, .int .i64 ps[k].r.k, .int .i64 ps[k].r.i, .int .i64 ps[k].r.v.k, .int .i64 ps[k].r.v.n, .string ps[k].r.v.s, .slice a1 ps[k].args.length c1], rv, qv] W fun e w' => e = .returned (.bool (holdsP R Q ps[k])) ∧ Below W.heap.size W w') := fun W hb =>
        HI.out k hkn _ rv qv W ⟨a1, c1, rfl, hps.below hb⟩ ((HRR.out.blw HW.out).blw hb) ((HQQ.out.blw HW.out).blw hb)
      have HD : Hid (allP R Q (ps.drop k) = (holdsP R Q ps[k] && allP R Q (ps.drop (k + 1)))) := allP_drop R Q ps k hkn
      clear hps
      generalize holdsP R Q ps[k] = y at *
      generalize ps[k].op = eop at *
      generalize ps[k].cmp = ecmp at *
      generalize ps[k].l.k = elk at *
      generalize ps[k].l.i = eli at *
      generalize ps[k].l.v.k = elvk at *
      generalize ps[k].l.v.n = elvn at *
      generalize ps[k].l.v.s = elvs at *
      generalize ps[k].r.k = erk at *
      generalize ps[k].r.i = eri at *
      generalize ps[k].r.v.k = ervk at *
      generalize ps[k].r.v.n = ervn at *
      generalize ps[k].r.v.s = ervs at *
      generalize ps[k].args.length = en at *
      cases y with
      | true =>
        have HX : Hid (allP R Q (ps.drop (k + 1)) = z) := by show _ = _; rw [← HT.out, HD.out]; simp
        go_wp2_with fail
        refine (HH.out _ (by (repeat (first | exact Below.refl _ _ | assumption | refine Below.drew ?_ | refine Below.setCell ?_ (by first | omega | (simp only [World.size_alloc]; omega) | (simp; try omega)) _ | refine Below.alloc ?_ (by first | omega | (simp only [World.size_alloc]; omega) | (simp; try omega)) _)))).mono ?_
        rintro e w5 ⟨rfl, hb5⟩
        have B5 : Hid (Below wr.heap.size wr w5) := Below.trans (by (repeat (first | exact Below.refl _ _ | assumption | refine Below.drew ?_ | refine Below.setCell ?_ (by first | omega | (simp only [World.size_alloc]; omega) | (simp; try omega)) _ | refine Below.alloc ?_ (by first | omega | (simp only [World.size_alloc]; omega) | (simp; try omega)) _))) (hb5.mono (by simp only [World.size_alloc]; omega))
        clear hb5 g0 g1 g2 g3 g4 g5 g6 g7 g8 g9 g10 g11 g12
        go_wp2_with fail
        go_roundw
        case rel => exact ⟨k + 1, by omega, by go_num, HW.out.trans (B5.out.mono HW.out.size), HX.out⟩
        case measure => simp [intOf]; omega
      | false =>
        have HX : Hid (z = false) := by show _ = _; rw [← HT.out, HD.out]; simp
        go_wp2_with fail
        refine (HH.out _ (by (repeat (first | exact Below.refl _ _ | assumption | refine Below.drew ?_ | refine Below.setCell ?_ (by first | omega | (simp only [World.size_alloc]; omega) | (simp; try omega)) _ | refine Below.alloc ?_ (by first | omega | (simp only [World.size_alloc]; omega) | (simp; try omega)) _)))).mono ?_
        rintro e w5 ⟨rfl, hb5⟩
        have B5 : Hid (Below wr.heap.size wr w5) := Below.trans (by (repeat (first | exact Below.refl _ _ | assumption | refine Below.drew ?_ | refine Below.setCell ?_ (by first | omega | (simp only [World.size_alloc]; omega) | (simp; try omega)) _ | refine Below.alloc ?_ (by first | omega | (simp only [World.size_alloc]; omega) | (simp; try omega)) _))) (hb5.mono (by simp only [World.size_alloc]; omega))
        clear hb5 g0 g1 g2 g3 g4 g5 g6 g7 g8 g9 g10 g11 g12
        go_wp2_with fail
        go_ret
        exact ⟨by rw [HX.out]; rfl, HW.out.trans (B5.out.mono HW.out.size)⟩
    · have HX : Hid (z = true) := by show _ = _; rw [← HT.out]; exact allP_end R Q ps k (by rw [HN.out]; omega)
      go_wp2_with fail
      go_ret
      exact ⟨by rw [HX.out]; rfl, HW.out⟩

set_option maxRecDepth 100000 in
set_option maxHeartbeats 4000000 in
theorem pHolds_or (R Q : List V) (p : PT) (hop : p.op = 5) (IH : ∀ j (hj : j < p.args.length), HoldsAt R Q p.args[j]) : HoldsAt R Q p := by
  intro v rv qv w h hr hq
  rw [holds_or R Q p hop]
  obtain ⟨op, cmp, lk, li, lvk, lvn, lvs, rk, ri, rvk, rvn, rvs, ps, a, c, rfl, rfl, hp⟩ := pd_fields h
  obtain rfl : op = 5 := hop
  change ∀ j (hj : j < ps.length), HoldsAt R Q ps[j] at IH
  change Calls _ _ _ _ (fun e w' => e = .returned (.bool (anyP R Q (ps.drop 0))) ∧ _)
  have HI := Lib.hid IH
  have HP := Lib.hid hp
  have HRR := Lib.hid hr
  have HQQ := Lib.hid hq
  obtain ⟨n, hn⟩ : ∃ n, ps.length = n := ⟨_, rfl⟩
  have HN := Lib.hid hn
  have hfew := hp.1.few
  rw [hn] at hfew
  obtain ⟨z, hz⟩ : ∃ z, anyP R Q (ps.drop 0) = z := ⟨_, rfl⟩
  have HZ : Hid (anyP R Q (ps.drop 0) = z) := hz
  rw [hz, hn]
  clear hr hq hp h IH hn hz
  go_enter Try.func17, Try.ntmps17
  go_wp2_with fail
  obtain ⟨wq, hwq⟩ : ∃ wq, w.alloc (.cells #[.int .i64 5, .int .i64 cmp, .int .i64 lk, .int .i64 li, .int .i64 lvk, .int .i64 lvn, .string lvs, .int .i64 rk, .int .i64 ri, .int .i64 rvk, .int .i64 rvn, .string rvs, .slice a n c] 29) = wq := ⟨_, rfl⟩
  have HB : Hid (Below w.heap.size w wq) := by rw [← hwq]; exact (Below.refl _ _).alloc (Nat.le_refl _) _
  rw [hwq]
  clear hwq
  go_loopw [50] (fun i wr => ∃ k : Nat, k ≤ n ∧ i = .int .i64 k ∧ Hid (Below w.heap.size w wr) ∧ Hid (anyP R Q (ps.drop k) = z)) (fun i _ => n - (intOf i).toNat)
  case atStart => exact ⟨0, by omega, rfl, HB.out, HZ.out⟩
  case round =>
    obtain ⟨k, hk, rfl, HW, HT⟩ := hrel
    clear HB HZ
    by_cases hlt : k < n
    · have hlt' : (k : Int) < n := by omega
      have hkn : k < ps.length := by rw [HN.out]; exact hlt
      obtain ⟨b, o, a1, c1, rfl, -, hb, g0, g1, g2, g3, g4, g5, g6, g7, g8, g9, g10, g11, g12, hps⟩ := (HP.out.below HW.out).get hkn
      have HH : Hid (∀ W, Below wr.heap.size wr W → Calls Try.prog 17 #[.agg #[.int .i64 ps[k].op, .int .i64 ps[k].cmp, .int .i64 ps[k].l.k, .int .i64 ps[k].l.i, .int .i64 ps[k].l.v.k, .int .i64 ps[k].l.v.n, .string ps[k].l.v.s, .int .i64 ps[k].r.k, .int .i64 ps[k].r.i, .int .i64 ps[k].r.v.k, .int .i64 ps[k].r.v.n, .string ps[k].r.v.s, .slice a1 ps[k].args.length c1], rv, qv] W fun e w' => e = .returned (.bool (holdsP R Q ps[k])) ∧ Below W.heap.size W w') := fun W hb =>
        HI.out k hkn _ rv qv W ⟨a1, c1, rfl, hps.below hb⟩ ((HRR.out.blw HW.out).blw hb) ((HQQ.out.blw HW.out).blw hb)
      have HD : Hid (anyP R Q (ps.drop k) = (holdsP R Q ps[k] || anyP R Q (ps.drop (k + 1)))) := anyP_drop R Q ps k hkn
      clear hps
      generalize holdsP R Q ps[k] = y at *
      generalize ps[k].op = eop at *
      generalize ps[k].cmp = ecmp at *
      generalize ps[k].l.k = elk at *
      generalize ps[k].l.i = eli at *
      generalize ps[k].l.v.k = elvk at *
      generalize ps[k].l.v.n = elvn at *
      generalize ps[k].l.v.s = elvs at *
      generalize ps[k].r.k = erk at *
      generalize ps[k].r.i = eri at *
      generalize ps[k].r.v.k = ervk at *
      generalize ps[k].r.v.n = ervn at *
      generalize ps[k].r.v.s = ervs at *
      generalize ps[k].args.length = en at *
      cases y with
      | false =>
        have HX : Hid (anyP R Q (ps.drop (k + 1)) = z) := by show _ = _; rw [← HT.out, HD.out]; simp
        go_wp2_with fail
        refine (HH.out _ (by (repeat (first | exact Below.refl _ _ | assumption | refine Below.drew ?_ | refine Below.setCell ?_ (by first | omega | (simp only [World.size_alloc]; omega) | (simp; try omega)) _ | refine Below.alloc ?_ (by first | omega | (simp only [World.size_alloc]; omega) | (simp; try omega)) _)))).mono ?_
        rintro e w5 ⟨rfl, hb5⟩
        have B5 : Hid (Below wr.heap.size wr w5) := Below.trans (by (repeat (first | exact Below.refl _ _ | assumption | refine Below.drew ?_ | refine Below.setCell ?_ (by first | omega | (simp only [World.size_alloc]; omega) | (simp; try omega)) _ | refine Below.alloc ?_ (by first | omega | (simp only [World.size_alloc]; omega) | (simp; try omega)) _))) (hb5.mono (by simp only [World.size_alloc]; omega))
        clear hb5 g0 g1 g2 g3 g4 g5 g6 g7 g8 g9 g10 g11 g12
        go_wp2_with fail
        go_roundw
        case rel => exact ⟨k + 1, by omega, by go_num, HW.out.trans (B5.out.mono HW.out.size), HX.out⟩
        case measure => simp [intOf]; omega
      | true =>
        have HX : Hid (z = true) := by show _ = _; rw [← HT.out, HD.out]; simp
        go_wp2_with fail
        refine (HH.out _ (by (repeat (first | exact Below.refl _ _ | assumption | refine Below.drew ?_ | refine Below.setCell ?_ (by first | omega | (simp only [World.size_alloc]; omega) | (simp; try omega)) _ | refine Below.alloc ?_ (by first | omega | (simp only [World.size_alloc]; omega) | (simp; try omega)) _)))).mono ?_
        rintro e w5 ⟨rfl, hb5⟩
        have B5 : Hid (Below wr.heap.size wr w5) := Below.trans (by (repeat (first | exact Below.refl _ _ | assumption | refine Below.drew ?_ | refine Below.setCell ?_ (by first | omega | (simp only [World.size_alloc]; omega) | (simp; try omega)) _ | refine Below.alloc ?_ (by first | omega | (simp only [World.size_alloc]; omega) | (simp; try omega)) _))) (hb5.mono (by simp only [World.size_alloc]; omega))
        clear hb5 g0 g1 g2 g3 g4 g5 g6 g7 g8 g9 g10 g11 g12
        go_wp2_with fail
        go_ret
        exact ⟨by rw [HX.out]; rfl, HW.out.trans (B5.out.mono HW.out.size)⟩
    · have HX : Hid (z = false) := by show _ = _; rw [← HT.out]; exact anyP_end R Q ps k (by rw [HN.out]; omega)
      go_wp2_with fail
      go_ret
      exact ⟨by rw [HX.out]; rfl, HW.out⟩

set_option maxRecDepth 100000 in
set_option maxHeartbeats 4000000 in
theorem pHolds_not (R Q : List V) (p : PT) (hop : p.op = 6) (IH : ∀ j (hj : j < p.args.length), HoldsAt R Q p.args[j]) : HoldsAt R Q p := by
  intro v rv qv w h hr hq
  rw [holds_not R Q p hop]
  obtain ⟨op, cmp, lk, li, lvk, lvn, lvs, rk, ri, rvk, rvn, rvs, ps, a, c, rfl, rfl, hp⟩ := pd_fields h
  obtain rfl : op = 6 := hop
  change ∀ j (hj : j < ps.length), HoldsAt R Q ps[j] at IH
  change Calls _ _ _ _ (fun e w' => e = .returned (.bool (firstP R Q ps)) ∧ _)
  by_cases h0 : 0 < ps.length
  · rw [firstP_some R Q ps h0]
    have h0' : decide ((0 : Int) < ps.length) = true := by simp; omega
    obtain ⟨b, o, a1, c1, rfl, -, hb, g0, g1, g2, g3, g4, g5, g6, g7, g8, g9, g10, g11, g12, hps⟩ := hp.get h0
    have HH : Hid (∀ W, Below w.heap.size w W → Calls Try.prog 17 #[.agg #[.int .i64 ps[0].op, .int .i64 ps[0].cmp, .int .i64 ps[0].l.k, .int .i64 ps[0].l.i, .int .i64 ps[0].l.v.k, .int .i64 ps[0].l.v.n, .string ps[0].l.v.s, .int .i64 ps[0].r.k, .int .i64 ps[0].r.i, .int .i64 ps[0].r.v.k, .int .i64 ps[0].r.v.n, .string ps[0].r.v.s, .slice a1 ps[0].args.length c1], rv, qv] W fun e w' => e = .returned (.bool (holdsP R Q ps[0])) ∧ Below W.heap.size W w') := fun W hb =>
      IH 0 h0 _ rv qv W ⟨a1, c1, rfl, hps.below hb⟩ (hr.blw hb) (hq.blw hb)
    simp only [Nat.zero_mul, Nat.add_zero] at g0 g1 g2 g3 g4 g5 g6 g7 g8 g9 g10 g11 g12
    clear hps h hr hq hp IH
    generalize holdsP R Q ps[0] = y at *
    generalize ps[0].op = eop at *
    generalize ps[0].cmp = ecmp at *
    generalize ps[0].l.k = elk at *
    generalize ps[0].l.i = eli at *
    generalize ps[0].l.v.k = elvk at *
    generalize ps[0].l.v.n = elvn at *
    generalize ps[0].l.v.s = elvs at *
    generalize ps[0].r.k = erk at *
    generalize ps[0].r.i = eri at *
    generalize ps[0].r.v.k = ervk at *
    generalize ps[0].r.v.n = ervn at *
    generalize ps[0].r.v.s = ervs at *
    generalize ps[0].args.length = en at *
    generalize ps.length = n at *
    go_enter Try.func17, Try.ntmps17
    go_wp2_with fail
    refine (HH.out _ (by (repeat (first | exact Below.refl _ _ | assumption | refine Below.drew ?_ | refine Below.setCell ?_ (by first | omega | (simp only [World.size_alloc]; omega) | (simp; try omega)) _ | refine Below.alloc ?_ (by first | omega | (simp only [World.size_alloc]; omega) | (simp; try omega)) _)))).mono ?_
    rintro e w5 ⟨rfl, hb5⟩
    have B5 : Hid (Below w.heap.size w w5) := Below.trans (by (repeat (first | exact Below.refl _ _ | assumption | refine Below.drew ?_ | refine Below.setCell ?_ (by first | omega | (simp only [World.size_alloc]; omega) | (simp; try omega)) _ | refine Below.alloc ?_ (by first | omega | (simp only [World.size_alloc]; omega) | (simp; try omega)) _))) (hb5.mono (by simp only [World.size_alloc]; omega))
    clear hb5 g0 g1 g2 g3 g4 g5 g6 g7 g8 g9 g10 g11 g12
    go_wp2_with fail
    go_ret
    exact ⟨rfl, B5.out⟩
  · have hz : ps.length = 0 := by omega
    rw [firstP_none R Q ps hz, hz]
    clear hr hq hp h IH h0 hz
    go_enter Try.func17, Try.ntmps17
    go_wp2_with fail
    go_ret
    exact ⟨rfl, by (repeat (first | exact Below.refl _ _ | assumption | refine Below.drew ?_ | refine Below.setCell ?_ (by first | omega | (simp only [World.size_alloc]; omega) | (simp; try omega)) _ | refine Below.alloc ?_ (by first | omega | (simp only [World.size_alloc]; omega) | (simp; try omega)) _))⟩

theorem pHolds_any (R Q : List V) : ∀ (d : Nat) (p : PT), p.depth ≤ d → HoldsAt R Q p
  | 0, p, hd => by have := p.depth_pos; omega
  | d + 1, p, hd => by
    have IH : ∀ j (hj : j < p.args.length), HoldsAt R Q p.args[j] := fun j hj => pHolds_any R Q d _ (PT.depth_arg hj hd)
    by_cases h3 : p.op = 3
    · exact pHolds_cmp R Q p h3
    by_cases h4 : p.op = 4
    · exact pHolds_and R Q p h4 IH
    by_cases h5 : p.op = 5
    · exact pHolds_or R Q p h5 IH
    by_cases h6 : p.op = 6
    · exact pHolds_not R Q p h6 IH
    exact pHolds_plain R Q p ⟨h3, h4, h5, h6⟩
end Go.Proofs.Ytjkjmkplcjfogaa
