
/- The reference's valid, Check. -/
import Derived.Test.YtjcbmeannhafjaaPdRefCheck

import Derived.Test.YtjcbmeannhafjaaPdValidN

namespace Go.Proofs.Ytjcbmeannhafjaa

open Go.RowKit

theorem okK_ne {k : Int} (h : okK k = true) : k ≠ 0 := by rcases okK_yes h with h | h | h <;> omega
theorem okKs_at {l : List Int} (h : okKs l = true) {i : Int} (hi : inB l.length i = true) : atI l i ≠ 0 := by
  obtain ⟨k, rfl, hk⟩ := inB_true hi
  rw [atI_in hk]
  unfold okKs at h
  exact okK_ne (List.all_eq_true.1 h _ (List.getElem_mem hk))
theorem ofK_ne {C Q : List Int} (hc : okKs C = true) (hq : okKs Q = true) {o : Od} (h : ofB C Q o = true) : ofK C Q o ≠ 0 := by
  unfold ofB at h
  unfold ofK
  by_cases h1 : o.k = 1
  · rw [if_pos h1] at h ⊢; exact okKs_at hc (Bool.and_eq_true _ _ ▸ h).1
  rw [if_neg h1] at h ⊢
  by_cases h2 : o.k = 2
  · rw [if_pos h2] at h ⊢; exact okKs_at hq (Bool.and_eq_true _ _ ▸ h).1
  rw [if_neg h2] at h ⊢
  by_cases h3 : o.k = 3
  · rw [if_pos h3] at h ⊢
    have := (Bool.and_eq_true _ _ ▸ h).2
    unfold realV realB at this
    simp at this
    omega
  · rw [if_neg h3] at h; cases h
theorem alike_kind {C Q : List Int} (hc : okKs C = true) (hq : okKs Q = true) (l r : Od) : alikeB C Q l r = ((kindO C Q l != 0) && (kindO C Q l == kindO C Q r)) := by
  unfold alikeB kindO
  cases hl : ofB C Q l with
  | false => simp
  | true =>
    have h1 := ofK_ne hc hq hl
    cases hr : ofB C Q r with
    | false => simp [h1]
    | true => simp [h1]
theorem vld_3 {C Q : List Int} (hc : okKs C = true) (hq : okKs Q = true) (p : PT) (h : p.op = 3) : vldP C Q p = (p.args.length == 0 && (decide (1 ≤ p.cmp) && (decide (p.cmp ≤ 6) && ((kindO C Q p.l != 0) && (kindO C Q p.l == kindO C Q p.r))))) := by
  rw [vldP_eq, vnB_3 C Q p h, alike_kind hc hq]
  have ec : cmpB p.cmp = (decide (1 ≤ p.cmp) && decide (p.cmp ≤ 6)) := by unfold cmpB; rw [Bool.eq_iff_iff]; simp
  rw [ec]
  cases hl : (p.args.length == 0) with
  | false => simp
  | true =>
    have : p.args = [] := List.eq_nil_of_length_eq_zero (by simpa using hl)
    rw [this, vldPs]
    simp [Bool.and_assoc]
theorem vld_12 (C Q : List Int) (p : PT) (h : p.op = 1 ∨ p.op = 2) : vldP C Q p = (plnB p && (p.args.length == 0)) := by
  rw [vldP_eq, vnB_no3 C Q p (by omega)]
  have e : (if p.op = 1 then p.args.length == 0 else if p.op = 2 then p.args.length == 0 else if p.op = 4 then true else if p.op = 5 then true else if p.op = 6 then p.args.length == 1 else false) = (p.args.length == 0) := by
    rcases h with h | h <;> rw [h] <;> simp
  rw [e]
  cases hl : (p.args.length == 0) with
  | false => simp
  | true =>
    have : p.args = [] := List.eq_nil_of_length_eq_zero (by simpa using hl)
    rw [this, vldPs]; simp
theorem vld_45 (C Q : List Int) (p : PT) (h : p.op = 4 ∨ p.op = 5) : vldP C Q p = (plnB p && vldPs C Q (p.args.drop 0)) := by
  rw [vldP_eq, vnB_no3 C Q p (by omega)]
  rcases h with h | h <;> rw [h] <;> simp
theorem vld_6 (C Q : List Int) (p : PT) (h : p.op = 6) : vldP C Q p = ((p.args.length == 1) && (plnB p && vldPs C Q (p.args.drop 0))) := by
  rw [vldP_eq, vnB_no3 C Q p (by omega), h]
  simp only [List.drop_zero]
  cases plnB p <;> cases (p.args.length == 1) <;> simp
theorem vld_no (C Q : List Int) (p : PT) (h1 : p.op ≠ 1) (h2 : p.op ≠ 2) (h3 : p.op ≠ 3) (h4 : p.op ≠ 4) (h5 : p.op ≠ 5) (h6 : p.op ≠ 6) : vldP C Q p = false := by
  rw [vldP_eq, vnB_no3 C Q p h3, if_neg h1, if_neg h2, if_neg h4, if_neg h5, if_neg h6]
  cases plnB p <;> rfl

def ValidAt (C Q : List Int) (p : PT) : Prop := ∀ (cv qv v : Value) (w : World), IntsAt w cv C → IntsAt w qv Q → Pd w v p → Calls Try.prog 72 #[cv, qv, v] w fun e w' => e = .returned (.bool (vldP C Q p)) ∧ Below w.heap.size w w'


set_option maxRecDepth 100000 in
set_option maxHeartbeats 4000000 in
theorem rVldP_3 (C Q : List Int) (hkc : okKs C = true) (hkq : okKs Q = true) (p : PT) (hop : p.op = 3) : ValidAt C Q p := by
  intro cv qv v w hc hq h
  rw [vld_3 hkc hkq p hop]
  obtain ⟨op, cmp, lk, li, lvk, lvn, lvs, rk, ri, rvk, rvn, rvs, ps, a, c, rfl, rfl, hps⟩ := pd_fields h
  obtain rfl : op = 3 := hop
  change Calls _ _ _ _ (fun e w' => e = .returned (.bool (ps.length == 0 && (decide (1 ≤ cmp) && (decide (cmp ≤ 6) && ((kindO C Q ⟨lk, li, ⟨lvk, lvn, lvs⟩⟩ != 0) && (kindO C Q ⟨lk, li, ⟨lvk, lvn, lvs⟩⟩ == kindO C Q ⟨rk, ri, ⟨rvk, rvn, rvs⟩⟩)))))) ∧ _)
  have HL : Hid (∀ W, Below w.heap.size w W → Calls Try.prog 91 #[cv, qv, .agg #[.int .i64 lk, .int .i64 li, .int .i64 lvk, .int .i64 lvn, .string lvs]] W fun e w' => e = .returned (.int .i64 (kindO C Q ⟨lk, li, ⟨lvk, lvn, lvs⟩⟩)) ∧ Below W.heap.size W w') := fun W hb => rKind_any C Q cv qv ⟨lk, li, ⟨lvk, lvn, lvs⟩⟩ W (hc.blw hb) (hq.blw hb)
  have HR : Hid (∀ W, Below w.heap.size w W → Calls Try.prog 91 #[cv, qv, .agg #[.int .i64 rk, .int .i64 ri, .int .i64 rvk, .int .i64 rvn, .string rvs]] W fun e w' => e = .returned (.int .i64 (kindO C Q ⟨rk, ri, ⟨rvk, rvn, rvs⟩⟩)) ∧ Below W.heap.size W w') := fun W hb => rKind_any C Q cv qv ⟨rk, ri, ⟨rvk, rvn, rvs⟩⟩ W (hc.blw hb) (hq.blw hb)
  obtain ⟨ca, cc, rfl⟩ := hc.shape
  obtain ⟨qa, qc, rfl⟩ := hq.shape
  generalize kindO C Q ⟨lk, li, ⟨lvk, lvn, lvs⟩⟩ = kl at *
  generalize kindO C Q ⟨rk, ri, ⟨rvk, rvn, rvs⟩⟩ = kr at *
  have e0 : ((ps.length : Int) == 0) = (ps.length == 0) := by rw [Bool.eq_iff_iff]; simp only [beq_iff_eq]; omega
  generalize (ps.length == 0) = z at *
  generalize ps.length = m at *
  generalize C.length = nc at *
  generalize Q.length = nq at *
  clear hc hq hps h hkc hkq
  have HK : Hid (∀ W, Below (w.heap.size + 1) (w.alloc (.cells #[.int .i64 3, .int .i64 cmp, .int .i64 lk, .int .i64 li, .int .i64 lvk, .int .i64 lvn, .string lvs, .int .i64 rk, .int .i64 ri, .int .i64 rvk, .int .i64 rvn, .string rvs, .slice a m c] 77)) W → W.cell? ⟨w.heap.size, 1, none⟩ = some (.int .i64 cmp) ∧ W.cell? ⟨w.heap.size, 12, none⟩ = some (.slice a m c) ∧ W.cell? ⟨w.heap.size, 7, none⟩ = some (.int .i64 rk) ∧ W.cell? ⟨w.heap.size, 8, none⟩ = some (.int .i64 ri) ∧ W.cell? ⟨w.heap.size, 9, none⟩ = some (.int .i64 rvk) ∧ W.cell? ⟨w.heap.size, 10, none⟩ = some (.int .i64 rvn) ∧ W.cell? ⟨w.heap.size, 11, none⟩ = some (.string rvs)) := fun W hb => ⟨(hb.cell (p := ⟨w.heap.size, 1, none⟩) (show w.heap.size < _ by omega)).trans (by go_simp), (hb.cell (p := ⟨w.heap.size, 12, none⟩) (show w.heap.size < _ by omega)).trans (by go_simp), (hb.cell (p := ⟨w.heap.size, 7, none⟩) (show w.heap.size < _ by omega)).trans (by go_simp), (hb.cell (p := ⟨w.heap.size, 8, none⟩) (show w.heap.size < _ by omega)).trans (by go_simp), (hb.cell (p := ⟨w.heap.size, 9, none⟩) (show w.heap.size < _ by omega)).trans (by go_simp), (hb.cell (p := ⟨w.heap.size, 10, none⟩) (show w.heap.size < _ by omega)).trans (by go_simp), (hb.cell (p := ⟨w.heap.size, 11, none⟩) (show w.heap.size < _ by omega)).trans (by go_simp)⟩
  have hcs : z = false ∨ (z = true ∧ decide (1 ≤ cmp) = false) ∨ (z = true ∧ decide (1 ≤ cmp) = true ∧ decide (cmp ≤ 6) = false) ∨ (z = true ∧ decide (1 ≤ cmp) = true ∧ decide (cmp ≤ 6) = true ∧ (kl != 0) = false) ∨ (z = true ∧ decide (1 ≤ cmp) = true ∧ decide (cmp ≤ 6) = true ∧ (kl != 0) = true) := by
    cases z <;> cases decide (1 ≤ cmp) <;> cases decide (cmp ≤ 6) <;> cases (kl != 0) <;> simp
  rcases hcs with h0 | ⟨h0, h1⟩ | ⟨h0, h1, h2⟩ | ⟨h0, h1, h2, h3⟩ | ⟨h0, h1, h2, h3⟩
  · rw [h0]
    rw [h0] at e0
    clear h0
    simp only [Bool.false_and]
    go_enter Try.func72, Try.ntmps72
    go_wp2_with fail
    refine (HL.out _ (by (repeat (first | exact Below.refl _ _ | assumption | refine Below.drew ?_ | refine Below.setCell ?_ (by first | omega | (simp only [World.size_alloc]; omega) | (simp; try omega)) _ | refine Below.alloc ?_ (by first | omega | (simp only [World.size_alloc]; omega) | (simp; try omega)) _)))).mono ?_
    rintro e w1 ⟨rfl, hb⟩
    have B1 : Hid (Below w.heap.size w w1) := Below.trans (by (repeat (first | exact Below.refl _ _ | assumption | refine Below.drew ?_ | refine Below.setCell ?_ (by first | omega | (simp only [World.size_alloc]; omega) | (simp; try omega)) _ | refine Below.alloc ?_ (by first | omega | (simp only [World.size_alloc]; omega) | (simp; try omega)) _))) (hb.mono (by simp only [World.size_alloc]; omega))
    have z1 := hb.size
    simp only [World.size_alloc] at hb z1
    have zw : w.heap.size < w1.heap.size := by omega
    obtain ⟨c1, c12, c7, c8, c9, c10, c11⟩ := HK.out _ hb
    clear hb
    go_wp2_with fail
    go_ret
    exact ⟨rfl, B1.out⟩
  · rw [h0, h1]
    rw [h0] at e0
    clear h0
    simp only [Bool.false_and, Bool.true_and]
    go_enter Try.func72, Try.ntmps72
    go_wp2_with fail
    refine (HL.out _ (by (repeat (first | exact Below.refl _ _ | assumption | refine Below.drew ?_ | refine Below.setCell ?_ (by first | omega | (simp only [World.size_alloc]; omega) | (simp; try omega)) _ | refine Below.alloc ?_ (by first | omega | (simp only [World.size_alloc]; omega) | (simp; try omega)) _)))).mono ?_
    rintro e w1 ⟨rfl, hb⟩
    have B1 : Hid (Below w.heap.size w w1) := Below.trans (by (repeat (first | exact Below.refl _ _ | assumption | refine Below.drew ?_ | refine Below.setCell ?_ (by first | omega | (simp only [World.size_alloc]; omega) | (simp; try omega)) _ | refine Below.alloc ?_ (by first | omega | (simp only [World.size_alloc]; omega) | (simp; try omega)) _))) (hb.mono (by simp only [World.size_alloc]; omega))
    have z1 := hb.size
    simp only [World.size_alloc] at hb z1
    have zw : w.heap.size < w1.heap.size := by omega
    obtain ⟨c1, c12, c7, c8, c9, c10, c11⟩ := HK.out _ hb
    clear hb
    go_wp2_with fail
    go_ret
    exact ⟨rfl, B1.out⟩
  · rw [h0, h1, h2]
    rw [h0] at e0
    clear h0
    simp only [Bool.false_and, Bool.true_and]
    go_enter Try.func72, Try.ntmps72
    go_wp2_with fail
    refine (HL.out _ (by (repeat (first | exact Below.refl _ _ | assumption | refine Below.drew ?_ | refine Below.setCell ?_ (by first | omega | (simp only [World.size_alloc]; omega) | (simp; try omega)) _ | refine Below.alloc ?_ (by first | omega | (simp only [World.size_alloc]; omega) | (simp; try omega)) _)))).mono ?_
    rintro e w1 ⟨rfl, hb⟩
    have B1 : Hid (Below w.heap.size w w1) := Below.trans (by (repeat (first | exact Below.refl _ _ | assumption | refine Below.drew ?_ | refine Below.setCell ?_ (by first | omega | (simp only [World.size_alloc]; omega) | (simp; try omega)) _ | refine Below.alloc ?_ (by first | omega | (simp only [World.size_alloc]; omega) | (simp; try omega)) _))) (hb.mono (by simp only [World.size_alloc]; omega))
    have z1 := hb.size
    simp only [World.size_alloc] at hb z1
    have zw : w.heap.size < w1.heap.size := by omega
    obtain ⟨c1, c12, c7, c8, c9, c10, c11⟩ := HK.out _ hb
    clear hb
    go_wp2_with fail
    go_ret
    exact ⟨rfl, B1.out⟩
  · rw [h0, h1, h2, h3]
    rw [h0] at e0
    clear h0
    simp only [Bool.false_and, Bool.true_and]
    go_enter Try.func72, Try.ntmps72
    go_wp2_with fail
    refine (HL.out _ (by (repeat (first | exact Below.refl _ _ | assumption | refine Below.drew ?_ | refine Below.setCell ?_ (by first | omega | (simp only [World.size_alloc]; omega) | (simp; try omega)) _ | refine Below.alloc ?_ (by first | omega | (simp only [World.size_alloc]; omega) | (simp; try omega)) _)))).mono ?_
    rintro e w1 ⟨rfl, hb⟩
    have B1 : Hid (Below w.heap.size w w1) := Below.trans (by (repeat (first | exact Below.refl _ _ | assumption | refine Below.drew ?_ | refine Below.setCell ?_ (by first | omega | (simp only [World.size_alloc]; omega) | (simp; try omega)) _ | refine Below.alloc ?_ (by first | omega | (simp only [World.size_alloc]; omega) | (simp; try omega)) _))) (hb.mono (by simp only [World.size_alloc]; omega))
    have z1 := hb.size
    simp only [World.size_alloc] at hb z1
    have zw : w.heap.size < w1.heap.size := by omega
    obtain ⟨c1, c12, c7, c8, c9, c10, c11⟩ := HK.out _ hb
    clear hb
    go_wp2_with fail
    go_ret
    exact ⟨rfl, B1.out⟩
  · rw [h0, h1, h2, h3]
    rw [h0] at e0
    clear h0
    simp only [Bool.true_and]
    go_enter Try.func72, Try.ntmps72
    go_wp2_with fail
    refine (HL.out _ (by (repeat (first | exact Below.refl _ _ | assumption | refine Below.drew ?_ | refine Below.setCell ?_ (by first | omega | (simp only [World.size_alloc]; omega) | (simp; try omega)) _ | refine Below.alloc ?_ (by first | omega | (simp only [World.size_alloc]; omega) | (simp; try omega)) _)))).mono ?_
    rintro e w1 ⟨rfl, hb⟩
    have B1 : Hid (Below w.heap.size w w1) := Below.trans (by (repeat (first | exact Below.refl _ _ | assumption | refine Below.drew ?_ | refine Below.setCell ?_ (by first | omega | (simp only [World.size_alloc]; omega) | (simp; try omega)) _ | refine Below.alloc ?_ (by first | omega | (simp only [World.size_alloc]; omega) | (simp; try omega)) _))) (hb.mono (by simp only [World.size_alloc]; omega))
    have z1 := hb.size
    simp only [World.size_alloc] at hb z1
    have zw : w.heap.size < w1.heap.size := by omega
    obtain ⟨c1, c12, c7, c8, c9, c10, c11⟩ := HK.out _ hb
    clear hb
    go_wp2_with fail
    refine (HR.out _ B1.out).mono ?_
    rintro e w2 ⟨rfl, hb⟩
    have B2 : Hid (Below w.heap.size w w2) := B1.out.trans (hb.mono B1.out.size)
    clear hb c1 c12 c7 c8 c9 c10 c11
    go_wp2_with fail
    go_ret
    exact ⟨rfl, B2.out⟩

set_option maxRecDepth 100000 in
set_option maxHeartbeats 4000000 in
theorem rVldP_1 (C Q : List Int) (p : PT) (hop : p.op = 1) : ValidAt C Q p := by
  intro cv qv v w hc hq h
  rw [vld_12 C Q p (by omega)]
  have HPL : Hid (∀ W, Below w.heap.size w W → Calls Try.prog 90 #[v] W fun e w' => e = .returned (.bool (plnB p)) ∧ Below W.heap.size W w') := fun W hb => rPlain_any p v W (h.below hb)
  obtain ⟨ca, cc, rfl⟩ := hc.shape
  obtain ⟨qa, qc, rfl⟩ := hq.shape
  generalize plnB p = x at *
  obtain ⟨op, cmp, lk, li, lvk, lvn, lvs, rk, ri, rvk, rvn, rvs, ps, a, c, rfl, rfl, hps⟩ := pd_fields h
  obtain rfl : op = 1 := hop
  change Calls _ _ _ _ (fun e w' => e = .returned (.bool (x && (ps.length == 0))) ∧ _)
  have e0 : ((ps.length : Int) == 0) = (ps.length == 0) := by rw [Bool.eq_iff_iff]; simp only [beq_iff_eq]; omega
  generalize (ps.length == 0) = z at *
  generalize ps.length = m at *
  generalize C.length = nc at *
  generalize Q.length = nq at *
  clear hc hq hps h
  have HK : Hid (∀ W, Below (w.heap.size + 1) (w.alloc (.cells #[.int .i64 1, .int .i64 cmp, .int .i64 lk, .int .i64 li, .int .i64 lvk, .int .i64 lvn, .string lvs, .int .i64 rk, .int .i64 ri, .int .i64 rvk, .int .i64 rvn, .string rvs, .slice a m c] 77)) W → W.cell? ⟨w.heap.size, 12, none⟩ = some (.slice a m c)) := fun W hb => (hb.cell (p := ⟨w.heap.size, 12, none⟩) (show w.heap.size < _ by omega)).trans (by go_simp)
  cases x
  all_goals
    go_enter Try.func72, Try.ntmps72
    go_wp2_with fail
    refine (HPL.out _ (by (repeat (first | exact Below.refl _ _ | assumption | refine Below.drew ?_ | refine Below.setCell ?_ (by first | omega | (simp only [World.size_alloc]; omega) | (simp; try omega)) _ | refine Below.alloc ?_ (by first | omega | (simp only [World.size_alloc]; omega) | (simp; try omega)) _)))).mono ?_
    rintro e w1 ⟨rfl, hb⟩
    have B1 : Hid (Below w.heap.size w w1) := Below.trans (by (repeat (first | exact Below.refl _ _ | assumption | refine Below.drew ?_ | refine Below.setCell ?_ (by first | omega | (simp only [World.size_alloc]; omega) | (simp; try omega)) _ | refine Below.alloc ?_ (by first | omega | (simp only [World.size_alloc]; omega) | (simp; try omega)) _))) (hb.mono (by simp only [World.size_alloc]; omega))
    simp only [World.size_alloc] at hb
    have c12 := HK.out _ hb
    clear hb
    go_wp2_with fail
    go_ret
    exact ⟨rfl, B1.out⟩

set_option maxRecDepth 100000 in
set_option maxHeartbeats 4000000 in
theorem rVldP_2 (C Q : List Int) (p : PT) (hop : p.op = 2) : ValidAt C Q p := by
  intro cv qv v w hc hq h
  rw [vld_12 C Q p (by omega)]
  have HPL : Hid (∀ W, Below w.heap.size w W → Calls Try.prog 90 #[v] W fun e w' => e = .returned (.bool (plnB p)) ∧ Below W.heap.size W w') := fun W hb => rPlain_any p v W (h.below hb)
  obtain ⟨ca, cc, rfl⟩ := hc.shape
  obtain ⟨qa, qc, rfl⟩ := hq.shape
  generalize plnB p = x at *
  obtain ⟨op, cmp, lk, li, lvk, lvn, lvs, rk, ri, rvk, rvn, rvs, ps, a, c, rfl, rfl, hps⟩ := pd_fields h
  obtain rfl : op = 2 := hop
  change Calls _ _ _ _ (fun e w' => e = .returned (.bool (x && (ps.length == 0))) ∧ _)
  have e0 : ((ps.length : Int) == 0) = (ps.length == 0) := by rw [Bool.eq_iff_iff]; simp only [beq_iff_eq]; omega
  generalize (ps.length == 0) = z at *
  generalize ps.length = m at *
  generalize C.length = nc at *
  generalize Q.length = nq at *
  clear hc hq hps h
  have HK : Hid (∀ W, Below (w.heap.size + 1) (w.alloc (.cells #[.int .i64 2, .int .i64 cmp, .int .i64 lk, .int .i64 li, .int .i64 lvk, .int .i64 lvn, .string lvs, .int .i64 rk, .int .i64 ri, .int .i64 rvk, .int .i64 rvn, .string rvs, .slice a m c] 77)) W → W.cell? ⟨w.heap.size, 12, none⟩ = some (.slice a m c)) := fun W hb => (hb.cell (p := ⟨w.heap.size, 12, none⟩) (show w.heap.size < _ by omega)).trans (by go_simp)
  cases x
  all_goals
    go_enter Try.func72, Try.ntmps72
    go_wp2_with fail
    refine (HPL.out _ (by (repeat (first | exact Below.refl _ _ | assumption | refine Below.drew ?_ | refine Below.setCell ?_ (by first | omega | (simp only [World.size_alloc]; omega) | (simp; try omega)) _ | refine Below.alloc ?_ (by first | omega | (simp only [World.size_alloc]; omega) | (simp; try omega)) _)))).mono ?_
    rintro e w1 ⟨rfl, hb⟩
    have B1 : Hid (Below w.heap.size w w1) := Below.trans (by (repeat (first | exact Below.refl _ _ | assumption | refine Below.drew ?_ | refine Below.setCell ?_ (by first | omega | (simp only [World.size_alloc]; omega) | (simp; try omega)) _ | refine Below.alloc ?_ (by first | omega | (simp only [World.size_alloc]; omega) | (simp; try omega)) _))) (hb.mono (by simp only [World.size_alloc]; omega))
    simp only [World.size_alloc] at hb
    have c12 := HK.out _ hb
    clear hb
    go_wp2_with fail
    go_ret
    exact ⟨rfl, B1.out⟩

set_option maxRecDepth 100000 in
set_option maxHeartbeats 2000000 in
theorem rVldP_no (C Q : List Int) (p : PT) (h1 : p.op ≠ 1) (h2 : p.op ≠ 2) (h3 : p.op ≠ 3) (h4 : p.op ≠ 4) (h5 : p.op ≠ 5) (h6 : p.op ≠ 6) : ValidAt C Q p := by
  intro cv qv v w hc hq h
  rw [vld_no C Q p h1 h2 h3 h4 h5 h6]
  obtain ⟨ca, cc, rfl⟩ := hc.shape
  obtain ⟨qa, qc, rfl⟩ := hq.shape
  obtain ⟨op, cmp, lk, li, lvk, lvn, lvs, rk, ri, rvk, rvn, rvs, ps, a, c, rfl, rfl, hps⟩ := pd_fields h
  have b1 : (op == 1) = false := by have h : ¬ op = 1 := h1; simpa using h
  have b2 : (op == 2) = false := by have h : ¬ op = 2 := h2; simpa using h
  have b3 : (op == 3) = false := by have h : ¬ op = 3 := h3; simpa using h
  have b4 : (op == 4) = false := by have h : ¬ op = 4 := h4; simpa using h
  have b5 : (op == 5) = false := by have h : ¬ op = 5 := h5; simpa using h
  have b6 : (op == 6) = false := by have h : ¬ op = 6 := h6; simpa using h
  generalize ps.length = m at *
  generalize C.length = nc at *
  generalize Q.length = nq at *
  clear hc hq hps h h1 h2 h3 h4 h5 h6
  go_enter Try.func72, Try.ntmps72
  go_wp2_with fail
  go_ret
  exact ⟨rfl, by (repeat (first | exact Below.refl _ _ | assumption | refine Below.drew ?_ | refine Below.setCell ?_ (by first | omega | (simp only [World.size_alloc]; omega) | (simp; try omega)) _ | refine Below.alloc ?_ (by first | omega | (simp only [World.size_alloc]; omega) | (simp; try omega)) _))⟩


set_option maxRecDepth 100000 in
set_option maxHeartbeats 4000000 in
theorem rVldP_4 (C Q : List Int) (p : PT) (hop : p.op = 4) (IH : ∀ j (hj : j < p.args.length), ValidAt C Q p.args[j]) : ValidAt C Q p := by
  intro cv qv v w hc hq h
  rw [vld_45 C Q p (by omega)]
  have HPL : Hid (∀ W, Below w.heap.size w W → Calls Try.prog 90 #[v] W fun e w' => e = .returned (.bool (plnB p)) ∧ Below W.heap.size W w') := fun W hb => rPlain_any p v W (h.below hb)
  have HCC := Lib.hid hc
  have HQQ := Lib.hid hq
  obtain ⟨ca, cc, rfl⟩ := hc.shape
  obtain ⟨qa, qc, rfl⟩ := hq.shape
  generalize plnB p = x at *
  obtain ⟨op, cmp, lk, li, lvk, lvn, lvs, rk, ri, rvk, rvn, rvs, ps, a, c, rfl, rfl, hps⟩ := pd_fields h
  obtain rfl : op = 4 := hop
  change ∀ j (hj : j < ps.length), ValidAt C Q ps[j] at IH
  change Calls _ _ _ _ (fun e w' => e = .returned (.bool (x && vldPs C Q (ps.drop 0))) ∧ _)
  have HI := Lib.hid IH
  have HP := Lib.hid hps
  have hfew := hps.1.few
  obtain ⟨m, hm⟩ : ∃ m, ps.length = m := ⟨_, rfl⟩
  have HM := Lib.hid hm
  skip
  rw [hm] at hfew HPL ⊢
  obtain ⟨z, hz⟩ : ∃ z, vldPs C Q (ps.drop 0) = z := ⟨_, rfl⟩
  have HZ : Hid (vldPs C Q (ps.drop 0) = z) := hz
  rw [hz]
  generalize hnc : C.length = nc at *
  generalize hnq : Q.length = nq at *
  clear hc hq hps h IH hz  hnc hnq hm
  have HK : Hid (∀ W, Below (w.heap.size + 1) (w.alloc (.cells #[.int .i64 4, .int .i64 cmp, .int .i64 lk, .int .i64 li, .int .i64 lvk, .int .i64 lvn, .string lvs, .int .i64 rk, .int .i64 ri, .int .i64 rvk, .int .i64 rvn, .string rvs, .slice a m c] 77)) W → W.cell? ⟨w.heap.size, 0, none⟩ = some (.int .i64 4) ∧ W.cell? ⟨w.heap.size, 1, none⟩ = some (.int .i64 cmp) ∧ W.cell? ⟨w.heap.size, 2, none⟩ = some (.int .i64 lk) ∧ W.cell? ⟨w.heap.size, 3, none⟩ = some (.int .i64 li) ∧ W.cell? ⟨w.heap.size, 4, none⟩ = some (.int .i64 lvk) ∧ W.cell? ⟨w.heap.size, 5, none⟩ = some (.int .i64 lvn) ∧ W.cell? ⟨w.heap.size, 6, none⟩ = some (.string lvs) ∧ W.cell? ⟨w.heap.size, 7, none⟩ = some (.int .i64 rk) ∧ W.cell? ⟨w.heap.size, 8, none⟩ = some (.int .i64 ri) ∧ W.cell? ⟨w.heap.size, 9, none⟩ = some (.int .i64 rvk) ∧ W.cell? ⟨w.heap.size, 10, none⟩ = some (.int .i64 rvn) ∧ W.cell? ⟨w.heap.size, 11, none⟩ = some (.string rvs) ∧ W.cell? ⟨w.heap.size, 12, none⟩ = some (.slice a m c)) := fun W hb => ⟨(hb.cell (p := ⟨w.heap.size, 0, none⟩) (show w.heap.size < _ by omega)).trans (by go_simp), (hb.cell (p := ⟨w.heap.size, 1, none⟩) (show w.heap.size < _ by omega)).trans (by go_simp), (hb.cell (p := ⟨w.heap.size, 2, none⟩) (show w.heap.size < _ by omega)).trans (by go_simp), (hb.cell (p := ⟨w.heap.size, 3, none⟩) (show w.heap.size < _ by omega)).trans (by go_simp), (hb.cell (p := ⟨w.heap.size, 4, none⟩) (show w.heap.size < _ by omega)).trans (by go_simp), (hb.cell (p := ⟨w.heap.size, 5, none⟩) (show w.heap.size < _ by omega)).trans (by go_simp), (hb.cell (p := ⟨w.heap.size, 6, none⟩) (show w.heap.size < _ by omega)).trans (by go_simp), (hb.cell (p := ⟨w.heap.size, 7, none⟩) (show w.heap.size < _ by omega)).trans (by go_simp), (hb.cell (p := ⟨w.heap.size, 8, none⟩) (show w.heap.size < _ by omega)).trans (by go_simp), (hb.cell (p := ⟨w.heap.size, 9, none⟩) (show w.heap.size < _ by omega)).trans (by go_simp), (hb.cell (p := ⟨w.heap.size, 10, none⟩) (show w.heap.size < _ by omega)).trans (by go_simp), (hb.cell (p := ⟨w.heap.size, 11, none⟩) (show w.heap.size < _ by omega)).trans (by go_simp), (hb.cell (p := ⟨w.heap.size, 12, none⟩) (show w.heap.size < _ by omega)).trans (by go_simp)⟩
  cases x with
  | false =>
    go_enter Try.func72, Try.ntmps72
    go_wp2_with fail
    refine (HPL.out _ (by (repeat (first | exact Below.refl _ _ | assumption | refine Below.drew ?_ | refine Below.setCell ?_ (by first | omega | (simp only [World.size_alloc]; omega) | (simp; try omega)) _ | refine Below.alloc ?_ (by first | omega | (simp only [World.size_alloc]; omega) | (simp; try omega)) _)))).mono ?_
    rintro e w1 ⟨rfl, hb⟩
    have B1 : Hid (Below w.heap.size w w1) := Below.trans (by (repeat (first | exact Below.refl _ _ | assumption | refine Below.drew ?_ | refine Below.setCell ?_ (by first | omega | (simp only [World.size_alloc]; omega) | (simp; try omega)) _ | refine Below.alloc ?_ (by first | omega | (simp only [World.size_alloc]; omega) | (simp; try omega)) _))) (hb.mono (by simp only [World.size_alloc]; omega))
    clear hb
    go_wp2_with fail
    go_ret
    exact ⟨rfl, B1.out⟩
  | true =>
    simp only [Bool.true_and]
    go_enter Try.func72, Try.ntmps72
    go_wp2_with fail
    refine (HPL.out _ (by (repeat (first | exact Below.refl _ _ | assumption | refine Below.drew ?_ | refine Below.setCell ?_ (by first | omega | (simp only [World.size_alloc]; omega) | (simp; try omega)) _ | refine Below.alloc ?_ (by first | omega | (simp only [World.size_alloc]; omega) | (simp; try omega)) _)))).mono ?_
    rintro e w1 ⟨rfl, hb⟩
    have B1 : Hid (Below w.heap.size w w1) := Below.trans (by (repeat (first | exact Below.refl _ _ | assumption | refine Below.drew ?_ | refine Below.setCell ?_ (by first | omega | (simp only [World.size_alloc]; omega) | (simp; try omega)) _ | refine Below.alloc ?_ (by first | omega | (simp only [World.size_alloc]; omega) | (simp; try omega)) _))) (hb.mono (by simp only [World.size_alloc]; omega))
    have z1 := hb.size
    simp only [World.size_alloc] at hb z1
    have zw : w.heap.size < w1.heap.size := by omega
    have HK1 : Hid (∀ W, Below (w.heap.size + 1) w1 W → W.cell? ⟨w.heap.size, 12, none⟩ = some (.slice a m c)) := fun W hbW => by
      obtain ⟨c0, c1, c2, c3, c4, c5, c6, c7, c8, c9, c10, c11, c12⟩ := HK.out W (hb.trans (hbW.mono (by omega)))
      exact c12
    have c12 := HK1.out _ (Below.refl _ _)
    clear hb HK
    go_wp2_with fail
    clear c12
    go_loopw [71] (fun i wr => ∃ (k : Nat), k ≤ m ∧ i = .int .i64 k ∧ Hid (Below (w.heap.size + 1) w1 wr) ∧ Hid (vldPs C Q (ps.drop k) = z)) (fun i _ => m - (intOf i).toNat)
    case atStart => exact ⟨0, by omega, rfl, Below.refl _ _, HZ.out⟩
    case round =>
      obtain ⟨k, hk, rfl, HQ, HT⟩ := hrel
      have HW : Hid (Below w.heap.size w wr) := B1.out.trans (HQ.out.mono (by omega))
      have c12 := HK1.out wr HQ.out
      have zq : w.heap.size + 1 ≤ wr.heap.size := by have := HQ.out.size; omega
      have zr : w.heap.size < wr.heap.size := by omega
      clear B1 HK1 HZ HPL
      by_cases hlt : k < m
      · have hlt' : (k : Int) < m := by omega
        have hkn : k < ps.length := by rw [HM.out]; exact hlt
        obtain ⟨b, o, a1, c1, rfl, hPb, hb, g0, g1, g2, g3, g4, g5, g6, g7, g8, g9, g10, g11, g12, hps⟩ := (HP.out.below HW.out).get hkn
        have HH : Hid (∀ W, Below wr.heap.size wr W → Calls Try.prog 72 #[.slice ca nc cc, .slice qa nq qc, .agg #[.int .i64 ps[k].op, .int .i64 ps[k].cmp, .int .i64 ps[k].l.k, .int .i64 ps[k].l.i, .int .i64 ps[k].l.v.k, .int .i64 ps[k].l.v.n, .string ps[k].l.v.s, .int .i64 ps[k].r.k, .int .i64 ps[k].r.i, .int .i64 ps[k].r.v.k, .int .i64 ps[k].r.v.n, .string ps[k].r.v.s, .slice a1 ps[k].args.length c1]] W fun e w' => e = .returned (.bool (vldP C Q ps[k])) ∧ Below W.heap.size W w') := fun W hb =>
          HI.out k hkn _ _ _ W ((HCC.out.blw HW.out).blw hb) ((HQQ.out.blw HW.out).blw hb) ⟨a1, c1, rfl, hps.below hb⟩
        have HD : Hid (vldPs C Q (ps.drop k) = (vldP C Q ps[k] && vldPs C Q (ps.drop (k + 1)))) := vldPs_drop C Q ps k hkn
        clear hps
        generalize vldP C Q ps[k] = y at *
        generalize ps[k].op = eop at *
        generalize ps[k].cmp = ecmp at *
        generalize ps[k].l.k = elk at *
        generalize ps[k].l.i = eli at *
        generalize ps[k].l.v.k = elvk at *
        generalize ps[k].l.v.n = elvn at *
        generalize ps[k].l.v.s = elvs at *
        generalize ps[k].r.k = erk at *
        generalize ps[k].r.i = eri at *
        generalize ps[k].r.v.k = ervk at *
        generalize ps[k].r.v.n = ervn at *
        generalize ps[k].r.v.s = ervs at *
        generalize ps[k].args.length = en at *
        cases y with
        | true =>
          have HX : Hid (vldPs C Q (ps.drop (k + 1)) = z) := by show _ = _; rw [← HT.out, HD.out]; simp
          go_wp2_with fail
          refine (HH.out _ (by (repeat (first | exact Below.refl _ _ | assumption | refine Below.drew ?_ | refine Below.setCell ?_ (by first | omega | (simp only [World.size_alloc]; omega) | (simp; try omega)) _ | refine Below.alloc ?_ (by first | omega | (simp only [World.size_alloc]; omega) | (simp; try omega)) _)))).mono ?_
          rintro e w5 ⟨rfl, hb5⟩
          have B5 : Hid (Below wr.heap.size wr w5) := hb5
          clear hb5 g0 g1 g2 g3 g4 g5 g6 g7 g8 g9 g10 g11 g12
          go_wp2_with fail
          go_roundw
          case rel => exact ⟨k + 1, by omega, by go_num, HQ.out.trans (B5.out.mono zq), HX.out⟩
          case measure => simp [intOf]; omega
        | false =>
          have HX : Hid (z = false) := by show _ = _; rw [← HT.out, HD.out]; simp
          go_wp2_with fail
          refine (HH.out _ (by (repeat (first | exact Below.refl _ _ | assumption | refine Below.drew ?_ | refine Below.setCell ?_ (by first | omega | (simp only [World.size_alloc]; omega) | (simp; try omega)) _ | refine Below.alloc ?_ (by first | omega | (simp only [World.size_alloc]; omega) | (simp; try omega)) _)))).mono ?_
          rintro e w5 ⟨rfl, hb5⟩
          have B5 : Hid (Below wr.heap.size wr w5) := hb5
          clear hb5 g0 g1 g2 g3 g4 g5 g6 g7 g8 g9 g10 g11 g12
          go_wp2_with fail
          go_ret
          exact ⟨by rw [HX.out]; rfl, HW.out.trans (B5.out.mono HW.out.size)⟩
      · have HX : Hid (z = true) := by show _ = _; rw [← HT.out]; exact vldPs_end C Q ps k (by rw [HM.out]; omega)
        go_wp2_with fail
        go_ret
        exact ⟨by rw [HX.out]; rfl, HW.out⟩

set_option maxRecDepth 100000 in
set_option maxHeartbeats 4000000 in
theorem rVldP_5 (C Q : List Int) (p : PT) (hop : p.op = 5) (IH : ∀ j (hj : j < p.args.length), ValidAt C Q p.args[j]) : ValidAt C Q p := by
  intro cv qv v w hc hq h
  rw [vld_45 C Q p (by omega)]
  have HPL : Hid (∀ W, Below w.heap.size w W → Calls Try.prog 90 #[v] W fun e w' => e = .returned (.bool (plnB p)) ∧ Below W.heap.size W w') := fun W hb => rPlain_any p v W (h.below hb)
  have HCC := Lib.hid hc
  have HQQ := Lib.hid hq
  obtain ⟨ca, cc, rfl⟩ := hc.shape
  obtain ⟨qa, qc, rfl⟩ := hq.shape
  generalize plnB p = x at *
  obtain ⟨op, cmp, lk, li, lvk, lvn, lvs, rk, ri, rvk, rvn, rvs, ps, a, c, rfl, rfl, hps⟩ := pd_fields h
  obtain rfl : op = 5 := hop
  change ∀ j (hj : j < ps.length), ValidAt C Q ps[j] at IH
  change Calls _ _ _ _ (fun e w' => e = .returned (.bool (x && vldPs C Q (ps.drop 0))) ∧ _)
  have HI := Lib.hid IH
  have HP := Lib.hid hps
  have hfew := hps.1.few
  obtain ⟨m, hm⟩ : ∃ m, ps.length = m := ⟨_, rfl⟩
  have HM := Lib.hid hm
  skip
  rw [hm] at hfew HPL ⊢
  obtain ⟨z, hz⟩ : ∃ z, vldPs C Q (ps.drop 0) = z := ⟨_, rfl⟩
  have HZ : Hid (vldPs C Q (ps.drop 0) = z) := hz
  rw [hz]
  generalize hnc : C.length = nc at *
  generalize hnq : Q.length = nq at *
  clear hc hq hps h IH hz  hnc hnq hm
  have HK : Hid (∀ W, Below (w.heap.size + 1) (w.alloc (.cells #[.int .i64 5, .int .i64 cmp, .int .i64 lk, .int .i64 li, .int .i64 lvk, .int .i64 lvn, .string lvs, .int .i64 rk, .int .i64 ri, .int .i64 rvk, .int .i64 rvn, .string rvs, .slice a m c] 77)) W → W.cell? ⟨w.heap.size, 0, none⟩ = some (.int .i64 5) ∧ W.cell? ⟨w.heap.size, 1, none⟩ = some (.int .i64 cmp) ∧ W.cell? ⟨w.heap.size, 2, none⟩ = some (.int .i64 lk) ∧ W.cell? ⟨w.heap.size, 3, none⟩ = some (.int .i64 li) ∧ W.cell? ⟨w.heap.size, 4, none⟩ = some (.int .i64 lvk) ∧ W.cell? ⟨w.heap.size, 5, none⟩ = some (.int .i64 lvn) ∧ W.cell? ⟨w.heap.size, 6, none⟩ = some (.string lvs) ∧ W.cell? ⟨w.heap.size, 7, none⟩ = some (.int .i64 rk) ∧ W.cell? ⟨w.heap.size, 8, none⟩ = some (.int .i64 ri) ∧ W.cell? ⟨w.heap.size, 9, none⟩ = some (.int .i64 rvk) ∧ W.cell? ⟨w.heap.size, 10, none⟩ = some (.int .i64 rvn) ∧ W.cell? ⟨w.heap.size, 11, none⟩ = some (.string rvs) ∧ W.cell? ⟨w.heap.size, 12, none⟩ = some (.slice a m c)) := fun W hb => ⟨(hb.cell (p := ⟨w.heap.size, 0, none⟩) (show w.heap.size < _ by omega)).trans (by go_simp), (hb.cell (p := ⟨w.heap.size, 1, none⟩) (show w.heap.size < _ by omega)).trans (by go_simp), (hb.cell (p := ⟨w.heap.size, 2, none⟩) (show w.heap.size < _ by omega)).trans (by go_simp), (hb.cell (p := ⟨w.heap.size, 3, none⟩) (show w.heap.size < _ by omega)).trans (by go_simp), (hb.cell (p := ⟨w.heap.size, 4, none⟩) (show w.heap.size < _ by omega)).trans (by go_simp), (hb.cell (p := ⟨w.heap.size, 5, none⟩) (show w.heap.size < _ by omega)).trans (by go_simp), (hb.cell (p := ⟨w.heap.size, 6, none⟩) (show w.heap.size < _ by omega)).trans (by go_simp), (hb.cell (p := ⟨w.heap.size, 7, none⟩) (show w.heap.size < _ by omega)).trans (by go_simp), (hb.cell (p := ⟨w.heap.size, 8, none⟩) (show w.heap.size < _ by omega)).trans (by go_simp), (hb.cell (p := ⟨w.heap.size, 9, none⟩) (show w.heap.size < _ by omega)).trans (by go_simp), (hb.cell (p := ⟨w.heap.size, 10, none⟩) (show w.heap.size < _ by omega)).trans (by go_simp), (hb.cell (p := ⟨w.heap.size, 11, none⟩) (show w.heap.size < _ by omega)).trans (by go_simp), (hb.cell (p := ⟨w.heap.size, 12, none⟩) (show w.heap.size < _ by omega)).trans (by go_simp)⟩
  cases x with
  | false =>
    go_enter Try.func72, Try.ntmps72
    go_wp2_with fail
    refine (HPL.out _ (by (repeat (first | exact Below.refl _ _ | assumption | refine Below.drew ?_ | refine Below.setCell ?_ (by first | omega | (simp only [World.size_alloc]; omega) | (simp; try omega)) _ | refine Below.alloc ?_ (by first | omega | (simp only [World.size_alloc]; omega) | (simp; try omega)) _)))).mono ?_
    rintro e w1 ⟨rfl, hb⟩
    have B1 : Hid (Below w.heap.size w w1) := Below.trans (by (repeat (first | exact Below.refl _ _ | assumption | refine Below.drew ?_ | refine Below.setCell ?_ (by first | omega | (simp only [World.size_alloc]; omega) | (simp; try omega)) _ | refine Below.alloc ?_ (by first | omega | (simp only [World.size_alloc]; omega) | (simp; try omega)) _))) (hb.mono (by simp only [World.size_alloc]; omega))
    clear hb
    go_wp2_with fail
    go_ret
    exact ⟨rfl, B1.out⟩
  | true =>
    simp only [Bool.true_and]
    go_enter Try.func72, Try.ntmps72
    go_wp2_with fail
    refine (HPL.out _ (by (repeat (first | exact Below.refl _ _ | assumption | refine Below.drew ?_ | refine Below.setCell ?_ (by first | omega | (simp only [World.size_alloc]; omega) | (simp; try omega)) _ | refine Below.alloc ?_ (by first | omega | (simp only [World.size_alloc]; omega) | (simp; try omega)) _)))).mono ?_
    rintro e w1 ⟨rfl, hb⟩
    have B1 : Hid (Below w.heap.size w w1) := Below.trans (by (repeat (first | exact Below.refl _ _ | assumption | refine Below.drew ?_ | refine Below.setCell ?_ (by first | omega | (simp only [World.size_alloc]; omega) | (simp; try omega)) _ | refine Below.alloc ?_ (by first | omega | (simp only [World.size_alloc]; omega) | (simp; try omega)) _))) (hb.mono (by simp only [World.size_alloc]; omega))
    have z1 := hb.size
    simp only [World.size_alloc] at hb z1
    have zw : w.heap.size < w1.heap.size := by omega
    have HK1 : Hid (∀ W, Below (w.heap.size + 1) w1 W → W.cell? ⟨w.heap.size, 12, none⟩ = some (.slice a m c)) := fun W hbW => by
      obtain ⟨c0, c1, c2, c3, c4, c5, c6, c7, c8, c9, c10, c11, c12⟩ := HK.out W (hb.trans (hbW.mono (by omega)))
      exact c12
    have c12 := HK1.out _ (Below.refl _ _)
    clear hb HK
    go_wp2_with fail
    clear c12
    go_loopw [71] (fun i wr => ∃ (k : Nat), k ≤ m ∧ i = .int .i64 k ∧ Hid (Below (w.heap.size + 1) w1 wr) ∧ Hid (vldPs C Q (ps.drop k) = z)) (fun i _ => m - (intOf i).toNat)
    case atStart => exact ⟨0, by omega, rfl, Below.refl _ _, HZ.out⟩
    case round =>
      obtain ⟨k, hk, rfl, HQ, HT⟩ := hrel
      have HW : Hid (Below w.heap.size w wr) := B1.out.trans (HQ.out.mono (by omega))
      have c12 := HK1.out wr HQ.out
      have zq : w.heap.size + 1 ≤ wr.heap.size := by have := HQ.out.size; omega
      have zr : w.heap.size < wr.heap.size := by omega
      clear B1 HK1 HZ HPL
      by_cases hlt : k < m
      · have hlt' : (k : Int) < m := by omega
        have hkn : k < ps.length := by rw [HM.out]; exact hlt
        obtain ⟨b, o, a1, c1, rfl, hPb, hb, g0, g1, g2, g3, g4, g5, g6, g7, g8, g9, g10, g11, g12, hps⟩ := (HP.out.below HW.out).get hkn
        have HH : Hid (∀ W, Below wr.heap.size wr W → Calls Try.prog 72 #[.slice ca nc cc, .slice qa nq qc, .agg #[.int .i64 ps[k].op, .int .i64 ps[k].cmp, .int .i64 ps[k].l.k, .int .i64 ps[k].l.i, .int .i64 ps[k].l.v.k, .int .i64 ps[k].l.v.n, .string ps[k].l.v.s, .int .i64 ps[k].r.k, .int .i64 ps[k].r.i, .int .i64 ps[k].r.v.k, .int .i64 ps[k].r.v.n, .string ps[k].r.v.s, .slice a1 ps[k].args.length c1]] W fun e w' => e = .returned (.bool (vldP C Q ps[k])) ∧ Below W.heap.size W w') := fun W hb =>
          HI.out k hkn _ _ _ W ((HCC.out.blw HW.out).blw hb) ((HQQ.out.blw HW.out).blw hb) ⟨a1, c1, rfl, hps.below hb⟩
        have HD : Hid (vldPs C Q (ps.drop k) = (vldP C Q ps[k] && vldPs C Q (ps.drop (k + 1)))) := vldPs_drop C Q ps k hkn
        clear hps
        generalize vldP C Q ps[k] = y at *
        generalize ps[k].op = eop at *
        generalize ps[k].cmp = ecmp at *
        generalize ps[k].l.k = elk at *
        generalize ps[k].l.i = eli at *
        generalize ps[k].l.v.k = elvk at *
        generalize ps[k].l.v.n = elvn at *
        generalize ps[k].l.v.s = elvs at *
        generalize ps[k].r.k = erk at *
        generalize ps[k].r.i = eri at *
        generalize ps[k].r.v.k = ervk at *
        generalize ps[k].r.v.n = ervn at *
        generalize ps[k].r.v.s = ervs at *
        generalize ps[k].args.length = en at *
        cases y with
        | true =>
          have HX : Hid (vldPs C Q (ps.drop (k + 1)) = z) := by show _ = _; rw [← HT.out, HD.out]; simp
          go_wp2_with fail
          refine (HH.out _ (by (repeat (first | exact Below.refl _ _ | assumption | refine Below.drew ?_ | refine Below.setCell ?_ (by first | omega | (simp only [World.size_alloc]; omega) | (simp; try omega)) _ | refine Below.alloc ?_ (by first | omega | (simp only [World.size_alloc]; omega) | (simp; try omega)) _)))).mono ?_
          rintro e w5 ⟨rfl, hb5⟩
          have B5 : Hid (Below wr.heap.size wr w5) := hb5
          clear hb5 g0 g1 g2 g3 g4 g5 g6 g7 g8 g9 g10 g11 g12
          go_wp2_with fail
          go_roundw
          case rel => exact ⟨k + 1, by omega, by go_num, HQ.out.trans (B5.out.mono zq), HX.out⟩
          case measure => simp [intOf]; omega
        | false =>
          have HX : Hid (z = false) := by show _ = _; rw [← HT.out, HD.out]; simp
          go_wp2_with fail
          refine (HH.out _ (by (repeat (first | exact Below.refl _ _ | assumption | refine Below.drew ?_ | refine Below.setCell ?_ (by first | omega | (simp only [World.size_alloc]; omega) | (simp; try omega)) _ | refine Below.alloc ?_ (by first | omega | (simp only [World.size_alloc]; omega) | (simp; try omega)) _)))).mono ?_
          rintro e w5 ⟨rfl, hb5⟩
          have B5 : Hid (Below wr.heap.size wr w5) := hb5
          clear hb5 g0 g1 g2 g3 g4 g5 g6 g7 g8 g9 g10 g11 g12
          go_wp2_with fail
          go_ret
          exact ⟨by rw [HX.out]; rfl, HW.out.trans (B5.out.mono HW.out.size)⟩
      · have HX : Hid (z = true) := by show _ = _; rw [← HT.out]; exact vldPs_end C Q ps k (by rw [HM.out]; omega)
        go_wp2_with fail
        go_ret
        exact ⟨by rw [HX.out]; rfl, HW.out⟩

set_option maxRecDepth 100000 in
set_option maxHeartbeats 4000000 in
theorem rVldP_6 (C Q : List Int) (p : PT) (hop : p.op = 6) (IH : ∀ j (hj : j < p.args.length), ValidAt C Q p.args[j]) : ValidAt C Q p := by
  intro cv qv v w hc hq h
  rw [vld_6 C Q p hop]
  have HPL : Hid (∀ W, Below w.heap.size w W → Calls Try.prog 90 #[v] W fun e w' => e = .returned (.bool (plnB p)) ∧ Below W.heap.size W w') := fun W hb => rPlain_any p v W (h.below hb)
  have HCC := Lib.hid hc
  have HQQ := Lib.hid hq
  obtain ⟨ca, cc, rfl⟩ := hc.shape
  obtain ⟨qa, qc, rfl⟩ := hq.shape
  generalize plnB p = x at *
  obtain ⟨op, cmp, lk, li, lvk, lvn, lvs, rk, ri, rvk, rvn, rvs, ps, a, c, rfl, rfl, hps⟩ := pd_fields h
  obtain rfl : op = 6 := hop
  change ∀ j (hj : j < ps.length), ValidAt C Q ps[j] at IH
  change Calls _ _ _ _ (fun e w' => e = .returned (.bool ((ps.length == 1) && (x && vldPs C Q (ps.drop 0)))) ∧ _)
  by_cases hl1 : ps.length = 1
  case neg =>
    have e1 : ((ps.length : Int) != 1) = true := by simp; omega
    rw [show (ps.length == 1) = false by simpa using hl1, Bool.false_and]
    clear hc hq hps h IH hl1 HPL HCC HQQ
    generalize ps.length = m at *
    generalize C.length = nc at *
    generalize Q.length = nq at *
    go_enter Try.func72, Try.ntmps72
    go_wp2_with fail
    go_ret
    exact ⟨rfl, by (repeat (first | exact Below.refl _ _ | assumption | refine Below.drew ?_ | refine Below.setCell ?_ (by first | omega | (simp only [World.size_alloc]; omega) | (simp; try omega)) _ | refine Below.alloc ?_ (by first | omega | (simp only [World.size_alloc]; omega) | (simp; try omega)) _))⟩
  rw [show (ps.length == 1) = true by simpa using hl1, Bool.true_and]
  have HI := Lib.hid IH
  have HP := Lib.hid hps
  have hfew := hps.1.few
  obtain ⟨m, hm⟩ : ∃ m, ps.length = m := ⟨_, rfl⟩
  have HM := Lib.hid hm
  have em : ((m : Int) != 1) = false := by rw [← hm, hl1]; rfl
  rw [hm] at hfew HPL ⊢
  obtain ⟨z, hz⟩ : ∃ z, vldPs C Q (ps.drop 0) = z := ⟨_, rfl⟩
  have HZ : Hid (vldPs C Q (ps.drop 0) = z) := hz
  rw [hz]
  generalize hnc : C.length = nc at *
  generalize hnq : Q.length = nq at *
  clear hc hq hps h IH hz hl1 hnc hnq hm
  have HK : Hid (∀ W, Below (w.heap.size + 1) (w.alloc (.cells #[.int .i64 6, .int .i64 cmp, .int .i64 lk, .int .i64 li, .int .i64 lvk, .int .i64 lvn, .string lvs, .int .i64 rk, .int .i64 ri, .int .i64 rvk, .int .i64 rvn, .string rvs, .slice a m c] 77)) W → W.cell? ⟨w.heap.size, 0, none⟩ = some (.int .i64 6) ∧ W.cell? ⟨w.heap.size, 1, none⟩ = some (.int .i64 cmp) ∧ W.cell? ⟨w.heap.size, 2, none⟩ = some (.int .i64 lk) ∧ W.cell? ⟨w.heap.size, 3, none⟩ = some (.int .i64 li) ∧ W.cell? ⟨w.heap.size, 4, none⟩ = some (.int .i64 lvk) ∧ W.cell? ⟨w.heap.size, 5, none⟩ = some (.int .i64 lvn) ∧ W.cell? ⟨w.heap.size, 6, none⟩ = some (.string lvs) ∧ W.cell? ⟨w.heap.size, 7, none⟩ = some (.int .i64 rk) ∧ W.cell? ⟨w.heap.size, 8, none⟩ = some (.int .i64 ri) ∧ W.cell? ⟨w.heap.size, 9, none⟩ = some (.int .i64 rvk) ∧ W.cell? ⟨w.heap.size, 10, none⟩ = some (.int .i64 rvn) ∧ W.cell? ⟨w.heap.size, 11, none⟩ = some (.string rvs) ∧ W.cell? ⟨w.heap.size, 12, none⟩ = some (.slice a m c)) := fun W hb => ⟨(hb.cell (p := ⟨w.heap.size, 0, none⟩) (show w.heap.size < _ by omega)).trans (by go_simp), (hb.cell (p := ⟨w.heap.size, 1, none⟩) (show w.heap.size < _ by omega)).trans (by go_simp), (hb.cell (p := ⟨w.heap.size, 2, none⟩) (show w.heap.size < _ by omega)).trans (by go_simp), (hb.cell (p := ⟨w.heap.size, 3, none⟩) (show w.heap.size < _ by omega)).trans (by go_simp), (hb.cell (p := ⟨w.heap.size, 4, none⟩) (show w.heap.size < _ by omega)).trans (by go_simp), (hb.cell (p := ⟨w.heap.size, 5, none⟩) (show w.heap.size < _ by omega)).trans (by go_simp), (hb.cell (p := ⟨w.heap.size, 6, none⟩) (show w.heap.size < _ by omega)).trans (by go_simp), (hb.cell (p := ⟨w.heap.size, 7, none⟩) (show w.heap.size < _ by omega)).trans (by go_simp), (hb.cell (p := ⟨w.heap.size, 8, none⟩) (show w.heap.size < _ by omega)).trans (by go_simp), (hb.cell (p := ⟨w.heap.size, 9, none⟩) (show w.heap.size < _ by omega)).trans (by go_simp), (hb.cell (p := ⟨w.heap.size, 10, none⟩) (show w.heap.size < _ by omega)).trans (by go_simp), (hb.cell (p := ⟨w.heap.size, 11, none⟩) (show w.heap.size < _ by omega)).trans (by go_simp), (hb.cell (p := ⟨w.heap.size, 12, none⟩) (show w.heap.size < _ by omega)).trans (by go_simp)⟩
  cases x with
  | false =>
    go_enter Try.func72, Try.ntmps72
    go_wp2_with fail
    refine (HPL.out _ (by (repeat (first | exact Below.refl _ _ | assumption | refine Below.drew ?_ | refine Below.setCell ?_ (by first | omega | (simp only [World.size_alloc]; omega) | (simp; try omega)) _ | refine Below.alloc ?_ (by first | omega | (simp only [World.size_alloc]; omega) | (simp; try omega)) _)))).mono ?_
    rintro e w1 ⟨rfl, hb⟩
    have B1 : Hid (Below w.heap.size w w1) := Below.trans (by (repeat (first | exact Below.refl _ _ | assumption | refine Below.drew ?_ | refine Below.setCell ?_ (by first | omega | (simp only [World.size_alloc]; omega) | (simp; try omega)) _ | refine Below.alloc ?_ (by first | omega | (simp only [World.size_alloc]; omega) | (simp; try omega)) _))) (hb.mono (by simp only [World.size_alloc]; omega))
    clear hb
    go_wp2_with fail
    go_ret
    exact ⟨rfl, B1.out⟩
  | true =>
    simp only [Bool.true_and]
    go_enter Try.func72, Try.ntmps72
    go_wp2_with fail
    refine (HPL.out _ (by (repeat (first | exact Below.refl _ _ | assumption | refine Below.drew ?_ | refine Below.setCell ?_ (by first | omega | (simp only [World.size_alloc]; omega) | (simp; try omega)) _ | refine Below.alloc ?_ (by first | omega | (simp only [World.size_alloc]; omega) | (simp; try omega)) _)))).mono ?_
    rintro e w1 ⟨rfl, hb⟩
    have B1 : Hid (Below w.heap.size w w1) := Below.trans (by (repeat (first | exact Below.refl _ _ | assumption | refine Below.drew ?_ | refine Below.setCell ?_ (by first | omega | (simp only [World.size_alloc]; omega) | (simp; try omega)) _ | refine Below.alloc ?_ (by first | omega | (simp only [World.size_alloc]; omega) | (simp; try omega)) _))) (hb.mono (by simp only [World.size_alloc]; omega))
    have z1 := hb.size
    simp only [World.size_alloc] at hb z1
    have zw : w.heap.size < w1.heap.size := by omega
    have HK1 : Hid (∀ W, Below (w.heap.size + 1) w1 W → W.cell? ⟨w.heap.size, 12, none⟩ = some (.slice a m c)) := fun W hbW => by
      obtain ⟨c0, c1, c2, c3, c4, c5, c6, c7, c8, c9, c10, c11, c12⟩ := HK.out W (hb.trans (hbW.mono (by omega)))
      exact c12
    have c12 := HK1.out _ (Below.refl _ _)
    clear hb HK
    go_wp2_with fail
    clear c12
    go_loopw [71] (fun i wr => ∃ (k : Nat), k ≤ m ∧ i = .int .i64 k ∧ Hid (Below (w.heap.size + 1) w1 wr) ∧ Hid (vldPs C Q (ps.drop k) = z)) (fun i _ => m - (intOf i).toNat)
    case atStart => exact ⟨0, by omega, rfl, Below.refl _ _, HZ.out⟩
    case round =>
      obtain ⟨k, hk, rfl, HQ, HT⟩ := hrel
      have HW : Hid (Below w.heap.size w wr) := B1.out.trans (HQ.out.mono (by omega))
      have c12 := HK1.out wr HQ.out
      have zq : w.heap.size + 1 ≤ wr.heap.size := by have := HQ.out.size; omega
      have zr : w.heap.size < wr.heap.size := by omega
      clear B1 HK1 HZ HPL
      by_cases hlt : k < m
      · have hlt' : (k : Int) < m := by omega
        have hkn : k < ps.length := by rw [HM.out]; exact hlt
        obtain ⟨b, o, a1, c1, rfl, hPb, hb, g0, g1, g2, g3, g4, g5, g6, g7, g8, g9, g10, g11, g12, hps⟩ := (HP.out.below HW.out).get hkn
        have HH : Hid (∀ W, Below wr.heap.size wr W → Calls Try.prog 72 #[.slice ca nc cc, .slice qa nq qc, .agg #[.int .i64 ps[k].op, .int .i64 ps[k].cmp, .int .i64 ps[k].l.k, .int .i64 ps[k].l.i, .int .i64 ps[k].l.v.k, .int .i64 ps[k].l.v.n, .string ps[k].l.v.s, .int .i64 ps[k].r.k, .int .i64 ps[k].r.i, .int .i64 ps[k].r.v.k, .int .i64 ps[k].r.v.n, .string ps[k].r.v.s, .slice a1 ps[k].args.length c1]] W fun e w' => e = .returned (.bool (vldP C Q ps[k])) ∧ Below W.heap.size W w') := fun W hb =>
          HI.out k hkn _ _ _ W ((HCC.out.blw HW.out).blw hb) ((HQQ.out.blw HW.out).blw hb) ⟨a1, c1, rfl, hps.below hb⟩
        have HD : Hid (vldPs C Q (ps.drop k) = (vldP C Q ps[k] && vldPs C Q (ps.drop (k + 1)))) := vldPs_drop C Q ps k hkn
        clear hps
        generalize vldP C Q ps[k] = y at *
        generalize ps[k].op = eop at *
        generalize ps[k].cmp = ecmp at *
        generalize ps[k].l.k = elk at *
        generalize ps[k].l.i = eli at *
        generalize ps[k].l.v.k = elvk at *
        generalize ps[k].l.v.n = elvn at *
        generalize ps[k].l.v.s = elvs at *
        generalize ps[k].r.k = erk at *
        generalize ps[k].r.i = eri at *
        generalize ps[k].r.v.k = ervk at *
        generalize ps[k].r.v.n = ervn at *
        generalize ps[k].r.v.s = ervs at *
        generalize ps[k].args.length = en at *
        cases y with
        | true =>
          have HX : Hid (vldPs C Q (ps.drop (k + 1)) = z) := by show _ = _; rw [← HT.out, HD.out]; simp
          go_wp2_with fail
          refine (HH.out _ (by (repeat (first | exact Below.refl _ _ | assumption | refine Below.drew ?_ | refine Below.setCell ?_ (by first | omega | (simp only [World.size_alloc]; omega) | (simp; try omega)) _ | refine Below.alloc ?_ (by first | omega | (simp only [World.size_alloc]; omega) | (simp; try omega)) _)))).mono ?_
          rintro e w5 ⟨rfl, hb5⟩
          have B5 : Hid (Below wr.heap.size wr w5) := hb5
          clear hb5 g0 g1 g2 g3 g4 g5 g6 g7 g8 g9 g10 g11 g12
          go_wp2_with fail
          go_roundw
          case rel => exact ⟨k + 1, by omega, by go_num, HQ.out.trans (B5.out.mono zq), HX.out⟩
          case measure => simp [intOf]; omega
        | false =>
          have HX : Hid (z = false) := by show _ = _; rw [← HT.out, HD.out]; simp
          go_wp2_with fail
          refine (HH.out _ (by (repeat (first | exact Below.refl _ _ | assumption | refine Below.drew ?_ | refine Below.setCell ?_ (by first | omega | (simp only [World.size_alloc]; omega) | (simp; try omega)) _ | refine Below.alloc ?_ (by first | omega | (simp only [World.size_alloc]; omega) | (simp; try omega)) _)))).mono ?_
          rintro e w5 ⟨rfl, hb5⟩
          have B5 : Hid (Below wr.heap.size wr w5) := hb5
          clear hb5 g0 g1 g2 g3 g4 g5 g6 g7 g8 g9 g10 g11 g12
          go_wp2_with fail
          go_ret
          exact ⟨by rw [HX.out]; rfl, HW.out.trans (B5.out.mono HW.out.size)⟩
      · have HX : Hid (z = true) := by show _ = _; rw [← HT.out]; exact vldPs_end C Q ps k (by rw [HM.out]; omega)
        go_wp2_with fail
        go_ret
        exact ⟨by rw [HX.out]; rfl, HW.out⟩

theorem rVldP_any (C Q : List Int) (hkc : okKs C = true) (hkq : okKs Q = true) : ∀ (d : Nat) (p : PT), p.depth ≤ d → ValidAt C Q p
  | 0, p, hd => by have := p.depth_pos; omega
  | d + 1, p, hd => by
    have IH : ∀ j (hj : j < p.args.length), ValidAt C Q p.args[j] := fun j hj => rVldP_any C Q hkc hkq d _ (PT.depth_arg hj hd)
    by_cases h1 : p.op = 1
    · exact rVldP_1 C Q p h1
    by_cases h2 : p.op = 2
    · exact rVldP_2 C Q p h2
    by_cases h3 : p.op = 3
    · exact rVldP_3 C Q hkc hkq p h3
    by_cases h4 : p.op = 4
    · exact rVldP_4 C Q p h4 IH
    by_cases h5 : p.op = 5
    · exact rVldP_5 C Q p h5 IH
    by_cases h6 : p.op = 6
    · exact rVldP_6 C Q p h6 IH
    exact rVldP_no C Q p h1 h2 h3 h4 h5 h6


set_option maxRecDepth 100000 in
set_option maxHeartbeats 4000000 in
theorem rCheck_any (C Q : List Int) (cv qv : Value) (p : PT) (v : Value) (w : World) (hc : IntsAt w cv C) (hq : IntsAt w qv Q) (h : Pd w v p) : Calls Try.prog 41 #[cv, qv, v] w fun e w' => e = .returned (.int .i64 (checkP C Q p)) ∧ Below w.heap.size w w' := by
  have HA : Hid (∀ W, Below w.heap.size w W → Calls Try.prog 69 #[cv] W fun e w' => e = .returned (.bool (okKs C)) ∧ W = w') := fun W hb => rColumnKinds_any cv C W (hc.blw hb)
  have HB : Hid (∀ W, Below w.heap.size w W → Calls Try.prog 69 #[qv] W fun e w' => e = .returned (.bool (okKs Q)) ∧ W = w') := fun W hb => rColumnKinds_any qv Q W (hq.blw hb)
  have HN : Hid (∀ W, Below w.heap.size w W → Calls Try.prog 70 #[v, .int .i64 0] W fun e w' => e = .returned (.int .i64 (ndP 0 p)) ∧ Below W.heap.size W w') := fun W hb => rNodes_any p.depth p (Nat.le_refl _) 0 v W (by omega) (h.below hb)
  have HD : Hid (∀ W, Below w.heap.size w W → Calls Try.prog 71 #[v, .int .i64 8] W fun e w' => e = .returned (.bool (decide (8 < p.depth))) ∧ Below W.heap.size W w') := fun W hb => rDeeper_any p.depth p (Nat.le_refl _) 8 v W (by omega) (h.below hb)
  have HV : Hid (okKs C = true → okKs Q = true → ∀ W, Below w.heap.size w W → Calls Try.prog 72 #[cv, qv, v] W fun e w' => e = .returned (.bool (vldP C Q p)) ∧ Below W.heap.size W w') := fun h1 h2 W hb => rVldP_any C Q h1 h2 p.depth p (Nat.le_refl _) cv qv v W (hc.blw hb) (hq.blw hb) (h.below hb)
  have hR : checkP C Q p = if okKs C = false then 1 else if okKs Q = false then 1 else if decide (24 < ndP 0 p) = true then 2 else if decide (8 < p.depth) = true then 2 else if vldP C Q p = false then 50 else 0 := by
    unfold checkP smallP
    have e := nd_small p
    by_cases h1 : p.nodes ≤ 24
    · have h1' : ¬ 24 < ndP 0 p := by omega
      by_cases h2 : p.depth ≤ 8
      · have h2' : ¬ 8 < p.depth := by omega
        simp only [h1, h2, h1', h2']
        cases okKs C <;> cases okKs Q <;> simp
      · have h2' : 8 < p.depth := by omega
        simp only [h1, h2, h1', h2']
        cases okKs C <;> cases okKs Q <;> simp
    · have h1' : 24 < ndP 0 p := by omega
      simp only [h1, h1']
      cases okKs C <;> cases okKs Q <;> simp
  rw [hR]
  clear hR
  have en : decide ((24 : Int) < ndP 0 p) = decide (24 < ndP 0 p) := by rw [Bool.eq_iff_iff]; simp only [decide_eq_true_eq]; omega
  obtain ⟨ca, cc, rfl⟩ := hc.shape
  obtain ⟨qa, qc, rfl⟩ := hq.shape
  obtain ⟨op, cmp, lk, li, lvk, lvn, lvs, rk, ri, rvk, rvn, rvs, ps, a, c, rfl, rfl, hps⟩ := pd_fields h
  generalize okKs C = x1 at *
  generalize okKs Q = x2 at *
  generalize decide (24 < _) = x3 at *
  generalize ndP 0 _ = nd at *
  generalize decide (8 < _) = x4 at *
  generalize vldP _ _ _ = x5 at *
  generalize ps.length = m at *
  generalize C.length = nc at *
  generalize Q.length = nq at *
  clear hc hq hps h
  have HK : Hid (∀ W, Below (w.heap.size + 1) (w.alloc (.cells #[.int .i64 op, .int .i64 cmp, .int .i64 lk, .int .i64 li, .int .i64 lvk, .int .i64 lvn, .string lvs, .int .i64 rk, .int .i64 ri, .int .i64 rvk, .int .i64 rvn, .string rvs, .slice a m c] 77)) W → W.cell? ⟨w.heap.size, 0, none⟩ = some (.int .i64 op) ∧ W.cell? ⟨w.heap.size, 1, none⟩ = some (.int .i64 cmp) ∧ W.cell? ⟨w.heap.size, 2, none⟩ = some (.int .i64 lk) ∧ W.cell? ⟨w.heap.size, 3, none⟩ = some (.int .i64 li) ∧ W.cell? ⟨w.heap.size, 4, none⟩ = some (.int .i64 lvk) ∧ W.cell? ⟨w.heap.size, 5, none⟩ = some (.int .i64 lvn) ∧ W.cell? ⟨w.heap.size, 6, none⟩ = some (.string lvs) ∧ W.cell? ⟨w.heap.size, 7, none⟩ = some (.int .i64 rk) ∧ W.cell? ⟨w.heap.size, 8, none⟩ = some (.int .i64 ri) ∧ W.cell? ⟨w.heap.size, 9, none⟩ = some (.int .i64 rvk) ∧ W.cell? ⟨w.heap.size, 10, none⟩ = some (.int .i64 rvn) ∧ W.cell? ⟨w.heap.size, 11, none⟩ = some (.string rvs) ∧ W.cell? ⟨w.heap.size, 12, none⟩ = some (.slice a m c)) := fun W hb => ⟨(hb.cell (p := ⟨w.heap.size, 0, none⟩) (show w.heap.size < _ by omega)).trans (by go_simp), (hb.cell (p := ⟨w.heap.size, 1, none⟩) (show w.heap.size < _ by omega)).trans (by go_simp), (hb.cell (p := ⟨w.heap.size, 2, none⟩) (show w.heap.size < _ by omega)).trans (by go_simp), (hb.cell (p := ⟨w.heap.size, 3, none⟩) (show w.heap.size < _ by omega)).trans (by go_simp), (hb.cell (p := ⟨w.heap.size, 4, none⟩) (show w.heap.size < _ by omega)).trans (by go_simp), (hb.cell (p := ⟨w.heap.size, 5, none⟩) (show w.heap.size < _ by omega)).trans (by go_simp), (hb.cell (p := ⟨w.heap.size, 6, none⟩) (show w.heap.size < _ by omega)).trans (by go_simp), (hb.cell (p := ⟨w.heap.size, 7, none⟩) (show w.heap.size < _ by omega)).trans (by go_simp), (hb.cell (p := ⟨w.heap.size, 8, none⟩) (show w.heap.size < _ by omega)).trans (by go_simp), (hb.cell (p := ⟨w.heap.size, 9, none⟩) (show w.heap.size < _ by omega)).trans (by go_simp), (hb.cell (p := ⟨w.heap.size, 10, none⟩) (show w.heap.size < _ by omega)).trans (by go_simp), (hb.cell (p := ⟨w.heap.size, 11, none⟩) (show w.heap.size < _ by omega)).trans (by go_simp), (hb.cell (p := ⟨w.heap.size, 12, none⟩) (show w.heap.size < _ by omega)).trans (by go_simp)⟩
  cases x1 with
  | false =>
    clear HB HN HD HV HK en
    go_enter Try.func41, Try.ntmps41
    go_wp2_with fail
    refine (HA.out _ (by (repeat (first | exact Below.refl _ _ | assumption | refine Below.drew ?_ | refine Below.setCell ?_ (by first | omega | (simp only [World.size_alloc]; omega) | (simp; try omega)) _ | refine Below.alloc ?_ (by first | omega | (simp only [World.size_alloc]; omega) | (simp; try omega)) _)))).mono ?_
    rintro e w1 ⟨rfl, rfl⟩
    go_wp2_with fail
    go_ret
    exact ⟨rfl, by (repeat (first | exact Below.refl _ _ | assumption | refine Below.drew ?_ | refine Below.setCell ?_ (by first | omega | (simp only [World.size_alloc]; omega) | (simp; try omega)) _ | refine Below.alloc ?_ (by first | omega | (simp only [World.size_alloc]; omega) | (simp; try omega)) _))⟩
  | true =>
    cases x2 with
    | false =>
      clear HN HD HV HK en
      go_enter Try.func41, Try.ntmps41
      go_wp2_with fail
      refine (HA.out _ (by (repeat (first | exact Below.refl _ _ | assumption | refine Below.drew ?_ | refine Below.setCell ?_ (by first | omega | (simp only [World.size_alloc]; omega) | (simp; try omega)) _ | refine Below.alloc ?_ (by first | omega | (simp only [World.size_alloc]; omega) | (simp; try omega)) _)))).mono ?_
      rintro e w1 ⟨rfl, rfl⟩
      go_wp2_with fail
      refine (HB.out _ (by (repeat (first | exact Below.refl _ _ | assumption | refine Below.drew ?_ | refine Below.setCell ?_ (by first | omega | (simp only [World.size_alloc]; omega) | (simp; try omega)) _ | refine Below.alloc ?_ (by first | omega | (simp only [World.size_alloc]; omega) | (simp; try omega)) _)))).mono ?_
      rintro e w1 ⟨rfl, rfl⟩
      go_wp2_with fail
      go_ret
      exact ⟨rfl, by (repeat (first | exact Below.refl _ _ | assumption | refine Below.drew ?_ | refine Below.setCell ?_ (by first | omega | (simp only [World.size_alloc]; omega) | (simp; try omega)) _ | refine Below.alloc ?_ (by first | omega | (simp only [World.size_alloc]; omega) | (simp; try omega)) _))⟩
    | true =>
      replace HV := Lib.hid (HV.out rfl rfl)
      cases x3 with
      | true =>
        clear HD HV HK
        go_enter Try.func41, Try.ntmps41
        go_wp2_with fail
        refine (HA.out _ (by (repeat (first | exact Below.refl _ _ | assumption | refine Below.drew ?_ | refine Below.setCell ?_ (by first | omega | (simp only [World.size_alloc]; omega) | (simp; try omega)) _ | refine Below.alloc ?_ (by first | omega | (simp only [World.size_alloc]; omega) | (simp; try omega)) _)))).mono ?_
        rintro e w1 ⟨rfl, rfl⟩
        go_wp2_with fail
        refine (HB.out _ (by (repeat (first | exact Below.refl _ _ | assumption | refine Below.drew ?_ | refine Below.setCell ?_ (by first | omega | (simp only [World.size_alloc]; omega) | (simp; try omega)) _ | refine Below.alloc ?_ (by first | omega | (simp only [World.size_alloc]; omega) | (simp; try omega)) _)))).mono ?_
        rintro e w1 ⟨rfl, rfl⟩
        go_wp2_with fail
        refine (HN.out _ (by (repeat (first | exact Below.refl _ _ | assumption | refine Below.drew ?_ | refine Below.setCell ?_ (by first | omega | (simp only [World.size_alloc]; omega) | (simp; try omega)) _ | refine Below.alloc ?_ (by first | omega | (simp only [World.size_alloc]; omega) | (simp; try omega)) _)))).mono ?_
        rintro e w1 ⟨rfl, hb⟩
        have B1 : Hid (Below w.heap.size w w1) := Below.trans (by (repeat (first | exact Below.refl _ _ | assumption | refine Below.drew ?_ | refine Below.setCell ?_ (by first | omega | (simp only [World.size_alloc]; omega) | (simp; try omega)) _ | refine Below.alloc ?_ (by first | omega | (simp only [World.size_alloc]; omega) | (simp; try omega)) _))) (hb.mono (by simp only [World.size_alloc]; omega))
        clear hb
        go_wp2_with fail
        go_ret
        exact ⟨rfl, B1.out⟩
      | false =>
        cases x4 with
        | true =>
          clear HV
          go_enter Try.func41, Try.ntmps41
          go_wp2_with fail
          refine (HA.out _ (by (repeat (first | exact Below.refl _ _ | assumption | refine Below.drew ?_ | refine Below.setCell ?_ (by first | omega | (simp only [World.size_alloc]; omega) | (simp; try omega)) _ | refine Below.alloc ?_ (by first | omega | (simp only [World.size_alloc]; omega) | (simp; try omega)) _)))).mono ?_
          rintro e w1 ⟨rfl, rfl⟩
          go_wp2_with fail
          refine (HB.out _ (by (repeat (first | exact Below.refl _ _ | assumption | refine Below.drew ?_ | refine Below.setCell ?_ (by first | omega | (simp only [World.size_alloc]; omega) | (simp; try omega)) _ | refine Below.alloc ?_ (by first | omega | (simp only [World.size_alloc]; omega) | (simp; try omega)) _)))).mono ?_
          rintro e w1 ⟨rfl, rfl⟩
          go_wp2_with fail
          refine (HN.out _ (by (repeat (first | exact Below.refl _ _ | assumption | refine Below.drew ?_ | refine Below.setCell ?_ (by first | omega | (simp only [World.size_alloc]; omega) | (simp; try omega)) _ | refine Below.alloc ?_ (by first | omega | (simp only [World.size_alloc]; omega) | (simp; try omega)) _)))).mono ?_
          rintro e w1 ⟨rfl, hb⟩
          have B1 : Hid (Below w.heap.size w w1) := Below.trans (by (repeat (first | exact Below.refl _ _ | assumption | refine Below.drew ?_ | refine Below.setCell ?_ (by first | omega | (simp only [World.size_alloc]; omega) | (simp; try omega)) _ | refine Below.alloc ?_ (by first | omega | (simp only [World.size_alloc]; omega) | (simp; try omega)) _))) (hb.mono (by simp only [World.size_alloc]; omega))
          have z1 := hb.size
          simp only [World.size_alloc] at hb z1
          have zw : w.heap.size < w1.heap.size := by omega
          obtain ⟨c0, c1, c2, c3, c4, c5, c6, c7, c8, c9, c10, c11, c12⟩ := HK.out _ hb
          clear hb
          go_wp2_with fail
          refine (HD.out _ B1.out).mono ?_
          rintro e w2 ⟨rfl, hb⟩
          have B2 : Hid (Below w.heap.size w w2) := B1.out.trans (hb.mono B1.out.size)
          clear hb c0 c1 c2 c3 c4 c5 c6 c7 c8 c9 c10 c11 c12
          go_wp2_with fail
          go_ret
          exact ⟨rfl, B2.out⟩
        | false =>
          cases x5
          all_goals
            go_enter Try.func41, Try.ntmps41
            go_wp2_with fail
            refine (HA.out _ (by (repeat (first | exact Below.refl _ _ | assumption | refine Below.drew ?_ | refine Below.setCell ?_ (by first | omega | (simp only [World.size_alloc]; omega) | (simp; try omega)) _ | refine Below.alloc ?_ (by first | omega | (simp only [World.size_alloc]; omega) | (simp; try omega)) _)))).mono ?_
            rintro e w1 ⟨rfl, rfl⟩
            go_wp2_with fail
            refine (HB.out _ (by (repeat (first | exact Below.refl _ _ | assumption | refine Below.drew ?_ | refine Below.setCell ?_ (by first | omega | (simp only [World.size_alloc]; omega) | (simp; try omega)) _ | refine Below.alloc ?_ (by first | omega | (simp only [World.size_alloc]; omega) | (simp; try omega)) _)))).mono ?_
            rintro e w1 ⟨rfl, rfl⟩
            go_wp2_with fail
            refine (HN.out _ (by (repeat (first | exact Below.refl _ _ | assumption | refine Below.drew ?_ | refine Below.setCell ?_ (by first | omega | (simp only [World.size_alloc]; omega) | (simp; try omega)) _ | refine Below.alloc ?_ (by first | omega | (simp only [World.size_alloc]; omega) | (simp; try omega)) _)))).mono ?_
            rintro e w1 ⟨rfl, hb⟩
            have B1 : Hid (Below w.heap.size w w1) := Below.trans (by (repeat (first | exact Below.refl _ _ | assumption | refine Below.drew ?_ | refine Below.setCell ?_ (by first | omega | (simp only [World.size_alloc]; omega) | (simp; try omega)) _ | refine Below.alloc ?_ (by first | omega | (simp only [World.size_alloc]; omega) | (simp; try omega)) _))) (hb.mono (by simp only [World.size_alloc]; omega))
            have z1 := hb.size
            simp only [World.size_alloc] at hb z1
            have zw : w.heap.size < w1.heap.size := by omega
            have K1 := Lib.hid hb
            obtain ⟨c0, c1, c2, c3, c4, c5, c6, c7, c8, c9, c10, c11, c12⟩ := HK.out _ hb
            clear hb
            go_wp2_with fail
            refine (HD.out _ B1.out).mono ?_
            rintro e w2 ⟨rfl, hb⟩
            have B2 : Hid (Below w.heap.size w w2) := B1.out.trans (hb.mono B1.out.size)
            have K2 := K1.out.trans (hb.mono z1)
            clear c0 c1 c2 c3 c4 c5 c6 c7 c8 c9 c10 c11 c12
            obtain ⟨c0, c1, c2, c3, c4, c5, c6, c7, c8, c9, c10, c11, c12⟩ := HK.out _ K2
            clear hb K2
            go_wp2_with fail
            refine (HV.out _ B2.out).mono ?_
            rintro e w3 ⟨rfl, hb⟩
            have B3 : Hid (Below w.heap.size w w3) := B2.out.trans (hb.mono B2.out.size)
            clear hb c0 c1 c2 c3 c4 c5 c6 c7 c8 c9 c10 c11 c12
            go_wp2_with fail
            go_ret
            exact ⟨rfl, B3.out⟩
end Go.Proofs.Ytjcbmeannhafjaa
