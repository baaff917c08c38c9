
/- Operands compared. -/
import Derived.Test.YtjcbmeannhafjaaPdMath

import Derived.Test.YtjcbmeannhafjaaPdLeaf

import Derived.BigRegion

import Derived.Test.YtjcbmeannhafjaaPdInts

import Derived.Deep.RegionHeld3

namespace Go.Proofs.Ytjcbmeannhafjaa

open Go.RowKit

theorem eqVin_run2 (d : Nat) (k n : Int) (s : ByteArray) (k' n' : Int) (s' : ByteArray) (w : World) :
    (Op.equalIn (d + 2) 57 (.agg #[.int .i64 k, .int .i64 n, .string s]) (.agg #[.int .i64 k', .int .i64 n', .string s'])).run Try.prog w = .ok (decide (V.mk k n s = V.mk k' n' s')) w := by
  have u3 := Try.underlying3
  have a3 := Try.isAgg3
  have z3 := Try.sizeOf3
  have u2 := Try.underlying2
  have a2 := Try.isAgg2
  have z2 := Try.sizeOf2
  have u9 := Try.underlying9
  have a9 := Try.isAgg9
  have z9 := Try.sizeOf9
  have hS : Try.prog.underlying 57 = some (.struct (Try.prog.fieldsOf 57)) := by kernel_rfl
  have hp : Try.prog.stoodInHeld 57 = false := by kernel_rfl
  rw [run_equalIn_agg w (d + 1) 57 _ _ hS hp]
  simp only [Program.fieldsOf, Try.underlying57]
  clear hS hp
  go_simp
  by_cases h1 : k = k' <;> by_cases h2 : n = n' <;> by_cases h3 : s = s' <;> simp [h1, h2, h3, toList_inj]
theorem eqO_run (k i vk vn : Int) (vs : ByteArray) (k' i' vk' vn' : Int) (vs' : ByteArray) (w : World) :
    (binOp .eql 75 (.agg #[.int .i64 k, .int .i64 i, .int .i64 vk, .int .i64 vn, .string vs]) (.agg #[.int .i64 k', .int .i64 i', .int .i64 vk', .int .i64 vn', .string vs'])).run Try.prog w = .ok (.bool (decide (Od.mk k i ⟨vk, vn, vs⟩ = Od.mk k' i' ⟨vk', vn', vs'⟩))) w := by
  have e1 := eqVin_run2 9997 vk vn vs vk' vn' vs'
  have u4 := Try.underlying3
  have a4 := Try.isAgg3
  have z4 := Try.sizeOf3
  have av := Try.isAgg57
  have zv := Try.sizeOf57
  have hS : Try.prog.underlying 75 = some (.struct (Try.prog.fieldsOf 75)) := by kernel_rfl
  have hp : Try.prog.stoodInHeld 75 = false := by kernel_rfl
  rw [run_eql_struct, show (10000 : Nat) = 9999 + 1 from rfl, run_equalIn_agg w 9999 75 _ _ hS hp]
  simp only [Program.fieldsOf, Try.underlying75]
  clear hS hp
  have hx : (Od.mk k i ⟨vk, vn, vs⟩ = Od.mk k' i' ⟨vk', vn', vs'⟩) ↔ (k = k' ∧ i = i' ∧ V.mk vk vn vs = V.mk vk' vn' vs') := by rw [Od.mk.injEq]
  have hd : decide (Od.mk k i ⟨vk, vn, vs⟩ = Od.mk k' i' ⟨vk', vn', vs'⟩) = ((k == k') && ((i == i') && decide (V.mk vk vn vs = V.mk vk' vn' vs'))) := by
    rw [Bool.eq_iff_iff]; simp only [decide_eq_true_eq, Bool.and_eq_true, beq_iff_eq]; exact hx
  rw [hd]
  clear hx hd
  generalize decide (V.mk vk vn vs = V.mk vk' vn' vs') = p at e1 ⊢
  cases h1 : (k == k') <;> cases h2 : (i == i') <;> cases p <;> (go_simp; try rfl)
theorem neO_run (k i vk vn : Int) (vs : ByteArray) (k' i' vk' vn' : Int) (vs' : ByteArray) (w : World) :
    (binOp .neq 75 (.agg #[.int .i64 k, .int .i64 i, .int .i64 vk, .int .i64 vn, .string vs]) (.agg #[.int .i64 k', .int .i64 i', .int .i64 vk', .int .i64 vn', .string vs'])).run Try.prog w = .ok (.bool !(decide (Od.mk k i ⟨vk, vn, vs⟩ = Od.mk k' i' ⟨vk', vn', vs'⟩))) w := by
  have e1 := eqVin_run2 9997 vk vn vs vk' vn' vs'
  have u4 := Try.underlying3
  have a4 := Try.isAgg3
  have z4 := Try.sizeOf3
  have av := Try.isAgg57
  have zv := Try.sizeOf57
  have hS : Try.prog.underlying 75 = some (.struct (Try.prog.fieldsOf 75)) := by kernel_rfl
  have hp : Try.prog.stoodInHeld 75 = false := by kernel_rfl
  rw [run_neq_struct, show (10000 : Nat) = 9999 + 1 from rfl, run_equalIn_agg w 9999 75 _ _ hS hp]
  simp only [Program.fieldsOf, Try.underlying75]
  clear hS hp
  have hx : (Od.mk k i ⟨vk, vn, vs⟩ = Od.mk k' i' ⟨vk', vn', vs'⟩) ↔ (k = k' ∧ i = i' ∧ V.mk vk vn vs = V.mk vk' vn' vs') := by rw [Od.mk.injEq]
  have hd : decide (Od.mk k i ⟨vk, vn, vs⟩ = Od.mk k' i' ⟨vk', vn', vs'⟩) = ((k == k') && ((i == i') && decide (V.mk vk vn vs = V.mk vk' vn' vs'))) := by
    rw [Bool.eq_iff_iff]; simp only [decide_eq_true_eq, Bool.and_eq_true, beq_iff_eq]; exact hx
  rw [hd]
  clear hx hd
  generalize decide (V.mk vk vn vs = V.mk vk' vn' vs') = p at e1 ⊢
  cases h1 : (k == k') <;> cases h2 : (i == i') <;> cases p <;> (go_simp; try rfl)
end Go.Proofs.Ytjcbmeannhafjaa

/- predicate's kinds.of, alike. -/
namespace Go.Proofs.Ytjcbmeannhafjaa

open Go.RowKit

theorem zV_mk : zV = ⟨0, 0, ⟨#[]⟩⟩ := rfl
theorem drN {B : Nat} {a w : World} (h : Below B a w) (n : Nat) : Below B a (w.drewN n) := ⟨h.os, h.tape, h.output, h.size, h.block⟩
theorem IntsAt.shape {w : World} {v : Value} {l : List Int} (h : IntsAt w v l) : ∃ a c, v = .slice a l.length c := by
  obtain ⟨a, c, e, _⟩ := h; exact ⟨a, c, e⟩


set_option maxRecDepth 100000 in
set_option maxHeartbeats 4000000 in
theorem pOf_1 (C Q : List Int) (cv qv : Value) (i vk vn : Int) (vs : ByteArray) (w : World) (hc : IntsAt w cv C) (hq : IntsAt w qv Q) : Calls Try.prog 110 #[.agg #[cv, qv], .agg #[.int .i64 1, .int .i64 i, .int .i64 vk, .int .i64 vn, .string vs]] w fun e w' => e = .returned (.tuple #[.int .i64 (atI C i), .bool (inB C.length i && decide (V.mk vk vn vs = zV))]) ∧ Below w.heap.size w w' := by
  have HA : Hid (∀ W, Below w.heap.size w W → Calls Try.prog 117 #[cv, .int .i64 i] W fun e w' => e = .returned (.tuple #[.int .i64 (atI C i), .bool (inB C.length i)]) ∧ W = w') := fun W hb => pAtI_any cv C i W (hc.blw hb)
  obtain ⟨ca, cc, rfl⟩ := hc.shape
  obtain ⟨qa, qc, rfl⟩ := hq.shape
  clear hc hq
  have E := eqV_run vk vn vs 0 0 ⟨#[]⟩
  rw [zV_mk]
  generalize decide (V.mk vk vn vs = ⟨0, 0, ⟨#[]⟩⟩) = x at *
  generalize inB C.length i = y at *
  generalize atI C i = kk at *
  generalize C.length = n at *
  generalize Q.length = m at *
  cases y with
  | false =>
    clear E
    go_enter Try.func110, Try.ntmps110
    go_wp2_with fail
    refine (HA.out _ (by (repeat (first | exact Below.refl _ _ | assumption | refine Below.drew ?_ | refine Below.setCell ?_ (by first | omega | (simp only [World.size_alloc]; omega) | (simp; try omega)) _ | refine Below.alloc ?_ (by first | omega | (simp only [World.size_alloc]; omega) | (simp; try omega)) _)))).mono ?_
    rintro e w1 ⟨rfl, rfl⟩
    go_wp2_with fail
    go_quiet (fail)
    go_wp2_with fail
    go_ret2
    exact ⟨rfl, drN (by (repeat (first | exact Below.refl _ _ | assumption | refine Below.drew ?_ | refine Below.setCell ?_ (by first | omega | (simp only [World.size_alloc]; omega) | (simp; try omega)) _ | refine Below.alloc ?_ (by first | omega | (simp only [World.size_alloc]; omega) | (simp; try omega)) _))) _⟩
  | true =>
    go_enter Try.func110, Try.ntmps110
    go_wp2_with fail
    refine (HA.out _ (by (repeat (first | exact Below.refl _ _ | assumption | refine Below.drew ?_ | refine Below.setCell ?_ (by first | omega | (simp only [World.size_alloc]; omega) | (simp; try omega)) _ | refine Below.alloc ?_ (by first | omega | (simp only [World.size_alloc]; omega) | (simp; try omega)) _)))).mono ?_
    rintro e w1 ⟨rfl, rfl⟩
    go_wp2_with fail
    go_quiet (fail)
    go_wp2_with fail
    go_ret2
    exact ⟨rfl, drN (by (repeat (first | exact Below.refl _ _ | assumption | refine Below.drew ?_ | refine Below.setCell ?_ (by first | omega | (simp only [World.size_alloc]; omega) | (simp; try omega)) _ | refine Below.alloc ?_ (by first | omega | (simp only [World.size_alloc]; omega) | (simp; try omega)) _))) _⟩

set_option maxRecDepth 100000 in
set_option maxHeartbeats 4000000 in
theorem pOf_2 (C Q : List Int) (cv qv : Value) (i vk vn : Int) (vs : ByteArray) (w : World) (hc : IntsAt w cv C) (hq : IntsAt w qv Q) : Calls Try.prog 110 #[.agg #[cv, qv], .agg #[.int .i64 2, .int .i64 i, .int .i64 vk, .int .i64 vn, .string vs]] w fun e w' => e = .returned (.tuple #[.int .i64 (atI Q i), .bool (inB Q.length i && decide (V.mk vk vn vs = zV))]) ∧ Below w.heap.size w w' := by
  have HA : Hid (∀ W, Below w.heap.size w W → Calls Try.prog 117 #[qv, .int .i64 i] W fun e w' => e = .returned (.tuple #[.int .i64 (atI Q i), .bool (inB Q.length i)]) ∧ W = w') := fun W hb => pAtI_any qv Q i W (hq.blw hb)
  obtain ⟨ca, cc, rfl⟩ := hc.shape
  obtain ⟨qa, qc, rfl⟩ := hq.shape
  clear hc hq
  have E := eqV_run vk vn vs 0 0 ⟨#[]⟩
  rw [zV_mk]
  generalize decide (V.mk vk vn vs = ⟨0, 0, ⟨#[]⟩⟩) = x at *
  generalize inB Q.length i = y at *
  generalize atI Q i = kk at *
  generalize C.length = n at *
  generalize Q.length = m at *
  cases y with
  | false =>
    clear E
    go_enter Try.func110, Try.ntmps110
    go_wp2_with fail
    refine (HA.out _ (by (repeat (first | exact Below.refl _ _ | assumption | refine Below.drew ?_ | refine Below.setCell ?_ (by first | omega | (simp only [World.size_alloc]; omega) | (simp; try omega)) _ | refine Below.alloc ?_ (by first | omega | (simp only [World.size_alloc]; omega) | (simp; try omega)) _)))).mono ?_
    rintro e w1 ⟨rfl, rfl⟩
    go_wp2_with fail
    go_quiet (fail)
    go_wp2_with fail
    go_ret2
    exact ⟨rfl, drN (by (repeat (first | exact Below.refl _ _ | assumption | refine Below.drew ?_ | refine Below.setCell ?_ (by first | omega | (simp only [World.size_alloc]; omega) | (simp; try omega)) _ | refine Below.alloc ?_ (by first | omega | (simp only [World.size_alloc]; omega) | (simp; try omega)) _))) _⟩
  | true =>
    go_enter Try.func110, Try.ntmps110
    go_wp2_with fail
    refine (HA.out _ (by (repeat (first | exact Below.refl _ _ | assumption | refine Below.drew ?_ | refine Below.setCell ?_ (by first | omega | (simp only [World.size_alloc]; omega) | (simp; try omega)) _ | refine Below.alloc ?_ (by first | omega | (simp only [World.size_alloc]; omega) | (simp; try omega)) _)))).mono ?_
    rintro e w1 ⟨rfl, rfl⟩
    go_wp2_with fail
    go_quiet (fail)
    go_wp2_with fail
    go_ret2
    exact ⟨rfl, drN (by (repeat (first | exact Below.refl _ _ | assumption | refine Below.drew ?_ | refine Below.setCell ?_ (by first | omega | (simp only [World.size_alloc]; omega) | (simp; try omega)) _ | refine Below.alloc ?_ (by first | omega | (simp only [World.size_alloc]; omega) | (simp; try omega)) _))) _⟩

set_option maxRecDepth 100000 in
set_option maxHeartbeats 4000000 in
theorem pOf_3 (cv qv : Value) (C Q : List Int) (i vk vn : Int) (vs : ByteArray) (w : World) (hc : IntsAt w cv C) (hq : IntsAt w qv Q) : Calls Try.prog 110 #[.agg #[cv, qv], .agg #[.int .i64 3, .int .i64 i, .int .i64 vk, .int .i64 vn, .string vs]] w fun e w' => e = .returned (.tuple #[.int .i64 vk, .bool (i == 0 && realB vk vn vs)]) ∧ Below w.heap.size w w' := by
  have HR : Hid (∀ W, Calls Try.prog 118 #[.agg #[.int .i64 vk, .int .i64 vn, .string vs]] W fun e w' => e = .returned (.bool (realB vk vn vs)) ∧ Below W.heap.size W w') := fun W => (vReal_any vk vn vs W).mono fun _ _ ⟨x, y⟩ => ⟨x, y.below⟩
  obtain ⟨ca, cc, rfl⟩ := hc.shape
  obtain ⟨qa, qc, rfl⟩ := hq.shape
  clear hc hq
  generalize realB vk vn vs = x at *
  generalize C.length = n at *
  generalize Q.length = m at *
  cases hi : (i == 0) with
  | false =>
    clear HR
    go_enter Try.func110, Try.ntmps110
    go_wp2_with fail
    go_quiet (fail)
    go_wp2_with fail
    go_ret2
    exact ⟨rfl, drN (by (repeat (first | exact Below.refl _ _ | assumption | refine Below.drew ?_ | refine Below.setCell ?_ (by first | omega | (simp only [World.size_alloc]; omega) | (simp; try omega)) _ | refine Below.alloc ?_ (by first | omega | (simp only [World.size_alloc]; omega) | (simp; try omega)) _))) _⟩
  | true =>
    obtain rfl : i = 0 := by simpa using hi
    clear hi
    go_enter Try.func110, Try.ntmps110
    go_wp2_with fail
    obtain ⟨w1, hw1⟩ : ∃ w1, (w.alloc (.cells #[.slice ca n cc, .slice qa m qc] 111)).alloc (.cells #[.int .i64 3, .int .i64 0, .int .i64 vk, .int .i64 vn, .string vs] 75) = w1 := ⟨_, rfl⟩
    have p0 : w1.cell? ⟨w.heap.size + 1, 1, none⟩ = some (.int .i64 0) := by subst hw1; go_simp
    have p1 : w1.cell? ⟨w.heap.size + 1, 2, none⟩ = some (.int .i64 vk) := by subst hw1; go_simp
    have p2 : w1.cell? ⟨w.heap.size + 1, 3, none⟩ = some (.int .i64 vn) := by subst hw1; go_simp
    have p3 : w1.cell? ⟨w.heap.size + 1, 4, none⟩ = some (.string vs) := by subst hw1; go_simp
    have zp : w.heap.size + 1 < w1.heap.size := by rw [← hw1]; simp
    have BW : Hid (Below w.heap.size w w1) := by rw [← hw1]; (repeat (first | exact Below.refl _ _ | assumption | refine Below.drew ?_ | refine Below.setCell ?_ (by first | omega | (simp only [World.size_alloc]; omega) | (simp; try omega)) _ | refine Below.alloc ?_ (by first | omega | (simp only [World.size_alloc]; omega) | (simp; try omega)) _))
    rw [hw1]
    clear hw1
    have HK : Hid (∀ W, Below w1.heap.size w1 W → W.cell? ⟨w.heap.size + 1, 1, none⟩ = some (.int .i64 0) ∧ W.cell? ⟨w.heap.size + 1, 2, none⟩ = some (.int .i64 vk) ∧ W.cell? ⟨w.heap.size + 1, 3, none⟩ = some (.int .i64 vn) ∧ W.cell? ⟨w.heap.size + 1, 4, none⟩ = some (.string vs)) := fun W hb =>
      ⟨(hb.cell (p := ⟨w.heap.size + 1, 1, none⟩) zp).trans p0, (hb.cell (p := ⟨w.heap.size + 1, 2, none⟩) zp).trans p1, (hb.cell (p := ⟨w.heap.size + 1, 3, none⟩) zp).trans p2, (hb.cell (p := ⟨w.heap.size + 1, 4, none⟩) zp).trans p3⟩
    go_region_held3 (fun W => W.cell? ⟨w.heap.size + 1, 1, none⟩ = some (.int .i64 0) ∧ W.cell? ⟨w.heap.size + 1, 2, none⟩ = some (.int .i64 vk) ∧ W.cell? ⟨w.heap.size + 1, 3, none⟩ = some (.int .i64 vn) ∧ W.cell? ⟨w.heap.size + 1, 4, none⟩ = some (.string vs))
      (first | exact ⟨p0a, p1a, p2a, p3a⟩ | exact ⟨p0, p1, p2, p3⟩)
      (first | (go_at_call 118; (with_reducible refine (HR.out _).mono ?_); rintro e wza ⟨rfl, hg⟩; have hba : Below w1.heap.size w1 wza := Below.trans (by (repeat (first | exact Below.refl _ _ | assumption | refine Below.drew ?_ | refine Below.setCell ?_ (by simp; try omega) _ | refine Below.alloc ?_ (by simp; try omega) _))) (hg.mono (by first | (simp; done) | ((try simp); exact Below.size (by assumption)))); obtain ⟨p0a, p1a, p2a, p3a⟩ := HK.out wza hba; clear hg))
    all_goals
      go_wp2_with fail
      go_ret2
      exact ⟨rfl, BW.out.trans (Below.mono (by assumption) BW.out.size)⟩

set_option maxHeartbeats 1000000 in
theorem pOf_any (C Q : List Int) (cv qv : Value) (o : Od) (w : World) (hc : IntsAt w cv C) (hq : IntsAt w qv Q) : Calls Try.prog 110 #[.agg #[cv, qv], oA o] w fun e w' => e = .returned (.tuple #[.int .i64 (ofK C Q o), .bool (ofB C Q o)]) ∧ Below w.heap.size w w' := by
  unfold ofK ofB
  obtain ⟨ok, oi, ⟨vk, vn, vs⟩⟩ := o
  by_cases h1 : ok = 1
  · subst h1
    simp only [if_true]
    exact pOf_1 C Q cv qv oi vk vn vs w hc hq
  by_cases h2 : ok = 2
  · subst h2
    simp only [if_true, if_neg (show ¬ (2 : Int) = 1 by omega)]
    exact pOf_2 C Q cv qv oi vk vn vs w hc hq
  by_cases h3 : ok = 3
  · subst h3
    simp only [if_true, if_neg (show ¬ (3 : Int) = 1 by omega), if_neg (show ¬ (3 : Int) = 2 by omega)]
    exact pOf_3 cv qv C Q oi vk vn vs w hc hq
  simp only [if_neg h1, if_neg h2, if_neg h3, oA]
  have b1 : (ok == 1) = false := by simpa using h1
  have b2 : (ok == 2) = false := by simpa using h2
  have b3 : (ok == 3) = false := by simpa using h3
  obtain ⟨ca, cc, rfl⟩ := hc.shape
  obtain ⟨qa, qc, rfl⟩ := hq.shape
  clear hc hq h1 h2 h3
  generalize C.length = n at *
  generalize Q.length = m at *
  go_enter Try.func110, Try.ntmps110
  go_wp2_with fail
  go_ret2
  exact ⟨rfl, by (repeat (first | exact Below.refl _ _ | assumption | refine Below.drew ?_ | refine Below.setCell ?_ (by first | omega | (simp only [World.size_alloc]; omega) | (simp; try omega)) _ | refine Below.alloc ?_ (by first | omega | (simp only [World.size_alloc]; omega) | (simp; try omega)) _))⟩

set_option maxRecDepth 100000 in
set_option maxHeartbeats 2000000 in
theorem pAlike_any (C Q : List Int) (cv qv : Value) (l r : Od) (w : World) (hc : IntsAt w cv C) (hq : IntsAt w qv Q) : Calls Try.prog 89 #[.agg #[cv, qv], oA l, oA r] w fun e w' => e = .returned (.bool (alikeB C Q l r)) ∧ Below w.heap.size w w' := by
  have HL : Hid (∀ W, Below w.heap.size w W → Calls Try.prog 110 #[.agg #[cv, qv], oA l] W fun e w' => e = .returned (.tuple #[.int .i64 (ofK C Q l), .bool (ofB C Q l)]) ∧ Below W.heap.size W w') := fun W hb => pOf_any C Q cv qv l W (hc.blw hb) (hq.blw hb)
  have HR : Hid (∀ W, Below w.heap.size w W → Calls Try.prog 110 #[.agg #[cv, qv], oA r] W fun e w' => e = .returned (.tuple #[.int .i64 (ofK C Q r), .bool (ofB C Q r)]) ∧ Below W.heap.size W w') := fun W hb => pOf_any C Q cv qv r W (hc.blw hb) (hq.blw hb)
  obtain ⟨ca, cc, rfl⟩ := hc.shape
  obtain ⟨qa, qc, rfl⟩ := hq.shape
  unfold alikeB
  clear hc hq
  generalize ofK C Q l = kl at *
  generalize ofK C Q r = kr at *
  generalize ofB C Q l = bl at *
  generalize ofB C Q r = br at *
  generalize C.length = n at *
  generalize Q.length = m at *
  obtain ⟨lk, li, ⟨lvk, lvn, lvs⟩⟩ := l
  obtain ⟨rk, ri, ⟨rvk, rvn, rvs⟩⟩ := r
  simp only [oA] at *
  have HK : Hid (∀ W, Below (w.heap.size + 1 + 1 + 1) (((w.alloc (.cells #[.slice ca n cc, .slice qa m qc] 111)).alloc (.cells #[.int .i64 lk, .int .i64 li, .int .i64 lvk, .int .i64 lvn, .string lvs] 75)).alloc (.cells #[.int .i64 rk, .int .i64 ri, .int .i64 rvk, .int .i64 rvn, .string rvs] 75)) W →
      (W.cell? ⟨w.heap.size, 0, none⟩ = some (.slice ca n cc) ∧ W.cell? ⟨w.heap.size, 1, none⟩ = some (.slice qa m qc)) ∧ W.cell? ⟨w.heap.size + 1 + 1, 0, none⟩ = some (.int .i64 rk) ∧ W.cell? ⟨w.heap.size + 1 + 1, 1, none⟩ = some (.int .i64 ri) ∧ W.cell? ⟨w.heap.size + 1 + 1, 2, none⟩ = some (.int .i64 rvk) ∧ W.cell? ⟨w.heap.size + 1 + 1, 3, none⟩ = some (.int .i64 rvn) ∧ W.cell? ⟨w.heap.size + 1 + 1, 4, none⟩ = some (.string rvs)) := fun W hb =>
    ⟨⟨(hb.cell (p := ⟨w.heap.size, 0, none⟩) (show w.heap.size < _ by omega)).trans (by go_simp), (hb.cell (p := ⟨w.heap.size, 1, none⟩) (show w.heap.size < _ by omega)).trans (by go_simp)⟩, (hb.cell (p := ⟨w.heap.size + 1 + 1, 0, none⟩) (show w.heap.size + 1 + 1 < _ by omega)).trans (by go_simp), (hb.cell (p := ⟨w.heap.size + 1 + 1, 1, none⟩) (show w.heap.size + 1 + 1 < _ by omega)).trans (by go_simp), (hb.cell (p := ⟨w.heap.size + 1 + 1, 2, none⟩) (show w.heap.size + 1 + 1 < _ by omega)).trans (by go_simp), (hb.cell (p := ⟨w.heap.size + 1 + 1, 3, none⟩) (show w.heap.size + 1 + 1 < _ by omega)).trans (by go_simp), (hb.cell (p := ⟨w.heap.size + 1 + 1, 4, none⟩) (show w.heap.size + 1 + 1 < _ by omega)).trans (by go_simp)⟩
  cases bl <;> cases br
  all_goals
    go_enter Try.func89, Try.ntmps89
    go_wp2_with fail
    refine (HL.out _ (by (repeat (first | exact Below.refl _ _ | assumption | refine Below.drew ?_ | refine Below.setCell ?_ (by first | omega | (simp only [World.size_alloc]; omega) | (simp; try omega)) _ | refine Below.alloc ?_ (by first | omega | (simp only [World.size_alloc]; omega) | (simp; try omega)) _)))).mono ?_
    rintro e w1 ⟨rfl, hb⟩
    have B1 : Hid (Below w.heap.size w w1) := Below.trans (by (repeat (first | exact Below.refl _ _ | assumption | refine Below.drew ?_ | refine Below.setCell ?_ (by first | omega | (simp only [World.size_alloc]; omega) | (simp; try omega)) _ | refine Below.alloc ?_ (by first | omega | (simp only [World.size_alloc]; omega) | (simp; try omega)) _))) (hb.mono (by simp only [World.size_alloc]; omega))
    have z1 := hb.size
    simp only [World.size_alloc] at hb z1
    obtain ⟨⟨a0, a1⟩, c0, c1, c2, c3, c4⟩ := HK.out _ hb
    clear hb
    go_wp2_with fail
    refine (HR.out _ B1.out).mono ?_
    rintro e w2 ⟨rfl, hb⟩
    have B2 : Hid (Below w.heap.size w w2) := B1.out.trans (hb.mono B1.out.size)
    clear hb a0 a1 c0 c1 c2 c3 c4
    go_wp2_with fail
    go_ret
    exact ⟨rfl, B2.out⟩
end Go.Proofs.Ytjcbmeannhafjaa
