
/- predicate's kinds.valid. -/
import Derived.Test.YtjcbmeannhafjaaPdOf

import Derived.Test.YtjcbmeannhafjaaPdHolds

namespace Go.Proofs.Ytjcbmeannhafjaa

open Go.RowKit

theorem neT_run (c : Int) (w : World) : (binOp .neq 129 (tstF c) .nilFunc).run Try.prog w = .ok (.bool (cmpB c)) w := by
  have hc : c = 1 ∨ c = 2 ∨ c = 3 ∨ c = 4 ∨ c = 5 ∨ c = 6 ∨ (c ≠ 1 ∧ c ≠ 2 ∧ c ≠ 3 ∧ c ≠ 4 ∧ c ≠ 5 ∧ c ≠ 6) := by omega
  rcases hc with rfl | rfl | rfl | rfl | rfl | rfl | ⟨n1, n2, n3, n4, n5, n6⟩
  · have h : ∀ w, (binOp .neq 129 (.func (.func 104) #[] #[]) .nilFunc).run Try.prog w = .ok (.bool true) w := fun _ => by kernel_rfl
    exact h w
  · have h : ∀ w, (binOp .neq 129 (.func (.func 105) #[] #[]) .nilFunc).run Try.prog w = .ok (.bool true) w := fun _ => by kernel_rfl
    exact h w
  · have h : ∀ w, (binOp .neq 129 (.func (.func 106) #[] #[]) .nilFunc).run Try.prog w = .ok (.bool true) w := fun _ => by kernel_rfl
    exact h w
  · have h : ∀ w, (binOp .neq 129 (.func (.func 107) #[] #[]) .nilFunc).run Try.prog w = .ok (.bool true) w := fun _ => by kernel_rfl
    exact h w
  · have h : ∀ w, (binOp .neq 129 (.func (.func 108) #[] #[]) .nilFunc).run Try.prog w = .ok (.bool true) w := fun _ => by kernel_rfl
    exact h w
  · have h : ∀ w, (binOp .neq 129 (.func (.func 109) #[] #[]) .nilFunc).run Try.prog w = .ok (.bool true) w := fun _ => by kernel_rfl
    exact h w
  · rw [show tstF c = .nilFunc by unfold tstF; rw [if_neg n1, if_neg n2, if_neg n3, if_neg n4, if_neg n5, if_neg n6]]
    rw [show cmpB c = false by unfold cmpB; rw [decide_eq_false_iff_not]; omega]
    have h : ∀ w, (binOp .neq 129 .nilFunc .nilFunc).run Try.prog w = .ok (.bool false) w := fun _ => by kernel_rfl
    exact h w
theorem egT (c : Int) (x y : Operand) : eqGuard .neq 129 x y (tstF c) .nilFunc = pure () := by
  have hc : c = 1 ∨ c = 2 ∨ c = 3 ∨ c = 4 ∨ c = 5 ∨ c = 6 ∨ (c ≠ 1 ∧ c ≠ 2 ∧ c ≠ 3 ∧ c ≠ 4 ∧ c ≠ 5 ∧ c ≠ 6) := by omega
  rcases hc with rfl | rfl | rfl | rfl | rfl | rfl | ⟨n1, n2, n3, n4, n5, n6⟩
  · rfl
  · rfl
  · rfl
  · rfl
  · rfl
  · rfl
  · rw [show tstF c = .nilFunc by unfold tstF; rw [if_neg n1, if_neg n2, if_neg n3, if_neg n4, if_neg n5, if_neg n6]]
    rfl
theorem zO_mk : zO = ⟨0, 0, ⟨0, 0, ⟨#[]⟩⟩⟩ := rfl
theorem vnB_3 (C Q : List Int) (p : PT) (h : p.op = 3) : vnB C Q p = (p.args.length == 0 && (cmpB p.cmp && alikeB C Q p.l p.r)) := by unfold vnB; rw [if_pos h]
theorem vnB_no3 (C Q : List Int) (p : PT) (h : p.op ≠ 3) : vnB C Q p = (plnB p && (if p.op = 1 then p.args.length == 0 else if p.op = 2 then p.args.length == 0 else if p.op = 4 then true else if p.op = 5 then true else if p.op = 6 then p.args.length == 1 else false)) := by unfold vnB; rw [if_neg h]

set_option maxRecDepth 100000 in
set_option maxHeartbeats 4000000 in
theorem pValidN_3 (C Q : List Int) (cv qv : Value) (p : PT) (v : Value) (w : World) (hop : p.op = 3) (hc : IntsAt w cv C) (hq : IntsAt w qv Q) (h : Pd w v p) : Calls Try.prog 67 #[.agg #[cv, qv], v] w fun e w' => e = .returned (.bool (vnB C Q p)) ∧ Below w.heap.size w w' := by
  rw [vnB_3 C Q p hop]
  obtain ⟨op, cmp, lk, li, lvk, lvn, lvs, rk, ri, rvk, rvn, rvs, ps, a, c, rfl, rfl, hp⟩ := pd_fields h
  obtain rfl : op = 3 := hop
  change Calls _ _ _ _ (fun e w' => e = .returned (.bool (ps.length == 0 && (cmpB cmp && alikeB C Q ⟨lk, li, ⟨lvk, lvn, lvs⟩⟩ ⟨rk, ri, ⟨rvk, rvn, rvs⟩⟩))) ∧ _)
  have HT : Hid (∀ W, Calls Try.prog 88 #[.int .i64 cmp] W fun e w' => e = .returned (tstF cmp) ∧ Below W.heap.size W w') := pComparison_any cmp
  have HL : Hid (∀ W, Below w.heap.size w W → Calls Try.prog 89 #[.agg #[cv, qv], .agg #[.int .i64 lk, .int .i64 li, .int .i64 lvk, .int .i64 lvn, .string lvs], .agg #[.int .i64 rk, .int .i64 ri, .int .i64 rvk, .int .i64 rvn, .string rvs]] W fun e w' => e = .returned (.bool (alikeB C Q ⟨lk, li, ⟨lvk, lvn, lvs⟩⟩ ⟨rk, ri, ⟨rvk, rvn, rvs⟩⟩)) ∧ Below W.heap.size W w') := fun W hb => pAlike_any C Q cv qv ⟨lk, li, ⟨lvk, lvn, lvs⟩⟩ ⟨rk, ri, ⟨rvk, rvn, rvs⟩⟩ W (hc.blw hb) (hq.blw hb)
  obtain ⟨ca, cc, rfl⟩ := hc.shape
  obtain ⟨qa, qc, rfl⟩ := hq.shape
  have E := neT_run cmp
  have G := egT cmp
  generalize alikeB C Q ⟨lk, li, ⟨lvk, lvn, lvs⟩⟩ ⟨rk, ri, ⟨rvk, rvn, rvs⟩⟩ = x at *
  generalize cmpB cmp = y at *
  generalize tstF cmp = F at *
  have e0 : ((ps.length : Int) == 0) = (ps.length == 0) := by rw [Bool.eq_iff_iff]; simp only [beq_iff_eq]; omega
  have hfew := hp.1.few
  generalize (ps.length == 0) = z at *
  generalize ps.length = n at *
  generalize C.length = nc at *
  generalize Q.length = nq at *
  clear hc hq hp h
  have HK : Hid (∀ W, Below (w.heap.size + 1 + 1) ((w.alloc (.cells #[.slice ca nc cc, .slice qa nq qc] 111)).alloc (.cells #[.int .i64 3, .int .i64 cmp, .int .i64 lk, .int .i64 li, .int .i64 lvk, .int .i64 lvn, .string lvs, .int .i64 rk, .int .i64 ri, .int .i64 rvk, .int .i64 rvn, .string rvs, .slice a n c] 77)) W → W.cell? ⟨w.heap.size, 0, none⟩ = some (.slice ca nc cc) ∧ W.cell? ⟨w.heap.size, 1, none⟩ = some (.slice qa nq qc) ∧ W.cell? ⟨w.heap.size + 1, 2, none⟩ = some (.int .i64 lk) ∧ W.cell? ⟨w.heap.size + 1, 3, none⟩ = some (.int .i64 li) ∧ W.cell? ⟨w.heap.size + 1, 4, none⟩ = some (.int .i64 lvk) ∧ W.cell? ⟨w.heap.size + 1, 5, none⟩ = some (.int .i64 lvn) ∧ W.cell? ⟨w.heap.size + 1, 6, none⟩ = some (.string lvs) ∧ W.cell? ⟨w.heap.size + 1, 7, none⟩ = some (.int .i64 rk) ∧ W.cell? ⟨w.heap.size + 1, 8, none⟩ = some (.int .i64 ri) ∧ W.cell? ⟨w.heap.size + 1, 9, none⟩ = some (.int .i64 rvk) ∧ W.cell? ⟨w.heap.size + 1, 10, none⟩ = some (.int .i64 rvn) ∧ W.cell? ⟨w.heap.size + 1, 11, none⟩ = some (.string rvs)) := fun W hb => ⟨(hb.cell (p := ⟨w.heap.size, 0, none⟩) (show w.heap.size < _ by omega)).trans (by go_simp), (hb.cell (p := ⟨w.heap.size, 1, none⟩) (show w.heap.size < _ by omega)).trans (by go_simp), (hb.cell (p := ⟨w.heap.size + 1, 2, none⟩) (show w.heap.size + 1 < _ by omega)).trans (by go_simp), (hb.cell (p := ⟨w.heap.size + 1, 3, none⟩) (show w.heap.size + 1 < _ by omega)).trans (by go_simp), (hb.cell (p := ⟨w.heap.size + 1, 4, none⟩) (show w.heap.size + 1 < _ by omega)).trans (by go_simp), (hb.cell (p := ⟨w.heap.size + 1, 5, none⟩) (show w.heap.size + 1 < _ by omega)).trans (by go_simp), (hb.cell (p := ⟨w.heap.size + 1, 6, none⟩) (show w.heap.size + 1 < _ by omega)).trans (by go_simp), (hb.cell (p := ⟨w.heap.size + 1, 7, none⟩) (show w.heap.size + 1 < _ by omega)).trans (by go_simp), (hb.cell (p := ⟨w.heap.size + 1, 8, none⟩) (show w.heap.size + 1 < _ by omega)).trans (by go_simp), (hb.cell (p := ⟨w.heap.size + 1, 9, none⟩) (show w.heap.size + 1 < _ by omega)).trans (by go_simp), (hb.cell (p := ⟨w.heap.size + 1, 10, none⟩) (show w.heap.size + 1 < _ by omega)).trans (by go_simp), (hb.cell (p := ⟨w.heap.size + 1, 11, none⟩) (show w.heap.size + 1 < _ by omega)).trans (by go_simp)⟩
  cases z with
  | false =>
    clear HT HL HK E G
    go_enter Try.func67, Try.ntmps67
    go_wp2_with fail
    go_ret
    exact ⟨rfl, by (repeat (first | exact Below.refl _ _ | assumption | refine Below.drew ?_ | refine Below.setCell ?_ (by first | omega | (simp only [World.size_alloc]; omega) | (simp; try omega)) _ | refine Below.alloc ?_ (by first | omega | (simp only [World.size_alloc]; omega) | (simp; try omega)) _))⟩
  | true =>
    cases y with
    | false =>
      clear HL HK
      go_enter Try.func67, Try.ntmps67
      go_wp2_with fail
      refine (HT.out _).mono ?_
      rintro e w1 ⟨rfl, hb⟩
      have B1 : Hid (Below w.heap.size w w1) := Below.trans (by (repeat (first | exact Below.refl _ _ | assumption | refine Below.drew ?_ | refine Below.setCell ?_ (by first | omega | (simp only [World.size_alloc]; omega) | (simp; try omega)) _ | refine Below.alloc ?_ (by first | omega | (simp only [World.size_alloc]; omega) | (simp; try omega)) _))) (hb.mono (by simp only [World.size_alloc]; omega))
      clear hb
      go_wp2_with fail
      go_ret
      exact ⟨rfl, B1.out⟩
    | true =>
      go_enter Try.func67, Try.ntmps67
      go_wp2_with fail
      refine (HT.out _).mono ?_
      rintro e w1 ⟨rfl, hb⟩
      have B1 : Hid (Below w.heap.size w w1) := Below.trans (by (repeat (first | exact Below.refl _ _ | assumption | refine Below.drew ?_ | refine Below.setCell ?_ (by first | omega | (simp only [World.size_alloc]; omega) | (simp; try omega)) _ | refine Below.alloc ?_ (by first | omega | (simp only [World.size_alloc]; omega) | (simp; try omega)) _))) (hb.mono (by simp only [World.size_alloc]; omega))
      have z1 := hb.size
      simp only [World.size_alloc] at hb z1
      obtain ⟨c0, c1, c2, c3, c4, c5, c6, c7, c8, c9, c10, c11⟩ := HK.out _ hb
      clear hb
      go_wp2_with fail
      refine (HL.out _ B1.out).mono ?_
      rintro e w2 ⟨rfl, hb⟩
      have B2 : Hid (Below w.heap.size w w2) := B1.out.trans (hb.mono B1.out.size)
      clear hb c0 c1 c2 c3 c4 c5 c6 c7 c8 c9 c10 c11
      go_wp2_with fail
      go_ret
      exact ⟨rfl, B2.out⟩

set_option maxRecDepth 100000 in
set_option maxHeartbeats 8000000 in
theorem pValidN_no3 (C Q : List Int) (cv qv : Value) (p : PT) (v : Value) (w : World) (hop : p.op ≠ 3) (hc : IntsAt w cv C) (hq : IntsAt w qv Q) (h : Pd w v p) : Calls Try.prog 67 #[.agg #[cv, qv], v] w fun e w' => e = .returned (.bool (vnB C Q p)) ∧ Below w.heap.size w w' := by
  rw [vnB_no3 C Q p hop]
  unfold plnB
  obtain ⟨op, cmp, lk, li, lvk, lvn, lvs, rk, ri, rvk, rvn, rvs, ps, a, c, rfl, rfl, hp⟩ := pd_fields h
  have h3 : (op == 3) = false := by have h : ¬ op = 3 := hop; simpa using h
  change Calls _ _ _ _ (fun e w' => e = .returned (.bool ((cmp == 0 && (decide (Od.mk lk li ⟨lvk, lvn, lvs⟩ = zO) && decide (Od.mk rk ri ⟨rvk, rvn, rvs⟩ = zO))) && (if op = 1 then ps.length == 0 else if op = 2 then ps.length == 0 else if op = 4 then true else if op = 5 then true else if op = 6 then ps.length == 1 else false))) ∧ _)
  rw [zO_mk]
  obtain ⟨ca, cc, rfl⟩ := hc.shape
  obtain ⟨qa, qc, rfl⟩ := hq.shape
  have E1 := neO_run lk li lvk lvn lvs 0 0 0 0 ⟨#[]⟩
  have E2 := neO_run rk ri rvk rvn rvs 0 0 0 0 ⟨#[]⟩
  generalize decide (Od.mk lk li ⟨lvk, lvn, lvs⟩ = ⟨0, 0, ⟨0, 0, ⟨#[]⟩⟩⟩) = x at *
  generalize decide (Od.mk rk ri ⟨rvk, rvn, rvs⟩ = ⟨0, 0, ⟨0, 0, ⟨#[]⟩⟩⟩) = y at *
  have e0 : ((ps.length : Int) == 0) = (ps.length == 0) := by rw [Bool.eq_iff_iff]; simp only [beq_iff_eq]; omega
  have e1 : ((ps.length : Int) == 1) = (ps.length == 1) := by rw [Bool.eq_iff_iff]; simp only [beq_iff_eq]; omega
  have hfew := hp.1.few
  generalize (ps.length == 0) = z0 at *
  generalize (ps.length == 1) = z1 at *
  generalize ps.length = n at *
  generalize C.length = nc at *
  generalize Q.length = nq at *
  clear hc hq hp h hop
  cases hb : (cmp == 0) with
  | false =>
    have hb' : (cmp != 0) = true := by simpa using hb
    simp only [Bool.false_and]
    clear hb E1 E2 e0 e1
    go_enter Try.func67, Try.ntmps67
    go_wp2_with fail
    go_ret
    exact ⟨rfl, by (repeat (first | exact Below.refl _ _ | assumption | refine Below.drew ?_ | refine Below.setCell ?_ (by first | omega | (simp only [World.size_alloc]; omega) | (simp; try omega)) _ | refine Below.alloc ?_ (by first | omega | (simp only [World.size_alloc]; omega) | (simp; try omega)) _))⟩
  | true =>
    have hb' : (cmp != 0) = false := by simpa using hb
    clear hb
    cases x with
    | false =>
      simp only [Bool.false_and, Bool.and_false]
      clear E2 e0 e1
      go_enter Try.func67, Try.ntmps67
      go_wp2_with fail
      go_ret
      exact ⟨rfl, by (repeat (first | exact Below.refl _ _ | assumption | refine Below.drew ?_ | refine Below.setCell ?_ (by first | omega | (simp only [World.size_alloc]; omega) | (simp; try omega)) _ | refine Below.alloc ?_ (by first | omega | (simp only [World.size_alloc]; omega) | (simp; try omega)) _))⟩
    | true =>
      cases y with
      | false =>
        simp only [Bool.false_and, Bool.and_false]
        clear e0 e1
        go_enter Try.func67, Try.ntmps67
        go_wp2_with fail
        go_ret
        exact ⟨rfl, by (repeat (first | exact Below.refl _ _ | assumption | refine Below.drew ?_ | refine Below.setCell ?_ (by first | omega | (simp only [World.size_alloc]; omega) | (simp; try omega)) _ | refine Below.alloc ?_ (by first | omega | (simp only [World.size_alloc]; omega) | (simp; try omega)) _))⟩
      | true =>
        simp only [Bool.true_and]
        have hcs : op = 1 ∨ op = 2 ∨ op = 4 ∨ op = 5 ∨ op = 6 ∨ (op ≠ 1 ∧ op ≠ 2 ∧ op ≠ 4 ∧ op ≠ 5 ∧ op ≠ 6) := by omega
        rcases hcs with rfl | rfl | rfl | rfl | rfl | ⟨n1, n2, n4, n5, n6⟩
        · simp only [if_true]
          clear h3
          go_enter Try.func67, Try.ntmps67
          go_wp2_with fail
          go_ret
          exact ⟨rfl, by (repeat (first | exact Below.refl _ _ | assumption | refine Below.drew ?_ | refine Below.setCell ?_ (by first | omega | (simp only [World.size_alloc]; omega) | (simp; try omega)) _ | refine Below.alloc ?_ (by first | omega | (simp only [World.size_alloc]; omega) | (simp; try omega)) _))⟩
        · simp only [if_neg (show ¬ (2 : Int) = 1 by omega), if_true]
          clear h3
          go_enter Try.func67, Try.ntmps67
          go_wp2_with fail
          go_ret
          exact ⟨rfl, by (repeat (first | exact Below.refl _ _ | assumption | refine Below.drew ?_ | refine Below.setCell ?_ (by first | omega | (simp only [World.size_alloc]; omega) | (simp; try omega)) _ | refine Below.alloc ?_ (by first | omega | (simp only [World.size_alloc]; omega) | (simp; try omega)) _))⟩
        · simp only [if_neg (show ¬ (4 : Int) = 1 by omega), if_neg (show ¬ (4 : Int) = 2 by omega), if_true]
          clear h3
          go_enter Try.func67, Try.ntmps67
          go_wp2_with fail
          go_ret
          exact ⟨rfl, by (repeat (first | exact Below.refl _ _ | assumption | refine Below.drew ?_ | refine Below.setCell ?_ (by first | omega | (simp only [World.size_alloc]; omega) | (simp; try omega)) _ | refine Below.alloc ?_ (by first | omega | (simp only [World.size_alloc]; omega) | (simp; try omega)) _))⟩
        · simp only [if_neg (show ¬ (5 : Int) = 1 by omega), if_neg (show ¬ (5 : Int) = 2 by omega), if_neg (show ¬ (5 : Int) = 4 by omega), if_true]
          clear h3
          go_enter Try.func67, Try.ntmps67
          go_wp2_with fail
          go_ret
          exact ⟨rfl, by (repeat (first | exact Below.refl _ _ | assumption | refine Below.drew ?_ | refine Below.setCell ?_ (by first | omega | (simp only [World.size_alloc]; omega) | (simp; try omega)) _ | refine Below.alloc ?_ (by first | omega | (simp only [World.size_alloc]; omega) | (simp; try omega)) _))⟩
        · simp only [if_neg (show ¬ (6 : Int) = 1 by omega), if_neg (show ¬ (6 : Int) = 2 by omega), if_neg (show ¬ (6 : Int) = 4 by omega), if_neg (show ¬ (6 : Int) = 5 by omega), if_true]
          clear h3
          go_enter Try.func67, Try.ntmps67
          go_wp2_with fail
          go_ret
          exact ⟨rfl, by (repeat (first | exact Below.refl _ _ | assumption | refine Below.drew ?_ | refine Below.setCell ?_ (by first | omega | (simp only [World.size_alloc]; omega) | (simp; try omega)) _ | refine Below.alloc ?_ (by first | omega | (simp only [World.size_alloc]; omega) | (simp; try omega)) _))⟩
        · simp only [if_neg n1, if_neg n2, if_neg n4, if_neg n5, if_neg n6]
          have b1 : (op == 1) = false := by simpa using n1
          have b2 : (op == 2) = false := by simpa using n2
          have b4 : (op == 4) = false := by simpa using n4
          have b5 : (op == 5) = false := by simpa using n5
          have b6 : (op == 6) = false := by simpa using n6
          clear n1 n2 n4 n5 n6
          skip
          go_enter Try.func67, Try.ntmps67
          go_wp2_with fail
          go_ret
          exact ⟨rfl, by (repeat (first | exact Below.refl _ _ | assumption | refine Below.drew ?_ | refine Below.setCell ?_ (by first | omega | (simp only [World.size_alloc]; omega) | (simp; try omega)) _ | refine Below.alloc ?_ (by first | omega | (simp only [World.size_alloc]; omega) | (simp; try omega)) _))⟩

theorem pValidN_any (C Q : List Int) (cv qv : Value) (p : PT) (v : Value) (w : World) (hc : IntsAt w cv C) (hq : IntsAt w qv Q) (h : Pd w v p) : Calls Try.prog 67 #[.agg #[cv, qv], v] w fun e w' => e = .returned (.bool (vnB C Q p)) ∧ Below w.heap.size w w' := by
  by_cases hop : p.op = 3
  · exact pValidN_3 C Q cv qv p v w hop hc hq h
  · exact pValidN_no3 C Q cv qv p v w hop hc hq h
end Go.Proofs.Ytjcbmeannhafjaa
