
/- predicate.Check. -/
import Derived.Test.YtjkjmkplcjfogaaPdSmall

namespace Go.Proofs.Ytjkjmkplcjfogaa

open Go.RowKit

set_option maxRecDepth 100000 in
set_option maxHeartbeats 4000000 in
theorem pCheck_any (C Q : List Int) (cv qv : Value) (p : PT) (v : Value) (w : World) (hc : IntsAt w cv C) (hq : IntsAt w qv Q) (h : Pd w v p) : Calls Try.prog 50 #[cv, qv, v] w fun e w' => e = .returned (.int .i64 (checkP C Q p)) ∧ Below w.heap.size w w' := by
  have HA : Hid (∀ W, Below w.heap.size w W → Calls Try.prog 76 #[cv] W fun e w' => e = .returned (.bool (okKs C)) ∧ W = w') := fun W hb => pColumnKinds_any cv C W (hc.blw hb)
  have HB : Hid (∀ W, Below w.heap.size w W → Calls Try.prog 76 #[qv] W fun e w' => e = .returned (.bool (okKs Q)) ∧ W = w') := fun W hb => pColumnKinds_any qv Q W (hq.blw hb)
  have HS : Hid (∀ W, Below w.heap.size w W → Calls Try.prog 77 #[v] W fun e w' => e = .returned (.bool (smallP p)) ∧ Below W.heap.size W w') := fun W hb => pSmall_any p v W (h.below hb)
  have HE : Hid (∀ bx W, W.cell? ⟨bx, 0, none⟩ = some cv → W.cell? ⟨bx, 1, none⟩ = some qv → bx < W.heap.size → Below w.heap.size w W → Calls Try.prog 42 #[v, .int .i64 1, .func (.func 78) #[] #[.pointer (some ⟨bx, 0, none⟩)]] W fun e w' => e = .returned (.bool (vldP C Q p)) ∧ Below w.heap.size W w') := fun bx W h0 h1 hlt hb =>
    (every_Check (chClo C Q w.heap.size bx cv qv) p.depth p (Nat.le_refl _) () 1 v W trivial ⟨h0, h1, hlt, hb.size, hc.blw hb, hq.blw hb⟩ (h.lt.under hb)).mono fun e w' hx => ⟨by rw [hx.1, walk_fV], hx.2.1⟩
  have hR : checkP C Q p = if okKs C = false then 1 else if okKs Q = false then 1 else if smallP p = false then 2 else if vldP C Q p = false then 50 else 0 := by
    unfold checkP
    cases okKs C <;> cases okKs Q <;> rfl
  rw [hR]
  clear hR
  obtain ⟨ca, cc, rfl⟩ := hc.shape
  obtain ⟨qa, qc, rfl⟩ := hq.shape
  obtain ⟨op, cmp, lk, li, lvk, lvn, lvs, rk, ri, rvk, rvn, rvs, ps, a, c, rfl, rfl, hp⟩ := pd_fields h
  generalize okKs C = x1 at *
  generalize okKs Q = x2 at *
  generalize smallP _ = x3 at *
  generalize vldP _ _ _ = x4 at *
  generalize ps.length = n at *
  generalize C.length = nc at *
  generalize Q.length = nq at *
  clear hc hq hp h
  have HK : Hid (∀ W, Below (w.heap.size + 1) (w.alloc (.cells #[.int .i64 op, .int .i64 cmp, .int .i64 lk, .int .i64 li, .int .i64 lvk, .int .i64 lvn, .string lvs, .int .i64 rk, .int .i64 ri, .int .i64 rvk, .int .i64 rvn, .string rvs, .slice a n c] 29)) W → W.cell? ⟨w.heap.size, 0, none⟩ = some (.int .i64 op) ∧ W.cell? ⟨w.heap.size, 1, none⟩ = some (.int .i64 cmp) ∧ W.cell? ⟨w.heap.size, 2, none⟩ = some (.int .i64 lk) ∧ W.cell? ⟨w.heap.size, 3, none⟩ = some (.int .i64 li) ∧ W.cell? ⟨w.heap.size, 4, none⟩ = some (.int .i64 lvk) ∧ W.cell? ⟨w.heap.size, 5, none⟩ = some (.int .i64 lvn) ∧ W.cell? ⟨w.heap.size, 6, none⟩ = some (.string lvs) ∧ W.cell? ⟨w.heap.size, 7, none⟩ = some (.int .i64 rk) ∧ W.cell? ⟨w.heap.size, 8, none⟩ = some (.int .i64 ri) ∧ W.cell? ⟨w.heap.size, 9, none⟩ = some (.int .i64 rvk) ∧ W.cell? ⟨w.heap.size, 10, none⟩ = some (.int .i64 rvn) ∧ W.cell? ⟨w.heap.size, 11, none⟩ = some (.string rvs) ∧ W.cell? ⟨w.heap.size, 12, none⟩ = some (.slice a n c)) := fun W hb => ⟨(hb.cell (p := ⟨w.heap.size, 0, none⟩) (show w.heap.size < _ by omega)).trans (by go_simp), (hb.cell (p := ⟨w.heap.size, 1, none⟩) (show w.heap.size < _ by omega)).trans (by go_simp), (hb.cell (p := ⟨w.heap.size, 2, none⟩) (show w.heap.size < _ by omega)).trans (by go_simp), (hb.cell (p := ⟨w.heap.size, 3, none⟩) (show w.heap.size < _ by omega)).trans (by go_simp), (hb.cell (p := ⟨w.heap.size, 4, none⟩) (show w.heap.size < _ by omega)).trans (by go_simp), (hb.cell (p := ⟨w.heap.size, 5, none⟩) (show w.heap.size < _ by omega)).trans (by go_simp), (hb.cell (p := ⟨w.heap.size, 6, none⟩) (show w.heap.size < _ by omega)).trans (by go_simp), (hb.cell (p := ⟨w.heap.size, 7, none⟩) (show w.heap.size < _ by omega)).trans (by go_simp), (hb.cell (p := ⟨w.heap.size, 8, none⟩) (show w.heap.size < _ by omega)).trans (by go_simp), (hb.cell (p := ⟨w.heap.size, 9, none⟩) (show w.heap.size < _ by omega)).trans (by go_simp), (hb.cell (p := ⟨w.heap.size, 10, none⟩) (show w.heap.size < _ by omega)).trans (by go_simp), (hb.cell (p := ⟨w.heap.size, 11, none⟩) (show w.heap.size < _ by omega)).trans (by go_simp), (hb.cell (p := ⟨w.heap.size, 12, none⟩) (show w.heap.size < _ by omega)).trans (by go_simp)⟩
  cases x1 with
  | false =>
    clear HB HS HE HK
    go_enter Try.func50, Try.ntmps50
    go_wp2_with fail
    refine (HA.out _ (by (repeat (first | exact Below.refl _ _ | assumption | refine Below.drew ?_ | refine Below.setCell ?_ (by first | omega | (simp only [World.size_alloc]; omega) | (simp; try omega)) _ | refine Below.alloc ?_ (by first | omega | (simp only [World.size_alloc]; omega) | (simp; try omega)) _)))).mono ?_
    rintro e w1 ⟨rfl, rfl⟩
    go_wp2_with fail
    go_ret
    exact ⟨rfl, by (repeat (first | exact Below.refl _ _ | assumption | refine Below.drew ?_ | refine Below.setCell ?_ (by first | omega | (simp only [World.size_alloc]; omega) | (simp; try omega)) _ | refine Below.alloc ?_ (by first | omega | (simp only [World.size_alloc]; omega) | (simp; try omega)) _))⟩
  | true =>
    cases x2 with
    | false =>
      clear HS HE HK
      go_enter Try.func50, Try.ntmps50
      go_wp2_with fail
      refine (HA.out _ (by (repeat (first | exact Below.refl _ _ | assumption | refine Below.drew ?_ | refine Below.setCell ?_ (by first | omega | (simp only [World.size_alloc]; omega) | (simp; try omega)) _ | refine Below.alloc ?_ (by first | omega | (simp only [World.size_alloc]; omega) | (simp; try omega)) _)))).mono ?_
      rintro e w1 ⟨rfl, rfl⟩
      go_wp2_with fail
      refine (HB.out _ (by (repeat (first | exact Below.refl _ _ | assumption | refine Below.drew ?_ | refine Below.setCell ?_ (by first | omega | (simp only [World.size_alloc]; omega) | (simp; try omega)) _ | refine Below.alloc ?_ (by first | omega | (simp only [World.size_alloc]; omega) | (simp; try omega)) _)))).mono ?_
      rintro e w1 ⟨rfl, rfl⟩
      go_wp2_with fail
      go_ret
      exact ⟨rfl, by (repeat (first | exact Below.refl _ _ | assumption | refine Below.drew ?_ | refine Below.setCell ?_ (by first | omega | (simp only [World.size_alloc]; omega) | (simp; try omega)) _ | refine Below.alloc ?_ (by first | omega | (simp only [World.size_alloc]; omega) | (simp; try omega)) _))⟩
    | true =>
      cases x3 with
      | false =>
        clear HE HK
        go_enter Try.func50, Try.ntmps50
        go_wp2_with fail
        refine (HA.out _ (by (repeat (first | exact Below.refl _ _ | assumption | refine Below.drew ?_ | refine Below.setCell ?_ (by first | omega | (simp only [World.size_alloc]; omega) | (simp; try omega)) _ | refine Below.alloc ?_ (by first | omega | (simp only [World.size_alloc]; omega) | (simp; try omega)) _)))).mono ?_
        rintro e w1 ⟨rfl, rfl⟩
        go_wp2_with fail
        refine (HB.out _ (by (repeat (first | exact Below.refl _ _ | assumption | refine Below.drew ?_ | refine Below.setCell ?_ (by first | omega | (simp only [World.size_alloc]; omega) | (simp; try omega)) _ | refine Below.alloc ?_ (by first | omega | (simp only [World.size_alloc]; omega) | (simp; try omega)) _)))).mono ?_
        rintro e w1 ⟨rfl, rfl⟩
        go_wp2_with fail
        refine (HS.out _ (by (repeat (first | exact Below.refl _ _ | assumption | refine Below.drew ?_ | refine Below.setCell ?_ (by first | omega | (simp only [World.size_alloc]; omega) | (simp; try omega)) _ | refine Below.alloc ?_ (by first | omega | (simp only [World.size_alloc]; omega) | (simp; try omega)) _)))).mono ?_
        rintro e w1 ⟨rfl, hb⟩
        have B1 : Hid (Below w.heap.size w w1) := Below.trans (by (repeat (first | exact Below.refl _ _ | assumption | refine Below.drew ?_ | refine Below.setCell ?_ (by first | omega | (simp only [World.size_alloc]; omega) | (simp; try omega)) _ | refine Below.alloc ?_ (by first | omega | (simp only [World.size_alloc]; omega) | (simp; try omega)) _))) (hb.mono (by simp only [World.size_alloc]; omega))
        clear hb
        go_wp2_with fail
        go_ret
        exact ⟨rfl, B1.out⟩
      | true =>
        cases x4
        all_goals
          go_enter Try.func50, Try.ntmps50
          go_wp2_with fail
          refine (HA.out _ (by (repeat (first | exact Below.refl _ _ | assumption | refine Below.drew ?_ | refine Below.setCell ?_ (by first | omega | (simp only [World.size_alloc]; omega) | (simp; try omega)) _ | refine Below.alloc ?_ (by first | omega | (simp only [World.size_alloc]; omega) | (simp; try omega)) _)))).mono ?_
          rintro e w1 ⟨rfl, rfl⟩
          go_wp2_with fail
          refine (HB.out _ (by (repeat (first | exact Below.refl _ _ | assumption | refine Below.drew ?_ | refine Below.setCell ?_ (by first | omega | (simp only [World.size_alloc]; omega) | (simp; try omega)) _ | refine Below.alloc ?_ (by first | omega | (simp only [World.size_alloc]; omega) | (simp; try omega)) _)))).mono ?_
          rintro e w1 ⟨rfl, rfl⟩
          go_wp2_with fail
          refine (HS.out _ (by (repeat (first | exact Below.refl _ _ | assumption | refine Below.drew ?_ | refine Below.setCell ?_ (by first | omega | (simp only [World.size_alloc]; omega) | (simp; try omega)) _ | refine Below.alloc ?_ (by first | omega | (simp only [World.size_alloc]; omega) | (simp; try omega)) _)))).mono ?_
          rintro e w1 ⟨rfl, hb⟩
          have B1 : Hid (Below w.heap.size w w1) := Below.trans (by (repeat (first | exact Below.refl _ _ | assumption | refine Below.drew ?_ | refine Below.setCell ?_ (by first | omega | (simp only [World.size_alloc]; omega) | (simp; try omega)) _ | refine Below.alloc ?_ (by first | omega | (simp only [World.size_alloc]; omega) | (simp; try omega)) _))) (hb.mono (by simp only [World.size_alloc]; omega))
          have z1 := hb.size
          simp only [World.size_alloc] at hb z1
          have zw : w.heap.size < w1.heap.size := by omega
          obtain ⟨c0, c1, c2, c3, c4, c5, c6, c7, c8, c9, c10, c11, c12⟩ := HK.out _ hb
          clear hb
          go_wp2_with fail
          have q0 : (w1.alloc (.cells #[.slice ca nc cc, .slice qa nq qc] 114)).cell? ⟨w1.heap.size, 0, none⟩ = some (.slice ca nc cc) := by go_simp
          have q1 : (w1.alloc (.cells #[.slice ca nc cc, .slice qa nq qc] 114)).cell? ⟨w1.heap.size, 1, none⟩ = some (.slice qa nq qc) := by go_simp
          refine (HE.out _ _ q0 q1 (by simp) (by have hB := B1.out; have hS := hB.size; (repeat (first | exact Below.refl _ _ | assumption | refine Below.drew ?_ | refine Below.setCell ?_ (by first | omega | (simp only [World.size_alloc]; omega) | (simp; try omega)) _ | refine Below.alloc ?_ (by first | omega | (simp only [World.size_alloc]; omega) | (simp; try omega)) _)))).mono ?_
          rintro e w2 ⟨rfl, hb⟩
          have B2 : Hid (Below w.heap.size w w2) := Below.trans (by have hB := B1.out; have hS := hB.size; (repeat (first | exact Below.refl _ _ | assumption | refine Below.drew ?_ | refine Below.setCell ?_ (by first | omega | (simp only [World.size_alloc]; omega) | (simp; try omega)) _ | refine Below.alloc ?_ (by first | omega | (simp only [World.size_alloc]; omega) | (simp; try omega)) _))) hb
          clear hb q0 q1 c0 c1 c2 c3 c4 c5 c6 c7 c8 c9 c10 c11 c12
          go_wp2_with fail
          go_ret
          exact ⟨rfl, B2.out⟩
end Go.Proofs.Ytjkjmkplcjfogaa
