/- Law ValueCompares, its beginning: five values in a slice. -/
import Derived.Test.YthlamhlbeabjdaaLawJudges
namespace Go.Proofs.Ythlamhlbeabjdaa
open Go.RowKit Go.Deep

/-- The values of a slice, one behind the other. -/
def Vals (w : World) (b : Nat) (vs : List V) : Prop := b < w.heap.size ∧ ∀ i (h : i < vs.length), CellsV w b (i * 3) vs[i]
theorem Vals.below {w w' : World} {b : Nat} {vs : List V} (h : Vals w b vs) (hb : Below w.heap.size w w') : Vals w' b vs :=
  ⟨Nat.lt_of_lt_of_le h.1 hb.size, fun i hi => (h.2 i hi).below hb h.1⟩

set_option maxHeartbeats 1000000 in
theorem compares_walk (cv : Value) (cn : Nat) (ka na : Int) (sa : ByteArray) (kb nb : Int) (sb : ByteArray) (kx nx : Int) (sx : ByteArray) (w : World) (hcv : BytesAt w cv cn) : Calls Try.prog 4 #[cv, .agg #[.int .i64 ka, .int .i64 na, .string sa], .agg #[.int .i64 kb, .int .i64 nb, .string sb], .agg #[.int .i64 kx, .int .i64 nx, .string sx]] w fun e w' => e = .returned (.bool true) ∧ Below w.heap.size w w' := by
  have HN : Hid (∀ O1 O2 O3, Calls Try.prog 11 #[cv, .int .i64 90] (((w.alloc O1).alloc O2).alloc O3) (NewPost (((w.alloc O1).alloc O2).alloc O3))) := fun O1 O2 O3 => cNew_any cv cn _ (hcv.below (by (repeat (first | exact Below.refl _ _ | assumption | refine Below.drew ?_ | refine Below.setCell ?_ (by simp; try omega) _ | refine Below.alloc ?_ (by simp; try omega) _))))
  obtain ⟨qa, qc, rfl, _⟩ := hcv
  have HB : Hid (∀ W, Calls Try.prog 13 #[] W fun e w' => e = .returned (.bool true) ∧ Below W.heap.size W w') := begun_any
  go_enter Try.func4, Try.ntmps4
  go_wp2_with fail
  refine (HN.out _ _ _).mono ?_
  rintro e w1 ⟨bc, rfl, hb1, hbc, hok⟩
  have hs1 := hb1.size
  simp only [World.size_alloc] at hs1 hbc hb1
  have a0 : w1.cell? ⟨w.heap.size, 0, none⟩ = some (.int .i64 ka) := (hb1.cell (p := ⟨w.heap.size, 0, none⟩) (by simp only; omega)).trans (by go_simp)
  have a1 : w1.cell? ⟨w.heap.size, 1, none⟩ = some (.int .i64 na) := (hb1.cell (p := ⟨w.heap.size, 1, none⟩) (by simp only; omega)).trans (by go_simp)
  have a2 : w1.cell? ⟨w.heap.size, 2, none⟩ = some (.string sa) := (hb1.cell (p := ⟨w.heap.size, 2, none⟩) (by simp only; omega)).trans (by go_simp)
  have b0 : w1.cell? ⟨w.heap.size + 1, 0, none⟩ = some (.int .i64 kb) := (hb1.cell (p := ⟨w.heap.size + 1, 0, none⟩) (by simp only; omega)).trans (by go_simp)
  have b1 : w1.cell? ⟨w.heap.size + 1, 1, none⟩ = some (.int .i64 nb) := (hb1.cell (p := ⟨w.heap.size + 1, 1, none⟩) (by simp only; omega)).trans (by go_simp)
  have b2 : w1.cell? ⟨w.heap.size + 1, 2, none⟩ = some (.string sb) := (hb1.cell (p := ⟨w.heap.size + 1, 2, none⟩) (by simp only; omega)).trans (by go_simp)
  have x0 : w1.cell? ⟨w.heap.size + 1 + 1, 0, none⟩ = some (.int .i64 kx) := (hb1.cell (p := ⟨w.heap.size + 1 + 1, 0, none⟩) (by simp only; omega)).trans (by go_simp)
  have x1 : w1.cell? ⟨w.heap.size + 1 + 1, 1, none⟩ = some (.int .i64 nx) := (hb1.cell (p := ⟨w.heap.size + 1 + 1, 1, none⟩) (by simp only; omega)).trans (by go_simp)
  have x2 : w1.cell? ⟨w.heap.size + 1 + 1, 2, none⟩ = some (.string sx) := (hb1.cell (p := ⟨w.heap.size + 1 + 1, 2, none⟩) (by simp only; omega)).trans (by go_simp)
  have BW : Hid (Below w.heap.size w w1) := Below.trans (by (repeat (first | exact Below.refl _ _ | assumption | refine Below.drew ?_ | refine Below.setCell ?_ (by simp; try omega) _ | refine Below.alloc ?_ (by simp; try omega) _))) (hb1.mono (by omega))
  have hB1 : w.heap.size + 1 + 1 + 1 ≤ w1.heap.size := hs1
  have hOK := hok
  have HK : Hid (∀ W, Below (w.heap.size + 1 + 1 + 1) w1 W → W.cell? ⟨w.heap.size, 0, none⟩ = some (.int .i64 ka) ∧ W.cell? ⟨w.heap.size, 1, none⟩ = some (.int .i64 na) ∧ W.cell? ⟨w.heap.size, 2, none⟩ = some (.string sa) ∧ W.cell? ⟨w.heap.size + 1, 0, none⟩ = some (.int .i64 kb) ∧ W.cell? ⟨w.heap.size + 1, 1, none⟩ = some (.int .i64 nb) ∧ W.cell? ⟨w.heap.size + 1, 2, none⟩ = some (.string sb) ∧ W.cell? ⟨w.heap.size + 1 + 1, 0, none⟩ = some (.int .i64 kx) ∧ W.cell? ⟨w.heap.size + 1 + 1, 1, none⟩ = some (.int .i64 nx) ∧ W.cell? ⟨w.heap.size + 1 + 1, 2, none⟩ = some (.string sx)) := fun W hb => ⟨(hb.cell (p := ⟨w.heap.size, 0, none⟩) (by simp only; omega)).trans a0, (hb.cell (p := ⟨w.heap.size, 1, none⟩) (by simp only; omega)).trans a1, (hb.cell (p := ⟨w.heap.size, 2, none⟩) (by simp only; omega)).trans a2, (hb.cell (p := ⟨w.heap.size + 1, 0, none⟩) (by simp only; omega)).trans b0, (hb.cell (p := ⟨w.heap.size + 1, 1, none⟩) (by simp only; omega)).trans b1, (hb.cell (p := ⟨w.heap.size + 1, 2, none⟩) (by simp only; omega)).trans b2, (hb.cell (p := ⟨w.heap.size + 1 + 1, 0, none⟩) (by simp only; omega)).trans x0, (hb.cell (p := ⟨w.heap.size + 1 + 1, 1, none⟩) (by simp only; omega)).trans x1, (hb.cell (p := ⟨w.heap.size + 1 + 1, 2, none⟩) (by simp only; omega)).trans x2⟩
  clear hb1 HN hs1
  have tok1 : True := trivial
  go_wp2_with fail
  go_region_held3 (fun W => W.cell? ⟨w.heap.size, 0, none⟩ = some (.int .i64 ka) ∧ W.cell? ⟨w.heap.size, 1, none⟩ = some (.int .i64 na) ∧ W.cell? ⟨w.heap.size, 2, none⟩ = some (.string sa) ∧ W.cell? ⟨w.heap.size + 1, 0, none⟩ = some (.int .i64 kb) ∧ W.cell? ⟨w.heap.size + 1, 1, none⟩ = some (.int .i64 nb) ∧ W.cell? ⟨w.heap.size + 1, 2, none⟩ = some (.string sb) ∧ W.cell? ⟨w.heap.size + 1 + 1, 0, none⟩ = some (.int .i64 kx) ∧ W.cell? ⟨w.heap.size + 1 + 1, 1, none⟩ = some (.int .i64 nx) ∧ W.cell? ⟨w.heap.size + 1 + 1, 2, none⟩ = some (.string sx))
    (first | exact ⟨a0e, a1e, a2e, b0e, b1e, b2e, x0e, x1e, x2e⟩ | exact ⟨a0d, a1d, a2d, b0d, b1d, b2d, x0d, x1d, x2d⟩ | exact ⟨a0, a1, a2, b0, b1, b2, x0, x1, x2⟩ | exact HK.out _ (Below.alloc (by assumption) (by omega) _))
    (first | (go_at_call 12; have _t := tok1; (with_reducible refine (cAny_any bc w1.heap.size _ (by first | exact hok | exact CaseOk.below hok (Below.drew (Below.refl _ _)) (Nat.le_refl _))).mono ?_); rintro e wzd ⟨kd, nd, sd, rfl, hvd, hld, hud, hmd, hokd⟩; have hbd : Below (w.heap.size + 1 + 1 + 1) w1 wzd := Below.trans (by (repeat (first | exact Below.refl _ _ | assumption | refine Below.drew ?_ | refine Below.setCell ?_ (by simp; try omega) _ | refine Below.alloc ?_ (by simp; try omega) _))) (hmd.below hbc (by first | (simp; omega) | omega)); obtain ⟨a0d, a1d, a2d, b0d, b1d, b2d, x0d, x1d, x2d⟩ := HK.out wzd hbd; have hzd : w1.heap.size ≤ wzd.heap.size := hbd.size; clear tok1; clear hvd hmd) | (go_at_call 12; (with_reducible refine (cAny_any bc w1.heap.size _ (by first | exact hokd | exact CaseOk.below hokd (Below.drew (Below.refl _ _)) (Nat.le_refl _))).mono ?_); rintro e wze ⟨ke, ne, se, rfl, hve, hle, hue, hme, hoke⟩; have hbe : Below (w.heap.size + 1 + 1 + 1) w1 wze := Below.trans (by (repeat (first | exact Below.refl _ _ | assumption | refine Below.drew ?_ | refine Below.setCell ?_ (by simp; try omega) _ | refine Below.alloc ?_ (by simp; try omega) _))) (hme.below hbc (by first | (simp; omega) | omega)); obtain ⟨a0e, a1e, a2e, b0e, b1e, b2e, x0e, x1e, x2e⟩ := HK.out wze hbe; have hze : w1.heap.size ≤ wze.heap.size := hbe.size; clear hve hme))
  go_wp2_with fail
  have hV : Vals (wze.alloc (.cells #[.int .i64 ka, .int .i64 na, .string sa, .int .i64 kb, .int .i64 nb, .string sb, .int .i64 kx, .int .i64 nx, .string sx, .int .i64 kd, .int .i64 nd, .string sd, .int .i64 ke, .int .i64 ne, .string se] 24)) wze.heap.size [⟨ka, na, sa⟩, ⟨kb, nb, sb⟩, ⟨kx, nx, sx⟩, ⟨kd, nd, sd⟩, ⟨ke, ne, se⟩] := by
    refine ⟨by simp, fun i hi => ?_⟩
    have hi5 : i < 5 := hi
    have hc : i = 0 ∨ i = 1 ∨ i = 2 ∨ i = 3 ∨ i = 4 := by omega
    rcases hc with rfl | rfl | rfl | rfl | rfl <;> (refine ⟨?_, ?_, ?_⟩ <;> go_simp)
  have BW5 : Hid (Below w.heap.size w (wze.alloc (.cells #[.int .i64 ka, .int .i64 na, .string sa, .int .i64 kb, .int .i64 nb, .string sb, .int .i64 kx, .int .i64 nx, .string sx, .int .i64 kd, .int .i64 nd, .string sd, .int .i64 ke, .int .i64 ne, .string se] 24))) := BW.out.trans ((Below.alloc hbe (by omega) _).mono (by omega))
  have hvl : [(⟨ka, na, sa⟩ : V), (⟨kb, nb, sb⟩ : V), (⟨kx, nx, sx⟩ : V), (⟨kd, nd, sd⟩ : V), (⟨ke, ne, se⟩ : V)].length = 5 := rfl
  generalize [(⟨ka, na, sa⟩ : V), (⟨kb, nb, sb⟩ : V), (⟨kx, nx, sx⟩ : V), (⟨kd, nd, sd⟩ : V), (⟨ke, ne, se⟩ : V)] = vs at hV hvl
  obtain ⟨NL, hNL⟩ : ∃ NL, NL = wze.heap.size := ⟨_, rfl⟩
  rw [← hNL] at hV
  rw [← hNL]
  obtain ⟨w5, hw5⟩ : ∃ w5, w5 = wze.alloc (.cells #[.int .i64 ka, .int .i64 na, .string sa, .int .i64 kb, .int .i64 nb, .string sb, .int .i64 kx, .int .i64 nx, .string sx, .int .i64 kd, .int .i64 nd, .string sd, .int .i64 ke, .int .i64 ne, .string se] 24) := ⟨_, rfl⟩
  rw [← hw5] at hV BW5
  rw [← hw5]
  have HV5 := Lib.hid hV
  clear hV hw5 hNL BW HK hbd hbe hzd hze hokd hoke hok hOK hB1 hld hud hle hue hbc
  clear a0 a0d a0e a1 a1d a1e a2 a2d a2e b0 b0d b0e b1 b1d b1e b2 b2d b2e x0 x0d x0e x1 x1d x1e x2 x2d x2e
  go_loopg [30] 5 (fun g i wr => ∃ k : Nat, k ≤ 5 ∧ 5 - k ≤ g ∧ i = .int .i64 k ∧ Hid (Below w5.heap.size w5 wr))
  case atStart => exact ⟨0, by omega, by omega, rfl, Below.refl _ _⟩
  case round =>
    obtain ⟨k, hk, hgk, rfl, hbk⟩ := hrel
    by_cases hlt : k < 5
    · have hkd : decide ((k : Int) < 5) = true := by simp; omega
      have hv := HV5.out.below hbk.out
      obtain ⟨p0, p1, p2⟩ := hv.2 k (by omega)
      have hNLr : NL < wr.heap.size := hv.1
      generalize vs[k] = p at p0 p1 p2
      obtain ⟨pk, pn, ps⟩ := p
      simp only at p0 p1 p2
      have HVr := Lib.hid hv
      clear hv
      go_wp2_with fail
      obtain ⟨bp, hbp⟩ : ∃ bp, bp = wr.heap.size := ⟨_, rfl⟩
      have P0 : (wr.alloc (.cells #[.int .i64 pk, .int .i64 pn, .string ps] 24)).cell? ⟨wr.heap.size, 0, none⟩ = some (.int .i64 pk) := by go_simp
      have P1 : (wr.alloc (.cells #[.int .i64 pk, .int .i64 pn, .string ps] 24)).cell? ⟨wr.heap.size, 1, none⟩ = some (.int .i64 pn) := by go_simp
      have P2 : (wr.alloc (.cells #[.int .i64 pk, .int .i64 pn, .string ps] 24)).cell? ⟨wr.heap.size, 2, none⟩ = some (.string ps) := by go_simp
      have hbpl : wr.heap.size < (wr.alloc (.cells #[.int .i64 pk, .int .i64 pn, .string ps] 24)).heap.size := by simp
      have HVp : Hid (Vals (wr.alloc (.cells #[.int .i64 pk, .int .i64 pn, .string ps] 24)) NL vs) := HVr.out.below (by (repeat (first | exact Below.refl _ _ | assumption | refine Below.drew ?_ | refine Below.setCell ?_ (by simp; try omega) _ | refine Below.alloc ?_ (by simp; try omega) _)))
      have HBp : Hid (Below w5.heap.size w5 (wr.alloc (.cells #[.int .i64 pk, .int .i64 pn, .string ps] 24))) := Below.alloc hbk.out hbk.out.size _
      rw [← hbp] at P0 P1 P2 hbpl
      rw [← hbp]
      obtain ⟨wp, hwp⟩ : ∃ wp, wp = wr.alloc (.cells #[.int .i64 pk, .int .i64 pn, .string ps] 24) := ⟨_, rfl⟩
      rw [← hwp] at P0 P1 P2 hbpl HVp HBp
      rw [← hwp]
      have HKP : Hid (∀ W, Below wp.heap.size wp W → (W.cell? ⟨bp, 0, none⟩ = some (.int .i64 pk) ∧ W.cell? ⟨bp, 1, none⟩ = some (.int .i64 pn) ∧ W.cell? ⟨bp, 2, none⟩ = some (.string ps)) ∧ Vals W NL vs ∧ bp < W.heap.size) := fun W hb =>
        ⟨⟨(hb.cell (p := ⟨bp, 0, none⟩) hbpl).trans P0, (hb.cell (p := ⟨bp, 1, none⟩) hbpl).trans P1, (hb.cell (p := ⟨bp, 2, none⟩) hbpl).trans P2⟩, HVp.out.below hb, Nat.lt_of_lt_of_le hbpl hb.size⟩
      clear hwp hbp P0 P1 P2 hbpl HVp HVr hbk p0 p1 p2 hNLr
      go_loopg [36] 5 (fun g i wr => ∃ j : Nat, j ≤ 5 ∧ 5 - j ≤ g ∧ i = .int .i64 j ∧ Hid (Below wp.heap.size wp wr))
      case atStart => exact ⟨0, by omega, by omega, rfl, Below.refl _ _⟩
      case round =>
        obtain ⟨j, hj, hgj, rfl, hbj⟩ := hrel
        by_cases hlt2 : j < 5
        · have hjd : decide ((j : Int) < 5) = true := by simp; omega
          obtain ⟨⟨P0, P1, P2⟩, hv, hbpr⟩ := HKP.out wr hbj.out
          obtain ⟨q0, q1, q2⟩ := hv.2 j (by omega)
          have hNLr : NL < wr.heap.size := hv.1
          generalize vs[j] = q at q0 q1 q2
          obtain ⟨qk, qn, qs⟩ := q
          simp only at q0 q1 q2
          have HVr := Lib.hid hv
          clear hv
          have hcases := cmpV_range ⟨pk, pn, ps⟩ ⟨qk, qn, qs⟩
          have hflip := cmpV_flip ⟨pk, pn, ps⟩ ⟨qk, qn, qs⟩
          have hzero := cmpV_zero ⟨pk, pn, ps⟩ ⟨qk, qn, qs⟩
          obtain ⟨c, hc⟩ : ∃ c, cmpV ⟨pk, pn, ps⟩ ⟨qk, qn, qs⟩ = c := ⟨_, rfl⟩
          have HT : Hid (∀ x : V, c ≤ 0 → cmpV ⟨qk, qn, qs⟩ x ≤ 0 → cmpV ⟨pk, pn, ps⟩ x ≤ 0) := fun x h1 h2 => cmpV_trans _ _ _ (by rw [hc]; exact h1) h2
          have HPQ : Hid (∀ W, Calls Try.prog 18 #[.agg #[.int .i64 pk, .int .i64 pn, .string ps], .agg #[.int .i64 qk, .int .i64 qn, .string qs]] W fun e w' => e = .returned (.int .i64 c) ∧ Below W.heap.size W w') := fun W => by
            have := vCompare_any pk pn ps qk qn qs W; rw [hc] at this; exact this.mono fun _ _ ⟨a, b⟩ => ⟨a, b.below⟩
          have HQP : Hid (∀ W, Calls Try.prog 18 #[.agg #[.int .i64 qk, .int .i64 qn, .string qs], .agg #[.int .i64 pk, .int .i64 pn, .string ps]] W fun e w' => e = .returned (.int .i64 (-c)) ∧ Below W.heap.size W w') := fun W => by
            have := vCompare_any qk qn qs pk pn ps W; rw [hflip, hc] at this; exact this.mono fun _ _ ⟨a, b⟩ => ⟨a, b.below⟩
          have HRPQ : Hid (∀ W, Calls Try.prog 19 #[.agg #[.int .i64 pk, .int .i64 pn, .string ps], .agg #[.int .i64 qk, .int .i64 qn, .string qs]] W fun e w' => e = .returned (.int .i64 c) ∧ Below W.heap.size W w') := fun W => by
            have := rCompare_any pk pn ps qk qn qs W; rw [hc] at this; exact this.mono fun _ _ ⟨a, b⟩ => ⟨a, b.below⟩
          have HE : Hid (∀ W, (binOp .eql 24 (.agg #[.int .i64 pk, .int .i64 pn, .string ps]) (.agg #[.int .i64 qk, .int .i64 qn, .string qs])).run Try.prog W = .ok (.bool (decide (c = 0))) W) := fun W => by
            rw [eqV_run]
            rw [hc] at hzero
            simp only [hzero]
          rw [hc] at hcases
          clear hflip hzero hc
          rcases hcases with rfl | rfl | rfl
          all_goals
            simp only [Int.neg_neg, Int.reduceNeg, Int.neg_zero, Int.reduceEq, decide_true, decide_false, Int.reduceLE] at HPQ HQP HRPQ HE HT
            go_wp2_with fail
            refine (HPQ.out _).mono ?_
            rintro e wa ⟨rfl, hba⟩
            have hbw : Below wr.heap.size wr wa := Below.trans (by (repeat (first | exact Below.refl _ _ | assumption | refine Below.drew ?_ | refine Below.setCell ?_ (by simp; try omega) _ | refine Below.alloc ?_ (by simp; try omega) _))) (hba.mono (by simp))
            have Q0 : wa.cell? ⟨wr.heap.size, 0, none⟩ = some (.int .i64 qk) := (hba.cell (p := ⟨wr.heap.size, 0, none⟩) (by simp)).trans (by go_simp)
            have Q1 : wa.cell? ⟨wr.heap.size, 1, none⟩ = some (.int .i64 qn) := (hba.cell (p := ⟨wr.heap.size, 1, none⟩) (by simp)).trans (by go_simp)
            have Q2 : wa.cell? ⟨wr.heap.size, 2, none⟩ = some (.string qs) := (hba.cell (p := ⟨wr.heap.size, 2, none⟩) (by simp)).trans (by go_simp)
            have hbql : wr.heap.size < wa.heap.size := by have := hba.size; simp at this; omega
            have HBa : Hid (Below wp.heap.size wp wa) := hbj.out.trans (hbw.mono hbj.out.size)
            have HVa : Hid (Vals wa NL vs) := HVr.out.below hbw
            obtain ⟨bq, hbq⟩ : ∃ bq, bq = wr.heap.size := ⟨_, rfl⟩
            rw [← hbq] at Q0 Q1 Q2 hbql
            rw [← hbq]
            obtain ⟨⟨A0, A1, A2⟩, _, hbpa⟩ := HKP.out wa HBa.out
            have HKA : Hid (∀ W, Below wa.heap.size wa W → (W.cell? ⟨bp, 0, none⟩ = some (.int .i64 pk) ∧ W.cell? ⟨bp, 1, none⟩ = some (.int .i64 pn) ∧ W.cell? ⟨bp, 2, none⟩ = some (.string ps)) ∧ (W.cell? ⟨bq, 0, none⟩ = some (.int .i64 qk) ∧ W.cell? ⟨bq, 1, none⟩ = some (.int .i64 qn) ∧ W.cell? ⟨bq, 2, none⟩ = some (.string qs)) ∧ Vals W NL vs ∧ bp < W.heap.size ∧ bq < W.heap.size) := fun W hb =>
              ⟨⟨(hb.cell (p := ⟨bp, 0, none⟩) hbpa).trans A0, (hb.cell (p := ⟨bp, 1, none⟩) hbpa).trans A1, (hb.cell (p := ⟨bp, 2, none⟩) hbpa).trans A2⟩,
               ⟨(hb.cell (p := ⟨bq, 0, none⟩) hbql).trans Q0, (hb.cell (p := ⟨bq, 1, none⟩) hbql).trans Q1, (hb.cell (p := ⟨bq, 2, none⟩) hbql).trans Q2⟩, HVa.out.below hb, Nat.lt_of_lt_of_le hbpa hb.size, Nat.lt_of_lt_of_le hbql hb.size⟩
            clear hba hbw HVr hbq hbj P0 P1 P2 hbpr q0 q1 q2 hNLr
            go_wp2_with fail
            refine (HRPQ.out _).mono ?_
            rintro e wb ⟨rfl, hbb⟩
            obtain ⟨⟨B0, B1, B2⟩, ⟨C0, C1, C2⟩, _, hbpb, hbqb⟩ := HKA.out wb hbb
            have HBB := Lib.hid hbb
            clear hbb A0 A1 A2 Q0 Q1 Q2 hbpa hbql
            go_wp2_with fail
            refine (HQP.out _).mono ?_
            rintro e wc ⟨rfl, hbc⟩
            have HBC : Hid (Below wa.heap.size wa wc) := HBB.out.trans (hbc.mono HBB.out.size)
            obtain ⟨⟨D0, D1, D2⟩, ⟨E0, E1, E2⟩, hvc, hbpc, hbqc⟩ := HKA.out wc HBC.out
            have HVC := Lib.hid hvc
            have HBPC : Hid (Below wp.heap.size wp wc) := HBa.out.trans (HBC.out.mono HBa.out.size)
            clear hbc hvc B0 B1 B2 C0 C1 C2 hbpb hbqb HBB HQP HRPQ HPQ
            have heq := HE.out
            go_wp2_with fail
            clear heq HE
            go_loopg [66] 5 (fun g i wr => ∃ l : Nat, l ≤ 5 ∧ 5 - l ≤ g ∧ i = .int .i64 l ∧ Hid (Below wc.heap.size wc wr))
            case atStart => exact ⟨0, by omega, by omega, rfl, Below.refl _ _⟩
            case round =>
              obtain ⟨l, hl, hgl, rfl, hbl⟩ := hrel
              by_cases hlt3 : l < 5
              · have HBl : Hid (Below wa.heap.size wa wr) := HBC.out.trans (hbl.out.mono HBC.out.size)
                obtain ⟨⟨D0, D1, D2⟩, ⟨E0, E1, E2⟩, hv, hbpr, hbqr⟩ := HKA.out wr HBl.out
                obtain ⟨r0, r1, r2⟩ := hv.2 l (by omega)
                have hNLr : NL < wr.heap.size := hv.1
                generalize vs[l] = r at r0 r1 r2
                obtain ⟨rk, rn, rs⟩ := r
                simp only at r0 r1 r2
                clear hv
                have hT := HT.out ⟨rk, rn, rs⟩
                have hQR := fun W => vCompare_any qk qn qs rk rn rs W
                have hPR := fun W => vCompare_any pk pn ps rk rn rs W
                generalize cmpV ⟨qk, qn, qs⟩ ⟨rk, rn, rs⟩ = d at hQR hT
                generalize cmpV ⟨pk, pn, ps⟩ ⟨rk, rn, rs⟩ = f at hPR hT
                have HQR := Lib.hid hQR
                have HPR := Lib.hid hPR
                have HTl := Lib.hid hT
                clear hQR hPR hT
                first
                | (by_cases hd : d ≤ 0
                   · have bd : decide (d ≤ 0) = true := by simpa using hd
                     have bf : decide (0 < f) = false := by have h := HTl.out; simp at h; simp; omega
                     go_wp2_with fail
                     refine (HQR.out _).mono ?_
                     rintro e wd ⟨rfl, hgd⟩
                     have hbd := hgd.below
                     have hbw : Below wr.heap.size wr wd := Below.trans (by (repeat (first | exact Below.refl _ _ | assumption | refine Below.drew ?_ | refine Below.setCell ?_ (by simp; try omega) _ | refine Below.alloc ?_ (by simp; try omega) _))) (hbd.mono (by simp))
                     obtain ⟨⟨F0, F1, F2⟩, _, _, hbpd, _⟩ := HKA.out wd (HBl.out.trans (hbw.mono HBl.out.size))
                     have R0 : wd.cell? ⟨wr.heap.size, 0, none⟩ = some (.int .i64 rk) := (hbd.cell (p := ⟨wr.heap.size, 0, none⟩) (by simp)).trans (by go_simp)
                     have R1 : wd.cell? ⟨wr.heap.size, 1, none⟩ = some (.int .i64 rn) := (hbd.cell (p := ⟨wr.heap.size, 1, none⟩) (by simp)).trans (by go_simp)
                     have R2 : wd.cell? ⟨wr.heap.size, 2, none⟩ = some (.string rs) := (hbd.cell (p := ⟨wr.heap.size, 2, none⟩) (by simp)).trans (by go_simp)
                     have HBd : Hid (Below wc.heap.size wc wd) := hbl.out.trans (hbw.mono hbl.out.size)
                     clear hgd hbd hbw D0 D1 D2 E0 E1 E2 r0 r1 r2
                     go_wp2_with fail
                     refine (HPR.out _).mono ?_
                     rintro e we ⟨rfl, hge⟩
                     have HBe : Hid (Below wc.heap.size wc we) := HBd.out.trans (hge.below.mono HBd.out.size)
                     clear hge F0 F1 F2 R0 R1 R2
                     go_wp2_with fail
                     go_roundg (5 - (l + 1))
                     case measure => omega
                     case rel => exact ⟨l + 1, by omega, Nat.le_refl _, by go_num, HBe⟩
                   · have bd : decide (d ≤ 0) = false := by simpa using hd
                     go_wp2_with fail
                     refine (HQR.out _).mono ?_
                     rintro e wd ⟨rfl, hgd⟩
                     have hbw : Below wr.heap.size wr wd := Below.trans (by (repeat (first | exact Below.refl _ _ | assumption | refine Below.drew ?_ | refine Below.setCell ?_ (by simp; try omega) _ | refine Below.alloc ?_ (by simp; try omega) _))) (hgd.below.mono (by simp))
                     have HBd : Hid (Below wc.heap.size wc wd) := hbl.out.trans (hbw.mono hbl.out.size)
                     clear hgd hbw D0 D1 D2 E0 E1 E2 r0 r1 r2
                     go_wp2_with fail
                     go_roundg (5 - (l + 1))
                     case measure => omega
                     case rel => exact ⟨l + 1, by omega, Nat.le_refl _, by go_num, HBd⟩)
                | (go_wp2_with fail
                   go_roundg (5 - (l + 1))
                   case measure => omega
                   case rel => exact ⟨l + 1, by omega, Nat.le_refl _, by go_num, Below.alloc hbl.out hbl.out.size _⟩)
              · have hl5 : l = 5 := by omega
                subst hl5
                clear hlt3
                go_wp2_with fail
                go_roundg (5 - (j + 1))
                case measure => omega
                case rel => exact ⟨j + 1, by omega, Nat.le_refl _, by go_num, HBPC.out.trans (hbl.out.mono HBPC.out.size)⟩
        · have hj5 : j = 5 := by omega
          subst hj5
          clear hlt2
          go_wp2_with fail
          go_roundg (5 - (k + 1))
          case measure => omega
          case rel => exact ⟨k + 1, by omega, Nat.le_refl _, by go_num, HBp.out.trans (hbj.out.mono HBp.out.size)⟩
    · have hk5 : k = 5 := by omega
      subst hk5
      clear hlt
      go_wp2_with fail
      refine (HB.out _).mono ?_
      rintro e wf ⟨rfl, hbf⟩
      go_wp2_with fail
      go_ret
      exact ⟨rfl, BW5.out.trans ((hbk.out.trans (hbf.mono hbk.out.size)).mono BW5.out.size)⟩
end Go.Proofs.Ythlamhlbeabjdaa
