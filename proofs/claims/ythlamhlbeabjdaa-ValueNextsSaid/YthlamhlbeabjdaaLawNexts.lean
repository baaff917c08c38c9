/- Law ValueNexts. -/
import Derived.Test.YthlamhlbeabjdaaLawCompares
import Derived.Test.YthlamhlbeabjdaaNextMath
namespace Go.Proofs.Ythlamhlbeabjdaa
open Go.RowKit Go.Deep

theorem Vals.mv {bc : Nat} {w w' : World} {b : Nat} {vs : List V} (h : Vals w b vs) (hm : Mv bc w w') (hn : b ≠ bc) : Vals w' b vs := by
  have hc : ∀ o, w'.cell? ⟨b, o, none⟩ = w.cell? ⟨b, o, none⟩ := fun o => hm.cell (p := ⟨b, o, none⟩) h.1 hn
  refine ⟨Nat.lt_of_lt_of_le h.1 hm.size, fun i hi => ?_⟩
  obtain ⟨h0, h1, h2⟩ := h.2 i hi
  exact ⟨(hc _).trans h0, (hc _).trans h1, (hc _).trans h2⟩
theorem Mv.cells3 {bc : Nat} {w w' : World} (hm : Mv bc w w') {b : Nat} (hb : b < w.heap.size) (hn : b ≠ bc) {x y z : Value} (h : w.cell? ⟨b, 0, none⟩ = some x ∧ w.cell? ⟨b, 1, none⟩ = some y ∧ w.cell? ⟨b, 2, none⟩ = some z) : w'.cell? ⟨b, 0, none⟩ = some x ∧ w'.cell? ⟨b, 1, none⟩ = some y ∧ w'.cell? ⟨b, 2, none⟩ = some z :=
  ⟨(hm.cell (p := ⟨b, 0, none⟩) hb hn).trans h.1, (hm.cell (p := ⟨b, 1, none⟩) hb hn).trans h.2.1, (hm.cell (p := ⟨b, 2, none⟩) hb hn).trans h.2.2⟩
theorem new3 (w : World) (x y z : Value) (t : TypeId) : (w.alloc (.cells #[x, y, z] t)).cell? ⟨w.heap.size, 0, none⟩ = some x ∧ (w.alloc (.cells #[x, y, z] t)).cell? ⟨w.heap.size, 1, none⟩ = some y ∧ (w.alloc (.cells #[x, y, z] t)).cell? ⟨w.heap.size, 2, none⟩ = some z :=
  ⟨World.cell?_alloc_mark w #[x, y, z] t (0, 0) 0, World.cell?_alloc_mark w #[x, y, z] t (0, 0) 1, World.cell?_alloc_mark w #[x, y, z] t (0, 0) 2⟩
theorem below3 {w w' : World} (hb : Below w.heap.size w w') {b : Nat} (hl : b < w.heap.size) {x y z : Value} (h : w.cell? ⟨b, 0, none⟩ = some x ∧ w.cell? ⟨b, 1, none⟩ = some y ∧ w.cell? ⟨b, 2, none⟩ = some z) : w'.cell? ⟨b, 0, none⟩ = some x ∧ w'.cell? ⟨b, 1, none⟩ = some y ∧ w'.cell? ⟨b, 2, none⟩ = some z :=
  ⟨(hb.cell (p := ⟨b, 0, none⟩) hl).trans h.1, (hb.cell (p := ⟨b, 1, none⟩) hl).trans h.2.1, (hb.cell (p := ⟨b, 2, none⟩) hl).trans h.2.2⟩

set_option maxHeartbeats 2000000 in
theorem nexts_walk (cv : Value) (cn : Nat) (ka na : Int) (sa : ByteArray) (w : World) (hcv : BytesAt w cv cn) (hva : -9223372036854775808 ≤ ka ∧ ka ≤ 9223372036854775807 ∧ -9223372036854775808 ≤ na ∧ na ≤ 9223372036854775807) : Calls Try.prog 5 #[cv, .agg #[.int .i64 ka, .int .i64 na, .string sa]] w fun e w' => e = .returned (.bool true) ∧ Below w.heap.size w w' := by
  have HN : Hid (∀ O1, Calls Try.prog 11 #[cv, .int .i64 90] (w.alloc O1) (NewPost (w.alloc O1))) := fun O1 => cNew_any cv cn _ (hcv.below (by (repeat (first | exact Below.refl _ _ | assumption | refine Below.drew ?_ | refine Below.setCell ?_ (by simp; try omega) _ | refine Below.alloc ?_ (by simp; try omega) _))))
  obtain ⟨qa, qc, rfl, _⟩ := hcv
  have HB : Hid (∀ W, Calls Try.prog 13 #[] W fun e w' => e = .returned (.bool true) ∧ Below W.heap.size W w') := begun_any
  go_enter Try.func5, Try.ntmps5
  go_wp2_with fail
  refine (HN.out _).mono ?_
  rintro e w1 ⟨bc, rfl, hb1, hbc, hok⟩
  have hs1 := hb1.size
  simp only [World.size_alloc] at hs1 hbc hb1
  have a0 : w1.cell? ⟨w.heap.size, 0, none⟩ = some (.int .i64 ka) := (hb1.cell (p := ⟨w.heap.size, 0, none⟩) (by simp only; omega)).trans (by go_simp)
  have a1 : w1.cell? ⟨w.heap.size, 1, none⟩ = some (.int .i64 na) := (hb1.cell (p := ⟨w.heap.size, 1, none⟩) (by simp only; omega)).trans (by go_simp)
  have a2 : w1.cell? ⟨w.heap.size, 2, none⟩ = some (.string sa) := (hb1.cell (p := ⟨w.heap.size, 2, none⟩) (by simp only; omega)).trans (by go_simp)
  have BW : Hid (Below w.heap.size w w1) := Below.trans (by (repeat (first | exact Below.refl _ _ | assumption | refine Below.drew ?_ | refine Below.setCell ?_ (by simp; try omega) _ | refine Below.alloc ?_ (by simp; try omega) _))) (hb1.mono (by omega))
  have hB1 : w.heap.size + 1 ≤ w1.heap.size := hs1
  have hOK := hok
  have hbcl := hok.lt.1
  have HK : Hid (∀ W, Below (w.heap.size + 1) w1 W → W.cell? ⟨w.heap.size, 0, none⟩ = some (.int .i64 ka) ∧ W.cell? ⟨w.heap.size, 1, none⟩ = some (.int .i64 na) ∧ W.cell? ⟨w.heap.size, 2, none⟩ = some (.string sa)) := fun W hb => ⟨(hb.cell (p := ⟨w.heap.size, 0, none⟩) (by simp only; omega)).trans a0, (hb.cell (p := ⟨w.heap.size, 1, none⟩) (by simp only; omega)).trans a1, (hb.cell (p := ⟨w.heap.size, 2, none⟩) (by simp only; omega)).trans a2⟩
  clear hb1 HN hs1
  have tok1 : True := trivial
  go_wp2_with fail
  go_region_held3 (fun W => W.cell? ⟨w.heap.size, 0, none⟩ = some (.int .i64 ka) ∧ W.cell? ⟨w.heap.size, 1, none⟩ = some (.int .i64 na) ∧ W.cell? ⟨w.heap.size, 2, none⟩ = some (.string sa))
    (first | exact ⟨a0e, a1e, a2e⟩ | exact ⟨a0d, a1d, a2d⟩ | exact ⟨a0, a1, a2⟩ | exact HK.out _ (Below.alloc (by assumption) (by omega) _))
    (first | (go_at_call 12; have _t := tok1; (with_reducible refine (cAny_any bc w1.heap.size _ (by first | exact hok | exact CaseOk.below hok (Below.drew (Below.refl _ _)) (Nat.le_refl _))).mono ?_); rintro e wzd ⟨kd, nd, sd, rfl, hvd, hld, hud, hmd, hokd⟩; have hbd : Below (w.heap.size + 1) w1 wzd := Below.trans (by (repeat (first | exact Below.refl _ _ | assumption | refine Below.drew ?_ | refine Below.setCell ?_ (by simp; try omega) _ | refine Below.alloc ?_ (by simp; try omega) _))) (hmd.below hbc (by first | (simp; omega) | omega)); obtain ⟨a0d, a1d, a2d⟩ := HK.out wzd hbd; have hzd : w1.heap.size ≤ wzd.heap.size := hbd.size; clear tok1; clear hvd hmd) | (go_at_call 12; (with_reducible refine (cAny_any bc w1.heap.size _ (by first | exact hokd | exact CaseOk.below hokd (Below.drew (Below.refl _ _)) (Nat.le_refl _))).mono ?_); rintro e wze ⟨ke, ne, se, rfl, hve, hle, hue, hme, hoke⟩; have hbe : Below (w.heap.size + 1) w1 wze := Below.trans (by (repeat (first | exact Below.refl _ _ | assumption | refine Below.drew ?_ | refine Below.setCell ?_ (by simp; try omega) _ | refine Below.alloc ?_ (by simp; try omega) _))) (hme.below hbc (by first | (simp; omega) | omega)); obtain ⟨a0e, a1e, a2e⟩ := HK.out wze hbe; have hze : w1.heap.size ≤ wze.heap.size := hbe.size; clear hve hme))
  go_wp2_with fail
  have hV : Vals (wze.alloc (.cells #[.int .i64 ka, .int .i64 na, .string sa, .int .i64 kd, .int .i64 nd, .string sd, .int .i64 ke, .int .i64 ne, .string se] 24)) wze.heap.size [⟨ka, na, sa⟩, ⟨kd, nd, sd⟩, ⟨ke, ne, se⟩] := by
    refine ⟨by simp, fun i hi => ?_⟩
    have hi3 : i < 3 := hi
    have hc : i = 0 ∨ i = 1 ∨ i = 2 := by omega
    rcases hc with rfl | rfl | rfl <;> (refine ⟨?_, ?_, ?_⟩ <;> go_simp)
  have hVB : ∀ x ∈ ([⟨ka, na, sa⟩, ⟨kd, nd, sd⟩, ⟨ke, ne, se⟩] : List V), -9223372036854775808 ≤ x.n ∧ x.n ≤ 9223372036854775807 := by
    intro x hx
    simp only [List.mem_cons, List.not_mem_nil, or_false] at hx
    rcases hx with rfl | rfl | rfl
    · exact ⟨hva.2.2.1, hva.2.2.2⟩
    · exact ⟨hld, hud⟩
    · exact ⟨hle, hue⟩
  have BW5 : Hid (Below w.heap.size w (wze.alloc (.cells #[.int .i64 ka, .int .i64 na, .string sa, .int .i64 kd, .int .i64 nd, .string sd, .int .i64 ke, .int .i64 ne, .string se] 24))) := BW.out.trans ((Below.alloc hbe (by omega) _).mono (by omega))
  have HO5 : Hid (CaseOk bc w1.heap.size (wze.alloc (.cells #[.int .i64 ka, .int .i64 na, .string sa, .int .i64 kd, .int .i64 nd, .string sd, .int .i64 ke, .int .i64 ne, .string se] 24))) := hoke.alloc _
  have hNB : bc < wze.heap.size := by omega
  have hvl : ([⟨ka, na, sa⟩, ⟨kd, nd, sd⟩, ⟨ke, ne, se⟩] : List V).length = 3 := rfl
  generalize ([⟨ka, na, sa⟩, ⟨kd, nd, sd⟩, ⟨ke, ne, se⟩] : List V) = vs at hV hvl hVB
  obtain ⟨NL, hNL⟩ : ∃ NL, NL = wze.heap.size := ⟨_, rfl⟩
  rw [← hNL] at hV hNB
  rw [← hNL]
  obtain ⟨w5, hw5⟩ : ∃ w5, w5 = wze.alloc (.cells #[.int .i64 ka, .int .i64 na, .string sa, .int .i64 kd, .int .i64 nd, .string sd, .int .i64 ke, .int .i64 ne, .string se] 24) := ⟨_, rfl⟩
  rw [← hw5] at hV BW5 HO5
  rw [← hw5]
  have HV5 := Lib.hid hV
  have HVB := Lib.hid hVB
  obtain ⟨Bc, hBc⟩ : ∃ Bc, Bc = w1.heap.size := ⟨_, rfl⟩
  rw [← hBc] at HO5
  clear hV hVB hw5 hNL BW HK hbd hbe hzd hze hokd hoke hok hOK hB1 hld hud hle hue hbcl hBc hva
  clear a0 a0d a0e a1 a1d a1e a2 a2d a2e
  go_loopg [22] 3 (fun g i wr => ∃ k : Nat, k ≤ 3 ∧ 3 - k ≤ g ∧ i = .int .i64 k ∧ Hid (Mv bc w5 wr ∧ CaseOk bc Bc wr))
  case atStart => exact ⟨0, by omega, by omega, rfl, Mv.refl _ _, HO5.out⟩
  case round =>
    obtain ⟨k, hk, hgk, rfl, hbk⟩ := hrel
    by_cases hlt : k < 3
    · have hkd : decide ((k : Int) < 3) = true := by simp; omega
      have hv := HV5.out.mv hbk.out.1 (by omega)
      obtain ⟨p0, p1, p2⟩ := hv.2 k (by omega)
      have hNLr : NL < wr.heap.size := hv.1
      have hpb := HVB.out vs[k] (List.getElem_mem (by omega))
      generalize vs[k] = p at p0 p1 p2 hpb
      have HPB := Lib.hid hpb
      clear hv hpb
      have HN1 : Hid (∀ W, Calls Try.prog 20 #[.agg #[.int .i64 p.k, .int .i64 p.n, .string p.s]] W fun e w' => e = .returned (retV (nextV p.k p.n p.s)) ∧ Below W.heap.size W w') := fun W => vNext_any p.k p.n p.s W HPB.out.1
      have HN2 : Hid (∀ W, Calls Try.prog 21 #[.agg #[.int .i64 p.k, .int .i64 p.n, .string p.s]] W fun e w' => e = .returned (retV (nextV p.k p.n p.s)) ∧ Below W.heap.size W w') := fun W => rNext_any p.k p.n p.s W HPB.out.1 HPB.out.2
      have HBE : Hid ((nextV p.k p.n p.s).2 = true → Behind p (nextV p.k p.n p.s).1) := nextV_behind p.k p.n p.s HPB.out.1 HPB.out.2
      generalize nextV p.k p.n p.s = x at HN1 HN2 HBE
      obtain ⟨m, ok⟩ := x
      simp only [retV] at HN1 HN2
      simp only at HBE
      go_wp2_with fail
      refine (HN1.out _).mono ?_
      rintro e wa ⟨rfl, hba⟩
      have hsa := hba.size
      simp only [World.size_alloc] at hsa
      have hPa := below3 hba (by simp) (new3 wr _ _ _ _)
      have hbra : Below wr.heap.size wr wa := Below.trans (by (repeat (first | exact Below.refl _ _ | assumption | refine Below.drew ?_ | refine Below.setCell ?_ (by simp; try omega) _ | refine Below.alloc ?_ (by simp; try omega) _))) (hba.mono (by simp))
      have HMa : Hid (Mv bc w5 wa ∧ CaseOk bc Bc wa) := ⟨hbk.out.1.trans (Mv.of_below hbra), hbk.out.2.below hbra hbk.out.2.lt.2⟩
      have hbcp : bc < wr.heap.size := by omega
      obtain ⟨bp, hbp⟩ : ∃ bp, bp = wr.heap.size := ⟨_, rfl⟩
      rw [← hbp] at hPa hsa hbcp
      rw [← hbp]
      have hPa' := hPa
      obtain ⟨P0, P1, P2⟩ := hPa
      have HPA := Lib.hid hPa'
      have hbpa : bp < wa.heap.size := by omega
      clear hba hbra hbp hPa' p0 p1 p2 HN1 hsa hNLr
      go_wp2_with fail
      refine (HN2.out _).mono ?_
      rintro e wb ⟨rfl, hbb⟩
      have hsb := hbb.size
      simp only [World.size_alloc] at hsb
      have hMb := below3 hbb (by simp) (new3 wa _ _ _ _)
      have hbab : Below wa.heap.size wa wb := Below.trans (by (repeat (first | exact Below.refl _ _ | assumption | refine Below.drew ?_ | refine Below.setCell ?_ (by simp; try omega) _ | refine Below.alloc ?_ (by simp; try omega) _))) (hbb.mono (by simp))
      have hPb := below3 hbab hbpa HPA.out
      have HMb : Hid (Mv bc w5 wb ∧ CaseOk bc Bc wb) := ⟨HMa.out.1.trans (Mv.of_below hbab), HMa.out.2.below hbab HMa.out.2.lt.2⟩
      obtain ⟨bm, hbm⟩ : ∃ bm, bm = wa.heap.size := ⟨_, rfl⟩
      rw [← hbm] at hMb hsb hbpa
      rw [← hbm]
      have HPBm : Hid ((wb.cell? ⟨bp, 0, none⟩ = some (.int .i64 p.k) ∧ wb.cell? ⟨bp, 1, none⟩ = some (.int .i64 p.n) ∧ wb.cell? ⟨bp, 2, none⟩ = some (.string p.s)) ∧ (wb.cell? ⟨bm, 0, none⟩ = some (.int .i64 m.k) ∧ wb.cell? ⟨bm, 1, none⟩ = some (.int .i64 m.n) ∧ wb.cell? ⟨bm, 2, none⟩ = some (.string m.s))) := ⟨hPb, hMb⟩
      obtain ⟨Q0, Q1, Q2⟩ := hPb
      obtain ⟨M0, M1, M2⟩ := hMb
      have hbmb : bm < wb.heap.size := by omega
      have hbpb : bp < wb.heap.size := by omega
      clear hbb hbab hbm P0 P1 P2 HPA HN2 hsb
      have hne := fun W => neV_run m.k m.n m.s m.k m.n m.s W
      simp only [decide_true, Bool.not_true] at hne
      cases ok
      · go_wp2_with fail
        go_roundg (3 - (k + 1))
        case measure => omega
        case rel => exact ⟨k + 1, by omega, Nat.le_refl _, by go_num, HMb.out.1.trans (Mv.of_below (by (repeat (first | exact Below.refl _ _ | assumption | refine Below.drew ?_ | refine Below.setCell ?_ (by simp; try omega) _ | refine Below.alloc ?_ (by simp; try omega) _)))), HMb.out.2.alloc _⟩
      · have hbe := HBE.out rfl
        go_wp2_with fail
        clear hne
        refine (cAny_any bc Bc _ (HMb.out.2.alloc _)).mono ?_
        rintro e wc ⟨kq, nq, sq, rfl, hvq, hlq, huq, hmq, hoq⟩
        have hNot := hbe.2.2 ⟨kq, nq, sq⟩ hvq hlq huq
        have hval := hbe.1
        have hcm := hbe.2.1
        have hsc := hmq.size
        simp only [World.size_alloc] at hsc
        have hbc1 : Mv bc wb wc := ((Mv.refl bc wb).alloc _).trans hmq
        have hPc := hbc1.cells3 hbpb (by omega) HPBm.out.1
        have hMc := hbc1.cells3 hbmb (by omega) HPBm.out.2
        have HMc : Hid (Mv bc w5 wc ∧ CaseOk bc Bc wc) := ⟨HMb.out.1.trans hbc1, hoq⟩
        have hbpc : bp < wc.heap.size := by omega
        have hbmc : bm < wc.heap.size := by omega
        have hVAL : Hid (∀ W, Calls Try.prog 14 #[.agg #[.int .i64 m.k, .int .i64 m.n, .string m.s]] W fun e w' => e = .returned (.bool true) ∧ Below W.heap.size W w') := fun W => by
          have := vValid_any m.k m.n m.s W; rw [hval] at this; exact this.mono fun _ _ ⟨a, b⟩ => ⟨a, b.below⟩
        have hCPM : Hid (∀ W, Calls Try.prog 18 #[.agg #[.int .i64 p.k, .int .i64 p.n, .string p.s], .agg #[.int .i64 m.k, .int .i64 m.n, .string m.s]] W fun e w' => e = .returned (.int .i64 (-1)) ∧ Below W.heap.size W w') := fun W => by
          have := vCompare_any p.k p.n p.s m.k m.n m.s W; rw [show cmpV ⟨p.k, p.n, p.s⟩ ⟨m.k, m.n, m.s⟩ = -1 from hcm] at this; exact this.mono fun _ _ ⟨a, b⟩ => ⟨a, b.below⟩
        have hPQ := fun W => vCompare_any p.k p.n p.s kq nq sq W
        have hQM := fun W => vCompare_any kq nq sq m.k m.n m.s W
        have hNot' : ¬ (cmpV ⟨p.k, p.n, p.s⟩ ⟨kq, nq, sq⟩ < 0 ∧ cmpV ⟨kq, nq, sq⟩ ⟨m.k, m.n, m.s⟩ < 0) := hNot
        generalize cmpV ⟨p.k, p.n, p.s⟩ ⟨kq, nq, sq⟩ = c1 at hPQ hNot'
        generalize cmpV ⟨kq, nq, sq⟩ ⟨m.k, m.n, m.s⟩ = c2 at hQM hNot'
        have HPQ : Hid (∀ W, Calls Try.prog 18 #[.agg #[.int .i64 p.k, .int .i64 p.n, .string p.s], .agg #[.int .i64 kq, .int .i64 nq, .string sq]] W fun e w' => e = .returned (.int .i64 c1) ∧ Below W.heap.size W w') := fun W => (hPQ W).mono fun _ _ ⟨a, b⟩ => ⟨a, b.below⟩
        have HQM : Hid (∀ W, Calls Try.prog 18 #[.agg #[.int .i64 kq, .int .i64 nq, .string sq], .agg #[.int .i64 m.k, .int .i64 m.n, .string m.s]] W fun e w' => e = .returned (.int .i64 c2) ∧ Below W.heap.size W w') := fun W => (hQM W).mono fun _ _ ⟨a, b⟩ => ⟨a, b.below⟩
        have HPMc : Hid ((wc.cell? ⟨bp, 0, none⟩ = some (.int .i64 p.k) ∧ wc.cell? ⟨bp, 1, none⟩ = some (.int .i64 p.n) ∧ wc.cell? ⟨bp, 2, none⟩ = some (.string p.s)) ∧ (wc.cell? ⟨bm, 0, none⟩ = some (.int .i64 m.k) ∧ wc.cell? ⟨bm, 1, none⟩ = some (.int .i64 m.n) ∧ wc.cell? ⟨bm, 2, none⟩ = some (.string m.s))) := ⟨hPc, hMc⟩
        obtain ⟨R0, R1, R2⟩ := hPc
        obtain ⟨S0, S1, S2⟩ := hMc
        clear hbe hNot hval hcm hmq hoq hbc1 hPQ hQM hvq hlq huq HBE HPBm Q0 Q1 Q2 M0 M1 M2 hsc hbpb hbmb
        go_wp2_with fail
        refine (hVAL.out _).mono ?_
        rintro e wd ⟨rfl, hbd⟩
        have hsd := hbd.size
        simp only [World.size_alloc] at hsd
        have hQd := below3 hbd (by simp) (new3 wc _ _ _ _)
        have hbcd : Below wc.heap.size wc wd := Below.trans (by (repeat (first | exact Below.refl _ _ | assumption | refine Below.drew ?_ | refine Below.setCell ?_ (by simp; try omega) _ | refine Below.alloc ?_ (by simp; try omega) _))) (hbd.mono (by simp))
        have hPd := below3 hbcd hbpc HPMc.out.1
        have hMd := below3 hbcd hbmc HPMc.out.2
        have HMd : Hid (Mv bc w5 wd ∧ CaseOk bc Bc wd) := ⟨HMc.out.1.trans (Mv.of_below hbcd), HMc.out.2.below hbcd HMc.out.2.lt.2⟩
        obtain ⟨bq, hbq⟩ : ∃ bq, bq = wc.heap.size := ⟨_, rfl⟩
        rw [← hbq] at hQd hsd
        rw [← hbq]
        have hbpd : bp < wd.heap.size := by omega
        have hbmd : bm < wd.heap.size := by omega
        have hbqd : bq < wd.heap.size := by omega
        have HKd : Hid (∀ W, Below wd.heap.size wd W → ((W.cell? ⟨bp, 0, none⟩ = some (.int .i64 p.k) ∧ W.cell? ⟨bp, 1, none⟩ = some (.int .i64 p.n) ∧ W.cell? ⟨bp, 2, none⟩ = some (.string p.s)) ∧ (W.cell? ⟨bm, 0, none⟩ = some (.int .i64 m.k) ∧ W.cell? ⟨bm, 1, none⟩ = some (.int .i64 m.n) ∧ W.cell? ⟨bm, 2, none⟩ = some (.string m.s)) ∧ (W.cell? ⟨bq, 0, none⟩ = some (.int .i64 kq) ∧ W.cell? ⟨bq, 1, none⟩ = some (.int .i64 nq) ∧ W.cell? ⟨bq, 2, none⟩ = some (.string sq))) ∧ (Mv bc w5 W ∧ CaseOk bc Bc W)) := fun W hb =>
          ⟨⟨below3 hb hbpd hPd, below3 hb hbmd hMd, below3 hb hbqd hQd⟩, HMd.out.1.trans (Mv.of_below hb), HMd.out.2.below hb HMd.out.2.lt.2⟩
        obtain ⟨T0, T1, T2⟩ := hPd
        obtain ⟨U0, U1, U2⟩ := hMd
        clear hbd hQd hbcd hbq R0 R1 R2 S0 S1 S2 HPMc hVAL hsd hbpc hbmc hbpd hbmd hbqd
        go_wp2_with fail
        refine (hCPM.out _).mono ?_
        rintro e we ⟨rfl, hbe⟩
        obtain ⟨⟨⟨A0, A1, A2⟩, ⟨B0, B1, B2⟩, ⟨C0, C1, C2⟩⟩, _⟩ := HKd.out we hbe
        have HBE := Lib.hid hbe
        clear hbe T0 T1 T2 U0 U1 U2
        by_cases hc1 : c1 < 0
        · have d1 : decide (c1 < 0) = true := by simpa using hc1
          have d2 : decide (c2 < 0) = false := by simp; omega
          go_wp2_with fail
          refine (HPQ.out _).mono ?_
          rintro e wf ⟨rfl, hbf⟩
          have HBF : Hid (Below wd.heap.size wd wf) := HBE.out.trans (hbf.mono HBE.out.size)
          obtain ⟨⟨⟨D0, D1, D2⟩, ⟨E0, E1, E2⟩, ⟨G0, G1, G2⟩⟩, _⟩ := HKd.out wf HBF.out
          clear hbf A0 A1 A2 B0 B1 B2 C0 C1 C2
          go_wp2_with fail
          refine (HQM.out _).mono ?_
          rintro e wg ⟨rfl, hbg⟩
          have HBG : Hid (Mv bc w5 wg ∧ CaseOk bc Bc wg) := (HKd.out wg (HBF.out.trans (hbg.mono HBF.out.size))).2
          clear hbg D0 D1 D2 E0 E1 E2 G0 G1 G2
          go_wp2_with fail
          go_roundg (3 - (k + 1))
          case measure => omega
          case rel => exact ⟨k + 1, by omega, Nat.le_refl _, by go_num, HBG⟩
        · have d1 : decide (c1 < 0) = false := by simpa using hc1
          go_wp2_with fail
          refine (HPQ.out _).mono ?_
          rintro e wf ⟨rfl, hbf⟩
          have HBF : Hid (Mv bc w5 wf ∧ CaseOk bc Bc wf) := (HKd.out wf (HBE.out.trans (hbf.mono HBE.out.size))).2
          clear hbf A0 A1 A2 B0 B1 B2 C0 C1 C2
          go_wp2_with fail
          go_roundg (3 - (k + 1))
          case measure => omega
          case rel => exact ⟨k + 1, by omega, Nat.le_refl _, by go_num, HBF⟩
    · have hk3 : k = 3 := by omega
      subst hk3
      clear hlt
      go_wp2_with fail
      refine (HB.out _).mono ?_
      rintro e wh ⟨rfl, hbh⟩
      go_wp2_with fail
      go_ret
      have h1 := hbk.out.1.below (B := w.heap.size) (by omega) BW5.out.size
      exact ⟨rfl, BW5.out.trans (h1.trans (hbh.mono (Nat.le_trans BW5.out.size hbk.out.1.size)))⟩
end Go.Proofs.Ythlamhlbeabjdaa
