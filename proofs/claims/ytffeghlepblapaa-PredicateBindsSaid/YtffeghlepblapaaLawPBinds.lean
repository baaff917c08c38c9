/- Law PredicateBinds. -/
import Derived.Test.YtffeghlepblapaaPdTree
import Derived.Test.YtffeghlepblapaaPdRow
import Derived.Test.YtffeghlepblapaaPdNew
import Derived.Test.YtffeghlepblapaaPdHolds
import Derived.Test.YtffeghlepblapaaPdCheck
import Derived.Test.YtffeghlepblapaaPdBegun
import Derived.Test.YtffeghlepblapaaPdBind
import Derived.Test.YtffeghlepblapaaPdRefBind
import Derived.Test.YtffeghlepblapaaPdRefEqual
namespace Go.Proofs.Ytffeghlepblapaa
open Go.RowKit Go.Deep

theorem intsAt_nil (W : World) : IntsAt W (.slice none 0 0) [] := (IntsG.nil 0 W).at
theorem pdAt_box {W : World} {p : PT} {a : Option Addr} {c : Nat} (h : PdS (fun _ => True) W p.args a c) : Pd W (pdV p a c) p := ⟨a, c, rfl, h⟩
theorem rEqual_self (p : PT) (v v' : Value) (W : World) (h : Pd W v p) (h' : Pd W v' p) : Calls Try.prog 20 #[v, v'] W fun e w' => e = .returned (.bool true) ∧ Below W.heap.size W w' := by
  have := rEqualP_any p.depth p p (Nat.le_refl _) v v' W h h'
  rw [eqT_refl] at this
  exact this
theorem fits_of {Q : List V} {K : List Int} (h : FitV Q K) : Fits Q K := h

set_option linter.unusedSimpArgs false in
set_option maxRecDepth 100000 in
set_option maxHeartbeats 1000000 in
theorem pbinds_walk (cv : Value) (cn : Nat) (rv : Value) (R : PT) (pv : Value) (PV : List V) (ov : Value) (OV : List V) (w : World) (hcv : BytesAt w cv cn) (hrv : Pd w rv R) (hwr : widP R) (hpv : RowAt w pv PV) (hov : RowAt w ov OV) : Calls Try.prog 5 #[cv, rv, pv, ov] w fun e w' => e = .returned (.bool true) ∧ Below w.heap.size w w' := by
  obtain ⟨ra, rc, rfl, hrs⟩ := hrv
  obtain ⟨rop, rcmp, ⟨rlk, rli, ⟨rlvk, rlvn, rlvs⟩⟩, ⟨rrk, rri, ⟨rrvk, rrvn, rrvs⟩⟩, rs⟩ := R
  have HR0 : Hid (Pd w (pdV (PT.mk rop rcmp ⟨rlk, rli, ⟨rlvk, rlvn, rlvs⟩⟩ ⟨rrk, rri, ⟨rrvk, rrvn, rrvs⟩⟩ rs) ra rc) (PT.mk rop rcmp ⟨rlk, rli, ⟨rlvk, rlvn, rlvs⟩⟩ ⟨rrk, rri, ⟨rrvk, rrvn, rrvs⟩⟩ rs)) := ⟨ra, rc, rfl, hrs⟩
  have HWR := Lib.hid hwr
  have HPV := Lib.hid hpv
  have HOV := Lib.hid hov
  simp only [pdV, PT.op, PT.cmp, PT.l, PT.r, PT.args] at HR0 ⊢
  obtain ⟨rn, hrn⟩ : ∃ rn, rs.length = rn := ⟨_, rfl⟩
  rw [hrn] at HR0 ⊢
  obtain ⟨wa, hwa⟩ : ∃ wa, w.alloc (.cells #[.int .i64 rop, .int .i64 rcmp, .int .i64 rlk, .int .i64 rli, .int .i64 rlvk, .int .i64 rlvn, .string rlvs, .int .i64 rrk, .int .i64 rri, .int .i64 rrvk, .int .i64 rrvn, .string rrvs, .slice ra rn rc] 29) = wa := ⟨_, rfl⟩
  have HWA : Hid (Below w.heap.size w wa) := by rw [← hwa]; exact (Below.refl _ _).alloc (Nat.le_refl _) _
  have hwas : w.heap.size < wa.heap.size := by rw [← hwa]; simp
  have a0 : wa.cell? ⟨w.heap.size, 0, none⟩ = some (.int .i64 rop) := by subst hwa; go_simp
  have a1 : wa.cell? ⟨w.heap.size, 1, none⟩ = some (.int .i64 rcmp) := by subst hwa; go_simp
  have a2 : wa.cell? ⟨w.heap.size, 2, none⟩ = some (.int .i64 rlk) := by subst hwa; go_simp
  have a3 : wa.cell? ⟨w.heap.size, 3, none⟩ = some (.int .i64 rli) := by subst hwa; go_simp
  have a4 : wa.cell? ⟨w.heap.size, 4, none⟩ = some (.int .i64 rlvk) := by subst hwa; go_simp
  have a5 : wa.cell? ⟨w.heap.size, 5, none⟩ = some (.int .i64 rlvn) := by subst hwa; go_simp
  have a6 : wa.cell? ⟨w.heap.size, 6, none⟩ = some (.string rlvs) := by subst hwa; go_simp
  have a7 : wa.cell? ⟨w.heap.size, 7, none⟩ = some (.int .i64 rrk) := by subst hwa; go_simp
  have a8 : wa.cell? ⟨w.heap.size, 8, none⟩ = some (.int .i64 rri) := by subst hwa; go_simp
  have a9 : wa.cell? ⟨w.heap.size, 9, none⟩ = some (.int .i64 rrvk) := by subst hwa; go_simp
  have a10 : wa.cell? ⟨w.heap.size, 10, none⟩ = some (.int .i64 rrvn) := by subst hwa; go_simp
  have a11 : wa.cell? ⟨w.heap.size, 11, none⟩ = some (.string rrvs) := by subst hwa; go_simp
  have a12 : wa.cell? ⟨w.heap.size, 12, none⟩ = some (.slice ra rn rc) := by subst hwa; go_simp
  have HKR : Hid (∀ W, Below wa.heap.size wa W → W.cell? ⟨w.heap.size, 0, none⟩ = some (.int .i64 rop) ∧ W.cell? ⟨w.heap.size, 1, none⟩ = some (.int .i64 rcmp) ∧ W.cell? ⟨w.heap.size, 2, none⟩ = some (.int .i64 rlk) ∧ W.cell? ⟨w.heap.size, 3, none⟩ = some (.int .i64 rli) ∧ W.cell? ⟨w.heap.size, 4, none⟩ = some (.int .i64 rlvk) ∧ W.cell? ⟨w.heap.size, 5, none⟩ = some (.int .i64 rlvn) ∧ W.cell? ⟨w.heap.size, 6, none⟩ = some (.string rlvs) ∧ W.cell? ⟨w.heap.size, 7, none⟩ = some (.int .i64 rrk) ∧ W.cell? ⟨w.heap.size, 8, none⟩ = some (.int .i64 rri) ∧ W.cell? ⟨w.heap.size, 9, none⟩ = some (.int .i64 rrvk) ∧ W.cell? ⟨w.heap.size, 10, none⟩ = some (.int .i64 rrvn) ∧ W.cell? ⟨w.heap.size, 11, none⟩ = some (.string rrvs) ∧ W.cell? ⟨w.heap.size, 12, none⟩ = some (.slice ra rn rc)) := fun W hb => ⟨(hb.cell (p := ⟨w.heap.size, 0, none⟩) hwas).trans a0, (hb.cell (p := ⟨w.heap.size, 1, none⟩) hwas).trans a1, (hb.cell (p := ⟨w.heap.size, 2, none⟩) hwas).trans a2, (hb.cell (p := ⟨w.heap.size, 3, none⟩) hwas).trans a3, (hb.cell (p := ⟨w.heap.size, 4, none⟩) hwas).trans a4, (hb.cell (p := ⟨w.heap.size, 5, none⟩) hwas).trans a5, (hb.cell (p := ⟨w.heap.size, 6, none⟩) hwas).trans a6, (hb.cell (p := ⟨w.heap.size, 7, none⟩) hwas).trans a7, (hb.cell (p := ⟨w.heap.size, 8, none⟩) hwas).trans a8, (hb.cell (p := ⟨w.heap.size, 9, none⟩) hwas).trans a9, (hb.cell (p := ⟨w.heap.size, 10, none⟩) hwas).trans a10, (hb.cell (p := ⟨w.heap.size, 11, none⟩) hwas).trans a11, (hb.cell (p := ⟨w.heap.size, 12, none⟩) hwas).trans a12⟩
  have HN := Lib.hid (cNew_160 cv cn wa (hcv.below HWA.out))
  obtain ⟨sa, sc, rfl, _⟩ := hcv
  have HB : Hid (∀ W, Calls Try.prog 12 #[] W fun e w' => e = .returned (.bool true) ∧ Below W.heap.size W w') := begun5_any
  clear hrs hwr hpv hov hrn a0 a1 a2 a3 a4 a5 a6 a7 a8 a9 a10 a11 a12
  go_enter Try.func5, Try.ntmps5
  go_wp2_with fail
  try rw [hwa]
  clear hwa
  refine HN.out.mono ?_
  rintro e w1 ⟨bc, rfl, hb1, hbc, hok⟩
  have hlt : bc < w1.heap.size := hok.lt.1
  have HK0 := Lib.hid (lKinds_any bc w1.heap.size 4 (by omega) w1 hok)
  have B1 : Hid (Below wa.heap.size wa w1) := hb1
  have hs1 := hb1.size
  clear hb1 hok HN
  go_wp2_with fail
  refine HK0.out.mono ?_
  rintro e w2 ⟨kv, K, rfl, hkl, hkk, hki, hm2, ho2⟩
  obtain ⟨ka, kc, rfl⟩ := hki.shape
  have HKK : Hid (okKs K = true ∧ K.length ≤ 4) := ⟨hkk, hkl⟩
  have M2 := Lib.hid hm2
  have hs2 := hm2.size
  have HK1 := Lib.hid (lKinds_any bc w1.heap.size 3 (by omega) w2 ho2)
  have HKI := Lib.hid hki
  obtain ⟨kn, hkn⟩ : ∃ kn, K.length = kn := ⟨_, rfl⟩
  rw [hkn] at HKI ⊢
  clear hki ho2 hm2 HK0 hkk hkl hkn
  go_wp2_with fail
  refine HK1.out.mono ?_
  rintro e w3 ⟨mv, M, rfl, hml, hmk, hmi, hm3, ho3⟩
  obtain ⟨ma, mc, rfl⟩ := hmi.shape
  have HMK : Hid (okKs M = true ∧ M.length ≤ 3) := ⟨hmk, hml⟩
  replace M2 : Hid (Mv bc w1 w3) := M2.out.trans hm3
  have hs3 := hm3.size
  have HMI : Hid (IntsG w1.heap.size w3 (.slice ma M.length mc) M) := hmi.weak hs2
  replace HKI := Lib.hid (HKI.out.mv hm3 hlt)
  obtain ⟨mn, hmn⟩ : ∃ mn, M.length = mn := ⟨_, rfl⟩
  rw [hmn] at HMI ⊢
  have HP := Lib.hid (cPredicate_any bc w1.heap.size w1.heap.size K M (.slice ka kn kc) (.slice ma mn mc) 3 w3 ho3 (by omega) HKK.out.1 hmk (by have := HKK.out.2; omega) (by omega) HKI.out HMI.out hlt)
  clear hmi ho3 hm3 HK1 hmk hml hmn
  go_wp2_with fail
  refine HP.out.mono ?_
  rintro e w4 ⟨⟨pop, pcmp, ⟨plk, pli, ⟨plvk, plvn, plvs⟩⟩, ⟨prk, pri, ⟨prvk, prvn, prvs⟩⟩, ps⟩, pa, pc, rfl, hps, hpvl, hpsm, hm4, ho4⟩
  replace M2 : Hid (Mv bc w1 w4) := M2.out.trans hm4
  have hs4 := hm4.size
  replace HKI := Lib.hid (HKI.out.mv hm4 hlt)
  replace HMI := Lib.hid (HMI.out.mv hm4 hlt)
  have HPS : Hid (PdS (fun b => w1.heap.size ≤ b) w4 ps pa pc) := hps.weak (fun b hb => by omega)
  have HPV2 : Hid (vldP K M (PT.mk pop pcmp ⟨plk, pli, ⟨plvk, plvn, plvs⟩⟩ ⟨prk, pri, ⟨prvk, prvn, prvs⟩⟩ ps) = true ∧ smallP (PT.mk pop pcmp ⟨plk, pli, ⟨plvk, plvn, plvs⟩⟩ ⟨prk, pri, ⟨prvk, prvn, prvs⟩⟩ ps) = true) := ⟨hpvl, hpsm⟩
  have O4 := Lib.hid ho4
  simp only [pdV, PT.op, PT.cmp, PT.l, PT.r, PT.args]
  obtain ⟨pn, hpn⟩ : ∃ pn, ps.length = pn := ⟨_, rfl⟩
  have HPN := Lib.hid hpn
  rw [hpn]
  clear hps hpvl hpsm hm4 ho4 HP hpn
  go_wp2_with fail
  obtain ⟨wb, hwb⟩ : ∃ wb, w4.alloc (.cells #[.int .i64 pop, .int .i64 pcmp, .int .i64 plk, .int .i64 pli, .int .i64 plvk, .int .i64 plvn, .string plvs, .int .i64 prk, .int .i64 pri, .int .i64 prvk, .int .i64 prvn, .string prvs, .slice pa pn pc] 29) = wb := ⟨_, rfl⟩
  have BB : Below w4.heap.size w4 wb := by rw [← hwb]; exact (Below.refl _ _).alloc (Nat.le_refl _) _
  have OB : CaseOk bc w1.heap.size wb := by rw [← hwb]; exact O4.out.alloc _
  have hsb : wb.heap.size = w4.heap.size + 1 := by rw [← hwb]; simp
  have a0 : wb.cell? ⟨w4.heap.size, 0, none⟩ = some (.int .i64 pop) := by subst hwb; go_simp
  have a1 : wb.cell? ⟨w4.heap.size, 1, none⟩ = some (.int .i64 pcmp) := by subst hwb; go_simp
  have a2 : wb.cell? ⟨w4.heap.size, 2, none⟩ = some (.int .i64 plk) := by subst hwb; go_simp
  have a3 : wb.cell? ⟨w4.heap.size, 3, none⟩ = some (.int .i64 pli) := by subst hwb; go_simp
  have a4 : wb.cell? ⟨w4.heap.size, 4, none⟩ = some (.int .i64 plvk) := by subst hwb; go_simp
  have a5 : wb.cell? ⟨w4.heap.size, 5, none⟩ = some (.int .i64 plvn) := by subst hwb; go_simp
  have a6 : wb.cell? ⟨w4.heap.size, 6, none⟩ = some (.string plvs) := by subst hwb; go_simp
  have a7 : wb.cell? ⟨w4.heap.size, 7, none⟩ = some (.int .i64 prk) := by subst hwb; go_simp
  have a8 : wb.cell? ⟨w4.heap.size, 8, none⟩ = some (.int .i64 pri) := by subst hwb; go_simp
  have a9 : wb.cell? ⟨w4.heap.size, 9, none⟩ = some (.int .i64 prvk) := by subst hwb; go_simp
  have a10 : wb.cell? ⟨w4.heap.size, 10, none⟩ = some (.int .i64 prvn) := by subst hwb; go_simp
  have a11 : wb.cell? ⟨w4.heap.size, 11, none⟩ = some (.string prvs) := by subst hwb; go_simp
  have a12 : wb.cell? ⟨w4.heap.size, 12, none⟩ = some (.slice pa pn pc) := by subst hwb; go_simp
  have HCB : Hid (∀ W, Mv bc wb W → W.cell? ⟨w4.heap.size, 0, none⟩ = some (.int .i64 pop) ∧ W.cell? ⟨w4.heap.size, 1, none⟩ = some (.int .i64 pcmp) ∧ W.cell? ⟨w4.heap.size, 2, none⟩ = some (.int .i64 plk) ∧ W.cell? ⟨w4.heap.size, 3, none⟩ = some (.int .i64 pli) ∧ W.cell? ⟨w4.heap.size, 4, none⟩ = some (.int .i64 plvk) ∧ W.cell? ⟨w4.heap.size, 5, none⟩ = some (.int .i64 plvn) ∧ W.cell? ⟨w4.heap.size, 6, none⟩ = some (.string plvs) ∧ W.cell? ⟨w4.heap.size, 7, none⟩ = some (.int .i64 prk) ∧ W.cell? ⟨w4.heap.size, 8, none⟩ = some (.int .i64 pri) ∧ W.cell? ⟨w4.heap.size, 9, none⟩ = some (.int .i64 prvk) ∧ W.cell? ⟨w4.heap.size, 10, none⟩ = some (.int .i64 prvn) ∧ W.cell? ⟨w4.heap.size, 11, none⟩ = some (.string prvs) ∧ W.cell? ⟨w4.heap.size, 12, none⟩ = some (.slice pa pn pc)) := fun W hb => ⟨(hb.cell (p := ⟨w4.heap.size, 0, none⟩) (show w4.heap.size < _ by omega) (show w4.heap.size ≠ bc by omega)).trans a0, (hb.cell (p := ⟨w4.heap.size, 1, none⟩) (show w4.heap.size < _ by omega) (show w4.heap.size ≠ bc by omega)).trans a1, (hb.cell (p := ⟨w4.heap.size, 2, none⟩) (show w4.heap.size < _ by omega) (show w4.heap.size ≠ bc by omega)).trans a2, (hb.cell (p := ⟨w4.heap.size, 3, none⟩) (show w4.heap.size < _ by omega) (show w4.heap.size ≠ bc by omega)).trans a3, (hb.cell (p := ⟨w4.heap.size, 4, none⟩) (show w4.heap.size < _ by omega) (show w4.heap.size ≠ bc by omega)).trans a4, (hb.cell (p := ⟨w4.heap.size, 5, none⟩) (show w4.heap.size < _ by omega) (show w4.heap.size ≠ bc by omega)).trans a5, (hb.cell (p := ⟨w4.heap.size, 6, none⟩) (show w4.heap.size < _ by omega) (show w4.heap.size ≠ bc by omega)).trans a6, (hb.cell (p := ⟨w4.heap.size, 7, none⟩) (show w4.heap.size < _ by omega) (show w4.heap.size ≠ bc by omega)).trans a7, (hb.cell (p := ⟨w4.heap.size, 8, none⟩) (show w4.heap.size < _ by omega) (show w4.heap.size ≠ bc by omega)).trans a8, (hb.cell (p := ⟨w4.heap.size, 9, none⟩) (show w4.heap.size < _ by omega) (show w4.heap.size ≠ bc by omega)).trans a9, (hb.cell (p := ⟨w4.heap.size, 10, none⟩) (show w4.heap.size < _ by omega) (show w4.heap.size ≠ bc by omega)).trans a10, (hb.cell (p := ⟨w4.heap.size, 11, none⟩) (show w4.heap.size < _ by omega) (show w4.heap.size ≠ bc by omega)).trans a11, (hb.cell (p := ⟨w4.heap.size, 12, none⟩) (show w4.heap.size < _ by omega) (show w4.heap.size ≠ bc by omega)).trans a12⟩
  replace M2 : Hid (Mv bc w1 wb) := M2.out.trans (Mv.of_below BB)
  replace HKI := Lib.hid (HKI.out.below BB)
  replace HMI := Lib.hid (HMI.out.below BB)
  replace HPS := Lib.hid (HPS.out.below BB)
  have HR := Lib.hid (cRow_any bc w1.heap.size w1.heap.size K (.slice ka kn kc) wb OB HKK.out.1 (by have := HKK.out.2; omega) HKI.out hlt)
  rw [hwb]
  clear hwb OB BB O4 a0 a1 a2 a3 a4 a5 a6 a7 a8 a9 a10 a11 a12
  refine HR.out.mono ?_
  rintro e w5 ⟨tv, T, rfl, -, htt, hm5, ho5⟩
  have MB : Hid (Mv bc wb w5) := hm5
  replace M2 : Hid (Mv bc w1 w5) := M2.out.trans hm5
  replace HKI := Lib.hid (HKI.out.mv hm5 hlt)
  replace HMI := Lib.hid (HMI.out.mv hm5 hlt)
  replace HPS : Hid (PdS (fun b => w1.heap.size ≤ b) w5 ps pa pc) := HPS.out.keep hm5.size (fun b hb hl => hm5.block b hl (by omega))
  have hs5 := hm5.size
  have HT : Hid (RowT w1.heap.size w5 tv T) := htt.lo (by omega)
  obtain ⟨ta, tc, rfl, -⟩ := htt
  have HV := Lib.hid (lValues_any bc w1.heap.size w1.heap.size M (.slice ma mn mc) w5 ho5 HMK.out.1 (by have := HMK.out.2; omega) HMI.out hlt)
  obtain ⟨tn, htn⟩ : ∃ tn, T.length = tn := ⟨_, rfl⟩
  rw [htn] at HT ⊢
  clear hm5 ho5 HR htn
  go_wp2_with fail
  refine HV.out.mono ?_
  rintro e w6 ⟨vv, Q, rfl, hfit, hvt, hm6, ho6⟩
  have HFIT : Hid (Fits Q M) := hfit
  replace MB : Hid (Mv bc wb w6) := MB.out.trans hm6
  replace M2 : Hid (Mv bc w1 w6) := M2.out.trans hm6
  replace HKI := Lib.hid (HKI.out.mv hm6 hlt)
  replace HPS : Hid (PdS (fun b => w1.heap.size ≤ b) w6 ps pa pc) := HPS.out.keep hm6.size (fun b hb hl => hm6.block b hl (by omega))
  replace HT := Lib.hid (HT.out.mv hm6 hlt)
  have hs6 := hm6.size
  have HQ : Hid (RowT w1.heap.size w6 vv Q) := hvt.lo (by omega)
  obtain ⟨va, vc, rfl, -⟩ := hvt
  have HQA : Hid (RowAt w6 (.slice va Q.length vc) Q) := HQ.out.rowB.at (Nat.le_refl _)
  have HTA : Hid (RowAt w6 (.slice ta tn tc) T) := HT.out.rowB.at (Nat.le_refl _)
  have HWP : Hid (widP (PT.mk pop pcmp ⟨plk, pli, ⟨plvk, plvn, plvs⟩⟩ ⟨prk, pri, ⟨prvk, prvn, prvs⟩⟩ ps)) := wid_of_nodes _ (by have := HPV2.out.2; unfold smallP at this; simp only [decide_eq_true_eq] at this; omega)
  have HBI : Hid (BindAt Q (PT.mk pop pcmp ⟨plk, pli, ⟨plvk, plvn, plvs⟩⟩ ⟨prk, pri, ⟨prvk, prvn, prvs⟩⟩ ps)) := pBindP_any Q _ _ (Nat.le_refl _)
  have HP6 : Hid (∀ W, Below w6.heap.size w6 W → Pd W (.agg #[.int .i64 pop, .int .i64 pcmp, .int .i64 plk, .int .i64 pli, .int .i64 plvk, .int .i64 plvn, .string plvs, .int .i64 prk, .int .i64 pri, .int .i64 prvk, .int .i64 prvn, .string prvs, .slice pa pn pc]) (PT.mk pop pcmp ⟨plk, pli, ⟨plvk, plvn, plvs⟩⟩ ⟨prk, pri, ⟨prvk, prvn, prvs⟩⟩ ps)) := fun W hb => ⟨pa, pc, by simp only [pdV, PT.op, PT.cmp, PT.l, PT.r, PT.args, HPN.out], (HPS.out.weak (fun _ _ => trivial)).below hb⟩
  obtain ⟨qn, hqn⟩ : ∃ qn, Q.length = qn := ⟨_, rfl⟩
  rw [hqn] at HQA ⊢
  obtain ⟨c0, c1, c2, c3, c4, c5, c6, c7, c8, c9, c10, c11, c12⟩ := HCB.out w6 MB.out
  have zb : w4.heap.size < w6.heap.size := by have := MB.out.size; omega
  have HKP : Hid (∀ W, Below w6.heap.size w6 W → W.cell? ⟨w4.heap.size, 0, none⟩ = some (.int .i64 pop) ∧ W.cell? ⟨w4.heap.size, 1, none⟩ = some (.int .i64 pcmp) ∧ W.cell? ⟨w4.heap.size, 2, none⟩ = some (.int .i64 plk) ∧ W.cell? ⟨w4.heap.size, 3, none⟩ = some (.int .i64 pli) ∧ W.cell? ⟨w4.heap.size, 4, none⟩ = some (.int .i64 plvk) ∧ W.cell? ⟨w4.heap.size, 5, none⟩ = some (.int .i64 plvn) ∧ W.cell? ⟨w4.heap.size, 6, none⟩ = some (.string plvs) ∧ W.cell? ⟨w4.heap.size, 7, none⟩ = some (.int .i64 prk) ∧ W.cell? ⟨w4.heap.size, 8, none⟩ = some (.int .i64 pri) ∧ W.cell? ⟨w4.heap.size, 9, none⟩ = some (.int .i64 prvk) ∧ W.cell? ⟨w4.heap.size, 10, none⟩ = some (.int .i64 prvn) ∧ W.cell? ⟨w4.heap.size, 11, none⟩ = some (.string prvs) ∧ W.cell? ⟨w4.heap.size, 12, none⟩ = some (.slice pa pn pc)) := fun W hb => ⟨(hb.cell (p := ⟨w4.heap.size, 0, none⟩) zb).trans c0, (hb.cell (p := ⟨w4.heap.size, 1, none⟩) zb).trans c1, (hb.cell (p := ⟨w4.heap.size, 2, none⟩) zb).trans c2, (hb.cell (p := ⟨w4.heap.size, 3, none⟩) zb).trans c3, (hb.cell (p := ⟨w4.heap.size, 4, none⟩) zb).trans c4, (hb.cell (p := ⟨w4.heap.size, 5, none⟩) zb).trans c5, (hb.cell (p := ⟨w4.heap.size, 6, none⟩) zb).trans c6, (hb.cell (p := ⟨w4.heap.size, 7, none⟩) zb).trans c7, (hb.cell (p := ⟨w4.heap.size, 8, none⟩) zb).trans c8, (hb.cell (p := ⟨w4.heap.size, 9, none⟩) zb).trans c9, (hb.cell (p := ⟨w4.heap.size, 10, none⟩) zb).trans c10, (hb.cell (p := ⟨w4.heap.size, 11, none⟩) zb).trans c11, (hb.cell (p := ⟨w4.heap.size, 12, none⟩) zb).trans c12⟩
  have BW6 : Hid (Below wa.heap.size wa w6) := B1.out.trans (M2.out.below (by omega) (by omega))
  have HBB := Lib.hid (HBI.out (.agg #[.int .i64 pop, .int .i64 pcmp, .int .i64 plk, .int .i64 pli, .int .i64 plvk, .int .i64 plvn, .string plvs, .int .i64 prk, .int .i64 pri, .int .i64 prvk, .int .i64 prvn, .string prvs, .slice pa pn pc]) (.slice va qn vc) w6 (HP6.out w6 (Below.refl _ _)) HQA.out HWP.out)
  clear hfit hm6 ho6 HV hqn HCB MB M2 HT HQ HPS HMI
  go_wp2_with fail
  refine HBB.out.mono ?_
  rintro e w7 ⟨ba, bc2, rfl, hbs, hb7⟩
  obtain ⟨⟨bop, bcmp, ⟨blk, bli, ⟨blvk, blvn, blvs⟩⟩, ⟨brk, bri, ⟨brvk, brvn, brvs⟩⟩, bs⟩, hbt⟩ : ∃ z, bndP Q (PT.mk pop pcmp ⟨plk, pli, ⟨plvk, plvn, plvs⟩⟩ ⟨prk, pri, ⟨prvk, prvn, prvs⟩⟩ ps) = z := ⟨_, rfl⟩
  have HBT := Lib.hid hbt
  rw [hbt] at hbs ⊢
  change PdS _ w7 bs ba bc2 at hbs
  have HBS := Lib.hid hbs
  have B7 := Lib.hid hb7
  simp only [pdV, PT.op, PT.cmp, PT.l, PT.r, PT.args]
  obtain ⟨bn, hbn⟩ : ∃ bn, bs.length = bn := ⟨_, rfl⟩
  obtain ⟨bc3, hbc3⟩ : ∃ z, bc2 = z := ⟨_, rfl⟩
  subst hbc3
  have HBN := Lib.hid hbn
  rw [hbn]
  have hs7 := hb7.size
  clear hbs hb7 hbt hbn HBB c0 c1 c2 c3 c4 c5 c6 c7 c8 c9 c10 c11 c12
  go_upto_region 6 with fail
  obtain ⟨w8, hw8⟩ : ∃ w8, w7.alloc (.cells #[.int .i64 bop, .int .i64 bcmp, .int .i64 blk, .int .i64 bli, .int .i64 blvk, .int .i64 blvn, .string blvs, .int .i64 brk, .int .i64 bri, .int .i64 brvk, .int .i64 brvn, .string brvs, .slice ba bn bc2] 29) = w8 := ⟨_, rfl⟩
  have B8 : Below w7.heap.size w7 w8 := by rw [← hw8]; exact (Below.refl _ _).alloc (Nat.le_refl _) _
  have hs8 : w7.heap.size < w8.heap.size := by rw [← hw8]; simp
  have a0 : w8.cell? ⟨w7.heap.size, 0, none⟩ = some (.int .i64 bop) := by subst hw8; go_simp
  have a1 : w8.cell? ⟨w7.heap.size, 1, none⟩ = some (.int .i64 bcmp) := by subst hw8; go_simp
  have a2 : w8.cell? ⟨w7.heap.size, 2, none⟩ = some (.int .i64 blk) := by subst hw8; go_simp
  have a3 : w8.cell? ⟨w7.heap.size, 3, none⟩ = some (.int .i64 bli) := by subst hw8; go_simp
  have a4 : w8.cell? ⟨w7.heap.size, 4, none⟩ = some (.int .i64 blvk) := by subst hw8; go_simp
  have a5 : w8.cell? ⟨w7.heap.size, 5, none⟩ = some (.int .i64 blvn) := by subst hw8; go_simp
  have a6 : w8.cell? ⟨w7.heap.size, 6, none⟩ = some (.string blvs) := by subst hw8; go_simp
  have a7 : w8.cell? ⟨w7.heap.size, 7, none⟩ = some (.int .i64 brk) := by subst hw8; go_simp
  have a8 : w8.cell? ⟨w7.heap.size, 8, none⟩ = some (.int .i64 bri) := by subst hw8; go_simp
  have a9 : w8.cell? ⟨w7.heap.size, 9, none⟩ = some (.int .i64 brvk) := by subst hw8; go_simp
  have a10 : w8.cell? ⟨w7.heap.size, 10, none⟩ = some (.int .i64 brvn) := by subst hw8; go_simp
  have a11 : w8.cell? ⟨w7.heap.size, 11, none⟩ = some (.string brvs) := by subst hw8; go_simp
  have a12 : w8.cell? ⟨w7.heap.size, 12, none⟩ = some (.slice ba bn bc2) := by subst hw8; go_simp
  rw [hw8]
  have B68 : Hid (Below w6.heap.size w6 w8) := below_go B7.out B8
  have BA8 : Hid (Below wa.heap.size wa w8) := BW6.out.trans (B68.out.mono (by omega))
  have BW8 : Hid (Below w.heap.size w w8) := HWA.out.trans (BA8.out.mono (by omega))
  have HKB : Hid (∀ W, Below w8.heap.size w8 W → W.cell? ⟨w7.heap.size, 0, none⟩ = some (.int .i64 bop) ∧ W.cell? ⟨w7.heap.size, 1, none⟩ = some (.int .i64 bcmp) ∧ W.cell? ⟨w7.heap.size, 2, none⟩ = some (.int .i64 blk) ∧ W.cell? ⟨w7.heap.size, 3, none⟩ = some (.int .i64 bli) ∧ W.cell? ⟨w7.heap.size, 4, none⟩ = some (.int .i64 blvk) ∧ W.cell? ⟨w7.heap.size, 5, none⟩ = some (.int .i64 blvn) ∧ W.cell? ⟨w7.heap.size, 6, none⟩ = some (.string blvs) ∧ W.cell? ⟨w7.heap.size, 7, none⟩ = some (.int .i64 brk) ∧ W.cell? ⟨w7.heap.size, 8, none⟩ = some (.int .i64 bri) ∧ W.cell? ⟨w7.heap.size, 9, none⟩ = some (.int .i64 brvk) ∧ W.cell? ⟨w7.heap.size, 10, none⟩ = some (.int .i64 brvn) ∧ W.cell? ⟨w7.heap.size, 11, none⟩ = some (.string brvs) ∧ W.cell? ⟨w7.heap.size, 12, none⟩ = some (.slice ba bn bc2)) := fun W hb => ⟨(hb.cell (p := ⟨w7.heap.size, 0, none⟩) hs8).trans a0, (hb.cell (p := ⟨w7.heap.size, 1, none⟩) hs8).trans a1, (hb.cell (p := ⟨w7.heap.size, 2, none⟩) hs8).trans a2, (hb.cell (p := ⟨w7.heap.size, 3, none⟩) hs8).trans a3, (hb.cell (p := ⟨w7.heap.size, 4, none⟩) hs8).trans a4, (hb.cell (p := ⟨w7.heap.size, 5, none⟩) hs8).trans a5, (hb.cell (p := ⟨w7.heap.size, 6, none⟩) hs8).trans a6, (hb.cell (p := ⟨w7.heap.size, 7, none⟩) hs8).trans a7, (hb.cell (p := ⟨w7.heap.size, 8, none⟩) hs8).trans a8, (hb.cell (p := ⟨w7.heap.size, 9, none⟩) hs8).trans a9, (hb.cell (p := ⟨w7.heap.size, 10, none⟩) hs8).trans a10, (hb.cell (p := ⟨w7.heap.size, 11, none⟩) hs8).trans a11, (hb.cell (p := ⟨w7.heap.size, 12, none⟩) hs8).trans a12⟩
  have HK : Hid (∀ W, Below w8.heap.size w8 W → W.cell? ⟨w.heap.size, 0, none⟩ = some (.int .i64 rop) ∧ W.cell? ⟨w.heap.size, 1, none⟩ = some (.int .i64 rcmp) ∧ W.cell? ⟨w.heap.size, 2, none⟩ = some (.int .i64 rlk) ∧ W.cell? ⟨w.heap.size, 3, none⟩ = some (.int .i64 rli) ∧ W.cell? ⟨w.heap.size, 4, none⟩ = some (.int .i64 rlvk) ∧ W.cell? ⟨w.heap.size, 5, none⟩ = some (.int .i64 rlvn) ∧ W.cell? ⟨w.heap.size, 6, none⟩ = some (.string rlvs) ∧ W.cell? ⟨w.heap.size, 7, none⟩ = some (.int .i64 rrk) ∧ W.cell? ⟨w.heap.size, 8, none⟩ = some (.int .i64 rri) ∧ W.cell? ⟨w.heap.size, 9, none⟩ = some (.int .i64 rrvk) ∧ W.cell? ⟨w.heap.size, 10, none⟩ = some (.int .i64 rrvn) ∧ W.cell? ⟨w.heap.size, 11, none⟩ = some (.string rrvs) ∧ W.cell? ⟨w.heap.size, 12, none⟩ = some (.slice ra rn rc) ∧ W.cell? ⟨w4.heap.size, 0, none⟩ = some (.int .i64 pop) ∧ W.cell? ⟨w4.heap.size, 1, none⟩ = some (.int .i64 pcmp) ∧ W.cell? ⟨w4.heap.size, 2, none⟩ = some (.int .i64 plk) ∧ W.cell? ⟨w4.heap.size, 3, none⟩ = some (.int .i64 pli) ∧ W.cell? ⟨w4.heap.size, 4, none⟩ = some (.int .i64 plvk) ∧ W.cell? ⟨w4.heap.size, 5, none⟩ = some (.int .i64 plvn) ∧ W.cell? ⟨w4.heap.size, 6, none⟩ = some (.string plvs) ∧ W.cell? ⟨w4.heap.size, 7, none⟩ = some (.int .i64 prk) ∧ W.cell? ⟨w4.heap.size, 8, none⟩ = some (.int .i64 pri) ∧ W.cell? ⟨w4.heap.size, 9, none⟩ = some (.int .i64 prvk) ∧ W.cell? ⟨w4.heap.size, 10, none⟩ = some (.int .i64 prvn) ∧ W.cell? ⟨w4.heap.size, 11, none⟩ = some (.string prvs) ∧ W.cell? ⟨w4.heap.size, 12, none⟩ = some (.slice pa pn pc) ∧ W.cell? ⟨w7.heap.size, 0, none⟩ = some (.int .i64 bop) ∧ W.cell? ⟨w7.heap.size, 1, none⟩ = some (.int .i64 bcmp) ∧ W.cell? ⟨w7.heap.size, 2, none⟩ = some (.int .i64 blk) ∧ W.cell? ⟨w7.heap.size, 3, none⟩ = some (.int .i64 bli) ∧ W.cell? ⟨w7.heap.size, 4, none⟩ = some (.int .i64 blvk) ∧ W.cell? ⟨w7.heap.size, 5, none⟩ = some (.int .i64 blvn) ∧ W.cell? ⟨w7.heap.size, 6, none⟩ = some (.string blvs) ∧ W.cell? ⟨w7.heap.size, 7, none⟩ = some (.int .i64 brk) ∧ W.cell? ⟨w7.heap.size, 8, none⟩ = some (.int .i64 bri) ∧ W.cell? ⟨w7.heap.size, 9, none⟩ = some (.int .i64 brvk) ∧ W.cell? ⟨w7.heap.size, 10, none⟩ = some (.int .i64 brvn) ∧ W.cell? ⟨w7.heap.size, 11, none⟩ = some (.string brvs) ∧ W.cell? ⟨w7.heap.size, 12, none⟩ = some (.slice ba bn bc2)) := fun W hb => by
    obtain ⟨x0, x1, x2, x3, x4, x5, x6, x7, x8, x9, x10, x11, x12⟩ := HKR.out W (below_go BA8.out hb)
    obtain ⟨y0, y1, y2, y3, y4, y5, y6, y7, y8, y9, y10, y11, y12⟩ := HKP.out W (below_go B68.out hb)
    obtain ⟨z0, z1, z2, z3, z4, z5, z6, z7, z8, z9, z10, z11, z12⟩ := HKB.out W hb
    exact ⟨x0, x1, x2, x3, x4, x5, x6, x7, x8, x9, x10, x11, x12, y0, y1, y2, y3, y4, y5, y6, y7, y8, y9, y10, y11, y12, z0, z1, z2, z3, z4, z5, z6, z7, z8, z9, z10, z11, z12⟩
  have HPB : Hid (∀ W, Below w8.heap.size w8 W → Pd W (.agg #[.int .i64 bop, .int .i64 bcmp, .int .i64 blk, .int .i64 bli, .int .i64 blvk, .int .i64 blvn, .string blvs, .int .i64 brk, .int .i64 bri, .int .i64 brvk, .int .i64 brvn, .string brvs, .slice ba bn bc2]) (PT.mk bop bcmp ⟨blk, bli, ⟨blvk, blvn, blvs⟩⟩ ⟨brk, bri, ⟨brvk, brvn, brvs⟩⟩ bs)) := fun W hb => ⟨ba, bc2, by simp only [pdV, PT.op, PT.cmp, PT.l, PT.r, PT.args, HBN.out], (HBS.out.weak (fun _ _ => trivial)).below (below_go B8 hb)⟩
  have HP8 : Hid (∀ W, Below w8.heap.size w8 W → Pd W (.agg #[.int .i64 pop, .int .i64 pcmp, .int .i64 plk, .int .i64 pli, .int .i64 plvk, .int .i64 plvn, .string plvs, .int .i64 prk, .int .i64 pri, .int .i64 prvk, .int .i64 prvn, .string prvs, .slice pa pn pc]) (PT.mk pop pcmp ⟨plk, pli, ⟨plvk, plvn, plvs⟩⟩ ⟨prk, pri, ⟨prvk, prvn, prvs⟩⟩ ps)) := fun W hb => HP6.out W (below_go B68.out hb)
  have HCK : Hid (∀ W, Below w8.heap.size w8 W → Calls Try.prog 13 #[.slice ka kn kc, .slice none 0 0, .agg #[.int .i64 bop, .int .i64 bcmp, .int .i64 blk, .int .i64 bli, .int .i64 blvk, .int .i64 blvn, .string blvs, .int .i64 brk, .int .i64 bri, .int .i64 brvk, .int .i64 brvn, .string brvs, .slice ba bn bc2]] W fun e w' => e = .returned (.int .i64 0) ∧ Below W.heap.size W w') := fun W hb => by
    have h := pCheck_any K [] (.slice ka kn kc) (.slice none 0 0) (PT.mk bop bcmp ⟨blk, bli, ⟨blvk, blvn, blvs⟩⟩ ⟨brk, bri, ⟨brvk, brvn, brvs⟩⟩ bs) (.agg #[.int .i64 bop, .int .i64 bcmp, .int .i64 blk, .int .i64 bli, .int .i64 blvk, .int .i64 blvn, .string blvs, .int .i64 brk, .int .i64 bri, .int .i64 brvk, .int .i64 brvn, .string brvs, .slice ba bn bc2]) W ((HKI.out.below (below_go B68.out hb)).at) (intsAt_nil W) (HPB.out W hb)
    rw [← HBT.out, bndP_check HFIT.out HKK.out.1 HPV2.out.2 HPV2.out.1] at h
    exact h
  obtain ⟨x, hx⟩ : ∃ x, holdsP T Q (PT.mk pop pcmp ⟨plk, pli, ⟨plvk, plvn, plvs⟩⟩ ⟨prk, pri, ⟨prvk, prvn, prvs⟩⟩ ps) = x := ⟨_, rfl⟩
  have HX := Lib.hid hx
  have HH2 : Hid (∀ W, Below w8.heap.size w8 W → Calls Try.prog 17 #[.agg #[.int .i64 pop, .int .i64 pcmp, .int .i64 plk, .int .i64 pli, .int .i64 plvk, .int .i64 plvn, .string plvs, .int .i64 prk, .int .i64 pri, .int .i64 prvk, .int .i64 prvn, .string prvs, .slice pa pn pc], .slice ta tn tc, .slice va qn vc] W fun e w' => e = .returned (.bool x) ∧ Below W.heap.size W w') := fun W hb => by
    have h := pHolds_any T Q _ (PT.mk pop pcmp ⟨plk, pli, ⟨plvk, plvn, plvs⟩⟩ ⟨prk, pri, ⟨prvk, prvn, prvs⟩⟩ ps) (Nat.le_refl _) (.agg #[.int .i64 pop, .int .i64 pcmp, .int .i64 plk, .int .i64 pli, .int .i64 plvk, .int .i64 plvn, .string plvs, .int .i64 prk, .int .i64 pri, .int .i64 prvk, .int .i64 prvn, .string prvs, .slice pa pn pc]) (.slice ta tn tc) (.slice va qn vc) W (HP8.out W hb) (HTA.out.blw (below_go B68.out hb)) (HQA.out.blw (below_go B68.out hb))
    rw [HX.out] at h
    exact h
  have HH1 : Hid (∀ W, Below w8.heap.size w8 W → Calls Try.prog 17 #[.agg #[.int .i64 bop, .int .i64 bcmp, .int .i64 blk, .int .i64 bli, .int .i64 blvk, .int .i64 blvn, .string blvs, .int .i64 brk, .int .i64 bri, .int .i64 brvk, .int .i64 brvn, .string brvs, .slice ba bn bc2], .slice ta tn tc, ov] W fun e w' => e = .returned (.bool x) ∧ Below W.heap.size W w') := fun W hb => by
    have h := pHolds_any T OV _ (PT.mk bop bcmp ⟨blk, bli, ⟨blvk, blvn, blvs⟩⟩ ⟨brk, bri, ⟨brvk, brvn, brvs⟩⟩ bs) (Nat.le_refl _) (.agg #[.int .i64 bop, .int .i64 bcmp, .int .i64 blk, .int .i64 bli, .int .i64 blvk, .int .i64 blvn, .string blvs, .int .i64 brk, .int .i64 bri, .int .i64 brvk, .int .i64 brvn, .string brvs, .slice ba bn bc2]) (.slice ta tn tc) ov W (HPB.out W hb) (HTA.out.blw (below_go B68.out hb)) (HOV.out.blw (below_go BW8.out hb))
    rw [← HBT.out, bndP_holds HFIT.out T OV _ HPV2.out.1, HX.out] at h
    exact h
  obtain ⟨⟨yop, ycmp, ⟨ylk, yli, ⟨ylvk, ylvn, ylvs⟩⟩, ⟨yrk, yri, ⟨yrvk, yrvn, yrvs⟩⟩, ys⟩, hyt⟩ : ∃ z, bndP PV (PT.mk rop rcmp ⟨rlk, rli, ⟨rlvk, rlvn, rlvs⟩⟩ ⟨rrk, rri, ⟨rrvk, rrvn, rrvs⟩⟩ rs) = z := ⟨_, rfl⟩
  have HYT := Lib.hid hyt
  obtain ⟨yn, hyn⟩ : ∃ yn, ys.length = yn := ⟨_, rfl⟩
  have HYN := Lib.hid hyn
  have HB1 : Hid (∀ W, Below w8.heap.size w8 W → Calls Try.prog 19 #[.agg #[.int .i64 rop, .int .i64 rcmp, .int .i64 rlk, .int .i64 rli, .int .i64 rlvk, .int .i64 rlvn, .string rlvs, .int .i64 rrk, .int .i64 rri, .int .i64 rrvk, .int .i64 rrvn, .string rrvs, .slice ra rn rc], pv] W fun e w' => ∃ za zc, e = .returned (.agg #[.int .i64 yop, .int .i64 ycmp, .int .i64 ylk, .int .i64 yli, .int .i64 ylvk, .int .i64 ylvn, .string ylvs, .int .i64 yrk, .int .i64 yri, .int .i64 yrvk, .int .i64 yrvn, .string yrvs, .slice za yn zc]) ∧ Hid (PdS (fun _ => True) w' ys za zc) ∧ Below W.heap.size W w') := fun W hb => by
    refine (pBindP_any PV _ (PT.mk rop rcmp ⟨rlk, rli, ⟨rlvk, rlvn, rlvs⟩⟩ ⟨rrk, rri, ⟨rrvk, rrvn, rrvs⟩⟩ rs) (Nat.le_refl _) (.agg #[.int .i64 rop, .int .i64 rcmp, .int .i64 rlk, .int .i64 rli, .int .i64 rlvk, .int .i64 rlvn, .string rlvs, .int .i64 rrk, .int .i64 rri, .int .i64 rrvk, .int .i64 rrvn, .string rrvs, .slice ra rn rc]) pv W (HR0.out.below (below_go BW8.out hb)) (HPV.out.blw (below_go BW8.out hb)) HWR.out).mono ?_
    rintro e w' ⟨za, zc, rfl, h1, h2⟩
    rw [HYT.out] at h1 ⊢
    exact ⟨za, zc, by simp only [pdV, PT.op, PT.cmp, PT.l, PT.r, PT.args, HYN.out], h1.weak (fun _ _ => trivial), h2⟩
  have HB2 : Hid (∀ W, Below w8.heap.size w8 W → Calls Try.prog 21 #[.agg #[.int .i64 rop, .int .i64 rcmp, .int .i64 rlk, .int .i64 rli, .int .i64 rlvk, .int .i64 rlvn, .string rlvs, .int .i64 rrk, .int .i64 rri, .int .i64 rrvk, .int .i64 rrvn, .string rrvs, .slice ra rn rc], pv] W fun e w' => ∃ za zc, e = .returned (.agg #[.int .i64 yop, .int .i64 ycmp, .int .i64 ylk, .int .i64 yli, .int .i64 ylvk, .int .i64 ylvn, .string ylvs, .int .i64 yrk, .int .i64 yri, .int .i64 yrvk, .int .i64 yrvn, .string yrvs, .slice za yn zc]) ∧ Hid (PdS (fun _ => True) w' ys za zc) ∧ Below W.heap.size W w') := fun W hb => by
    refine (rBindP_any PV _ (PT.mk rop rcmp ⟨rlk, rli, ⟨rlvk, rlvn, rlvs⟩⟩ ⟨rrk, rri, ⟨rrvk, rrvn, rrvs⟩⟩ rs) (Nat.le_refl _) (.agg #[.int .i64 rop, .int .i64 rcmp, .int .i64 rlk, .int .i64 rli, .int .i64 rlvk, .int .i64 rlvn, .string rlvs, .int .i64 rrk, .int .i64 rri, .int .i64 rrvk, .int .i64 rrvn, .string rrvs, .slice ra rn rc]) pv W (HR0.out.below (below_go BW8.out hb)) (HPV.out.blw (below_go BW8.out hb)) HWR.out).mono ?_
    rintro e w' ⟨za, zc, rfl, h1, h2⟩
    rw [HYT.out] at h1 ⊢
    exact ⟨za, zc, by simp only [pdV, PT.op, PT.cmp, PT.l, PT.r, PT.args, HYN.out], h1.weak (fun _ _ => trivial), h2⟩
  have HB3 : Hid (∀ W, Below w8.heap.size w8 W → Calls Try.prog 21 #[.agg #[.int .i64 pop, .int .i64 pcmp, .int .i64 plk, .int .i64 pli, .int .i64 plvk, .int .i64 plvn, .string plvs, .int .i64 prk, .int .i64 pri, .int .i64 prvk, .int .i64 prvn, .string prvs, .slice pa pn pc], .slice va qn vc] W fun e w' => ∃ za zc, e = .returned (.agg #[.int .i64 bop, .int .i64 bcmp, .int .i64 blk, .int .i64 bli, .int .i64 blvk, .int .i64 blvn, .string blvs, .int .i64 brk, .int .i64 bri, .int .i64 brvk, .int .i64 brvn, .string brvs, .slice za bn zc]) ∧ Hid (PdS (fun _ => True) w' bs za zc) ∧ Below W.heap.size W w') := fun W hb => by
    refine (rBindP_any Q _ (PT.mk pop pcmp ⟨plk, pli, ⟨plvk, plvn, plvs⟩⟩ ⟨prk, pri, ⟨prvk, prvn, prvs⟩⟩ ps) (Nat.le_refl _) (.agg #[.int .i64 pop, .int .i64 pcmp, .int .i64 plk, .int .i64 pli, .int .i64 plvk, .int .i64 plvn, .string plvs, .int .i64 prk, .int .i64 pri, .int .i64 prvk, .int .i64 prvn, .string prvs, .slice pa pn pc]) (.slice va qn vc) W (HP8.out W hb) (HQA.out.blw (below_go B68.out hb)) HWP.out).mono ?_
    rintro e w' ⟨za, zc, rfl, h1, h2⟩
    rw [HBT.out] at h1 ⊢
    exact ⟨za, zc, by simp only [pdV, PT.op, PT.cmp, PT.l, PT.r, PT.args, HBN.out], h1.weak (fun _ _ => trivial), h2⟩
  clear hw8 hx hyt hyn B8 HKR HKP HKB a0 a1 a2 a3 a4 a5 a6 a7 a8 a9 a10 a11 a12
  clear HBS HBI HWP HP6 HTA HQA HKI HKK HMK HPV2 HFIT HBT HX HR0 HWR HPV HOV B1 BW6 B7 BA8 HP8
  refine wp_region_held_drew (S := fun W => W.cell? ⟨w.heap.size, 0, none⟩ = some (.int .i64 rop) ∧ W.cell? ⟨w.heap.size, 1, none⟩ = some (.int .i64 rcmp) ∧ W.cell? ⟨w.heap.size, 2, none⟩ = some (.int .i64 rlk) ∧ W.cell? ⟨w.heap.size, 3, none⟩ = some (.int .i64 rli) ∧ W.cell? ⟨w.heap.size, 4, none⟩ = some (.int .i64 rlvk) ∧ W.cell? ⟨w.heap.size, 5, none⟩ = some (.int .i64 rlvn) ∧ W.cell? ⟨w.heap.size, 6, none⟩ = some (.string rlvs) ∧ W.cell? ⟨w.heap.size, 7, none⟩ = some (.int .i64 rrk) ∧ W.cell? ⟨w.heap.size, 8, none⟩ = some (.int .i64 rri) ∧ W.cell? ⟨w.heap.size, 9, none⟩ = some (.int .i64 rrvk) ∧ W.cell? ⟨w.heap.size, 10, none⟩ = some (.int .i64 rrvn) ∧ W.cell? ⟨w.heap.size, 11, none⟩ = some (.string rrvs) ∧ W.cell? ⟨w.heap.size, 12, none⟩ = some (.slice ra rn rc) ∧ W.cell? ⟨w4.heap.size, 0, none⟩ = some (.int .i64 pop) ∧ W.cell? ⟨w4.heap.size, 1, none⟩ = some (.int .i64 pcmp) ∧ W.cell? ⟨w4.heap.size, 2, none⟩ = some (.int .i64 plk) ∧ W.cell? ⟨w4.heap.size, 3, none⟩ = some (.int .i64 pli) ∧ W.cell? ⟨w4.heap.size, 4, none⟩ = some (.int .i64 plvk) ∧ W.cell? ⟨w4.heap.size, 5, none⟩ = some (.int .i64 plvn) ∧ W.cell? ⟨w4.heap.size, 6, none⟩ = some (.string plvs) ∧ W.cell? ⟨w4.heap.size, 7, none⟩ = some (.int .i64 prk) ∧ W.cell? ⟨w4.heap.size, 8, none⟩ = some (.int .i64 pri) ∧ W.cell? ⟨w4.heap.size, 9, none⟩ = some (.int .i64 prvk) ∧ W.cell? ⟨w4.heap.size, 10, none⟩ = some (.int .i64 prvn) ∧ W.cell? ⟨w4.heap.size, 11, none⟩ = some (.string prvs) ∧ W.cell? ⟨w4.heap.size, 12, none⟩ = some (.slice pa pn pc) ∧ W.cell? ⟨w7.heap.size, 0, none⟩ = some (.int .i64 bop) ∧ W.cell? ⟨w7.heap.size, 1, none⟩ = some (.int .i64 bcmp) ∧ W.cell? ⟨w7.heap.size, 2, none⟩ = some (.int .i64 blk) ∧ W.cell? ⟨w7.heap.size, 3, none⟩ = some (.int .i64 bli) ∧ W.cell? ⟨w7.heap.size, 4, none⟩ = some (.int .i64 blvk) ∧ W.cell? ⟨w7.heap.size, 5, none⟩ = some (.int .i64 blvn) ∧ W.cell? ⟨w7.heap.size, 6, none⟩ = some (.string blvs) ∧ W.cell? ⟨w7.heap.size, 7, none⟩ = some (.int .i64 brk) ∧ W.cell? ⟨w7.heap.size, 8, none⟩ = some (.int .i64 bri) ∧ W.cell? ⟨w7.heap.size, 9, none⟩ = some (.int .i64 brvk) ∧ W.cell? ⟨w7.heap.size, 10, none⟩ = some (.int .i64 brvn) ∧ W.cell? ⟨w7.heap.size, 11, none⟩ = some (.string brvs) ∧ W.cell? ⟨w7.heap.size, 12, none⟩ = some (.slice ba bn bc2)) (by kernel_rfl) (HK.out _ (Below.refl _ _).drew) (fun hHeld => ?_)
  obtain ⟨wd, hwd⟩ : ∃ wd, w8.drew = wd := ⟨_, rfl⟩
  have BW : Hid (Below w8.heap.size w8 wd) := by rw [← hwd]; exact (Below.refl _ _).drew
  rw [hwd] at hHeld ⊢
  clear hwd
  refine wpAnyH_ready (rs := [0]) (by kernel_rfl) (by simp) ?_
  refine AllReadyH.cons rfl (fun K hK => ?_) AllReadyH.nil
  go_simp
  go_at_call 12
  refine (HB.out _).mono ?_
  rintro e w_0 ⟨rfl, hg⟩
  clear hHeld
  replace BW := Lib.hid (below_go BW.out hg)
  clear hg
  refine hK.out _ _ (HK.out _ BW.out) (fun hHeld => ?_)
  clear hK K
  (try simp only [List.set_cons_zero, List.set_cons_succ])
  refine wpAnyH_takeD (i := 1) (d := 36) (v := ?_) rfl rfl (by kernel_rfl) (by kernel_rfl) (by kernel_rfl) (fun _ _ _ h => h) (Or.inl ⟨by rfl, ?_⟩) (by assumption) ?_; rotate_left
  · intro W hSw; (try dsimp only at hSw); go_simp; (try with_reducible rfl)
  (try simp only [List.set_cons_zero, List.set_cons_succ])
  refine wpAnyH_takeD (i := 2) (d := 37) (v := ?_) rfl rfl (by kernel_rfl) (by kernel_rfl) (by kernel_rfl) (fun _ _ _ h => h) (Or.inl ⟨by rfl, ?_⟩) (by assumption) ?_; rotate_left
  · intro W hSw; (try dsimp only at hSw); go_simp; (try with_reducible rfl)
  (try simp only [List.set_cons_zero, List.set_cons_succ])
  refine wpAnyH_takeD (i := 3) (d := 38) (v := ?_) rfl rfl (by kernel_rfl) (by kernel_rfl) (by kernel_rfl) (fun _ _ _ h => h) (Or.inl ⟨by rfl, ?_⟩) (by assumption) ?_; rotate_left
  · intro W hSw; (try dsimp only at hSw); go_simp; (try with_reducible rfl)
  (try simp only [List.set_cons_zero, List.set_cons_succ])
  refine wpAnyH_ready (rs := [4]) (by kernel_rfl) (by simp) ?_
  refine AllReadyH.cons rfl (fun K hK => ?_) AllReadyH.nil
  go_simp
  go_at_call 13
  refine (HCK.out _ BW.out).mono ?_
  rintro e w_4 ⟨rfl, hg⟩
  clear hHeld
  replace BW := Lib.hid (below_go BW.out hg)
  clear hg
  refine hK.out _ _ (HK.out _ BW.out) (fun hHeld => ?_)
  clear hK K
  (try simp only [List.set_cons_zero, List.set_cons_succ])
  refine wpAnyH_takeD (i := 5) (d := 40) (v := ?_) rfl rfl (by kernel_rfl) (by kernel_rfl) (by kernel_rfl) (fun _ _ _ h => h) (Or.inl ⟨by rfl, ?_⟩) (by assumption) ?_; rotate_left
  · intro W hSw; (try dsimp only at hSw); go_simp; (try with_reducible rfl)
  (try simp only [List.set_cons_zero, List.set_cons_succ])
  refine wpAnyH_takeD (i := 6) (d := 41) (v := ?_) rfl rfl (by kernel_rfl) (by kernel_rfl) (by kernel_rfl) (fun _ _ _ h => h) (Or.inl ⟨by rfl, ?_⟩) (by assumption) ?_; rotate_left
  · intro W hSw; (try dsimp only at hSw); go_simp; (try with_reducible rfl)
  (try simp only [List.set_cons_zero, List.set_cons_succ])
  refine wpAnyH_takeD (i := 7) (d := 42) (v := ?_) rfl rfl (by kernel_rfl) (by kernel_rfl) (by kernel_rfl) (fun _ _ _ h => h) (Or.inl ⟨by rfl, ?_⟩) (by assumption) ?_; rotate_left
  · intro W hSw; (try dsimp only at hSw); go_simp; (try with_reducible rfl)
  (try simp only [List.set_cons_zero, List.set_cons_succ])
  refine wpAnyH_takeD (i := 8) (d := 43) (v := ?_) rfl rfl (by kernel_rfl) (by kernel_rfl) (by kernel_rfl) (fun _ _ _ h => h) (Or.inl ⟨by rfl, ?_⟩) (by assumption) ?_; rotate_left
  · intro W hSw; (try dsimp only at hSw); go_simp; (try with_reducible rfl)
  (try simp only [List.set_cons_zero, List.set_cons_succ])
  refine wpAnyH_takeD (i := 9) (d := 44) (v := ?_) rfl rfl (by kernel_rfl) (by kernel_rfl) (by kernel_rfl) (fun _ _ _ h => h) (Or.inl ⟨by rfl, ?_⟩) (by assumption) ?_; rotate_left
  · intro W hSw; (try dsimp only at hSw); go_simp; (try with_reducible rfl)
  (try simp only [List.set_cons_zero, List.set_cons_succ])
  refine wpAnyH_takeD (i := 10) (d := 45) (v := ?_) rfl rfl (by kernel_rfl) (by kernel_rfl) (by kernel_rfl) (fun _ _ _ h => h) (Or.inl ⟨by rfl, ?_⟩) (by assumption) ?_; rotate_left
  · intro W hSw; (try dsimp only at hSw); go_simp; (try with_reducible rfl)
  (try simp only [List.set_cons_zero, List.set_cons_succ])
  refine wpAnyH_takeD (i := 12) (d := 47) (v := ?_) rfl rfl (by kernel_rfl) (by kernel_rfl) (by kernel_rfl) (fun _ _ _ h => h) (Or.inl ⟨by rfl, ?_⟩) (by assumption) ?_; rotate_left
  · intro W hSw; (try dsimp only at hSw); go_simp; (try with_reducible rfl)
  (try simp only [List.set_cons_zero, List.set_cons_succ])
  refine wpAnyH_takeD (i := 13) (d := 48) (v := ?_) rfl rfl (by kernel_rfl) (by kernel_rfl) (by kernel_rfl) (fun _ _ _ h => h) (Or.inl ⟨by rfl, ?_⟩) (by assumption) ?_; rotate_left
  · intro W hSw; (try dsimp only at hSw); go_simp; (try with_reducible rfl)
  (try simp only [List.set_cons_zero, List.set_cons_succ])
  refine wpAnyH_takeD (i := 14) (d := 49) (v := ?_) rfl rfl (by kernel_rfl) (by kernel_rfl) (by kernel_rfl) (fun _ _ _ h => h) (Or.inl ⟨by rfl, ?_⟩) (by assumption) ?_; rotate_left
  · intro W hSw; (try dsimp only at hSw); go_simp; (try with_reducible rfl)
  (try simp only [List.set_cons_zero, List.set_cons_succ])
  refine wpAnyH_ready (rs := [11]) (by kernel_rfl) (by simp) ?_
  refine AllReadyH.cons rfl (fun K hK => ?_) AllReadyH.nil
  go_simp
  go_at_call 17
  refine (HH1.out _ BW.out).mono ?_
  rintro e w_11 ⟨rfl, hg⟩
  clear hHeld
  replace BW := Lib.hid (below_go BW.out hg)
  clear hg
  refine hK.out _ _ (HK.out _ BW.out) (fun hHeld => ?_)
  clear hK K
  (try simp only [List.set_cons_zero, List.set_cons_succ])
  refine wpAnyH_ready (rs := [15]) (by kernel_rfl) (by simp) ?_
  refine AllReadyH.cons rfl (fun K hK => ?_) AllReadyH.nil
  go_simp
  go_at_call 17
  refine (HH2.out _ BW.out).mono ?_
  rintro e w_15 ⟨rfl, hg⟩
  clear hHeld
  replace BW := Lib.hid (below_go BW.out hg)
  clear hg
  refine hK.out _ _ (HK.out _ BW.out) (fun hHeld => ?_)
  clear hK K
  (try simp only [List.set_cons_zero, List.set_cons_succ])
  refine wpAnyH_takeD (i := 16) (d := 51) (v := ?_) rfl rfl (by kernel_rfl) (by kernel_rfl) (by kernel_rfl) (fun _ _ _ h => h) (Or.inl ⟨by rfl, ?_⟩) (by assumption) ?_; rotate_left
  · intro W hSw; (try dsimp only at hSw); go_simp; (try with_reducible rfl)
  (try simp only [List.set_cons_zero, List.set_cons_succ])
  refine wpAnyH_takeD (i := 17) (d := 52) (v := ?_) rfl rfl (by kernel_rfl) (by kernel_rfl) (by kernel_rfl) (fun _ _ _ h => h) (Or.inl ⟨by rfl, ?_⟩) (by assumption) ?_; rotate_left
  · intro W hSw; (try dsimp only at hSw); go_simp; (try with_reducible rfl)
  (try simp only [List.set_cons_zero, List.set_cons_succ])
  refine wpAnyH_takeD (i := 18) (d := 53) (v := ?_) rfl rfl (by kernel_rfl) (by kernel_rfl) (by kernel_rfl) (fun _ _ _ h => h) (Or.inl ⟨by rfl, ?_⟩) (by assumption) ?_; rotate_left
  · intro W hSw; (try dsimp only at hSw); go_simp; (try with_reducible rfl)
  (try simp only [List.set_cons_zero, List.set_cons_succ])
  refine wpAnyH_takeD (i := 19) (d := 54) (v := ?_) rfl rfl (by kernel_rfl) (by kernel_rfl) (by kernel_rfl) (fun _ _ _ h => h) (Or.inl ⟨by rfl, ?_⟩) (by assumption) ?_; rotate_left
  · intro W hSw; (try dsimp only at hSw); go_simp; (try with_reducible rfl)
  (try simp only [List.set_cons_zero, List.set_cons_succ])
  refine wpAnyH_takeD (i := 20) (d := 55) (v := ?_) rfl rfl (by kernel_rfl) (by kernel_rfl) (by kernel_rfl) (fun _ _ _ h => h) (Or.inl ⟨by rfl, ?_⟩) (by assumption) ?_; rotate_left
  · intro W hSw; (try dsimp only at hSw); go_simp; (try with_reducible rfl)
  (try simp only [List.set_cons_zero, List.set_cons_succ])
  refine wpAnyH_takeD (i := 22) (d := 57) (v := ?_) rfl rfl (by kernel_rfl) (by kernel_rfl) (by kernel_rfl) (fun _ _ _ h => h) (Or.inl ⟨by rfl, ?_⟩) (by assumption) ?_; rotate_left
  · intro W hSw; (try dsimp only at hSw); go_simp; (try with_reducible rfl)
  (try simp only [List.set_cons_zero, List.set_cons_succ])
  refine wpAnyH_takeD (i := 23) (d := 58) (v := ?_) rfl rfl (by kernel_rfl) (by kernel_rfl) (by kernel_rfl) (fun _ _ _ h => h) (Or.inl ⟨by rfl, ?_⟩) (by assumption) ?_; rotate_left
  · intro W hSw; (try dsimp only at hSw); go_simp; (try with_reducible rfl)
  (try simp only [List.set_cons_zero, List.set_cons_succ])
  refine wpAnyH_ready (rs := [21]) (by kernel_rfl) (by simp) ?_
  refine AllReadyH.cons rfl (fun K hK => ?_) AllReadyH.nil
  go_simp
  go_at_call 19
  refine (HB1.out _ BW.out).mono ?_
  rintro e wz1 ⟨za, zc, rfl, hz, hg⟩
  clear hHeld
  replace BW := Lib.hid (below_go BW.out hg)
  have HZ1 := Lib.hid hz.out
  have BZ1 : Hid (∀ W, Below wz1.heap.size wz1 W → PdS (fun _ => True) W ys za zc) := fun W hb => HZ1.out.below hb
  clear hz HZ1
  clear hg
  refine hK.out _ _ (HK.out _ BW.out) (fun hHeld => ?_)
  clear hK K
  (try simp only [List.set_cons_zero, List.set_cons_succ])
  refine wpAnyH_ready (rs := [24]) (by kernel_rfl) (by simp) ?_
  refine AllReadyH.cons rfl (fun K hK => ?_) AllReadyH.nil
  go_simp
  go_at_call 21
  refine (HB2.out _ BW.out).mono ?_
  rintro e wz2 ⟨za2, zc2, rfl, hz, hg⟩
  clear hHeld
  replace BW := Lib.hid (below_go BW.out hg)
  have BZ2 : Hid (PdS (fun _ => True) wz2 ys za2 zc2) := hz.out
  replace BZ1 : Hid (PdS (fun _ => True) wz2 ys za zc) := BZ1.out wz2 hg
  clear hz
  clear hg
  refine hK.out _ _ (HK.out _ BW.out) (fun hHeld => ?_)
  clear hK K
  (try simp only [List.set_cons_zero, List.set_cons_succ])
  refine wpAnyH_ready (rs := [25]) (by kernel_rfl) (by simp) ?_
  refine AllReadyH.cons rfl (fun K hK => ?_) AllReadyH.nil
  go_simp
  go_at_call 20
  refine (rEqual_self (PT.mk yop ycmp ⟨ylk, yli, ⟨ylvk, ylvn, ylvs⟩⟩ ⟨yrk, yri, ⟨yrvk, yrvn, yrvs⟩⟩ ys) (.agg #[.int .i64 yop, .int .i64 ycmp, .int .i64 ylk, .int .i64 yli, .int .i64 ylvk, .int .i64 ylvn, .string ylvs, .int .i64 yrk, .int .i64 yri, .int .i64 yrvk, .int .i64 yrvn, .string yrvs, .slice za yn zc]) (.agg #[.int .i64 yop, .int .i64 ycmp, .int .i64 ylk, .int .i64 yli, .int .i64 ylvk, .int .i64 ylvn, .string ylvs, .int .i64 yrk, .int .i64 yri, .int .i64 yrvk, .int .i64 yrvn, .string yrvs, .slice za2 yn zc2]) wz2 ⟨za, zc, by simp only [pdV, PT.op, PT.cmp, PT.l, PT.r, PT.args, HYN.out], BZ1.out⟩ ⟨za2, zc2, by simp only [pdV, PT.op, PT.cmp, PT.l, PT.r, PT.args, HYN.out], BZ2.out⟩).mono ?_
  rintro e w_25 ⟨rfl, hg⟩
  clear hHeld
  replace BW := Lib.hid (below_go BW.out hg)
  clear hg
  refine hK.out _ _ (HK.out _ BW.out) (fun hHeld => ?_)
  clear hK K
  (try simp only [List.set_cons_zero, List.set_cons_succ])
  refine wpAnyH_takeD (i := 26) (d := 61) (v := ?_) rfl rfl (by kernel_rfl) (by kernel_rfl) (by kernel_rfl) (fun _ _ _ h => h) (Or.inl ⟨by rfl, ?_⟩) (by assumption) ?_; rotate_left
  · intro W hSw; (try dsimp only at hSw); go_simp; (try with_reducible rfl)
  (try simp only [List.set_cons_zero, List.set_cons_succ])
  refine wpAnyH_takeD (i := 27) (d := 62) (v := ?_) rfl rfl (by kernel_rfl) (by kernel_rfl) (by kernel_rfl) (fun _ _ _ h => h) (Or.inl ⟨by rfl, ?_⟩) (by assumption) ?_; rotate_left
  · intro W hSw; (try dsimp only at hSw); go_simp; (try with_reducible rfl)
  (try simp only [List.set_cons_zero, List.set_cons_succ])
  refine wpAnyH_takeD (i := 28) (d := 63) (v := ?_) rfl rfl (by kernel_rfl) (by kernel_rfl) (by kernel_rfl) (fun _ _ _ h => h) (Or.inl ⟨by rfl, ?_⟩) (by assumption) ?_; rotate_left
  · intro W hSw; (try dsimp only at hSw); go_simp; (try with_reducible rfl)
  (try simp only [List.set_cons_zero, List.set_cons_succ])
  refine wpAnyH_takeD (i := 29) (d := 64) (v := ?_) rfl rfl (by kernel_rfl) (by kernel_rfl) (by kernel_rfl) (fun _ _ _ h => h) (Or.inl ⟨by rfl, ?_⟩) (by assumption) ?_; rotate_left
  · intro W hSw; (try dsimp only at hSw); go_simp; (try with_reducible rfl)
  (try simp only [List.set_cons_zero, List.set_cons_succ])
  refine wpAnyH_takeD (i := 30) (d := 65) (v := ?_) rfl rfl (by kernel_rfl) (by kernel_rfl) (by kernel_rfl) (fun _ _ _ h => h) (Or.inl ⟨by rfl, ?_⟩) (by assumption) ?_; rotate_left
  · intro W hSw; (try dsimp only at hSw); go_simp; (try with_reducible rfl)
  (try simp only [List.set_cons_zero, List.set_cons_succ])
  refine wpAnyH_ready (rs := [31]) (by kernel_rfl) (by simp) ?_
  refine AllReadyH.cons rfl (fun K hK => ?_) AllReadyH.nil
  go_simp
  go_at_call 21
  refine (HB3.out _ BW.out).mono ?_
  rintro e wz3 ⟨za3, zc3, rfl, hz, hg⟩
  clear hHeld
  replace BW := Lib.hid (below_go BW.out hg)
  have BZ3 : Hid (PdS (fun _ => True) wz3 bs za3 zc3) := hz.out
  have BWZ := Lib.hid BW.out
  clear hz
  clear hg
  refine hK.out _ _ (HK.out _ BW.out) (fun hHeld => ?_)
  clear hK K
  (try simp only [List.set_cons_zero, List.set_cons_succ])
  refine wpAnyH_ready (rs := [32]) (by kernel_rfl) (by simp) ?_
  refine AllReadyH.cons rfl (fun K hK => ?_) AllReadyH.nil
  go_simp
  go_at_call 20
  refine (rEqual_self (PT.mk bop bcmp ⟨blk, bli, ⟨blvk, blvn, blvs⟩⟩ ⟨brk, bri, ⟨brvk, brvn, brvs⟩⟩ bs) (.agg #[.int .i64 bop, .int .i64 bcmp, .int .i64 blk, .int .i64 bli, .int .i64 blvk, .int .i64 blvn, .string blvs, .int .i64 brk, .int .i64 bri, .int .i64 brvk, .int .i64 brvn, .string brvs, .slice ba bn bc2]) (.agg #[.int .i64 bop, .int .i64 bcmp, .int .i64 blk, .int .i64 bli, .int .i64 blvk, .int .i64 blvn, .string blvs, .int .i64 brk, .int .i64 bri, .int .i64 brvk, .int .i64 brvn, .string brvs, .slice za3 bn zc3]) wz3 (HPB.out _ BWZ.out) ⟨za3, zc3, by simp only [pdV, PT.op, PT.cmp, PT.l, PT.r, PT.args, HBN.out], BZ3.out⟩).mono ?_
  rintro e w_32 ⟨rfl, hg⟩
  clear hHeld
  replace BW := Lib.hid (below_go BW.out hg)
  clear hg
  refine hK.out _ _ (HK.out _ BW.out) (fun hHeld => ?_)
  clear hK K
  (try simp only [List.set_cons_zero, List.set_cons_succ])
  refine wpAnyH_takeD (i := 33) (d := 68) (v := ?_) rfl rfl (by kernel_rfl) (by kernel_rfl) (by kernel_rfl) (fun _ _ _ h => h) (Or.inl ⟨by rfl, ?_⟩) (by assumption) ?_; rotate_left
  · intro W hSw; (try dsimp only at hSw); go_simp; (try with_reducible rfl)
  (try simp only [List.set_cons_zero, List.set_cons_succ])
  refine wpAnyH_takeD (i := 34) (d := 8) (v := ?_) rfl rfl (by kernel_rfl) (by kernel_rfl) (by kernel_rfl) (fun _ _ _ h => h) (Or.inl ⟨by rfl, ?_⟩) (by assumption) ?_; rotate_left
  · intro W hSw; (try dsimp only at hSw); go_simp; (try with_reducible rfl)
  (try simp only [List.set_cons_zero, List.set_cons_succ])
  clear hHeld
  refine wpAnyH_done (by kernel_rfl) ?_ _
  go_wp2_with fail
  go_ret
  exact ⟨rfl, BW8.out.trans (BW.out.mono BW8.out.size)⟩
end Go.Proofs.Ytffeghlepblapaa
