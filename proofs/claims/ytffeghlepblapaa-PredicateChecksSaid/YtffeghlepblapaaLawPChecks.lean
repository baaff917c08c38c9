/- Law PredicateChecks. -/
import Derived.Test.YtffeghlepblapaaPdTree
import Derived.Test.YtffeghlepblapaaPdRow
import Derived.Test.YtffeghlepblapaaIvCase
import Derived.Test.YtffeghlepblapaaPdCheck
import Derived.Test.YtffeghlepblapaaPdRefValid
import Derived.Test.YtffeghlepblapaaPdBegun
import Derived.Test.YtffeghlepblapaaPdSpoil2
namespace Go.Proofs.Ytffeghlepblapaa
open Go.RowKit Go.Deep

theorem intsAt_nilC (W : World) : IntsAt W (.slice none 0 0) [] := (IntsG.nil 0 W).at
set_option linter.unusedSimpArgs false in
set_option maxRecDepth 100000 in
set_option maxHeartbeats 2000000 in
theorem pchecks_walk (cv : Value) (cn : Nat) (rv : Value) (R : PT) (ov : Value) (OD : List Int) (w : World) (hcv : BytesAt w cv cn) (hrv : Pd w rv R) (_hwr : widP R) (hov : IntsAt w ov OD) : Calls Try.prog 3 #[cv, rv, ov] w fun e w' => e = .returned (.bool true) ∧ Below w.heap.size w w' := by
  obtain ⟨ra, rc, rfl, hrs⟩ := hrv
  obtain ⟨rop, rcmp, ⟨rlk, rli, ⟨rlvk, rlvn, rlvs⟩⟩, ⟨rrk, rri, ⟨rrvk, rrvn, rrvs⟩⟩, rs⟩ := R
  have HR0 : Hid (Pd w (pdV (PT.mk rop rcmp ⟨rlk, rli, ⟨rlvk, rlvn, rlvs⟩⟩ ⟨rrk, rri, ⟨rrvk, rrvn, rrvs⟩⟩ rs) ra rc) (PT.mk rop rcmp ⟨rlk, rli, ⟨rlvk, rlvn, rlvs⟩⟩ ⟨rrk, rri, ⟨rrvk, rrvn, rrvs⟩⟩ rs)) := ⟨ra, rc, rfl, hrs⟩
  have HOV := Lib.hid hov
  simp only [pdV, PT.op, PT.cmp, PT.l, PT.r, PT.args] at HR0 ⊢
  obtain ⟨rn, hrn⟩ : ∃ rn, rs.length = rn := ⟨_, rfl⟩
  have HRN := Lib.hid hrn
  rw [hrn] at HR0 ⊢
  obtain ⟨wa, hwa⟩ : ∃ wa, w.alloc (.cells #[.int .i64 rop, .int .i64 rcmp, .int .i64 rlk, .int .i64 rli, .int .i64 rlvk, .int .i64 rlvn, .string rlvs, .int .i64 rrk, .int .i64 rri, .int .i64 rrvk, .int .i64 rrvn, .string rrvs, .slice ra rn rc] 29) = wa := ⟨_, rfl⟩
  have HWA : Hid (Below w.heap.size w wa) := by rw [← hwa]; exact (Below.refl _ _).alloc (Nat.le_refl _) _
  have hwas : w.heap.size < wa.heap.size := by rw [← hwa]; simp
  have a0 : wa.cell? ⟨w.heap.size, 0, none⟩ = some (.int .i64 rop) := by subst hwa; go_simp
  have a1 : wa.cell? ⟨w.heap.size, 1, none⟩ = some (.int .i64 rcmp) := by subst hwa; go_simp
  have a2 : wa.cell? ⟨w.heap.size, 2, none⟩ = some (.int .i64 rlk) := by subst hwa; go_simp
  have a3 : wa.cell? ⟨w.heap.size, 3, none⟩ = some (.int .i64 rli) := by subst hwa; go_simp
  have a4 : wa.cell? ⟨w.heap.size, 4, none⟩ = some (.int .i64 rlvk) := by subst hwa; go_simp
  have a5 : wa.cell? ⟨w.heap.size, 5, none⟩ = some (.int .i64 rlvn) := by subst hwa; go_simp
  have a6 : wa.cell? ⟨w.heap.size, 6, none⟩ = some (.string rlvs) := by subst hwa; go_simp
  have a7 : wa.cell? ⟨w.heap.size, 7, none⟩ = some (.int .i64 rrk) := by subst hwa; go_simp
  have a8 : wa.cell? ⟨w.heap.size, 8, none⟩ = some (.int .i64 rri) := by subst hwa; go_simp
  have a9 : wa.cell? ⟨w.heap.size, 9, none⟩ = some (.int .i64 rrvk) := by subst hwa; go_simp
  have a10 : wa.cell? ⟨w.heap.size, 10, none⟩ = some (.int .i64 rrvn) := by subst hwa; go_simp
  have a11 : wa.cell? ⟨w.heap.size, 11, none⟩ = some (.string rrvs) := by subst hwa; go_simp
  have a12 : wa.cell? ⟨w.heap.size, 12, none⟩ = some (.slice ra rn rc) := by subst hwa; go_simp
  have HKR : Hid (∀ W, Below wa.heap.size wa W → W.cell? ⟨w.heap.size, 0, none⟩ = some (.int .i64 rop) ∧ W.cell? ⟨w.heap.size, 1, none⟩ = some (.int .i64 rcmp) ∧ W.cell? ⟨w.heap.size, 2, none⟩ = some (.int .i64 rlk) ∧ W.cell? ⟨w.heap.size, 3, none⟩ = some (.int .i64 rli) ∧ W.cell? ⟨w.heap.size, 4, none⟩ = some (.int .i64 rlvk) ∧ W.cell? ⟨w.heap.size, 5, none⟩ = some (.int .i64 rlvn) ∧ W.cell? ⟨w.heap.size, 6, none⟩ = some (.string rlvs) ∧ W.cell? ⟨w.heap.size, 7, none⟩ = some (.int .i64 rrk) ∧ W.cell? ⟨w.heap.size, 8, none⟩ = some (.int .i64 rri) ∧ W.cell? ⟨w.heap.size, 9, none⟩ = some (.int .i64 rrvk) ∧ W.cell? ⟨w.heap.size, 10, none⟩ = some (.int .i64 rrvn) ∧ W.cell? ⟨w.heap.size, 11, none⟩ = some (.string rrvs) ∧ W.cell? ⟨w.heap.size, 12, none⟩ = some (.slice ra rn rc)) := fun W hb => ⟨(hb.cell (p := ⟨w.heap.size, 0, none⟩) hwas).trans a0, (hb.cell (p := ⟨w.heap.size, 1, none⟩) hwas).trans a1, (hb.cell (p := ⟨w.heap.size, 2, none⟩) hwas).trans a2, (hb.cell (p := ⟨w.heap.size, 3, none⟩) hwas).trans a3, (hb.cell (p := ⟨w.heap.size, 4, none⟩) hwas).trans a4, (hb.cell (p := ⟨w.heap.size, 5, none⟩) hwas).trans a5, (hb.cell (p := ⟨w.heap.size, 6, none⟩) hwas).trans a6, (hb.cell (p := ⟨w.heap.size, 7, none⟩) hwas).trans a7, (hb.cell (p := ⟨w.heap.size, 8, none⟩) hwas).trans a8, (hb.cell (p := ⟨w.heap.size, 9, none⟩) hwas).trans a9, (hb.cell (p := ⟨w.heap.size, 10, none⟩) hwas).trans a10, (hb.cell (p := ⟨w.heap.size, 11, none⟩) hwas).trans a11, (hb.cell (p := ⟨w.heap.size, 12, none⟩) hwas).trans a12⟩
  have HN := Lib.hid (cNew_120 cv cn wa (hcv.below HWA.out))
  obtain ⟨sa, sc, rfl, _⟩ := hcv
  have HB : Hid (∀ W, Calls Try.prog 12 #[] W fun e w' => e = .returned (.bool true) ∧ Below W.heap.size W w') := begun5_any
  clear hrs hov hrn a0 a1 a2 a3 a4 a5 a6 a7 a8 a9 a10 a11 a12
  go_enter Try.func3, Try.ntmps3
  go_wp2_with fail
  try rw [hwa]
  clear hwa
  refine HN.out.mono ?_
  rintro e w1 ⟨bc, rfl, hb1, hbc, hok⟩
  have hlt : bc < w1.heap.size := hok.lt.1
  have B1 : Hid (Below wa.heap.size wa w1) := hb1
  have hs1 := hb1.size
  have O1 := Lib.hid hok
  have M1 : Hid (Mv bc w1 w1) := Mv.refl _ _
  clear hb1 hok HN
  have HC1 := Lib.hid (lKinds_any bc w1.heap.size 4 (by omega) w1 O1.out)
  go_wp2_with fail
  refine HC1.out.mono ?_
  rintro e w2 ⟨kv, K, rfl, hkl, hkk, hki, hm, ho⟩
  have M2 : Hid (Mv bc w1 w2) := M1.out.trans hm
  have O2 := Lib.hid ho
  have hs2 : w1.heap.size ≤ w2.heap.size := hm.size
  obtain ⟨ka, kc, rfl⟩ := hki.shape
  have HKK : Hid (okKs K = true ∧ K.length ≤ 4) := ⟨hkk, hkl⟩
  have HIK : Hid (IntsG w1.heap.size w2 (.slice ka K.length kc) K) := hki.weak (by omega)
  obtain ⟨kn, hkn⟩ : ∃ kn, K.length = kn := ⟨_, rfl⟩
  rw [hkn] at HIK ⊢
  clear hki hkl hkk hkn
  clear hm ho HC1 M1 O1
  have HC2 := Lib.hid (lKinds_any bc w1.heap.size 2 (by omega) w2 O2.out)
  go_wp2_with fail
  refine HC2.out.mono ?_
  rintro e w3 ⟨kv, M, rfl, hkl, hkk, hki, hm, ho⟩
  have M3 : Hid (Mv bc w1 w3) := M2.out.trans hm
  have O3 := Lib.hid ho
  have hs3 : w2.heap.size ≤ w3.heap.size := hm.size
  replace HIK := Lib.hid (HIK.out.mv hm hlt)
  obtain ⟨ma, mc, rfl⟩ := hki.shape
  have HKM : Hid (okKs M = true ∧ M.length ≤ 2) := ⟨hkk, hkl⟩
  have HIM : Hid (IntsG w1.heap.size w3 (.slice ma M.length mc) M) := hki.weak (by omega)
  obtain ⟨mn, hmn⟩ : ∃ mn, M.length = mn := ⟨_, rfl⟩
  rw [hmn] at HIM ⊢
  clear hki hkl hkk hmn
  clear hm ho HC2 M2 O2
  have HC3 := Lib.hid (cPredicate_any bc w1.heap.size w1.heap.size K M (.slice ka kn kc) (.slice ma mn mc) 3 w3 O3.out (by omega) HKK.out.1 HKM.out.1 (by have := HKK.out.2; omega) (by have := HKM.out.2; omega) HIK.out HIM.out hlt)
  go_wp2_with fail
  refine HC3.out.mono ?_
  rintro e w4 ⟨⟨pop, pcmp, ⟨plk, pli, ⟨plvk, plvn, plvs⟩⟩, ⟨prk, pri, ⟨prvk, prvn, prvs⟩⟩, ps⟩, pa, pc, rfl, hps, hpvl, hpsm, hm, ho⟩
  have M4 : Hid (Mv bc w1 w4) := M3.out.trans hm
  have O4 := Lib.hid ho
  have hs4 : w3.heap.size ≤ w4.heap.size := hm.size
  replace HIK := Lib.hid (HIK.out.mv hm hlt)
  replace HIM := Lib.hid (HIM.out.mv hm hlt)
  have HPS : Hid (PdS (fun b => w1.heap.size ≤ b) w4 ps pa pc) := hps.weak (fun b hb => by omega)
  have HPV2 : Hid (vldP K M (PT.mk pop pcmp ⟨plk, pli, ⟨plvk, plvn, plvs⟩⟩ ⟨prk, pri, ⟨prvk, prvn, prvs⟩⟩ ps) = true ∧ smallP (PT.mk pop pcmp ⟨plk, pli, ⟨plvk, plvn, plvs⟩⟩ ⟨prk, pri, ⟨prvk, prvn, prvs⟩⟩ ps) = true) := ⟨hpvl, hpsm⟩
  simp only [pdV, PT.op, PT.cmp, PT.l, PT.r, PT.args]
  obtain ⟨pn, hpn⟩ : ∃ pn, ps.length = pn := ⟨_, rfl⟩
  have HPN := Lib.hid hpn
  rw [hpn]
  clear hps hpvl hpsm hpn
  clear hm ho HC3 M3 O3
  go_wp2_with fail
  obtain ⟨w5, hwb⟩ : ∃ w5, w4.alloc (.cells #[.int .i64 pop, .int .i64 pcmp, .int .i64 plk, .int .i64 pli, .int .i64 plvk, .int .i64 plvn, .string plvs, .int .i64 prk, .int .i64 pri, .int .i64 prvk, .int .i64 prvn, .string prvs, .slice pa pn pc] 29) = w5 := ⟨_, rfl⟩
  have hbb : Below w4.heap.size w4 w5 := by rw [← hwb]; exact (Below.refl _ _).alloc (Nat.le_refl _) _
  have hm : Mv bc w4 w5 := Mv.of_below hbb
  have O5 : Hid (CaseOk bc w1.heap.size w5) := by rw [← hwb]; exact O4.out.alloc _
  have hs5 : w5.heap.size = w4.heap.size + 1 := by rw [← hwb]; simp
  have M5 : Hid (Mv bc w1 w5) := M4.out.trans hm
  obtain ⟨bp, hbp⟩ : ∃ bp, w4.heap.size = bp := ⟨_, rfl⟩
  have a0 : w5.cell? ⟨w4.heap.size, 0, none⟩ = some (.int .i64 pop) := by subst hwb; go_simp
  have a1 : w5.cell? ⟨w4.heap.size, 1, none⟩ = some (.int .i64 pcmp) := by subst hwb; go_simp
  have a2 : w5.cell? ⟨w4.heap.size, 2, none⟩ = some (.int .i64 plk) := by subst hwb; go_simp
  have a3 : w5.cell? ⟨w4.heap.size, 3, none⟩ = some (.int .i64 pli) := by subst hwb; go_simp
  have a4 : w5.cell? ⟨w4.heap.size, 4, none⟩ = some (.int .i64 plvk) := by subst hwb; go_simp
  have a5 : w5.cell? ⟨w4.heap.size, 5, none⟩ = some (.int .i64 plvn) := by subst hwb; go_simp
  have a6 : w5.cell? ⟨w4.heap.size, 6, none⟩ = some (.string plvs) := by subst hwb; go_simp
  have a7 : w5.cell? ⟨w4.heap.size, 7, none⟩ = some (.int .i64 prk) := by subst hwb; go_simp
  have a8 : w5.cell? ⟨w4.heap.size, 8, none⟩ = some (.int .i64 pri) := by subst hwb; go_simp
  have a9 : w5.cell? ⟨w4.heap.size, 9, none⟩ = some (.int .i64 prvk) := by subst hwb; go_simp
  have a10 : w5.cell? ⟨w4.heap.size, 10, none⟩ = some (.int .i64 prvn) := by subst hwb; go_simp
  have a11 : w5.cell? ⟨w4.heap.size, 11, none⟩ = some (.string prvs) := by subst hwb; go_simp
  have a12 : w5.cell? ⟨w4.heap.size, 12, none⟩ = some (.slice pa pn pc) := by subst hwb; go_simp
  rw [hbp] at a0 a1 a2 a3 a4 a5 a6 a7 a8 a9 a10 a11 a12 hs5
  have hlp : w1.heap.size ≤ bp := by omega
  have HBp : Hid (bp < w5.heap.size ∧ ∀ W, Mv bc w5 W → W.cell? ⟨bp, 0, none⟩ = some (.int .i64 pop) ∧ W.cell? ⟨bp, 1, none⟩ = some (.int .i64 pcmp) ∧ W.cell? ⟨bp, 2, none⟩ = some (.int .i64 plk) ∧ W.cell? ⟨bp, 3, none⟩ = some (.int .i64 pli) ∧ W.cell? ⟨bp, 4, none⟩ = some (.int .i64 plvk) ∧ W.cell? ⟨bp, 5, none⟩ = some (.int .i64 plvn) ∧ W.cell? ⟨bp, 6, none⟩ = some (.string plvs) ∧ W.cell? ⟨bp, 7, none⟩ = some (.int .i64 prk) ∧ W.cell? ⟨bp, 8, none⟩ = some (.int .i64 pri) ∧ W.cell? ⟨bp, 9, none⟩ = some (.int .i64 prvk) ∧ W.cell? ⟨bp, 10, none⟩ = some (.int .i64 prvn) ∧ W.cell? ⟨bp, 11, none⟩ = some (.string prvs) ∧ W.cell? ⟨bp, 12, none⟩ = some (.slice pa pn pc)) := ⟨by omega, fun W hb => ⟨(hb.cell (p := ⟨bp, 0, none⟩) (show bp < _ by omega) (show bp ≠ bc by omega)).trans a0, (hb.cell (p := ⟨bp, 1, none⟩) (show bp < _ by omega) (show bp ≠ bc by omega)).trans a1, (hb.cell (p := ⟨bp, 2, none⟩) (show bp < _ by omega) (show bp ≠ bc by omega)).trans a2, (hb.cell (p := ⟨bp, 3, none⟩) (show bp < _ by omega) (show bp ≠ bc by omega)).trans a3, (hb.cell (p := ⟨bp, 4, none⟩) (show bp < _ by omega) (show bp ≠ bc by omega)).trans a4, (hb.cell (p := ⟨bp, 5, none⟩) (show bp < _ by omega) (show bp ≠ bc by omega)).trans a5, (hb.cell (p := ⟨bp, 6, none⟩) (show bp < _ by omega) (show bp ≠ bc by omega)).trans a6, (hb.cell (p := ⟨bp, 7, none⟩) (show bp < _ by omega) (show bp ≠ bc by omega)).trans a7, (hb.cell (p := ⟨bp, 8, none⟩) (show bp < _ by omega) (show bp ≠ bc by omega)).trans a8, (hb.cell (p := ⟨bp, 9, none⟩) (show bp < _ by omega) (show bp ≠ bc by omega)).trans a9, (hb.cell (p := ⟨bp, 10, none⟩) (show bp < _ by omega) (show bp ≠ bc by omega)).trans a10, (hb.cell (p := ⟨bp, 11, none⟩) (show bp < _ by omega) (show bp ≠ bc by omega)).trans a11, (hb.cell (p := ⟨bp, 12, none⟩) (show bp < _ by omega) (show bp ≠ bc by omega)).trans a12⟩⟩
  replace HIK := Lib.hid (HIK.out.mv hm hlt)
  replace HIM := Lib.hid (HIM.out.mv hm hlt)
  replace HPS := Lib.hid ((show PdS (fun b => w1.heap.size ≤ b) _ ps pa pc from HPS.out.keep hm.size (fun b hb hl => hm.block b hl (by omega))))
  rw [hwb, hbp]
  clear hwb hbb hm hbp M4 O4 a0 a1 a2 a3 a4 a5 a6 a7 a8 a9 a10 a11 a12
  have HC5 := Lib.hid (cSpoil_any bc w1.heap.size w1.heap.size hlt _ (PT.mk pop pcmp ⟨plk, pli, ⟨plvk, plvn, plvs⟩⟩ ⟨prk, pri, ⟨prvk, prvn, prvs⟩⟩ ps) (Nat.le_refl _) (by have := HPV2.out.2; unfold smallP at this; simp only [decide_eq_true_eq] at this; omega) w5.heap.size pa pc w5 O5.out (Nat.le_refl _) (HPS.out.ltP))
  simp only [pdV, PT.op, PT.cmp, PT.l, PT.r, PT.args, HPN.out] at HC5
  refine HC5.out.mono ?_
  rintro e w6 ⟨⟨qop, qcmp, ⟨qlk, qli, ⟨qlvk, qlvn, qlvs⟩⟩, ⟨qrk, qri, ⟨qrvk, qrvn, qrvs⟩⟩, qs⟩, qa, qc, rfl, hps, hm, ho⟩
  have M6 : Hid (Mv bc w1 w6) := M5.out.trans hm
  have O6 := Lib.hid ho
  have hs6 : w5.heap.size ≤ w6.heap.size := hm.size
  replace HIK := Lib.hid (HIK.out.mv hm hlt)
  replace HIM := Lib.hid (HIM.out.mv hm hlt)
  replace HPS := Lib.hid ((show PdS (fun b => w1.heap.size ≤ b) _ ps pa pc from HPS.out.keep hm.size (fun b hb hl => hm.block b hl (by omega))))
  replace HBp := Lib.hid ((show _ ∧ (∀ W, Mv bc _ W → W.cell? ⟨bp, 0, none⟩ = some (.int .i64 pop) ∧ W.cell? ⟨bp, 1, none⟩ = some (.int .i64 pcmp) ∧ W.cell? ⟨bp, 2, none⟩ = some (.int .i64 plk) ∧ W.cell? ⟨bp, 3, none⟩ = some (.int .i64 pli) ∧ W.cell? ⟨bp, 4, none⟩ = some (.int .i64 plvk) ∧ W.cell? ⟨bp, 5, none⟩ = some (.int .i64 plvn) ∧ W.cell? ⟨bp, 6, none⟩ = some (.string plvs) ∧ W.cell? ⟨bp, 7, none⟩ = some (.int .i64 prk) ∧ W.cell? ⟨bp, 8, none⟩ = some (.int .i64 pri) ∧ W.cell? ⟨bp, 9, none⟩ = some (.int .i64 prvk) ∧ W.cell? ⟨bp, 10, none⟩ = some (.int .i64 prvn) ∧ W.cell? ⟨bp, 11, none⟩ = some (.string prvs) ∧ W.cell? ⟨bp, 12, none⟩ = some (.slice pa pn pc)) from ⟨Nat.lt_of_lt_of_le HBp.out.1 hm.size, fun W hb => HBp.out.2 W (hm.trans hb)⟩))
  have HQS : Hid (PdS (fun b => w1.heap.size ≤ b) w6 qs qa qc) := hps.weak (fun b hb => by omega)
  simp only [pdV, PT.op, PT.cmp, PT.l, PT.r, PT.args]
  obtain ⟨qn, hqn⟩ : ∃ qn, qs.length = qn := ⟨_, rfl⟩
  have HQN := Lib.hid hqn
  rw [hqn]
  clear hps hqn
  clear hm ho HC5 M5 O5
  go_upto_region 5 with fail
  obtain ⟨w7, hwb⟩ : ∃ w7, w6.alloc (.cells #[.int .i64 qop, .int .i64 qcmp, .int .i64 qlk, .int .i64 qli, .int .i64 qlvk, .int .i64 qlvn, .string qlvs, .int .i64 qrk, .int .i64 qri, .int .i64 qrvk, .int .i64 qrvn, .string qrvs, .slice qa qn qc] 29) = w7 := ⟨_, rfl⟩
  have hbb : Below w6.heap.size w6 w7 := by rw [← hwb]; exact (Below.refl _ _).alloc (Nat.le_refl _) _
  have hm : Mv bc w6 w7 := Mv.of_below hbb
  have O7 : Hid (CaseOk bc w1.heap.size w7) := by rw [← hwb]; exact O6.out.alloc _
  have hs7 : w7.heap.size = w6.heap.size + 1 := by rw [← hwb]; simp
  have M7 : Hid (Mv bc w1 w7) := M6.out.trans hm
  obtain ⟨bq, hbq⟩ : ∃ bq, w6.heap.size = bq := ⟨_, rfl⟩
  have a0 : w7.cell? ⟨w6.heap.size, 0, none⟩ = some (.int .i64 qop) := by subst hwb; go_simp
  have a1 : w7.cell? ⟨w6.heap.size, 1, none⟩ = some (.int .i64 qcmp) := by subst hwb; go_simp
  have a2 : w7.cell? ⟨w6.heap.size, 2, none⟩ = some (.int .i64 qlk) := by subst hwb; go_simp
  have a3 : w7.cell? ⟨w6.heap.size, 3, none⟩ = some (.int .i64 qli) := by subst hwb; go_simp
  have a4 : w7.cell? ⟨w6.heap.size, 4, none⟩ = some (.int .i64 qlvk) := by subst hwb; go_simp
  have a5 : w7.cell? ⟨w6.heap.size, 5, none⟩ = some (.int .i64 qlvn) := by subst hwb; go_simp
  have a6 : w7.cell? ⟨w6.heap.size, 6, none⟩ = some (.string qlvs) := by subst hwb; go_simp
  have a7 : w7.cell? ⟨w6.heap.size, 7, none⟩ = some (.int .i64 qrk) := by subst hwb; go_simp
  have a8 : w7.cell? ⟨w6.heap.size, 8, none⟩ = some (.int .i64 qri) := by subst hwb; go_simp
  have a9 : w7.cell? ⟨w6.heap.size, 9, none⟩ = some (.int .i64 qrvk) := by subst hwb; go_simp
  have a10 : w7.cell? ⟨w6.heap.size, 10, none⟩ = some (.int .i64 qrvn) := by subst hwb; go_simp
  have a11 : w7.cell? ⟨w6.heap.size, 11, none⟩ = some (.string qrvs) := by subst hwb; go_simp
  have a12 : w7.cell? ⟨w6.heap.size, 12, none⟩ = some (.slice qa qn qc) := by subst hwb; go_simp
  rw [hbq] at a0 a1 a2 a3 a4 a5 a6 a7 a8 a9 a10 a11 a12 hs7
  have hlq : w1.heap.size ≤ bq := by omega
  have HBq : Hid (bq < w7.heap.size ∧ ∀ W, Mv bc w7 W → W.cell? ⟨bq, 0, none⟩ = some (.int .i64 qop) ∧ W.cell? ⟨bq, 1, none⟩ = some (.int .i64 qcmp) ∧ W.cell? ⟨bq, 2, none⟩ = some (.int .i64 qlk) ∧ W.cell? ⟨bq, 3, none⟩ = some (.int .i64 qli) ∧ W.cell? ⟨bq, 4, none⟩ = some (.int .i64 qlvk) ∧ W.cell? ⟨bq, 5, none⟩ = some (.int .i64 qlvn) ∧ W.cell? ⟨bq, 6, none⟩ = some (.string qlvs) ∧ W.cell? ⟨bq, 7, none⟩ = some (.int .i64 qrk) ∧ W.cell? ⟨bq, 8, none⟩ = some (.int .i64 qri) ∧ W.cell? ⟨bq, 9, none⟩ = some (.int .i64 qrvk) ∧ W.cell? ⟨bq, 10, none⟩ = some (.int .i64 qrvn) ∧ W.cell? ⟨bq, 11, none⟩ = some (.string qrvs) ∧ W.cell? ⟨bq, 12, none⟩ = some (.slice qa qn qc)) := ⟨by omega, fun W hb => ⟨(hb.cell (p := ⟨bq, 0, none⟩) (show bq < _ by omega) (show bq ≠ bc by omega)).trans a0, (hb.cell (p := ⟨bq, 1, none⟩) (show bq < _ by omega) (show bq ≠ bc by omega)).trans a1, (hb.cell (p := ⟨bq, 2, none⟩) (show bq < _ by omega) (show bq ≠ bc by omega)).trans a2, (hb.cell (p := ⟨bq, 3, none⟩) (show bq < _ by omega) (show bq ≠ bc by omega)).trans a3, (hb.cell (p := ⟨bq, 4, none⟩) (show bq < _ by omega) (show bq ≠ bc by omega)).trans a4, (hb.cell (p := ⟨bq, 5, none⟩) (show bq < _ by omega) (show bq ≠ bc by omega)).trans a5, (hb.cell (p := ⟨bq, 6, none⟩) (show bq < _ by omega) (show bq ≠ bc by omega)).trans a6, (hb.cell (p := ⟨bq, 7, none⟩) (show bq < _ by omega) (show bq ≠ bc by omega)).trans a7, (hb.cell (p := ⟨bq, 8, none⟩) (show bq < _ by omega) (show bq ≠ bc by omega)).trans a8, (hb.cell (p := ⟨bq, 9, none⟩) (show bq < _ by omega) (show bq ≠ bc by omega)).trans a9, (hb.cell (p := ⟨bq, 10, none⟩) (show bq < _ by omega) (show bq ≠ bc by omega)).trans a10, (hb.cell (p := ⟨bq, 11, none⟩) (show bq < _ by omega) (show bq ≠ bc by omega)).trans a11, (hb.cell (p := ⟨bq, 12, none⟩) (show bq < _ by omega) (show bq ≠ bc by omega)).trans a12⟩⟩
  replace HIK := Lib.hid (HIK.out.mv hm hlt)
  replace HIM := Lib.hid (HIM.out.mv hm hlt)
  replace HPS := Lib.hid ((show PdS (fun b => w1.heap.size ≤ b) _ ps pa pc from HPS.out.keep hm.size (fun b hb hl => hm.block b hl (by omega))))
  replace HBp := Lib.hid ((show _ ∧ (∀ W, Mv bc _ W → W.cell? ⟨bp, 0, none⟩ = some (.int .i64 pop) ∧ W.cell? ⟨bp, 1, none⟩ = some (.int .i64 pcmp) ∧ W.cell? ⟨bp, 2, none⟩ = some (.int .i64 plk) ∧ W.cell? ⟨bp, 3, none⟩ = some (.int .i64 pli) ∧ W.cell? ⟨bp, 4, none⟩ = some (.int .i64 plvk) ∧ W.cell? ⟨bp, 5, none⟩ = some (.int .i64 plvn) ∧ W.cell? ⟨bp, 6, none⟩ = some (.string plvs) ∧ W.cell? ⟨bp, 7, none⟩ = some (.int .i64 prk) ∧ W.cell? ⟨bp, 8, none⟩ = some (.int .i64 pri) ∧ W.cell? ⟨bp, 9, none⟩ = some (.int .i64 prvk) ∧ W.cell? ⟨bp, 10, none⟩ = some (.int .i64 prvn) ∧ W.cell? ⟨bp, 11, none⟩ = some (.string prvs) ∧ W.cell? ⟨bp, 12, none⟩ = some (.slice pa pn pc)) from ⟨Nat.lt_of_lt_of_le HBp.out.1 hm.size, fun W hb => HBp.out.2 W (hm.trans hb)⟩))
  replace HQS := Lib.hid ((show PdS (fun b => w1.heap.size ≤ b) _ qs qa qc from HQS.out.keep hm.size (fun b hb hl => hm.block b hl (by omega))))
  rw [hwb, hbq]
  clear hwb hbb hm hbq M6 O6 a0 a1 a2 a3 a4 a5 a6 a7 a8 a9 a10 a11 a12
  have BAZ : Hid (Below wa.heap.size wa w7) := B1.out.trans (M7.out.below (B := wa.heap.size) (by omega) (by omega))
  have BWZ : Hid (Below w.heap.size w w7) := HWA.out.trans (BAZ.out.mono (by omega))
  have HK : Hid (∀ W, Below w7.heap.size w7 W → W.cell? ⟨w.heap.size, 0, none⟩ = some (.int .i64 rop) ∧ W.cell? ⟨w.heap.size, 1, none⟩ = some (.int .i64 rcmp) ∧ W.cell? ⟨w.heap.size, 2, none⟩ = some (.int .i64 rlk) ∧ W.cell? ⟨w.heap.size, 3, none⟩ = some (.int .i64 rli) ∧ W.cell? ⟨w.heap.size, 4, none⟩ = some (.int .i64 rlvk) ∧ W.cell? ⟨w.heap.size, 5, none⟩ = some (.int .i64 rlvn) ∧ W.cell? ⟨w.heap.size, 6, none⟩ = some (.string rlvs) ∧ W.cell? ⟨w.heap.size, 7, none⟩ = some (.int .i64 rrk) ∧ W.cell? ⟨w.heap.size, 8, none⟩ = some (.int .i64 rri) ∧ W.cell? ⟨w.heap.size, 9, none⟩ = some (.int .i64 rrvk) ∧ W.cell? ⟨w.heap.size, 10, none⟩ = some (.int .i64 rrvn) ∧ W.cell? ⟨w.heap.size, 11, none⟩ = some (.string rrvs) ∧ W.cell? ⟨w.heap.size, 12, none⟩ = some (.slice ra rn rc) ∧ W.cell? ⟨bp, 0, none⟩ = some (.int .i64 pop) ∧ W.cell? ⟨bp, 1, none⟩ = some (.int .i64 pcmp) ∧ W.cell? ⟨bp, 2, none⟩ = some (.int .i64 plk) ∧ W.cell? ⟨bp, 3, none⟩ = some (.int .i64 pli) ∧ W.cell? ⟨bp, 4, none⟩ = some (.int .i64 plvk) ∧ W.cell? ⟨bp, 5, none⟩ = some (.int .i64 plvn) ∧ W.cell? ⟨bp, 6, none⟩ = some (.string plvs) ∧ W.cell? ⟨bp, 7, none⟩ = some (.int .i64 prk) ∧ W.cell? ⟨bp, 8, none⟩ = some (.int .i64 pri) ∧ W.cell? ⟨bp, 9, none⟩ = some (.int .i64 prvk) ∧ W.cell? ⟨bp, 10, none⟩ = some (.int .i64 prvn) ∧ W.cell? ⟨bp, 11, none⟩ = some (.string prvs) ∧ W.cell? ⟨bp, 12, none⟩ = some (.slice pa pn pc) ∧ W.cell? ⟨bq, 0, none⟩ = some (.int .i64 qop) ∧ W.cell? ⟨bq, 1, none⟩ = some (.int .i64 qcmp) ∧ W.cell? ⟨bq, 2, none⟩ = some (.int .i64 qlk) ∧ W.cell? ⟨bq, 3, none⟩ = some (.int .i64 qli) ∧ W.cell? ⟨bq, 4, none⟩ = some (.int .i64 qlvk) ∧ W.cell? ⟨bq, 5, none⟩ = some (.int .i64 qlvn) ∧ W.cell? ⟨bq, 6, none⟩ = some (.string qlvs) ∧ W.cell? ⟨bq, 7, none⟩ = some (.int .i64 qrk) ∧ W.cell? ⟨bq, 8, none⟩ = some (.int .i64 qri) ∧ W.cell? ⟨bq, 9, none⟩ = some (.int .i64 qrvk) ∧ W.cell? ⟨bq, 10, none⟩ = some (.int .i64 qrvn) ∧ W.cell? ⟨bq, 11, none⟩ = some (.string qrvs) ∧ W.cell? ⟨bq, 12, none⟩ = some (.slice qa qn qc)) := fun W hb => by
    obtain ⟨x0, x1, x2, x3, x4, x5, x6, x7, x8, x9, x10, x11, x12⟩ := HKR.out W (below_go BAZ.out hb)
    obtain ⟨py0, py1, py2, py3, py4, py5, py6, py7, py8, py9, py10, py11, py12⟩ := HBp.out.2 W (Mv.of_below hb)
    obtain ⟨qy0, qy1, qy2, qy3, qy4, qy5, qy6, qy7, qy8, qy9, qy10, qy11, qy12⟩ := HBq.out.2 W (Mv.of_below hb)
    exact ⟨x0, x1, x2, x3, x4, x5, x6, x7, x8, x9, x10, x11, x12, py0, py1, py2, py3, py4, py5, py6, py7, py8, py9, py10, py11, py12, qy0, qy1, qy2, qy3, qy4, qy5, qy6, qy7, qy8, qy9, qy10, qy11, qy12⟩
  have HPr : Hid (∀ W, Below w7.heap.size w7 W → Pd W (.agg #[.int .i64 rop, .int .i64 rcmp, .int .i64 rlk, .int .i64 rli, .int .i64 rlvk, .int .i64 rlvn, .string rlvs, .int .i64 rrk, .int .i64 rri, .int .i64 rrvk, .int .i64 rrvn, .string rrvs, .slice ra rn rc]) (PT.mk rop rcmp ⟨rlk, rli, ⟨rlvk, rlvn, rlvs⟩⟩ ⟨rrk, rri, ⟨rrvk, rrvn, rrvs⟩⟩ rs)) := fun W hb => HR0.out.below (below_go BWZ.out hb)
  have HPp : Hid (∀ W, Below w7.heap.size w7 W → Pd W (.agg #[.int .i64 pop, .int .i64 pcmp, .int .i64 plk, .int .i64 pli, .int .i64 plvk, .int .i64 plvn, .string plvs, .int .i64 prk, .int .i64 pri, .int .i64 prvk, .int .i64 prvn, .string prvs, .slice pa pn pc]) (PT.mk pop pcmp ⟨plk, pli, ⟨plvk, plvn, plvs⟩⟩ ⟨prk, pri, ⟨prvk, prvn, prvs⟩⟩ ps)) := fun W hb => ⟨pa, pc, by simp only [pdV, PT.op, PT.cmp, PT.l, PT.r, PT.args, HPN.out], (HPS.out.weak (fun _ _ => trivial)).below hb⟩
  have HPq : Hid (∀ W, Below w7.heap.size w7 W → Pd W (.agg #[.int .i64 qop, .int .i64 qcmp, .int .i64 qlk, .int .i64 qli, .int .i64 qlvk, .int .i64 qlvn, .string qlvs, .int .i64 qrk, .int .i64 qri, .int .i64 qrvk, .int .i64 qrvn, .string qrvs, .slice qa qn qc]) (PT.mk qop qcmp ⟨qlk, qli, ⟨qlvk, qlvn, qlvs⟩⟩ ⟨qrk, qri, ⟨qrvk, qrvn, qrvs⟩⟩ qs)) := fun W hb => ⟨qa, qc, by simp only [pdV, PT.op, PT.cmp, PT.l, PT.r, PT.args, HQN.out], (HQS.out.weak (fun _ _ => trivial)).below hb⟩
  have HP1 : Hid (∀ W, Below w7.heap.size w7 W → Calls Try.prog 13 #[.slice ka kn kc, .slice ma mn mc, .agg #[.int .i64 pop, .int .i64 pcmp, .int .i64 plk, .int .i64 pli, .int .i64 plvk, .int .i64 plvn, .string plvs, .int .i64 prk, .int .i64 pri, .int .i64 prvk, .int .i64 prvn, .string prvs, .slice pa pn pc]] W fun e w' => e = .returned (.int .i64 0) ∧ Below W.heap.size W w') := fun W hb => by
    have h := pCheck_any K M (.slice ka kn kc) (.slice ma mn mc) (PT.mk pop pcmp ⟨plk, pli, ⟨plvk, plvn, plvs⟩⟩ ⟨prk, pri, ⟨prvk, prvn, prvs⟩⟩ ps) (.agg #[.int .i64 pop, .int .i64 pcmp, .int .i64 plk, .int .i64 pli, .int .i64 plvk, .int .i64 plvn, .string plvs, .int .i64 prk, .int .i64 pri, .int .i64 prvk, .int .i64 prvn, .string prvs, .slice pa pn pc]) W ((HIK.out.below hb).at) ((HIM.out.below hb).at) (HPp.out W hb)
    have hz : checkP K M (PT.mk pop pcmp ⟨plk, pli, ⟨plvk, plvn, plvs⟩⟩ ⟨prk, pri, ⟨prvk, prvn, prvs⟩⟩ ps) = 0 := by unfold checkP; rw [HKK.out.1, HKM.out.1, HPV2.out.2, HPV2.out.1]; rfl
    rw [hz] at h
    exact h
  obtain ⟨x2, hx2⟩ : ∃ x, checkP K M (PT.mk qop qcmp ⟨qlk, qli, ⟨qlvk, qlvn, qlvs⟩⟩ ⟨qrk, qri, ⟨qrvk, qrvn, qrvs⟩⟩ qs) = x := ⟨_, rfl⟩
  have HP2 : Hid (∀ W, Below w7.heap.size w7 W → Calls Try.prog 13 #[.slice ka kn kc, .slice ma mn mc, .agg #[.int .i64 qop, .int .i64 qcmp, .int .i64 qlk, .int .i64 qli, .int .i64 qlvk, .int .i64 qlvn, .string qlvs, .int .i64 qrk, .int .i64 qri, .int .i64 qrvk, .int .i64 qrvn, .string qrvs, .slice qa qn qc]] W fun e w' => e = .returned (.int .i64 x2) ∧ Below W.heap.size W w') := fun W hb => by
    have h := pCheck_any K M (.slice ka kn kc) (.slice ma mn mc) (PT.mk qop qcmp ⟨qlk, qli, ⟨qlvk, qlvn, qlvs⟩⟩ ⟨qrk, qri, ⟨qrvk, qrvn, qrvs⟩⟩ qs) (.agg #[.int .i64 qop, .int .i64 qcmp, .int .i64 qlk, .int .i64 qli, .int .i64 qlvk, .int .i64 qlvn, .string qlvs, .int .i64 qrk, .int .i64 qri, .int .i64 qrvk, .int .i64 qrvn, .string qrvs, .slice qa qn qc]) W ((HIK.out.below hb).at) ((HIM.out.below hb).at) (HPq.out W hb)
    rw [hx2] at h
    exact h
  have HR2 : Hid (∀ W, Below w7.heap.size w7 W → Calls Try.prog 14 #[.slice ka kn kc, .slice ma mn mc, .agg #[.int .i64 qop, .int .i64 qcmp, .int .i64 qlk, .int .i64 qli, .int .i64 qlvk, .int .i64 qlvn, .string qlvs, .int .i64 qrk, .int .i64 qri, .int .i64 qrvk, .int .i64 qrvn, .string qrvs, .slice qa qn qc]] W fun e w' => e = .returned (.int .i64 x2) ∧ Below W.heap.size W w') := fun W hb => by
    have h := rCheck_any K M (.slice ka kn kc) (.slice ma mn mc) (PT.mk qop qcmp ⟨qlk, qli, ⟨qlvk, qlvn, qlvs⟩⟩ ⟨qrk, qri, ⟨qrvk, qrvn, qrvs⟩⟩ qs) (.agg #[.int .i64 qop, .int .i64 qcmp, .int .i64 qlk, .int .i64 qli, .int .i64 qlvk, .int .i64 qlvn, .string qlvs, .int .i64 qrk, .int .i64 qri, .int .i64 qrvk, .int .i64 qrvn, .string qrvs, .slice qa qn qc]) W ((HIK.out.below hb).at) ((HIM.out.below hb).at) (HPq.out W hb)
    rw [hx2] at h
    exact h
  obtain ⟨x3, hx3⟩ : ∃ x, checkP K M (PT.mk rop rcmp ⟨rlk, rli, ⟨rlvk, rlvn, rlvs⟩⟩ ⟨rrk, rri, ⟨rrvk, rrvn, rrvs⟩⟩ rs) = x := ⟨_, rfl⟩
  have HP3 : Hid (∀ W, Below w7.heap.size w7 W → Calls Try.prog 13 #[.slice ka kn kc, .slice ma mn mc, .agg #[.int .i64 rop, .int .i64 rcmp, .int .i64 rlk, .int .i64 rli, .int .i64 rlvk, .int .i64 rlvn, .string rlvs, .int .i64 rrk, .int .i64 rri, .int .i64 rrvk, .int .i64 rrvn, .string rrvs, .slice ra rn rc]] W fun e w' => e = .returned (.int .i64 x3) ∧ Below W.heap.size W w') := fun W hb => by
    have h := pCheck_any K M (.slice ka kn kc) (.slice ma mn mc) (PT.mk rop rcmp ⟨rlk, rli, ⟨rlvk, rlvn, rlvs⟩⟩ ⟨rrk, rri, ⟨rrvk, rrvn, rrvs⟩⟩ rs) (.agg #[.int .i64 rop, .int .i64 rcmp, .int .i64 rlk, .int .i64 rli, .int .i64 rlvk, .int .i64 rlvn, .string rlvs, .int .i64 rrk, .int .i64 rri, .int .i64 rrvk, .int .i64 rrvn, .string rrvs, .slice ra rn rc]) W ((HIK.out.below hb).at) ((HIM.out.below hb).at) (HPr.out W hb)
    rw [hx3] at h
    exact h
  have HR3 : Hid (∀ W, Below w7.heap.size w7 W → Calls Try.prog 14 #[.slice ka kn kc, .slice ma mn mc, .agg #[.int .i64 rop, .int .i64 rcmp, .int .i64 rlk, .int .i64 rli, .int .i64 rlvk, .int .i64 rlvn, .string rlvs, .int .i64 rrk, .int .i64 rri, .int .i64 rrvk, .int .i64 rrvn, .string rrvs, .slice ra rn rc]] W fun e w' => e = .returned (.int .i64 x3) ∧ Below W.heap.size W w') := fun W hb => by
    have h := rCheck_any K M (.slice ka kn kc) (.slice ma mn mc) (PT.mk rop rcmp ⟨rlk, rli, ⟨rlvk, rlvn, rlvs⟩⟩ ⟨rrk, rri, ⟨rrvk, rrvn, rrvs⟩⟩ rs) (.agg #[.int .i64 rop, .int .i64 rcmp, .int .i64 rlk, .int .i64 rli, .int .i64 rlvk, .int .i64 rlvn, .string rlvs, .int .i64 rrk, .int .i64 rri, .int .i64 rrvk, .int .i64 rrvn, .string rrvs, .slice ra rn rc]) W ((HIK.out.below hb).at) ((HIM.out.below hb).at) (HPr.out W hb)
    rw [hx3] at h
    exact h
  obtain ⟨x4, hx4⟩ : ∃ x, checkP K [] (PT.mk pop pcmp ⟨plk, pli, ⟨plvk, plvn, plvs⟩⟩ ⟨prk, pri, ⟨prvk, prvn, prvs⟩⟩ ps) = x := ⟨_, rfl⟩
  have HP4 : Hid (∀ W, Below w7.heap.size w7 W → Calls Try.prog 13 #[.slice ka kn kc, .slice none 0 0, .agg #[.int .i64 pop, .int .i64 pcmp, .int .i64 plk, .int .i64 pli, .int .i64 plvk, .int .i64 plvn, .string plvs, .int .i64 prk, .int .i64 pri, .int .i64 prvk, .int .i64 prvn, .string prvs, .slice pa pn pc]] W fun e w' => e = .returned (.int .i64 x4) ∧ Below W.heap.size W w') := fun W hb => by
    have h := pCheck_any K [] (.slice ka kn kc) (.slice none 0 0) (PT.mk pop pcmp ⟨plk, pli, ⟨plvk, plvn, plvs⟩⟩ ⟨prk, pri, ⟨prvk, prvn, prvs⟩⟩ ps) (.agg #[.int .i64 pop, .int .i64 pcmp, .int .i64 plk, .int .i64 pli, .int .i64 plvk, .int .i64 plvn, .string plvs, .int .i64 prk, .int .i64 pri, .int .i64 prvk, .int .i64 prvn, .string prvs, .slice pa pn pc]) W ((HIK.out.below hb).at) (intsAt_nilC W) (HPp.out W hb)
    rw [hx4] at h
    exact h
  have HR4 : Hid (∀ W, Below w7.heap.size w7 W → Calls Try.prog 14 #[.slice ka kn kc, .slice none 0 0, .agg #[.int .i64 pop, .int .i64 pcmp, .int .i64 plk, .int .i64 pli, .int .i64 plvk, .int .i64 plvn, .string plvs, .int .i64 prk, .int .i64 pri, .int .i64 prvk, .int .i64 prvn, .string prvs, .slice pa pn pc]] W fun e w' => e = .returned (.int .i64 x4) ∧ Below W.heap.size W w') := fun W hb => by
    have h := rCheck_any K [] (.slice ka kn kc) (.slice none 0 0) (PT.mk pop pcmp ⟨plk, pli, ⟨plvk, plvn, plvs⟩⟩ ⟨prk, pri, ⟨prvk, prvn, prvs⟩⟩ ps) (.agg #[.int .i64 pop, .int .i64 pcmp, .int .i64 plk, .int .i64 pli, .int .i64 plvk, .int .i64 plvn, .string plvs, .int .i64 prk, .int .i64 pri, .int .i64 prvk, .int .i64 prvn, .string prvs, .slice pa pn pc]) W ((HIK.out.below hb).at) (intsAt_nilC W) (HPp.out W hb)
    rw [hx4] at h
    exact h
  obtain ⟨x5, hx5⟩ : ∃ x, checkP OD M (PT.mk pop pcmp ⟨plk, pli, ⟨plvk, plvn, plvs⟩⟩ ⟨prk, pri, ⟨prvk, prvn, prvs⟩⟩ ps) = x := ⟨_, rfl⟩
  have HP5 : Hid (∀ W, Below w7.heap.size w7 W → Calls Try.prog 13 #[ov, .slice ma mn mc, .agg #[.int .i64 pop, .int .i64 pcmp, .int .i64 plk, .int .i64 pli, .int .i64 plvk, .int .i64 plvn, .string plvs, .int .i64 prk, .int .i64 pri, .int .i64 prvk, .int .i64 prvn, .string prvs, .slice pa pn pc]] W fun e w' => e = .returned (.int .i64 x5) ∧ Below W.heap.size W w') := fun W hb => by
    have h := pCheck_any OD M (ov) (.slice ma mn mc) (PT.mk pop pcmp ⟨plk, pli, ⟨plvk, plvn, plvs⟩⟩ ⟨prk, pri, ⟨prvk, prvn, prvs⟩⟩ ps) (.agg #[.int .i64 pop, .int .i64 pcmp, .int .i64 plk, .int .i64 pli, .int .i64 plvk, .int .i64 plvn, .string plvs, .int .i64 prk, .int .i64 pri, .int .i64 prvk, .int .i64 prvn, .string prvs, .slice pa pn pc]) W (HOV.out.blw (below_go BWZ.out hb)) ((HIM.out.below hb).at) (HPp.out W hb)
    rw [hx5] at h
    exact h
  have HR5 : Hid (∀ W, Below w7.heap.size w7 W → Calls Try.prog 14 #[ov, .slice ma mn mc, .agg #[.int .i64 pop, .int .i64 pcmp, .int .i64 plk, .int .i64 pli, .int .i64 plvk, .int .i64 plvn, .string plvs, .int .i64 prk, .int .i64 pri, .int .i64 prvk, .int .i64 prvn, .string prvs, .slice pa pn pc]] W fun e w' => e = .returned (.int .i64 x5) ∧ Below W.heap.size W w') := fun W hb => by
    have h := rCheck_any OD M (ov) (.slice ma mn mc) (PT.mk pop pcmp ⟨plk, pli, ⟨plvk, plvn, plvs⟩⟩ ⟨prk, pri, ⟨prvk, prvn, prvs⟩⟩ ps) (.agg #[.int .i64 pop, .int .i64 pcmp, .int .i64 plk, .int .i64 pli, .int .i64 plvk, .int .i64 plvn, .string plvs, .int .i64 prk, .int .i64 pri, .int .i64 prvk, .int .i64 prvn, .string prvs, .slice pa pn pc]) W (HOV.out.blw (below_go BWZ.out hb)) ((HIM.out.below hb).at) (HPp.out W hb)
    rw [hx5] at h
    exact h
  obtain ⟨x6, hx6⟩ : ∃ x, checkP K OD (PT.mk pop pcmp ⟨plk, pli, ⟨plvk, plvn, plvs⟩⟩ ⟨prk, pri, ⟨prvk, prvn, prvs⟩⟩ ps) = x := ⟨_, rfl⟩
  have HP6 : Hid (∀ W, Below w7.heap.size w7 W → Calls Try.prog 13 #[.slice ka kn kc, ov, .agg #[.int .i64 pop, .int .i64 pcmp, .int .i64 plk, .int .i64 pli, .int .i64 plvk, .int .i64 plvn, .string plvs, .int .i64 prk, .int .i64 pri, .int .i64 prvk, .int .i64 prvn, .string prvs, .slice pa pn pc]] W fun e w' => e = .returned (.int .i64 x6) ∧ Below W.heap.size W w') := fun W hb => by
    have h := pCheck_any K OD (.slice ka kn kc) (ov) (PT.mk pop pcmp ⟨plk, pli, ⟨plvk, plvn, plvs⟩⟩ ⟨prk, pri, ⟨prvk, prvn, prvs⟩⟩ ps) (.agg #[.int .i64 pop, .int .i64 pcmp, .int .i64 plk, .int .i64 pli, .int .i64 plvk, .int .i64 plvn, .string plvs, .int .i64 prk, .int .i64 pri, .int .i64 prvk, .int .i64 prvn, .string prvs, .slice pa pn pc]) W ((HIK.out.below hb).at) (HOV.out.blw (below_go BWZ.out hb)) (HPp.out W hb)
    rw [hx6] at h
    exact h
  have HR6 : Hid (∀ W, Below w7.heap.size w7 W → Calls Try.prog 14 #[.slice ka kn kc, ov, .agg #[.int .i64 pop, .int .i64 pcmp, .int .i64 plk, .int .i64 pli, .int .i64 plvk, .int .i64 plvn, .string plvs, .int .i64 prk, .int .i64 pri, .int .i64 prvk, .int .i64 prvn, .string prvs, .slice pa pn pc]] W fun e w' => e = .returned (.int .i64 x6) ∧ Below W.heap.size W w') := fun W hb => by
    have h := rCheck_any K OD (.slice ka kn kc) (ov) (PT.mk pop pcmp ⟨plk, pli, ⟨plvk, plvn, plvs⟩⟩ ⟨prk, pri, ⟨prvk, prvn, prvs⟩⟩ ps) (.agg #[.int .i64 pop, .int .i64 pcmp, .int .i64 plk, .int .i64 pli, .int .i64 plvk, .int .i64 plvn, .string plvs, .int .i64 prk, .int .i64 pri, .int .i64 prvk, .int .i64 prvn, .string prvs, .slice pa pn pc]) W ((HIK.out.below hb).at) (HOV.out.blw (below_go BWZ.out hb)) (HPp.out W hb)
    rw [hx6] at h
    exact h
  clear HKR HBp HBq HPr HPp HPq HPS HQS HPV2 HKK HKM HIK HIM HOV HR0 M7 O7 BAZ B1 HWA hx2 hx3 hx4 hx5 hx6
  refine wp_region_held_drew (S := fun W => W.cell? ⟨w.heap.size, 0, none⟩ = some (.int .i64 rop) ∧ W.cell? ⟨w.heap.size, 1, none⟩ = some (.int .i64 rcmp) ∧ W.cell? ⟨w.heap.size, 2, none⟩ = some (.int .i64 rlk) ∧ W.cell? ⟨w.heap.size, 3, none⟩ = some (.int .i64 rli) ∧ W.cell? ⟨w.heap.size, 4, none⟩ = some (.int .i64 rlvk) ∧ W.cell? ⟨w.heap.size, 5, none⟩ = some (.int .i64 rlvn) ∧ W.cell? ⟨w.heap.size, 6, none⟩ = some (.string rlvs) ∧ W.cell? ⟨w.heap.size, 7, none⟩ = some (.int .i64 rrk) ∧ W.cell? ⟨w.heap.size, 8, none⟩ = some (.int .i64 rri) ∧ W.cell? ⟨w.heap.size, 9, none⟩ = some (.int .i64 rrvk) ∧ W.cell? ⟨w.heap.size, 10, none⟩ = some (.int .i64 rrvn) ∧ W.cell? ⟨w.heap.size, 11, none⟩ = some (.string rrvs) ∧ W.cell? ⟨w.heap.size, 12, none⟩ = some (.slice ra rn rc) ∧ W.cell? ⟨bp, 0, none⟩ = some (.int .i64 pop) ∧ W.cell? ⟨bp, 1, none⟩ = some (.int .i64 pcmp) ∧ W.cell? ⟨bp, 2, none⟩ = some (.int .i64 plk) ∧ W.cell? ⟨bp, 3, none⟩ = some (.int .i64 pli) ∧ W.cell? ⟨bp, 4, none⟩ = some (.int .i64 plvk) ∧ W.cell? ⟨bp, 5, none⟩ = some (.int .i64 plvn) ∧ W.cell? ⟨bp, 6, none⟩ = some (.string plvs) ∧ W.cell? ⟨bp, 7, none⟩ = some (.int .i64 prk) ∧ W.cell? ⟨bp, 8, none⟩ = some (.int .i64 pri) ∧ W.cell? ⟨bp, 9, none⟩ = some (.int .i64 prvk) ∧ W.cell? ⟨bp, 10, none⟩ = some (.int .i64 prvn) ∧ W.cell? ⟨bp, 11, none⟩ = some (.string prvs) ∧ W.cell? ⟨bp, 12, none⟩ = some (.slice pa pn pc) ∧ W.cell? ⟨bq, 0, none⟩ = some (.int .i64 qop) ∧ W.cell? ⟨bq, 1, none⟩ = some (.int .i64 qcmp) ∧ W.cell? ⟨bq, 2, none⟩ = some (.int .i64 qlk) ∧ W.cell? ⟨bq, 3, none⟩ = some (.int .i64 qli) ∧ W.cell? ⟨bq, 4, none⟩ = some (.int .i64 qlvk) ∧ W.cell? ⟨bq, 5, none⟩ = some (.int .i64 qlvn) ∧ W.cell? ⟨bq, 6, none⟩ = some (.string qlvs) ∧ W.cell? ⟨bq, 7, none⟩ = some (.int .i64 qrk) ∧ W.cell? ⟨bq, 8, none⟩ = some (.int .i64 qri) ∧ W.cell? ⟨bq, 9, none⟩ = some (.int .i64 qrvk) ∧ W.cell? ⟨bq, 10, none⟩ = some (.int .i64 qrvn) ∧ W.cell? ⟨bq, 11, none⟩ = some (.string qrvs) ∧ W.cell? ⟨bq, 12, none⟩ = some (.slice qa qn qc)) (by kernel_rfl) (HK.out _ (Below.refl _ _).drew) (fun hHeld => ?_)
  obtain ⟨wd, hwd⟩ : ∃ wd, w7.drew = wd := ⟨_, rfl⟩
  have BW : Hid (Below w7.heap.size w7 wd) := by rw [← hwd]; exact (Below.refl _ _).drew
  rw [hwd] at hHeld ⊢
  clear hwd
  refine wpAnyH_ready (rs := [0]) (by kernel_rfl) (by simp) ?_
  refine AllReadyH.cons rfl (fun K hK => ?_) AllReadyH.nil
  go_simp
  go_at_call 12
  refine (HB.out _).mono ?_
  rintro e w_0 ⟨rfl, hg⟩
  clear hHeld
  replace BW := Lib.hid (below_go BW.out hg)
  clear hg
  refine hK.out _ _ (HK.out _ BW.out) (fun hHeld => ?_)
  clear hK K
  (try simp only [List.set_cons_zero, List.set_cons_succ])
  refine wpAnyH_takeD (i := 1) (d := 26) (v := ?_) rfl rfl (by kernel_rfl) (by kernel_rfl) (by kernel_rfl) (fun _ _ _ h => h) (Or.inl ⟨by rfl, ?_⟩) (by assumption) ?_; rotate_left
  · intro W hSw; (try dsimp only at hSw); go_simp; (try with_reducible rfl)
  (try simp only [List.set_cons_zero, List.set_cons_succ])
  refine wpAnyH_takeD (i := 2) (d := 27) (v := ?_) rfl rfl (by kernel_rfl) (by kernel_rfl) (by kernel_rfl) (fun _ _ _ h => h) (Or.inl ⟨by rfl, ?_⟩) (by assumption) ?_; rotate_left
  · intro W hSw; (try dsimp only at hSw); go_simp; (try with_reducible rfl)
  (try simp only [List.set_cons_zero, List.set_cons_succ])
  refine wpAnyH_takeD (i := 3) (d := 28) (v := ?_) rfl rfl (by kernel_rfl) (by kernel_rfl) (by kernel_rfl) (fun _ _ _ h => h) (Or.inl ⟨by rfl, ?_⟩) (by assumption) ?_; rotate_left
  · intro W hSw; (try dsimp only at hSw); go_simp; (try with_reducible rfl)
  (try simp only [List.set_cons_zero, List.set_cons_succ])
  refine wpAnyH_takeD (i := 4) (d := 29) (v := ?_) rfl rfl (by kernel_rfl) (by kernel_rfl) (by kernel_rfl) (fun _ _ _ h => h) (Or.inl ⟨by rfl, ?_⟩) (by assumption) ?_; rotate_left
  · intro W hSw; (try dsimp only at hSw); go_simp; (try with_reducible rfl)
  (try simp only [List.set_cons_zero, List.set_cons_succ])
  refine wpAnyH_ready (rs := [5]) (by kernel_rfl) (by simp) ?_
  refine AllReadyH.cons rfl (fun K hK => ?_) AllReadyH.nil
  go_simp
  go_at_call 13
  refine (HP1.out _ BW.out).mono ?_
  rintro e w_5 ⟨rfl, hg⟩
  clear hHeld
  replace BW := Lib.hid (below_go BW.out hg)
  clear hg
  refine hK.out _ _ (HK.out _ BW.out) (fun hHeld => ?_)
  clear hK K
  (try simp only [List.set_cons_zero, List.set_cons_succ])
  refine wpAnyH_takeD (i := 6) (d := 31) (v := ?_) rfl rfl (by kernel_rfl) (by kernel_rfl) (by kernel_rfl) (fun _ _ _ h => h) (Or.inl ⟨by rfl, ?_⟩) (by assumption) ?_; rotate_left
  · intro W hSw; (try dsimp only at hSw); go_simp; (try with_reducible rfl)
  (try simp only [List.set_cons_zero, List.set_cons_succ])
  refine wpAnyH_takeD (i := 7) (d := 32) (v := ?_) rfl rfl (by kernel_rfl) (by kernel_rfl) (by kernel_rfl) (fun _ _ _ h => h) (Or.inl ⟨by rfl, ?_⟩) (by assumption) ?_; rotate_left
  · intro W hSw; (try dsimp only at hSw); go_simp; (try with_reducible rfl)
  (try simp only [List.set_cons_zero, List.set_cons_succ])
  refine wpAnyH_takeD (i := 8) (d := 33) (v := ?_) rfl rfl (by kernel_rfl) (by kernel_rfl) (by kernel_rfl) (fun _ _ _ h => h) (Or.inl ⟨by rfl, ?_⟩) (by assumption) ?_; rotate_left
  · intro W hSw; (try dsimp only at hSw); go_simp; (try with_reducible rfl)
  (try simp only [List.set_cons_zero, List.set_cons_succ])
  refine wpAnyH_takeD (i := 9) (d := 34) (v := ?_) rfl rfl (by kernel_rfl) (by kernel_rfl) (by kernel_rfl) (fun _ _ _ h => h) (Or.inl ⟨by rfl, ?_⟩) (by assumption) ?_; rotate_left
  · intro W hSw; (try dsimp only at hSw); go_simp; (try with_reducible rfl)
  (try simp only [List.set_cons_zero, List.set_cons_succ])
  refine wpAnyH_takeD (i := 10) (d := 35) (v := ?_) rfl rfl (by kernel_rfl) (by kernel_rfl) (by kernel_rfl) (fun _ _ _ h => h) (Or.inl ⟨by rfl, ?_⟩) (by assumption) ?_; rotate_left
  · intro W hSw; (try dsimp only at hSw); go_simp; (try with_reducible rfl)
  (try simp only [List.set_cons_zero, List.set_cons_succ])
  refine wpAnyH_takeD (i := 11) (d := 36) (v := ?_) rfl rfl (by kernel_rfl) (by kernel_rfl) (by kernel_rfl) (fun _ _ _ h => h) (Or.inl ⟨by rfl, ?_⟩) (by assumption) ?_; rotate_left
  · intro W hSw; (try dsimp only at hSw); go_simp; (try with_reducible rfl)
  (try simp only [List.set_cons_zero, List.set_cons_succ])
  refine wpAnyH_takeD (i := 13) (d := 38) (v := ?_) rfl rfl (by kernel_rfl) (by kernel_rfl) (by kernel_rfl) (fun _ _ _ h => h) (Or.inl ⟨by rfl, ?_⟩) (by assumption) ?_; rotate_left
  · intro W hSw; (try dsimp only at hSw); go_simp; (try with_reducible rfl)
  (try simp only [List.set_cons_zero, List.set_cons_succ])
  refine wpAnyH_takeD (i := 14) (d := 39) (v := ?_) rfl rfl (by kernel_rfl) (by kernel_rfl) (by kernel_rfl) (fun _ _ _ h => h) (Or.inl ⟨by rfl, ?_⟩) (by assumption) ?_; rotate_left
  · intro W hSw; (try dsimp only at hSw); go_simp; (try with_reducible rfl)
  (try simp only [List.set_cons_zero, List.set_cons_succ])
  refine wpAnyH_takeD (i := 15) (d := 40) (v := ?_) rfl rfl (by kernel_rfl) (by kernel_rfl) (by kernel_rfl) (fun _ _ _ h => h) (Or.inl ⟨by rfl, ?_⟩) (by assumption) ?_; rotate_left
  · intro W hSw; (try dsimp only at hSw); go_simp; (try with_reducible rfl)
  (try simp only [List.set_cons_zero, List.set_cons_succ])
  refine wpAnyH_ready (rs := [12]) (by kernel_rfl) (by simp) ?_
  refine AllReadyH.cons rfl (fun K hK => ?_) AllReadyH.nil
  go_simp
  go_at_call 13
  refine (HP2.out _ BW.out).mono ?_
  rintro e w_12 ⟨rfl, hg⟩
  clear hHeld
  replace BW := Lib.hid (below_go BW.out hg)
  clear hg
  refine hK.out _ _ (HK.out _ BW.out) (fun hHeld => ?_)
  clear hK K
  (try simp only [List.set_cons_zero, List.set_cons_succ])
  refine wpAnyH_ready (rs := [16]) (by kernel_rfl) (by simp) ?_
  refine AllReadyH.cons rfl (fun K hK => ?_) AllReadyH.nil
  go_simp
  go_at_call 14
  refine (HR2.out _ BW.out).mono ?_
  rintro e w_16 ⟨rfl, hg⟩
  clear hHeld
  replace BW := Lib.hid (below_go BW.out hg)
  clear hg
  refine hK.out _ _ (HK.out _ BW.out) (fun hHeld => ?_)
  clear hK K
  (try simp only [List.set_cons_zero, List.set_cons_succ])
  refine wpAnyH_takeD (i := 17) (d := 42) (v := ?_) rfl rfl (by kernel_rfl) (by kernel_rfl) (by kernel_rfl) (fun _ _ _ h => h) (Or.inl ⟨by rfl, ?_⟩) (by assumption) ?_; rotate_left
  · intro W hSw; (try dsimp only at hSw); go_simp; (try with_reducible rfl)
  (try simp only [List.set_cons_zero, List.set_cons_succ])
  refine wpAnyH_takeD (i := 18) (d := 43) (v := ?_) rfl rfl (by kernel_rfl) (by kernel_rfl) (by kernel_rfl) (fun _ _ _ h => h) (Or.inl ⟨by rfl, ?_⟩) (by assumption) ?_; rotate_left
  · intro W hSw; (try dsimp only at hSw); go_simp; (try with_reducible rfl)
  (try simp only [List.set_cons_zero, List.set_cons_succ])
  refine wpAnyH_takeD (i := 19) (d := 44) (v := ?_) rfl rfl (by kernel_rfl) (by kernel_rfl) (by kernel_rfl) (fun _ _ _ h => h) (Or.inl ⟨by rfl, ?_⟩) (by assumption) ?_; rotate_left
  · intro W hSw; (try dsimp only at hSw); go_simp; (try with_reducible rfl)
  (try simp only [List.set_cons_zero, List.set_cons_succ])
  refine wpAnyH_takeD (i := 20) (d := 45) (v := ?_) rfl rfl (by kernel_rfl) (by kernel_rfl) (by kernel_rfl) (fun _ _ _ h => h) (Or.inl ⟨by rfl, ?_⟩) (by assumption) ?_; rotate_left
  · intro W hSw; (try dsimp only at hSw); go_simp; (try with_reducible rfl)
  (try simp only [List.set_cons_zero, List.set_cons_succ])
  refine wpAnyH_takeD (i := 21) (d := 46) (v := ?_) rfl rfl (by kernel_rfl) (by kernel_rfl) (by kernel_rfl) (fun _ _ _ h => h) (Or.inl ⟨by rfl, ?_⟩) (by assumption) ?_; rotate_left
  · intro W hSw; (try dsimp only at hSw); go_simp; (try with_reducible rfl)
  (try simp only [List.set_cons_zero, List.set_cons_succ])
  refine wpAnyH_takeD (i := 22) (d := 47) (v := ?_) rfl rfl (by kernel_rfl) (by kernel_rfl) (by kernel_rfl) (fun _ _ _ h => h) (Or.inl ⟨by rfl, ?_⟩) (by assumption) ?_; rotate_left
  · intro W hSw; (try dsimp only at hSw); go_simp; (try with_reducible rfl)
  (try simp only [List.set_cons_zero, List.set_cons_succ])
  refine wpAnyH_takeD (i := 24) (d := 49) (v := ?_) rfl rfl (by kernel_rfl) (by kernel_rfl) (by kernel_rfl) (fun _ _ _ h => h) (Or.inl ⟨by rfl, ?_⟩) (by assumption) ?_; rotate_left
  · intro W hSw; (try dsimp only at hSw); go_simp; (try with_reducible rfl)
  (try simp only [List.set_cons_zero, List.set_cons_succ])
  refine wpAnyH_takeD (i := 25) (d := 50) (v := ?_) rfl rfl (by kernel_rfl) (by kernel_rfl) (by kernel_rfl) (fun _ _ _ h => h) (Or.inl ⟨by rfl, ?_⟩) (by assumption) ?_; rotate_left
  · intro W hSw; (try dsimp only at hSw); go_simp; (try with_reducible rfl)
  (try simp only [List.set_cons_zero, List.set_cons_succ])
  refine wpAnyH_takeD (i := 26) (d := 51) (v := ?_) rfl rfl (by kernel_rfl) (by kernel_rfl) (by kernel_rfl) (fun _ _ _ h => h) (Or.inl ⟨by rfl, ?_⟩) (by assumption) ?_; rotate_left
  · intro W hSw; (try dsimp only at hSw); go_simp; (try with_reducible rfl)
  (try simp only [List.set_cons_zero, List.set_cons_succ])
  refine wpAnyH_ready (rs := [23]) (by kernel_rfl) (by simp) ?_
  refine AllReadyH.cons rfl (fun K hK => ?_) AllReadyH.nil
  go_simp
  go_at_call 13
  refine (HP3.out _ BW.out).mono ?_
  rintro e w_23 ⟨rfl, hg⟩
  clear hHeld
  replace BW := Lib.hid (below_go BW.out hg)
  clear hg
  refine hK.out _ _ (HK.out _ BW.out) (fun hHeld => ?_)
  clear hK K
  (try simp only [List.set_cons_zero, List.set_cons_succ])
  refine wpAnyH_ready (rs := [27]) (by kernel_rfl) (by simp) ?_
  refine AllReadyH.cons rfl (fun K hK => ?_) AllReadyH.nil
  go_simp
  go_at_call 14
  refine (HR3.out _ BW.out).mono ?_
  rintro e w_27 ⟨rfl, hg⟩
  clear hHeld
  replace BW := Lib.hid (below_go BW.out hg)
  clear hg
  refine hK.out _ _ (HK.out _ BW.out) (fun hHeld => ?_)
  clear hK K
  (try simp only [List.set_cons_zero, List.set_cons_succ])
  refine wpAnyH_takeD (i := 28) (d := 53) (v := ?_) rfl rfl (by kernel_rfl) (by kernel_rfl) (by kernel_rfl) (fun _ _ _ h => h) (Or.inl ⟨by rfl, ?_⟩) (by assumption) ?_; rotate_left
  · intro W hSw; (try dsimp only at hSw); go_simp; (try with_reducible rfl)
  (try simp only [List.set_cons_zero, List.set_cons_succ])
  refine wpAnyH_takeD (i := 29) (d := 54) (v := ?_) rfl rfl (by kernel_rfl) (by kernel_rfl) (by kernel_rfl) (fun _ _ _ h => h) (Or.inl ⟨by rfl, ?_⟩) (by assumption) ?_; rotate_left
  · intro W hSw; (try dsimp only at hSw); go_simp; (try with_reducible rfl)
  (try simp only [List.set_cons_zero, List.set_cons_succ])
  refine wpAnyH_takeD (i := 30) (d := 55) (v := ?_) rfl rfl (by kernel_rfl) (by kernel_rfl) (by kernel_rfl) (fun _ _ _ h => h) (Or.inl ⟨by rfl, ?_⟩) (by assumption) ?_; rotate_left
  · intro W hSw; (try dsimp only at hSw); go_simp; (try with_reducible rfl)
  (try simp only [List.set_cons_zero, List.set_cons_succ])
  refine wpAnyH_takeD (i := 31) (d := 56) (v := ?_) rfl rfl (by kernel_rfl) (by kernel_rfl) (by kernel_rfl) (fun _ _ _ h => h) (Or.inl ⟨by rfl, ?_⟩) (by assumption) ?_; rotate_left
  · intro W hSw; (try dsimp only at hSw); go_simp; (try with_reducible rfl)
  (try simp only [List.set_cons_zero, List.set_cons_succ])
  refine wpAnyH_takeD (i := 32) (d := 57) (v := ?_) rfl rfl (by kernel_rfl) (by kernel_rfl) (by kernel_rfl) (fun _ _ _ h => h) (Or.inl ⟨by rfl, ?_⟩) (by assumption) ?_; rotate_left
  · intro W hSw; (try dsimp only at hSw); go_simp; (try with_reducible rfl)
  (try simp only [List.set_cons_zero, List.set_cons_succ])
  refine wpAnyH_takeD (i := 34) (d := 59) (v := ?_) rfl rfl (by kernel_rfl) (by kernel_rfl) (by kernel_rfl) (fun _ _ _ h => h) (Or.inl ⟨by rfl, ?_⟩) (by assumption) ?_; rotate_left
  · intro W hSw; (try dsimp only at hSw); go_simp; (try with_reducible rfl)
  (try simp only [List.set_cons_zero, List.set_cons_succ])
  refine wpAnyH_takeD (i := 35) (d := 60) (v := ?_) rfl rfl (by kernel_rfl) (by kernel_rfl) (by kernel_rfl) (fun _ _ _ h => h) (Or.inl ⟨by rfl, ?_⟩) (by assumption) ?_; rotate_left
  · intro W hSw; (try dsimp only at hSw); go_simp; (try with_reducible rfl)
  (try simp only [List.set_cons_zero, List.set_cons_succ])
  refine wpAnyH_ready (rs := [33]) (by kernel_rfl) (by simp) ?_
  refine AllReadyH.cons rfl (fun K hK => ?_) AllReadyH.nil
  go_simp
  go_at_call 13
  refine (HP4.out _ BW.out).mono ?_
  rintro e w_33 ⟨rfl, hg⟩
  clear hHeld
  replace BW := Lib.hid (below_go BW.out hg)
  clear hg
  refine hK.out _ _ (HK.out _ BW.out) (fun hHeld => ?_)
  clear hK K
  (try simp only [List.set_cons_zero, List.set_cons_succ])
  refine wpAnyH_ready (rs := [36]) (by kernel_rfl) (by simp) ?_
  refine AllReadyH.cons rfl (fun K hK => ?_) AllReadyH.nil
  go_simp
  go_at_call 14
  refine (HR4.out _ BW.out).mono ?_
  rintro e w_36 ⟨rfl, hg⟩
  clear hHeld
  replace BW := Lib.hid (below_go BW.out hg)
  clear hg
  refine hK.out _ _ (HK.out _ BW.out) (fun hHeld => ?_)
  clear hK K
  (try simp only [List.set_cons_zero, List.set_cons_succ])
  refine wpAnyH_takeD (i := 37) (d := 62) (v := ?_) rfl rfl (by kernel_rfl) (by kernel_rfl) (by kernel_rfl) (fun _ _ _ h => h) (Or.inl ⟨by rfl, ?_⟩) (by assumption) ?_; rotate_left
  · intro W hSw; (try dsimp only at hSw); go_simp; (try with_reducible rfl)
  (try simp only [List.set_cons_zero, List.set_cons_succ])
  refine wpAnyH_takeD (i := 38) (d := 63) (v := ?_) rfl rfl (by kernel_rfl) (by kernel_rfl) (by kernel_rfl) (fun _ _ _ h => h) (Or.inl ⟨by rfl, ?_⟩) (by assumption) ?_; rotate_left
  · intro W hSw; (try dsimp only at hSw); go_simp; (try with_reducible rfl)
  (try simp only [List.set_cons_zero, List.set_cons_succ])
  refine wpAnyH_takeD (i := 39) (d := 64) (v := ?_) rfl rfl (by kernel_rfl) (by kernel_rfl) (by kernel_rfl) (fun _ _ _ h => h) (Or.inl ⟨by rfl, ?_⟩) (by assumption) ?_; rotate_left
  · intro W hSw; (try dsimp only at hSw); go_simp; (try with_reducible rfl)
  (try simp only [List.set_cons_zero, List.set_cons_succ])
  refine wpAnyH_takeD (i := 40) (d := 65) (v := ?_) rfl rfl (by kernel_rfl) (by kernel_rfl) (by kernel_rfl) (fun _ _ _ h => h) (Or.inl ⟨by rfl, ?_⟩) (by assumption) ?_; rotate_left
  · intro W hSw; (try dsimp only at hSw); go_simp; (try with_reducible rfl)
  (try simp only [List.set_cons_zero, List.set_cons_succ])
  refine wpAnyH_takeD (i := 41) (d := 66) (v := ?_) rfl rfl (by kernel_rfl) (by kernel_rfl) (by kernel_rfl) (fun _ _ _ h => h) (Or.inl ⟨by rfl, ?_⟩) (by assumption) ?_; rotate_left
  · intro W hSw; (try dsimp only at hSw); go_simp; (try with_reducible rfl)
  (try simp only [List.set_cons_zero, List.set_cons_succ])
  refine wpAnyH_takeD (i := 42) (d := 67) (v := ?_) rfl rfl (by kernel_rfl) (by kernel_rfl) (by kernel_rfl) (fun _ _ _ h => h) (Or.inl ⟨by rfl, ?_⟩) (by assumption) ?_; rotate_left
  · intro W hSw; (try dsimp only at hSw); go_simp; (try with_reducible rfl)
  (try simp only [List.set_cons_zero, List.set_cons_succ])
  refine wpAnyH_takeD (i := 44) (d := 69) (v := ?_) rfl rfl (by kernel_rfl) (by kernel_rfl) (by kernel_rfl) (fun _ _ _ h => h) (Or.inl ⟨by rfl, ?_⟩) (by assumption) ?_; rotate_left
  · intro W hSw; (try dsimp only at hSw); go_simp; (try with_reducible rfl)
  (try simp only [List.set_cons_zero, List.set_cons_succ])
  refine wpAnyH_takeD (i := 45) (d := 70) (v := ?_) rfl rfl (by kernel_rfl) (by kernel_rfl) (by kernel_rfl) (fun _ _ _ h => h) (Or.inl ⟨by rfl, ?_⟩) (by assumption) ?_; rotate_left
  · intro W hSw; (try dsimp only at hSw); go_simp; (try with_reducible rfl)
  (try simp only [List.set_cons_zero, List.set_cons_succ])
  refine wpAnyH_takeD (i := 46) (d := 71) (v := ?_) rfl rfl (by kernel_rfl) (by kernel_rfl) (by kernel_rfl) (fun _ _ _ h => h) (Or.inl ⟨by rfl, ?_⟩) (by assumption) ?_; rotate_left
  · intro W hSw; (try dsimp only at hSw); go_simp; (try with_reducible rfl)
  (try simp only [List.set_cons_zero, List.set_cons_succ])
  refine wpAnyH_ready (rs := [43]) (by kernel_rfl) (by simp) ?_
  refine AllReadyH.cons rfl (fun K hK => ?_) AllReadyH.nil
  go_simp
  go_at_call 13
  refine (HP5.out _ BW.out).mono ?_
  rintro e w_43 ⟨rfl, hg⟩
  clear hHeld
  replace BW := Lib.hid (below_go BW.out hg)
  clear hg
  refine hK.out _ _ (HK.out _ BW.out) (fun hHeld => ?_)
  clear hK K
  (try simp only [List.set_cons_zero, List.set_cons_succ])
  refine wpAnyH_ready (rs := [47]) (by kernel_rfl) (by simp) ?_
  refine AllReadyH.cons rfl (fun K hK => ?_) AllReadyH.nil
  go_simp
  go_at_call 14
  refine (HR5.out _ BW.out).mono ?_
  rintro e w_47 ⟨rfl, hg⟩
  clear hHeld
  replace BW := Lib.hid (below_go BW.out hg)
  clear hg
  refine hK.out _ _ (HK.out _ BW.out) (fun hHeld => ?_)
  clear hK K
  (try simp only [List.set_cons_zero, List.set_cons_succ])
  refine wpAnyH_takeD (i := 48) (d := 73) (v := ?_) rfl rfl (by kernel_rfl) (by kernel_rfl) (by kernel_rfl) (fun _ _ _ h => h) (Or.inl ⟨by rfl, ?_⟩) (by assumption) ?_; rotate_left
  · intro W hSw; (try dsimp only at hSw); go_simp; (try with_reducible rfl)
  (try simp only [List.set_cons_zero, List.set_cons_succ])
  refine wpAnyH_takeD (i := 49) (d := 74) (v := ?_) rfl rfl (by kernel_rfl) (by kernel_rfl) (by kernel_rfl) (fun _ _ _ h => h) (Or.inl ⟨by rfl, ?_⟩) (by assumption) ?_; rotate_left
  · intro W hSw; (try dsimp only at hSw); go_simp; (try with_reducible rfl)
  (try simp only [List.set_cons_zero, List.set_cons_succ])
  refine wpAnyH_takeD (i := 50) (d := 75) (v := ?_) rfl rfl (by kernel_rfl) (by kernel_rfl) (by kernel_rfl) (fun _ _ _ h => h) (Or.inl ⟨by rfl, ?_⟩) (by assumption) ?_; rotate_left
  · intro W hSw; (try dsimp only at hSw); go_simp; (try with_reducible rfl)
  (try simp only [List.set_cons_zero, List.set_cons_succ])
  refine wpAnyH_takeD (i := 51) (d := 76) (v := ?_) rfl rfl (by kernel_rfl) (by kernel_rfl) (by kernel_rfl) (fun _ _ _ h => h) (Or.inl ⟨by rfl, ?_⟩) (by assumption) ?_; rotate_left
  · intro W hSw; (try dsimp only at hSw); go_simp; (try with_reducible rfl)
  (try simp only [List.set_cons_zero, List.set_cons_succ])
  refine wpAnyH_takeD (i := 52) (d := 77) (v := ?_) rfl rfl (by kernel_rfl) (by kernel_rfl) (by kernel_rfl) (fun _ _ _ h => h) (Or.inl ⟨by rfl, ?_⟩) (by assumption) ?_; rotate_left
  · intro W hSw; (try dsimp only at hSw); go_simp; (try with_reducible rfl)
  (try simp only [List.set_cons_zero, List.set_cons_succ])
  refine wpAnyH_takeD (i := 53) (d := 78) (v := ?_) rfl rfl (by kernel_rfl) (by kernel_rfl) (by kernel_rfl) (fun _ _ _ h => h) (Or.inl ⟨by rfl, ?_⟩) (by assumption) ?_; rotate_left
  · intro W hSw; (try dsimp only at hSw); go_simp; (try with_reducible rfl)
  (try simp only [List.set_cons_zero, List.set_cons_succ])
  refine wpAnyH_takeD (i := 55) (d := 80) (v := ?_) rfl rfl (by kernel_rfl) (by kernel_rfl) (by kernel_rfl) (fun _ _ _ h => h) (Or.inl ⟨by rfl, ?_⟩) (by assumption) ?_; rotate_left
  · intro W hSw; (try dsimp only at hSw); go_simp; (try with_reducible rfl)
  (try simp only [List.set_cons_zero, List.set_cons_succ])
  refine wpAnyH_takeD (i := 56) (d := 81) (v := ?_) rfl rfl (by kernel_rfl) (by kernel_rfl) (by kernel_rfl) (fun _ _ _ h => h) (Or.inl ⟨by rfl, ?_⟩) (by assumption) ?_; rotate_left
  · intro W hSw; (try dsimp only at hSw); go_simp; (try with_reducible rfl)
  (try simp only [List.set_cons_zero, List.set_cons_succ])
  refine wpAnyH_takeD (i := 57) (d := 82) (v := ?_) rfl rfl (by kernel_rfl) (by kernel_rfl) (by kernel_rfl) (fun _ _ _ h => h) (Or.inl ⟨by rfl, ?_⟩) (by assumption) ?_; rotate_left
  · intro W hSw; (try dsimp only at hSw); go_simp; (try with_reducible rfl)
  (try simp only [List.set_cons_zero, List.set_cons_succ])
  refine wpAnyH_ready (rs := [54]) (by kernel_rfl) (by simp) ?_
  refine AllReadyH.cons rfl (fun K hK => ?_) AllReadyH.nil
  go_simp
  go_at_call 13
  refine (HP6.out _ BW.out).mono ?_
  rintro e w_54 ⟨rfl, hg⟩
  clear hHeld
  replace BW := Lib.hid (below_go BW.out hg)
  clear hg
  refine hK.out _ _ (HK.out _ BW.out) (fun hHeld => ?_)
  clear hK K
  (try simp only [List.set_cons_zero, List.set_cons_succ])
  refine wpAnyH_ready (rs := [58]) (by kernel_rfl) (by simp) ?_
  refine AllReadyH.cons rfl (fun K hK => ?_) AllReadyH.nil
  go_simp
  go_at_call 14
  refine (HR6.out _ BW.out).mono ?_
  rintro e w_58 ⟨rfl, hg⟩
  clear hHeld
  replace BW := Lib.hid (below_go BW.out hg)
  clear hg
  refine hK.out _ _ (HK.out _ BW.out) (fun hHeld => ?_)
  clear hK K
  (try simp only [List.set_cons_zero, List.set_cons_succ])
  refine wpAnyH_takeD (i := 59) (d := 84) (v := ?_) rfl rfl (by kernel_rfl) (by kernel_rfl) (by kernel_rfl) (fun _ _ _ h => h) (Or.inl ⟨by rfl, ?_⟩) (by assumption) ?_; rotate_left
  · intro W hSw; (try dsimp only at hSw); go_simp; (try with_reducible rfl)
  (try simp only [List.set_cons_zero, List.set_cons_succ])
  refine wpAnyH_takeD (i := 60) (d := 85) (v := ?_) rfl rfl (by kernel_rfl) (by kernel_rfl) (by kernel_rfl) (fun _ _ _ h => h) (Or.inl ⟨by rfl, ?_⟩) (by assumption) ?_; rotate_left
  · intro W hSw; (try dsimp only at hSw); go_simp; (try with_reducible rfl)
  (try simp only [List.set_cons_zero, List.set_cons_succ])
  refine wpAnyH_takeD (i := 61) (d := 6) (v := ?_) rfl rfl (by kernel_rfl) (by kernel_rfl) (by kernel_rfl) (fun _ _ _ h => h) (Or.inl ⟨by rfl, ?_⟩) (by assumption) ?_; rotate_left
  · intro W hSw; (try dsimp only at hSw); go_simp; (try with_reducible rfl)
  (try simp only [List.set_cons_zero, List.set_cons_succ])
  clear hHeld
  refine wpAnyH_done (by kernel_rfl) ?_ _
  go_wp2_with fail
  go_ret
  exact ⟨rfl, BWZ.out.trans (BW.out.mono BWZ.out.size)⟩
end Go.Proofs.Ytffeghlepblapaa
