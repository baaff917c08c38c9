/- Law PredicateHolds. -/
import Derived.Test.YtffeghlepblapaaPdTree
import Derived.Test.YtffeghlepblapaaPdRow
import Derived.Test.YtffeghlepblapaaPdNew
import Derived.Test.YtffeghlepblapaaPdBegun
import Derived.Test.YtffeghlepblapaaPdSpoil2
import Derived.Test.YtffeghlepblapaaPdHolds
import Derived.Test.YtffeghlepblapaaPdRefHolds
namespace Go.Proofs.Ytffeghlepblapaa
open Go.RowKit Go.Deep

set_option linter.unusedSimpArgs false in
set_option maxRecDepth 100000 in
set_option maxHeartbeats 2000000 in
theorem pholds_walk (cv : Value) (cn : Nat) (rv : Value) (R : PT) (ov : Value) (OV : List V) (pv : Value) (PV : List V) (w : World) (hcv : BytesAt w cv cn) (hrv : Pd w rv R) (_hwr : widP R) (hov : RowAt w ov OV) (hpv : RowAt w pv PV) : Calls Try.prog 4 #[cv, rv, ov, pv] w fun e w' => e = .returned (.bool true) ∧ Below w.heap.size w w' := by
  obtain ⟨ra, rc, rfl, hrs⟩ := hrv
  obtain ⟨rop, rcmp, ⟨rlk, rli, ⟨rlvk, rlvn, rlvs⟩⟩, ⟨rrk, rri, ⟨rrvk, rrvn, rrvs⟩⟩, rs⟩ := R
  have HR0 : Hid (Pd w (pdV (PT.mk rop rcmp ⟨rlk, rli, ⟨rlvk, rlvn, rlvs⟩⟩ ⟨rrk, rri, ⟨rrvk, rrvn, rrvs⟩⟩ rs) ra rc) (PT.mk rop rcmp ⟨rlk, rli, ⟨rlvk, rlvn, rlvs⟩⟩ ⟨rrk, rri, ⟨rrvk, rrvn, rrvs⟩⟩ rs)) := ⟨ra, rc, rfl, hrs⟩
  have HOV := Lib.hid hov
  have HPV := Lib.hid hpv
  simp only [pdV, PT.op, PT.cmp, PT.l, PT.r, PT.args] at HR0 ⊢
  obtain ⟨rn, hrn⟩ : ∃ rn, rs.length = rn := ⟨_, rfl⟩
  have HRN := Lib.hid hrn
  rw [hrn] at HR0 ⊢
  obtain ⟨wa, hwa⟩ : ∃ wa, w.alloc (.cells #[.int .i64 rop, .int .i64 rcmp, .int .i64 rlk, .int .i64 rli, .int .i64 rlvk, .int .i64 rlvn, .string rlvs, .int .i64 rrk, .int .i64 rri, .int .i64 rrvk, .int .i64 rrvn, .string rrvs, .slice ra rn rc] 29) = wa := ⟨_, rfl⟩
  have HWA : Hid (Below w.heap.size w wa) := by rw [← hwa]; exact (Below.refl _ _).alloc (Nat.le_refl _) _
  have hwas : w.heap.size < wa.heap.size := by rw [← hwa]; simp
  have a0 : wa.cell? ⟨w.heap.size, 0, none⟩ = some (.int .i64 rop) := by subst hwa; go_simp
  have a1 : wa.cell? ⟨w.heap.size, 1, none⟩ = some (.int .i64 rcmp) := by subst hwa; go_simp
  have a2 : wa.cell? ⟨w.heap.size, 2, none⟩ = some (.int .i64 rlk) := by subst hwa; go_simp
  have a3 : wa.cell? ⟨w.heap.size, 3, none⟩ = some (.int .i64 rli) := by subst hwa; go_simp
  have a4 : wa.cell? ⟨w.heap.size, 4, none⟩ = some (.int .i64 rlvk) := by subst hwa; go_simp
  have a5 : wa.cell? ⟨w.heap.size, 5, none⟩ = some (.int .i64 rlvn) := by subst hwa; go_simp
  have a6 : wa.cell? ⟨w.heap.size, 6, none⟩ = some (.string rlvs) := by subst hwa; go_simp
  have a7 : wa.cell? ⟨w.heap.size, 7, none⟩ = some (.int .i64 rrk) := by subst hwa; go_simp
  have a8 : wa.cell? ⟨w.heap.size, 8, none⟩ = some (.int .i64 rri) := by subst hwa; go_simp
  have a9 : wa.cell? ⟨w.heap.size, 9, none⟩ = some (.int .i64 rrvk) := by subst hwa; go_simp
  have a10 : wa.cell? ⟨w.heap.size, 10, none⟩ = some (.int .i64 rrvn) := by subst hwa; go_simp
  have a11 : wa.cell? ⟨w.heap.size, 11, none⟩ = some (.string rrvs) := by subst hwa; go_simp
  have a12 : wa.cell? ⟨w.heap.size, 12, none⟩ = some (.slice ra rn rc) := by subst hwa; go_simp
  have HKR : Hid (∀ W, Below wa.heap.size wa W → W.cell? ⟨w.heap.size, 0, none⟩ = some (.int .i64 rop) ∧ W.cell? ⟨w.heap.size, 1, none⟩ = some (.int .i64 rcmp) ∧ W.cell? ⟨w.heap.size, 2, none⟩ = some (.int .i64 rlk) ∧ W.cell? ⟨w.heap.size, 3, none⟩ = some (.int .i64 rli) ∧ W.cell? ⟨w.heap.size, 4, none⟩ = some (.int .i64 rlvk) ∧ W.cell? ⟨w.heap.size, 5, none⟩ = some (.int .i64 rlvn) ∧ W.cell? ⟨w.heap.size, 6, none⟩ = some (.string rlvs) ∧ W.cell? ⟨w.heap.size, 7, none⟩ = some (.int .i64 rrk) ∧ W.cell? ⟨w.heap.size, 8, none⟩ = some (.int .i64 rri) ∧ W.cell? ⟨w.heap.size, 9, none⟩ = some (.int .i64 rrvk) ∧ W.cell? ⟨w.heap.size, 10, none⟩ = some (.int .i64 rrvn) ∧ W.cell? ⟨w.heap.size, 11, none⟩ = some (.string rrvs) ∧ W.cell? ⟨w.heap.size, 12, none⟩ = some (.slice ra rn rc)) := fun W hb => ⟨(hb.cell (p := ⟨w.heap.size, 0, none⟩) hwas).trans a0, (hb.cell (p := ⟨w.heap.size, 1, none⟩) hwas).trans a1, (hb.cell (p := ⟨w.heap.size, 2, none⟩) hwas).trans a2, (hb.cell (p := ⟨w.heap.size, 3, none⟩) hwas).trans a3, (hb.cell (p := ⟨w.heap.size, 4, none⟩) hwas).trans a4, (hb.cell (p := ⟨w.heap.size, 5, none⟩) hwas).trans a5, (hb.cell (p := ⟨w.heap.size, 6, none⟩) hwas).trans a6, (hb.cell (p := ⟨w.heap.size, 7, none⟩) hwas).trans a7, (hb.cell (p := ⟨w.heap.size, 8, none⟩) hwas).trans a8, (hb.cell (p := ⟨w.heap.size, 9, none⟩) hwas).trans a9, (hb.cell (p := ⟨w.heap.size, 10, none⟩) hwas).trans a10, (hb.cell (p := ⟨w.heap.size, 11, none⟩) hwas).trans a11, (hb.cell (p := ⟨w.heap.size, 12, none⟩) hwas).trans a12⟩
  have HN := Lib.hid (cNew_160 cv cn wa (hcv.below HWA.out))
  obtain ⟨sa, sc, rfl, _⟩ := hcv
  have HB : Hid (∀ W, Calls Try.prog 12 #[] W fun e w' => e = .returned (.bool true) ∧ Below W.heap.size W w') := begun5_any
  clear hrs hov hpv hrn a0 a1 a2 a3 a4 a5 a6 a7 a8 a9 a10 a11 a12
  go_enter Try.func4, Try.ntmps4
  go_wp2_with fail
  try rw [hwa]
  clear hwa
  refine HN.out.mono ?_
  rintro e w1 ⟨bc, rfl, hb1, hbc, hok⟩
  have hlt : bc < w1.heap.size := hok.lt.1
  have B1 : Hid (Below wa.heap.size wa w1) := hb1
  have hs1 := hb1.size
  have O1 := Lib.hid hok
  have M1 : Hid (Mv bc w1 w1) := Mv.refl _ _
  clear hb1 hok HN
  have HC1 := Lib.hid (lKinds_any bc w1.heap.size 4 (by omega) w1 O1.out)
  go_wp2_with fail
  refine HC1.out.mono ?_
  rintro e w2 ⟨kv, K, rfl, hkl, hkk, hki, hm, ho⟩
  have M2 : Hid (Mv bc w1 w2) := M1.out.trans hm
  have O2 := Lib.hid ho
  have hs2 : w1.heap.size ≤ w2.heap.size := hm.size
  obtain ⟨ka, kc, rfl⟩ := hki.shape
  have HKK : Hid (okKs K = true ∧ K.length ≤ 4) := ⟨hkk, hkl⟩
  have HIK : Hid (IntsG w1.heap.size w2 (.slice ka K.length kc) K) := hki.weak (by omega)
  obtain ⟨kn, hkn⟩ : ∃ kn, K.length = kn := ⟨_, rfl⟩
  rw [hkn] at HIK ⊢
  clear hki hkl hkk hkn
  clear hm ho HC1 M1 O1
  have HC2 := Lib.hid (lKinds_any bc w1.heap.size 2 (by omega) w2 O2.out)
  go_wp2_with fail
  refine HC2.out.mono ?_
  rintro e w3 ⟨kv, M, rfl, hkl, hkk, hki, hm, ho⟩
  have M3 : Hid (Mv bc w1 w3) := M2.out.trans hm
  have O3 := Lib.hid ho
  have hs3 : w2.heap.size ≤ w3.heap.size := hm.size
  replace HIK := Lib.hid (HIK.out.mv hm hlt)
  obtain ⟨ma, mc, rfl⟩ := hki.shape
  have HKM : Hid (okKs M = true ∧ M.length ≤ 2) := ⟨hkk, hkl⟩
  have HIM : Hid (IntsG w1.heap.size w3 (.slice ma M.length mc) M) := hki.weak (by omega)
  obtain ⟨mn, hmn⟩ : ∃ mn, M.length = mn := ⟨_, rfl⟩
  rw [hmn] at HIM ⊢
  clear hki hkl hkk hmn
  clear hm ho HC2 M2 O2
  have HC3 := Lib.hid (cPredicate_any bc w1.heap.size w1.heap.size K M (.slice ka kn kc) (.slice ma mn mc) 3 w3 O3.out (by omega) HKK.out.1 HKM.out.1 (by have := HKK.out.2; omega) (by have := HKM.out.2; omega) HIK.out HIM.out hlt)
  go_wp2_with fail
  refine HC3.out.mono ?_
  rintro e w4 ⟨⟨pop, pcmp, ⟨plk, pli, ⟨plvk, plvn, plvs⟩⟩, ⟨prk, pri, ⟨prvk, prvn, prvs⟩⟩, ps⟩, pa, pc, rfl, hps, hpvl, hpsm, hm, ho⟩
  have M4 : Hid (Mv bc w1 w4) := M3.out.trans hm
  have O4 := Lib.hid ho
  have hs4 : w3.heap.size ≤ w4.heap.size := hm.size
  replace HIK := Lib.hid (HIK.out.mv hm hlt)
  replace HIM := Lib.hid (HIM.out.mv hm hlt)
  have HPS : Hid (PdS (fun b => w1.heap.size ≤ b) w4 ps pa pc) := hps.weak (fun b hb => by omega)
  have HPV2 : Hid (vldP K M (PT.mk pop pcmp ⟨plk, pli, ⟨plvk, plvn, plvs⟩⟩ ⟨prk, pri, ⟨prvk, prvn, prvs⟩⟩ ps) = true ∧ smallP (PT.mk pop pcmp ⟨plk, pli, ⟨plvk, plvn, plvs⟩⟩ ⟨prk, pri, ⟨prvk, prvn, prvs⟩⟩ ps) = true) := ⟨hpvl, hpsm⟩
  simp only [pdV, PT.op, PT.cmp, PT.l, PT.r, PT.args]
  obtain ⟨pn, hpn⟩ : ∃ pn, ps.length = pn := ⟨_, rfl⟩
  have HPN := Lib.hid hpn
  rw [hpn]
  clear hps hpvl hpsm hpn
  clear hm ho HC3 M3 O3
  go_wp2_with fail
  obtain ⟨w5, hwb⟩ : ∃ w5, w4.alloc (.cells #[.int .i64 pop, .int .i64 pcmp, .int .i64 plk, .int .i64 pli, .int .i64 plvk, .int .i64 plvn, .string plvs, .int .i64 prk, .int .i64 pri, .int .i64 prvk, .int .i64 prvn, .string prvs, .slice pa pn pc] 29) = w5 := ⟨_, rfl⟩
  have hbb : Below w4.heap.size w4 w5 := by rw [← hwb]; exact (Below.refl _ _).alloc (Nat.le_refl _) _
  have hm : Mv bc w4 w5 := Mv.of_below hbb
  have O5 : Hid (CaseOk bc w1.heap.size w5) := by rw [← hwb]; exact O4.out.alloc _
  have hs5 : w5.heap.size = w4.heap.size + 1 := by rw [← hwb]; simp
  have M5 : Hid (Mv bc w1 w5) := M4.out.trans hm
  obtain ⟨bp, hbp⟩ : ∃ bp, w4.heap.size = bp := ⟨_, rfl⟩
  have a0 : w5.cell? ⟨w4.heap.size, 0, none⟩ = some (.int .i64 pop) := by subst hwb; go_simp
  have a1 : w5.cell? ⟨w4.heap.size, 1, none⟩ = some (.int .i64 pcmp) := by subst hwb; go_simp
  have a2 : w5.cell? ⟨w4.heap.size, 2, none⟩ = some (.int .i64 plk) := by subst hwb; go_simp
  have a3 : w5.cell? ⟨w4.heap.size, 3, none⟩ = some (.int .i64 pli) := by subst hwb; go_simp
  have a4 : w5.cell? ⟨w4.heap.size, 4, none⟩ = some (.int .i64 plvk) := by subst hwb; go_simp
  have a5 : w5.cell? ⟨w4.heap.size, 5, none⟩ = some (.int .i64 plvn) := by subst hwb; go_simp
  have a6 : w5.cell? ⟨w4.heap.size, 6, none⟩ = some (.string plvs) := by subst hwb; go_simp
  have a7 : w5.cell? ⟨w4.heap.size, 7, none⟩ = some (.int .i64 prk) := by subst hwb; go_simp
  have a8 : w5.cell? ⟨w4.heap.size, 8, none⟩ = some (.int .i64 pri) := by subst hwb; go_simp
  have a9 : w5.cell? ⟨w4.heap.size, 9, none⟩ = some (.int .i64 prvk) := by subst hwb; go_simp
  have a10 : w5.cell? ⟨w4.heap.size, 10, none⟩ = some (.int .i64 prvn) := by subst hwb; go_simp
  have a11 : w5.cell? ⟨w4.heap.size, 11, none⟩ = some (.string prvs) := by subst hwb; go_simp
  have a12 : w5.cell? ⟨w4.heap.size, 12, none⟩ = some (.slice pa pn pc) := by subst hwb; go_simp
  rw [hbp] at a0 a1 a2 a3 a4 a5 a6 a7 a8 a9 a10 a11 a12 hs5
  have hlp : w1.heap.size ≤ bp := by omega
  have HBp : Hid (bp < w5.heap.size ∧ ∀ W, Mv bc w5 W → W.cell? ⟨bp, 0, none⟩ = some (.int .i64 pop) ∧ W.cell? ⟨bp, 1, none⟩ = some (.int .i64 pcmp) ∧ W.cell? ⟨bp, 2, none⟩ = some (.int .i64 plk) ∧ W.cell? ⟨bp, 3, none⟩ = some (.int .i64 pli) ∧ W.cell? ⟨bp, 4, none⟩ = some (.int .i64 plvk) ∧ W.cell? ⟨bp, 5, none⟩ = some (.int .i64 plvn) ∧ W.cell? ⟨bp, 6, none⟩ = some (.string plvs) ∧ W.cell? ⟨bp, 7, none⟩ = some (.int .i64 prk) ∧ W.cell? ⟨bp, 8, none⟩ = some (.int .i64 pri) ∧ W.cell? ⟨bp, 9, none⟩ = some (.int .i64 prvk) ∧ W.cell? ⟨bp, 10, none⟩ = some (.int .i64 prvn) ∧ W.cell? ⟨bp, 11, none⟩ = some (.string prvs) ∧ W.cell? ⟨bp, 12, none⟩ = some (.slice pa pn pc)) := ⟨by omega, fun W hb => ⟨(hb.cell (p := ⟨bp, 0, none⟩) (show bp < _ by omega) (show bp ≠ bc by omega)).trans a0, (hb.cell (p := ⟨bp, 1, none⟩) (show bp < _ by omega) (show bp ≠ bc by omega)).trans a1, (hb.cell (p := ⟨bp, 2, none⟩) (show bp < _ by omega) (show bp ≠ bc by omega)).trans a2, (hb.cell (p := ⟨bp, 3, none⟩) (show bp < _ by omega) (show bp ≠ bc by omega)).trans a3, (hb.cell (p := ⟨bp, 4, none⟩) (show bp < _ by omega) (show bp ≠ bc by omega)).trans a4, (hb.cell (p := ⟨bp, 5, none⟩) (show bp < _ by omega) (show bp ≠ bc by omega)).trans a5, (hb.cell (p := ⟨bp, 6, none⟩) (show bp < _ by omega) (show bp ≠ bc by omega)).trans a6, (hb.cell (p := ⟨bp, 7, none⟩) (show bp < _ by omega) (show bp ≠ bc by omega)).trans a7, (hb.cell (p := ⟨bp, 8, none⟩) (show bp < _ by omega) (show bp ≠ bc by omega)).trans a8, (hb.cell (p := ⟨bp, 9, none⟩) (show bp < _ by omega) (show bp ≠ bc by omega)).trans a9, (hb.cell (p := ⟨bp, 10, none⟩) (show bp < _ by omega) (show bp ≠ bc by omega)).trans a10, (hb.cell (p := ⟨bp, 11, none⟩) (show bp < _ by omega) (show bp ≠ bc by omega)).trans a11, (hb.cell (p := ⟨bp, 12, none⟩) (show bp < _ by omega) (show bp ≠ bc by omega)).trans a12⟩⟩
  replace HIK := Lib.hid (HIK.out.mv hm hlt)
  replace HIM := Lib.hid (HIM.out.mv hm hlt)
  replace HPS := Lib.hid ((show PdS (fun b => w1.heap.size ≤ b) _ ps pa pc from HPS.out.keep hm.size (fun b hb hl => hm.block b hl (by omega))))
  rw [hwb, hbp]
  clear hwb hbb hm hbp M4 O4 a0 a1 a2 a3 a4 a5 a6 a7 a8 a9 a10 a11 a12
  have HC5 := Lib.hid (cRow_any bc w1.heap.size w1.heap.size K (.slice ka kn kc) w5 O5.out HKK.out.1 (by have := HKK.out.2; omega) HIK.out hlt)
  refine HC5.out.mono ?_
  rintro e w6 ⟨tv, T, rfl, -, htt, hm, ho⟩
  have M6 : Hid (Mv bc w1 w6) := M5.out.trans hm
  have O6 := Lib.hid ho
  have hs6 : w5.heap.size ≤ w6.heap.size := hm.size
  replace HIK := Lib.hid (HIK.out.mv hm hlt)
  replace HIM := Lib.hid (HIM.out.mv hm hlt)
  replace HPS := Lib.hid ((show PdS (fun b => w1.heap.size ≤ b) _ ps pa pc from HPS.out.keep hm.size (fun b hb hl => hm.block b hl (by omega))))
  replace HBp := Lib.hid ((show _ ∧ (∀ W, Mv bc _ W → W.cell? ⟨bp, 0, none⟩ = some (.int .i64 pop) ∧ W.cell? ⟨bp, 1, none⟩ = some (.int .i64 pcmp) ∧ W.cell? ⟨bp, 2, none⟩ = some (.int .i64 plk) ∧ W.cell? ⟨bp, 3, none⟩ = some (.int .i64 pli) ∧ W.cell? ⟨bp, 4, none⟩ = some (.int .i64 plvk) ∧ W.cell? ⟨bp, 5, none⟩ = some (.int .i64 plvn) ∧ W.cell? ⟨bp, 6, none⟩ = some (.string plvs) ∧ W.cell? ⟨bp, 7, none⟩ = some (.int .i64 prk) ∧ W.cell? ⟨bp, 8, none⟩ = some (.int .i64 pri) ∧ W.cell? ⟨bp, 9, none⟩ = some (.int .i64 prvk) ∧ W.cell? ⟨bp, 10, none⟩ = some (.int .i64 prvn) ∧ W.cell? ⟨bp, 11, none⟩ = some (.string prvs) ∧ W.cell? ⟨bp, 12, none⟩ = some (.slice pa pn pc)) from ⟨Nat.lt_of_lt_of_le HBp.out.1 hm.size, fun W hb => HBp.out.2 W (hm.trans hb)⟩))
  have HT : Hid (RowT w1.heap.size w6 tv T) := htt.lo (by omega)
  obtain ⟨ta, tc, rfl, -⟩ := htt
  obtain ⟨tn, htn⟩ : ∃ tn, T.length = tn := ⟨_, rfl⟩
  rw [htn] at HT ⊢
  clear htn
  clear hm ho HC5 M5 O5
  have HC6 := Lib.hid (lValues_any bc w1.heap.size w1.heap.size M (.slice ma mn mc) w6 O6.out HKM.out.1 (by have := HKM.out.2; omega) HIM.out hlt)
  go_wp2_with fail
  refine HC6.out.mono ?_
  rintro e w7 ⟨vv, Q, rfl, -, hvt, hm, ho⟩
  have M7 : Hid (Mv bc w1 w7) := M6.out.trans hm
  have O7 := Lib.hid ho
  have hs7 : w6.heap.size ≤ w7.heap.size := hm.size
  replace HIK := Lib.hid (HIK.out.mv hm hlt)
  replace HIM := Lib.hid (HIM.out.mv hm hlt)
  replace HPS := Lib.hid ((show PdS (fun b => w1.heap.size ≤ b) _ ps pa pc from HPS.out.keep hm.size (fun b hb hl => hm.block b hl (by omega))))
  replace HBp := Lib.hid ((show _ ∧ (∀ W, Mv bc _ W → W.cell? ⟨bp, 0, none⟩ = some (.int .i64 pop) ∧ W.cell? ⟨bp, 1, none⟩ = some (.int .i64 pcmp) ∧ W.cell? ⟨bp, 2, none⟩ = some (.int .i64 plk) ∧ W.cell? ⟨bp, 3, none⟩ = some (.int .i64 pli) ∧ W.cell? ⟨bp, 4, none⟩ = some (.int .i64 plvk) ∧ W.cell? ⟨bp, 5, none⟩ = some (.int .i64 plvn) ∧ W.cell? ⟨bp, 6, none⟩ = some (.string plvs) ∧ W.cell? ⟨bp, 7, none⟩ = some (.int .i64 prk) ∧ W.cell? ⟨bp, 8, none⟩ = some (.int .i64 pri) ∧ W.cell? ⟨bp, 9, none⟩ = some (.int .i64 prvk) ∧ W.cell? ⟨bp, 10, none⟩ = some (.int .i64 prvn) ∧ W.cell? ⟨bp, 11, none⟩ = some (.string prvs) ∧ W.cell? ⟨bp, 12, none⟩ = some (.slice pa pn pc)) from ⟨Nat.lt_of_lt_of_le HBp.out.1 hm.size, fun W hb => HBp.out.2 W (hm.trans hb)⟩))
  replace HT := Lib.hid (HT.out.mv hm hlt)
  have HQ : Hid (RowT w1.heap.size w7 vv Q) := hvt.lo (by omega)
  obtain ⟨va, vc, rfl, -⟩ := hvt
  obtain ⟨vn, hvn⟩ : ∃ vn, Q.length = vn := ⟨_, rfl⟩
  rw [hvn] at HQ ⊢
  clear hvn
  clear hm ho HC6 M6 O6
  go_upto_region 5 with fail
  have HAZ : Hid (∀ W, Mv bc w7 W → Below wa.heap.size wa W) := fun W hm => B1.out.trans ((M7.out.trans hm).below (B := wa.heap.size) (by omega) (by omega))
  have HK5 : Hid (∀ W, Mv bc w7 W → W.cell? ⟨w.heap.size, 0, none⟩ = some (.int .i64 rop) ∧ W.cell? ⟨w.heap.size, 1, none⟩ = some (.int .i64 rcmp) ∧ W.cell? ⟨w.heap.size, 2, none⟩ = some (.int .i64 rlk) ∧ W.cell? ⟨w.heap.size, 3, none⟩ = some (.int .i64 rli) ∧ W.cell? ⟨w.heap.size, 4, none⟩ = some (.int .i64 rlvk) ∧ W.cell? ⟨w.heap.size, 5, none⟩ = some (.int .i64 rlvn) ∧ W.cell? ⟨w.heap.size, 6, none⟩ = some (.string rlvs) ∧ W.cell? ⟨w.heap.size, 7, none⟩ = some (.int .i64 rrk) ∧ W.cell? ⟨w.heap.size, 8, none⟩ = some (.int .i64 rri) ∧ W.cell? ⟨w.heap.size, 9, none⟩ = some (.int .i64 rrvk) ∧ W.cell? ⟨w.heap.size, 10, none⟩ = some (.int .i64 rrvn) ∧ W.cell? ⟨w.heap.size, 11, none⟩ = some (.string rrvs) ∧ W.cell? ⟨w.heap.size, 12, none⟩ = some (.slice ra rn rc) ∧ W.cell? ⟨bp, 0, none⟩ = some (.int .i64 pop) ∧ W.cell? ⟨bp, 1, none⟩ = some (.int .i64 pcmp) ∧ W.cell? ⟨bp, 2, none⟩ = some (.int .i64 plk) ∧ W.cell? ⟨bp, 3, none⟩ = some (.int .i64 pli) ∧ W.cell? ⟨bp, 4, none⟩ = some (.int .i64 plvk) ∧ W.cell? ⟨bp, 5, none⟩ = some (.int .i64 plvn) ∧ W.cell? ⟨bp, 6, none⟩ = some (.string plvs) ∧ W.cell? ⟨bp, 7, none⟩ = some (.int .i64 prk) ∧ W.cell? ⟨bp, 8, none⟩ = some (.int .i64 pri) ∧ W.cell? ⟨bp, 9, none⟩ = some (.int .i64 prvk) ∧ W.cell? ⟨bp, 10, none⟩ = some (.int .i64 prvn) ∧ W.cell? ⟨bp, 11, none⟩ = some (.string prvs) ∧ W.cell? ⟨bp, 12, none⟩ = some (.slice pa pn pc)) := fun W hm => by
    obtain ⟨x0, x1, x2, x3, x4, x5, x6, x7, x8, x9, x10, x11, x12⟩ := HKR.out W (HAZ.out W hm)
    obtain ⟨y0, y1, y2, y3, y4, y5, y6, y7, y8, y9, y10, y11, y12⟩ := HBp.out.2 W hm
    exact ⟨x0, x1, x2, x3, x4, x5, x6, x7, x8, x9, x10, x11, x12, y0, y1, y2, y3, y4, y5, y6, y7, y8, y9, y10, y11, y12⟩
  refine wp_region_held_drew (S := fun W => W.cell? ⟨w.heap.size, 0, none⟩ = some (.int .i64 rop) ∧ W.cell? ⟨w.heap.size, 1, none⟩ = some (.int .i64 rcmp) ∧ W.cell? ⟨w.heap.size, 2, none⟩ = some (.int .i64 rlk) ∧ W.cell? ⟨w.heap.size, 3, none⟩ = some (.int .i64 rli) ∧ W.cell? ⟨w.heap.size, 4, none⟩ = some (.int .i64 rlvk) ∧ W.cell? ⟨w.heap.size, 5, none⟩ = some (.int .i64 rlvn) ∧ W.cell? ⟨w.heap.size, 6, none⟩ = some (.string rlvs) ∧ W.cell? ⟨w.heap.size, 7, none⟩ = some (.int .i64 rrk) ∧ W.cell? ⟨w.heap.size, 8, none⟩ = some (.int .i64 rri) ∧ W.cell? ⟨w.heap.size, 9, none⟩ = some (.int .i64 rrvk) ∧ W.cell? ⟨w.heap.size, 10, none⟩ = some (.int .i64 rrvn) ∧ W.cell? ⟨w.heap.size, 11, none⟩ = some (.string rrvs) ∧ W.cell? ⟨w.heap.size, 12, none⟩ = some (.slice ra rn rc) ∧ W.cell? ⟨bp, 0, none⟩ = some (.int .i64 pop) ∧ W.cell? ⟨bp, 1, none⟩ = some (.int .i64 pcmp) ∧ W.cell? ⟨bp, 2, none⟩ = some (.int .i64 plk) ∧ W.cell? ⟨bp, 3, none⟩ = some (.int .i64 pli) ∧ W.cell? ⟨bp, 4, none⟩ = some (.int .i64 plvk) ∧ W.cell? ⟨bp, 5, none⟩ = some (.int .i64 plvn) ∧ W.cell? ⟨bp, 6, none⟩ = some (.string plvs) ∧ W.cell? ⟨bp, 7, none⟩ = some (.int .i64 prk) ∧ W.cell? ⟨bp, 8, none⟩ = some (.int .i64 pri) ∧ W.cell? ⟨bp, 9, none⟩ = some (.int .i64 prvk) ∧ W.cell? ⟨bp, 10, none⟩ = some (.int .i64 prvn) ∧ W.cell? ⟨bp, 11, none⟩ = some (.string prvs) ∧ W.cell? ⟨bp, 12, none⟩ = some (.slice pa pn pc)) (by kernel_rfl) (HK5.out _ ((Mv.refl _ _).drewN 1)) (fun hHeld => ?_)
  obtain ⟨wd, hwd⟩ : ∃ wd, w7.drew = wd := ⟨_, rfl⟩
  have hm : Mv bc w7 wd := by rw [← hwd]; exact (Mv.refl _ _).drewN 1
  have MD := Lib.hid hm
  have OD : Hid (CaseOk bc w1.heap.size wd) := by rw [← hwd]; exact O7.out.below ((Below.refl _ _).drew) (Nat.le_refl _)
  rw [hwd] at hHeld ⊢
  replace HIK := Lib.hid (HIK.out.mv hm hlt)
  replace HIM := Lib.hid (HIM.out.mv hm hlt)
  replace HPS := Lib.hid ((show PdS (fun b => w1.heap.size ≤ b) _ ps pa pc from HPS.out.keep hm.size (fun b hb hl => hm.block b hl (by omega))))
  replace HBp := Lib.hid ((show _ ∧ (∀ W, Mv bc _ W → W.cell? ⟨bp, 0, none⟩ = some (.int .i64 pop) ∧ W.cell? ⟨bp, 1, none⟩ = some (.int .i64 pcmp) ∧ W.cell? ⟨bp, 2, none⟩ = some (.int .i64 plk) ∧ W.cell? ⟨bp, 3, none⟩ = some (.int .i64 pli) ∧ W.cell? ⟨bp, 4, none⟩ = some (.int .i64 plvk) ∧ W.cell? ⟨bp, 5, none⟩ = some (.int .i64 plvn) ∧ W.cell? ⟨bp, 6, none⟩ = some (.string plvs) ∧ W.cell? ⟨bp, 7, none⟩ = some (.int .i64 prk) ∧ W.cell? ⟨bp, 8, none⟩ = some (.int .i64 pri) ∧ W.cell? ⟨bp, 9, none⟩ = some (.int .i64 prvk) ∧ W.cell? ⟨bp, 10, none⟩ = some (.int .i64 prvn) ∧ W.cell? ⟨bp, 11, none⟩ = some (.string prvs) ∧ W.cell? ⟨bp, 12, none⟩ = some (.slice pa pn pc)) from ⟨Nat.lt_of_lt_of_le HBp.out.1 hm.size, fun W hb => HBp.out.2 W (hm.trans hb)⟩))
  replace HT := Lib.hid (HT.out.mv hm hlt)
  replace HQ := Lib.hid (HQ.out.mv hm hlt)
  have hsd := hm.size
  clear hwd hm O7 HBp HKR
  refine wpAnyH_takeD (i := 0) (d := 33) (v := ?_) rfl rfl (by kernel_rfl) (by kernel_rfl) (by kernel_rfl) (fun _ _ _ h => h) (Or.inl ⟨by rfl, ?_⟩) (by assumption) ?_; rotate_left
  · intro W hSw; (try dsimp only at hSw); go_simp; (try with_reducible rfl)
  (try simp only [List.set_cons_zero, List.set_cons_succ])
  refine wpAnyH_takeD (i := 1) (d := 34) (v := ?_) rfl rfl (by kernel_rfl) (by kernel_rfl) (by kernel_rfl) (fun _ _ _ h => h) (Or.inl ⟨by rfl, ?_⟩) (by assumption) ?_; rotate_left
  · intro W hSw; (try dsimp only at hSw); go_simp; (try with_reducible rfl)
  (try simp only [List.set_cons_zero, List.set_cons_succ])
  refine wpAnyH_takeD (i := 2) (d := 35) (v := ?_) rfl rfl (by kernel_rfl) (by kernel_rfl) (by kernel_rfl) (fun _ _ _ h => h) (Or.inl ⟨by rfl, ?_⟩) (by assumption) ?_; rotate_left
  · intro W hSw; (try dsimp only at hSw); go_simp; (try with_reducible rfl)
  (try simp only [List.set_cons_zero, List.set_cons_succ])
  refine wpAnyH_takeD (i := 4) (d := 37) (v := ?_) rfl rfl (by kernel_rfl) (by kernel_rfl) (by kernel_rfl) (fun _ _ _ h => h) (Or.inl ⟨by rfl, ?_⟩) (by assumption) ?_; rotate_left
  · intro W hSw; (try dsimp only at hSw); go_simp; (try with_reducible rfl)
  (try simp only [List.set_cons_zero, List.set_cons_succ])
  refine wpAnyH_takeD (i := 7) (d := 40) (v := ?_) rfl rfl (by kernel_rfl) (by kernel_rfl) (by kernel_rfl) (fun _ _ _ h => h) (Or.inl ⟨by rfl, ?_⟩) (by assumption) ?_; rotate_left
  · intro W hSw; (try dsimp only at hSw); go_simp; (try with_reducible rfl)
  (try simp only [List.set_cons_zero, List.set_cons_succ])
  have HC := Lib.hid (cSpoil_any bc w1.heap.size w1.heap.size hlt _ (PT.mk pop pcmp ⟨plk, pli, ⟨plvk, plvn, plvs⟩⟩ ⟨prk, pri, ⟨prvk, prvn, prvs⟩⟩ ps) (Nat.le_refl _) (by have := HPV2.out.2; unfold smallP at this; simp only [decide_eq_true_eq] at this; omega) wd.heap.size pa pc wd OD.out (Nat.le_refl _) (HPS.out.ltP))
  simp only [pdV, PT.op, PT.cmp, PT.l, PT.r, PT.args, HPN.out] at HC
  refine wpAnyH_ready (rs := [3]) (by kernel_rfl) (by simp) ?_
  refine AllReadyH.cons rfl (fun K hK => ?_) AllReadyH.nil
  go_simp
  refine HC.out.mono ?_
  rintro e we ⟨⟨qop, qcmp, ⟨qlk, qli, ⟨qlvk, qlvn, qlvs⟩⟩, ⟨qrk, qri, ⟨qrvk, qrvn, qrvs⟩⟩, qs⟩, qa, qc, rfl, hps, hm, ho⟩
  have ME := Lib.hid (MD.out.trans hm)
  have HQS : Hid (PdS (fun b => w1.heap.size ≤ b) we qs qa qc) := hps.weak (fun b hb => by omega)
  simp only [pdV, PT.op, PT.cmp, PT.l, PT.r, PT.args]
  obtain ⟨qn, hqn⟩ : ∃ qn, qs.length = qn := ⟨_, rfl⟩
  have HQN := Lib.hid hqn
  rw [hqn]
  replace HIK := Lib.hid (HIK.out.mv hm hlt)
  replace HIM := Lib.hid (HIM.out.mv hm hlt)
  replace HPS := Lib.hid ((show PdS (fun b => w1.heap.size ≤ b) _ ps pa pc from HPS.out.keep hm.size (fun b hb hl => hm.block b hl (by omega))))
  replace HT := Lib.hid (HT.out.mv hm hlt)
  replace HQ := Lib.hid (HQ.out.mv hm hlt)
  have hse := hm.size
  clear hps hqn hm ho HC hHeld MD OD
  refine hK.out _ _ (HK5.out _ ME.out) (fun hHeld => ?_)
  clear hK K
  (try simp only [List.set_cons_zero, List.set_cons_succ])
  refine wpAnyH_ready (rs := [5]) (by kernel_rfl) (by simp) ?_
  refine AllReadyH.cons rfl (fun K hK => ?_) AllReadyH.nil
  go_simp
  obtain ⟨wl, hwl⟩ : ∃ wl, we.alloc (.cells #[.int .i64 pop, .int .i64 pcmp, .int .i64 plk, .int .i64 pli, .int .i64 plvk, .int .i64 plvn, .string plvs, .int .i64 prk, .int .i64 pri, .int .i64 prvk, .int .i64 prvn, .string prvs, .slice pa pn pc, .int .i64 qop, .int .i64 qcmp, .int .i64 qlk, .int .i64 qli, .int .i64 qlvk, .int .i64 qlvn, .string qlvs, .int .i64 qrk, .int .i64 qri, .int .i64 qrvk, .int .i64 qrvn, .string qrvs, .slice qa qn qc, .int .i64 rop, .int .i64 rcmp, .int .i64 rlk, .int .i64 rli, .int .i64 rlvk, .int .i64 rlvn, .string rlvs, .int .i64 rrk, .int .i64 rri, .int .i64 rrvk, .int .i64 rrvn, .string rrvs, .slice ra rn rc] 29) = wl := ⟨_, rfl⟩
  obtain ⟨bl, hbl⟩ : ∃ bl, we.heap.size = bl := ⟨_, rfl⟩
  have BL : Below we.heap.size we wl := by rw [← hwl]; exact (Below.refl _ _).alloc (Nat.le_refl _) _
  have hlz : bl < wl.heap.size := by rw [← hwl, ← hbl]; simp
  have a0 : wl.cell? ⟨bl, 0, none⟩ = some (.int .i64 pop) := by subst hwl; subst hbl; go_simp
  have a1 : wl.cell? ⟨bl, 1, none⟩ = some (.int .i64 pcmp) := by subst hwl; subst hbl; go_simp
  have a2 : wl.cell? ⟨bl, 2, none⟩ = some (.int .i64 plk) := by subst hwl; subst hbl; go_simp
  have a3 : wl.cell? ⟨bl, 3, none⟩ = some (.int .i64 pli) := by subst hwl; subst hbl; go_simp
  have a4 : wl.cell? ⟨bl, 4, none⟩ = some (.int .i64 plvk) := by subst hwl; subst hbl; go_simp
  have a5 : wl.cell? ⟨bl, 5, none⟩ = some (.int .i64 plvn) := by subst hwl; subst hbl; go_simp
  have a6 : wl.cell? ⟨bl, 6, none⟩ = some (.string plvs) := by subst hwl; subst hbl; go_simp
  have a7 : wl.cell? ⟨bl, 7, none⟩ = some (.int .i64 prk) := by subst hwl; subst hbl; go_simp
  have a8 : wl.cell? ⟨bl, 8, none⟩ = some (.int .i64 pri) := by subst hwl; subst hbl; go_simp
  have a9 : wl.cell? ⟨bl, 9, none⟩ = some (.int .i64 prvk) := by subst hwl; subst hbl; go_simp
  have a10 : wl.cell? ⟨bl, 10, none⟩ = some (.int .i64 prvn) := by subst hwl; subst hbl; go_simp
  have a11 : wl.cell? ⟨bl, 11, none⟩ = some (.string prvs) := by subst hwl; subst hbl; go_simp
  have a12 : wl.cell? ⟨bl, 12, none⟩ = some (.slice pa pn pc) := by subst hwl; subst hbl; go_simp
  have a13 : wl.cell? ⟨bl, 13, none⟩ = some (.int .i64 qop) := by subst hwl; subst hbl; go_simp
  have a14 : wl.cell? ⟨bl, 14, none⟩ = some (.int .i64 qcmp) := by subst hwl; subst hbl; go_simp
  have a15 : wl.cell? ⟨bl, 15, none⟩ = some (.int .i64 qlk) := by subst hwl; subst hbl; go_simp
  have a16 : wl.cell? ⟨bl, 16, none⟩ = some (.int .i64 qli) := by subst hwl; subst hbl; go_simp
  have a17 : wl.cell? ⟨bl, 17, none⟩ = some (.int .i64 qlvk) := by subst hwl; subst hbl; go_simp
  have a18 : wl.cell? ⟨bl, 18, none⟩ = some (.int .i64 qlvn) := by subst hwl; subst hbl; go_simp
  have a19 : wl.cell? ⟨bl, 19, none⟩ = some (.string qlvs) := by subst hwl; subst hbl; go_simp
  have a20 : wl.cell? ⟨bl, 20, none⟩ = some (.int .i64 qrk) := by subst hwl; subst hbl; go_simp
  have a21 : wl.cell? ⟨bl, 21, none⟩ = some (.int .i64 qri) := by subst hwl; subst hbl; go_simp
  have a22 : wl.cell? ⟨bl, 22, none⟩ = some (.int .i64 qrvk) := by subst hwl; subst hbl; go_simp
  have a23 : wl.cell? ⟨bl, 23, none⟩ = some (.int .i64 qrvn) := by subst hwl; subst hbl; go_simp
  have a24 : wl.cell? ⟨bl, 24, none⟩ = some (.string qrvs) := by subst hwl; subst hbl; go_simp
  have a25 : wl.cell? ⟨bl, 25, none⟩ = some (.slice qa qn qc) := by subst hwl; subst hbl; go_simp
  have a26 : wl.cell? ⟨bl, 26, none⟩ = some (.int .i64 rop) := by subst hwl; subst hbl; go_simp
  have a27 : wl.cell? ⟨bl, 27, none⟩ = some (.int .i64 rcmp) := by subst hwl; subst hbl; go_simp
  have a28 : wl.cell? ⟨bl, 28, none⟩ = some (.int .i64 rlk) := by subst hwl; subst hbl; go_simp
  have a29 : wl.cell? ⟨bl, 29, none⟩ = some (.int .i64 rli) := by subst hwl; subst hbl; go_simp
  have a30 : wl.cell? ⟨bl, 30, none⟩ = some (.int .i64 rlvk) := by subst hwl; subst hbl; go_simp
  have a31 : wl.cell? ⟨bl, 31, none⟩ = some (.int .i64 rlvn) := by subst hwl; subst hbl; go_simp
  have a32 : wl.cell? ⟨bl, 32, none⟩ = some (.string rlvs) := by subst hwl; subst hbl; go_simp
  have a33 : wl.cell? ⟨bl, 33, none⟩ = some (.int .i64 rrk) := by subst hwl; subst hbl; go_simp
  have a34 : wl.cell? ⟨bl, 34, none⟩ = some (.int .i64 rri) := by subst hwl; subst hbl; go_simp
  have a35 : wl.cell? ⟨bl, 35, none⟩ = some (.int .i64 rrvk) := by subst hwl; subst hbl; go_simp
  have a36 : wl.cell? ⟨bl, 36, none⟩ = some (.int .i64 rrvn) := by subst hwl; subst hbl; go_simp
  have a37 : wl.cell? ⟨bl, 37, none⟩ = some (.string rrvs) := by subst hwl; subst hbl; go_simp
  have a38 : wl.cell? ⟨bl, 38, none⟩ = some (.slice ra rn rc) := by subst hwl; subst hbl; go_simp
  rw [hwl, hbl]
  have ML : Mv bc w7 wl := ME.out.trans (Mv.of_below BL)
  have HAL : Hid (Below wa.heap.size wa wl) := HAZ.out _ ML
  have HWL : Hid (Below w.heap.size w wl) := HWA.out.trans (HAL.out.mono (by omega))
  have HPL0 : PdS (fun _ => True) wl [(PT.mk pop pcmp ⟨plk, pli, ⟨plvk, plvn, plvs⟩⟩ ⟨prk, pri, ⟨prvk, prvn, prvs⟩⟩ ps), (PT.mk qop qcmp ⟨qlk, qli, ⟨qlvk, qlvn, qlvs⟩⟩ ⟨qrk, qri, ⟨qrvk, qrvn, qrvs⟩⟩ qs), (PT.mk rop rcmp ⟨rlk, rli, ⟨rlvk, rlvn, rlvs⟩⟩ ⟨rrk, rri, ⟨rrvk, rrvn, rrvs⟩⟩ rs)] (some ⟨bl, 0, none⟩) 3 := by
    refine ⟨⟨by simp, by unfold maxLen; exact of_decide_eq_true rfl, fun e => (by cases e), by simp⟩, .inr ⟨bl, 0, rfl, trivial, hlz, ?_⟩⟩
    unfold PdL
    refine ⟨PdC.close (a := pa) (c := pc) a0 a1 ⟨a2, a3, a4, a5, a6⟩ ⟨a7, a8, a9, a10, a11⟩ (by simp only [PT.args]; rw [HPN.out]; exact a12) ((HPS.out.weak (fun _ _ => trivial)).below BL), ?_⟩
    unfold PdL
    refine ⟨PdC.close (a := qa) (c := qc) a13 a14 ⟨a15, a16, a17, a18, a19⟩ ⟨a20, a21, a22, a23, a24⟩ (by simp only [PT.args]; rw [HQN.out]; exact a25) ((HQS.out.weak (fun _ _ => trivial)).below BL), ?_⟩
    unfold PdL
    have hr : PdS (fun _ => True) wl rs ra rc := by
      obtain ⟨ra2, rc2, e, h⟩ := HR0.out.below HWL.out
      simp only [pdV, PT.op, PT.cmp, PT.l, PT.r, PT.args, Value.agg.injEq, Array.mk.injEq, List.cons.injEq, Value.slice.injEq, and_true, true_and] at e
      obtain ⟨rfl, -, rfl⟩ := e
      exact h
    refine ⟨PdC.close (a := ra) (c := rc) a26 a27 ⟨a28, a29, a30, a31, a32⟩ ⟨a33, a34, a35, a36, a37⟩ (by simp only [PT.args]; rw [HRN.out]; exact a38) (hr), ?_⟩
    unfold PdL
    trivial
  have HPL : Hid (∀ W, Below wl.heap.size wl W → PdS (fun _ => True) W [(PT.mk pop pcmp ⟨plk, pli, ⟨plvk, plvn, plvs⟩⟩ ⟨prk, pri, ⟨prvk, prvn, prvs⟩⟩ ps), (PT.mk qop qcmp ⟨qlk, qli, ⟨qlvk, qlvn, qlvs⟩⟩ ⟨qrk, qri, ⟨qrvk, qrvn, qrvs⟩⟩ qs), (PT.mk rop rcmp ⟨rlk, rli, ⟨rlvk, rlvn, rlvs⟩⟩ ⟨rrk, rri, ⟨rrvk, rrvn, rrvs⟩⟩ rs)] (some ⟨bl, 0, none⟩) 3) := fun W hb => HPL0.below hb
  have HTA : Hid (RowAt wl (.slice ta tn tc) T) := (HT.out.below BL).rowB.at (Nat.le_refl _)
  have HQA : Hid (RowAt wl (.slice va vn vc) Q) := (HQ.out.below BL).rowB.at (Nat.le_refl _)
  refine hK.out _ _ (HK5.out _ ML) (fun hHeld => ?_)
  clear hK K HPL0 hwl hbl BL ML a0 a1 a2 a3 a4 a5 a6 a7 a8 a9 a10 a11 a12 a13 a14 a15 a16 a17 a18 a19 a20 a21 a22 a23 a24 a25 a26 a27 a28 a29 a30 a31 a32 a33 a34 a35 a36 a37 a38
  (try simp only [List.set_cons_zero, List.set_cons_succ])
  refine wpAnyH_takeD (i := 6) (d := 39) (v := ?_) rfl rfl (by kernel_rfl) (by kernel_rfl) (by kernel_rfl) (fun _ _ _ h => h) (Or.inl ⟨by rfl, ?_⟩) (by assumption) ?_; rotate_left
  · intro W hSw; (try dsimp only at hSw); go_simp; (try with_reducible rfl)
  (try simp only [List.set_cons_zero, List.set_cons_succ])
  clear hHeld
  refine wpAnyH_done (by kernel_rfl) ?_ _
  clear HK5 HAZ HPS HQS HT HQ HIK HIM HKK HKM ME HPV2 M7 HR0 B1
  go_wp2_with fail
  go_loopw [40] (fun i wr => ∃ k : Nat, k ≤ 3 ∧ i = .int .i64 k ∧ Hid (Below wl.heap.size wl wr)) (fun i _ => 3 - (intOf i).toNat)
  case atStart => exact ⟨0, by omega, rfl, Below.refl _ _⟩
  case round =>
    obtain ⟨k, hk, rfl, HBW⟩ := hrel
    by_cases hlt3 : k < 3
    · have hlt' : (k : Int) < 3 := by omega
      obtain ⟨b, o, xa, xc, he, -, hb, g0, g1, g2, g3, g4, g5, g6, g7, g8, g9, g10, g11, g12, hps⟩ := (HPL.out wr HBW.out).get (j := k) (by simpa using hlt3)
      simp only [Option.some.injEq, Addr.mk.injEq, and_true] at he
      obtain ⟨rfl, rfl⟩ := he
      generalize ([(PT.mk pop pcmp ⟨plk, pli, ⟨plvk, plvn, plvs⟩⟩ ⟨prk, pri, ⟨prvk, prvn, prvs⟩⟩ ps), (PT.mk qop qcmp ⟨qlk, qli, ⟨qlvk, qlvn, qlvs⟩⟩ ⟨qrk, qri, ⟨qrvk, qrvn, qrvs⟩⟩ qs), (PT.mk rop rcmp ⟨rlk, rli, ⟨rlvk, rlvn, rlvs⟩⟩ ⟨rrk, rri, ⟨rrvk, rrvn, rrvs⟩⟩ rs)] : List PT)[k] = X at g0 g1 g2 g3 g4 g5 g6 g7 g8 g9 g10 g11 g12 hps
      obtain ⟨xop, xcmp, ⟨xlk, xli, ⟨xlvk, xlvn, xlvs⟩⟩, ⟨xrk, xri, ⟨xrvk, xrvn, xrvs⟩⟩, xs⟩ := X
      simp only [PT.op, PT.cmp, PT.l, PT.r, PT.args, Nat.zero_add] at g0 g1 g2 g3 g4 g5 g6 g7 g8 g9 g10 g11 g12
      change PdS _ wr xs xa xc at hps
      have HXS := Lib.hid hps
      obtain ⟨xn, hxn⟩ : ∃ xn, xs.length = xn := ⟨_, rfl⟩
      have HXN := Lib.hid hxn
      rw [hxn] at g12
      clear hps hxn
      go_upto_region 8 with fail
      obtain ⟨wb, hwb⟩ : ∃ wb, wr.alloc (.cells #[.int .i64 xop, .int .i64 xcmp, .int .i64 xlk, .int .i64 xli, .int .i64 xlvk, .int .i64 xlvn, .string xlvs, .int .i64 xrk, .int .i64 xri, .int .i64 xrvk, .int .i64 xrvn, .string xrvs, .slice xa xn xc] 29) = wb := ⟨_, rfl⟩
      have hbz : wr.heap.size < wb.heap.size := by rw [← hwb]; simp
      have a0 : wb.cell? ⟨wr.heap.size, 0, none⟩ = some (.int .i64 xop) := by subst hwb; go_simp
      have a1 : wb.cell? ⟨wr.heap.size, 1, none⟩ = some (.int .i64 xcmp) := by subst hwb; go_simp
      have a2 : wb.cell? ⟨wr.heap.size, 2, none⟩ = some (.int .i64 xlk) := by subst hwb; go_simp
      have a3 : wb.cell? ⟨wr.heap.size, 3, none⟩ = some (.int .i64 xli) := by subst hwb; go_simp
      have a4 : wb.cell? ⟨wr.heap.size, 4, none⟩ = some (.int .i64 xlvk) := by subst hwb; go_simp
      have a5 : wb.cell? ⟨wr.heap.size, 5, none⟩ = some (.int .i64 xlvn) := by subst hwb; go_simp
      have a6 : wb.cell? ⟨wr.heap.size, 6, none⟩ = some (.string xlvs) := by subst hwb; go_simp
      have a7 : wb.cell? ⟨wr.heap.size, 7, none⟩ = some (.int .i64 xrk) := by subst hwb; go_simp
      have a8 : wb.cell? ⟨wr.heap.size, 8, none⟩ = some (.int .i64 xri) := by subst hwb; go_simp
      have a9 : wb.cell? ⟨wr.heap.size, 9, none⟩ = some (.int .i64 xrvk) := by subst hwb; go_simp
      have a10 : wb.cell? ⟨wr.heap.size, 10, none⟩ = some (.int .i64 xrvn) := by subst hwb; go_simp
      have a11 : wb.cell? ⟨wr.heap.size, 11, none⟩ = some (.string xrvs) := by subst hwb; go_simp
      have a12 : wb.cell? ⟨wr.heap.size, 12, none⟩ = some (.slice xa xn xc) := by subst hwb; go_simp
      have HLB : Hid (Below wl.heap.size wl wb) := by rw [← hwb]; exact HBW.out.alloc HBW.out.size _
      have HRW : Hid (Below wr.heap.size wr wb) := by rw [← hwb]; exact (Below.refl _ _).alloc (Nat.le_refl _) _
      rw [hwb]
      have HK : Hid (∀ W, Below wb.heap.size wb W → W.cell? ⟨wr.heap.size, 0, none⟩ = some (.int .i64 xop) ∧ W.cell? ⟨wr.heap.size, 1, none⟩ = some (.int .i64 xcmp) ∧ W.cell? ⟨wr.heap.size, 2, none⟩ = some (.int .i64 xlk) ∧ W.cell? ⟨wr.heap.size, 3, none⟩ = some (.int .i64 xli) ∧ W.cell? ⟨wr.heap.size, 4, none⟩ = some (.int .i64 xlvk) ∧ W.cell? ⟨wr.heap.size, 5, none⟩ = some (.int .i64 xlvn) ∧ W.cell? ⟨wr.heap.size, 6, none⟩ = some (.string xlvs) ∧ W.cell? ⟨wr.heap.size, 7, none⟩ = some (.int .i64 xrk) ∧ W.cell? ⟨wr.heap.size, 8, none⟩ = some (.int .i64 xri) ∧ W.cell? ⟨wr.heap.size, 9, none⟩ = some (.int .i64 xrvk) ∧ W.cell? ⟨wr.heap.size, 10, none⟩ = some (.int .i64 xrvn) ∧ W.cell? ⟨wr.heap.size, 11, none⟩ = some (.string xrvs) ∧ W.cell? ⟨wr.heap.size, 12, none⟩ = some (.slice xa xn xc)) := fun W hb => ⟨(hb.cell (p := ⟨wr.heap.size, 0, none⟩) hbz).trans a0, (hb.cell (p := ⟨wr.heap.size, 1, none⟩) hbz).trans a1, (hb.cell (p := ⟨wr.heap.size, 2, none⟩) hbz).trans a2, (hb.cell (p := ⟨wr.heap.size, 3, none⟩) hbz).trans a3, (hb.cell (p := ⟨wr.heap.size, 4, none⟩) hbz).trans a4, (hb.cell (p := ⟨wr.heap.size, 5, none⟩) hbz).trans a5, (hb.cell (p := ⟨wr.heap.size, 6, none⟩) hbz).trans a6, (hb.cell (p := ⟨wr.heap.size, 7, none⟩) hbz).trans a7, (hb.cell (p := ⟨wr.heap.size, 8, none⟩) hbz).trans a8, (hb.cell (p := ⟨wr.heap.size, 9, none⟩) hbz).trans a9, (hb.cell (p := ⟨wr.heap.size, 10, none⟩) hbz).trans a10, (hb.cell (p := ⟨wr.heap.size, 11, none⟩) hbz).trans a11, (hb.cell (p := ⟨wr.heap.size, 12, none⟩) hbz).trans a12⟩
      have HPX : Hid (∀ W, Below wb.heap.size wb W → Pd W (.agg #[.int .i64 xop, .int .i64 xcmp, .int .i64 xlk, .int .i64 xli, .int .i64 xlvk, .int .i64 xlvn, .string xlvs, .int .i64 xrk, .int .i64 xri, .int .i64 xrvk, .int .i64 xrvn, .string xrvs, .slice xa xn xc]) (PT.mk xop xcmp ⟨xlk, xli, ⟨xlvk, xlvn, xlvs⟩⟩ ⟨xrk, xri, ⟨xrvk, xrvn, xrvs⟩⟩ xs)) := fun W hb => ⟨xa, xc, by simp only [pdV, PT.op, PT.cmp, PT.l, PT.r, PT.args, HXN.out], (HXS.out.weak (fun _ _ => trivial)).below (below_go HRW.out hb)⟩
      obtain ⟨y1, hy1⟩ : ∃ y, holdsP T Q (PT.mk xop xcmp ⟨xlk, xli, ⟨xlvk, xlvn, xlvs⟩⟩ ⟨xrk, xri, ⟨xrvk, xrvn, xrvs⟩⟩ xs) = y := ⟨_, rfl⟩
      have HP1 : Hid (∀ W, Below wb.heap.size wb W → Calls Try.prog 17 #[.agg #[.int .i64 xop, .int .i64 xcmp, .int .i64 xlk, .int .i64 xli, .int .i64 xlvk, .int .i64 xlvn, .string xlvs, .int .i64 xrk, .int .i64 xri, .int .i64 xrvk, .int .i64 xrvn, .string xrvs, .slice xa xn xc], .slice ta tn tc, .slice va vn vc] W fun e w' => e = .returned (.bool y1) ∧ Below W.heap.size W w') := fun W hb => by
        have h := pHolds_any T Q _ (PT.mk xop xcmp ⟨xlk, xli, ⟨xlvk, xlvn, xlvs⟩⟩ ⟨xrk, xri, ⟨xrvk, xrvn, xrvs⟩⟩ xs) (Nat.le_refl _) (.agg #[.int .i64 xop, .int .i64 xcmp, .int .i64 xlk, .int .i64 xli, .int .i64 xlvk, .int .i64 xlvn, .string xlvs, .int .i64 xrk, .int .i64 xri, .int .i64 xrvk, .int .i64 xrvn, .string xrvs, .slice xa xn xc]) (.slice ta tn tc) (.slice va vn vc) W (HPX.out W hb) (HTA.out.blw (below_go HLB.out hb)) (HQA.out.blw (below_go HLB.out hb))
        rw [hy1] at h
        exact h
      have HR1 : Hid (∀ W, Below wb.heap.size wb W → Calls Try.prog 18 #[.agg #[.int .i64 xop, .int .i64 xcmp, .int .i64 xlk, .int .i64 xli, .int .i64 xlvk, .int .i64 xlvn, .string xlvs, .int .i64 xrk, .int .i64 xri, .int .i64 xrvk, .int .i64 xrvn, .string xrvs, .slice xa xn xc], .slice ta tn tc, .slice va vn vc] W fun e w' => e = .returned (.bool y1) ∧ Below W.heap.size W w') := fun W hb => by
        have h := rHolds_any T Q _ (PT.mk xop xcmp ⟨xlk, xli, ⟨xlvk, xlvn, xlvs⟩⟩ ⟨xrk, xri, ⟨xrvk, xrvn, xrvs⟩⟩ xs) (Nat.le_refl _) (.agg #[.int .i64 xop, .int .i64 xcmp, .int .i64 xlk, .int .i64 xli, .int .i64 xlvk, .int .i64 xlvn, .string xlvs, .int .i64 xrk, .int .i64 xri, .int .i64 xrvk, .int .i64 xrvn, .string xrvs, .slice xa xn xc]) (.slice ta tn tc) (.slice va vn vc) W (HPX.out W hb) (HTA.out.blw (below_go HLB.out hb)) (HQA.out.blw (below_go HLB.out hb))
        rw [hy1] at h
        exact h
      have n1 : (y1 != y1) = false := by cases y1 <;> rfl
      obtain ⟨y2, hy2⟩ : ∃ y, holdsP OV Q (PT.mk xop xcmp ⟨xlk, xli, ⟨xlvk, xlvn, xlvs⟩⟩ ⟨xrk, xri, ⟨xrvk, xrvn, xrvs⟩⟩ xs) = y := ⟨_, rfl⟩
      have HP2 : Hid (∀ W, Below wb.heap.size wb W → Calls Try.prog 17 #[.agg #[.int .i64 xop, .int .i64 xcmp, .int .i64 xlk, .int .i64 xli, .int .i64 xlvk, .int .i64 xlvn, .string xlvs, .int .i64 xrk, .int .i64 xri, .int .i64 xrvk, .int .i64 xrvn, .string xrvs, .slice xa xn xc], ov, .slice va vn vc] W fun e w' => e = .returned (.bool y2) ∧ Below W.heap.size W w') := fun W hb => by
        have h := pHolds_any OV Q _ (PT.mk xop xcmp ⟨xlk, xli, ⟨xlvk, xlvn, xlvs⟩⟩ ⟨xrk, xri, ⟨xrvk, xrvn, xrvs⟩⟩ xs) (Nat.le_refl _) (.agg #[.int .i64 xop, .int .i64 xcmp, .int .i64 xlk, .int .i64 xli, .int .i64 xlvk, .int .i64 xlvn, .string xlvs, .int .i64 xrk, .int .i64 xri, .int .i64 xrvk, .int .i64 xrvn, .string xrvs, .slice xa xn xc]) (ov) (.slice va vn vc) W (HPX.out W hb) (HOV.out.blw (below_go HWL.out (below_go HLB.out hb))) (HQA.out.blw (below_go HLB.out hb))
        rw [hy2] at h
        exact h
      have HR2 : Hid (∀ W, Below wb.heap.size wb W → Calls Try.prog 18 #[.agg #[.int .i64 xop, .int .i64 xcmp, .int .i64 xlk, .int .i64 xli, .int .i64 xlvk, .int .i64 xlvn, .string xlvs, .int .i64 xrk, .int .i64 xri, .int .i64 xrvk, .int .i64 xrvn, .string xrvs, .slice xa xn xc], ov, .slice va vn vc] W fun e w' => e = .returned (.bool y2) ∧ Below W.heap.size W w') := fun W hb => by
        have h := rHolds_any OV Q _ (PT.mk xop xcmp ⟨xlk, xli, ⟨xlvk, xlvn, xlvs⟩⟩ ⟨xrk, xri, ⟨xrvk, xrvn, xrvs⟩⟩ xs) (Nat.le_refl _) (.agg #[.int .i64 xop, .int .i64 xcmp, .int .i64 xlk, .int .i64 xli, .int .i64 xlvk, .int .i64 xlvn, .string xlvs, .int .i64 xrk, .int .i64 xri, .int .i64 xrvk, .int .i64 xrvn, .string xrvs, .slice xa xn xc]) (ov) (.slice va vn vc) W (HPX.out W hb) (HOV.out.blw (below_go HWL.out (below_go HLB.out hb))) (HQA.out.blw (below_go HLB.out hb))
        rw [hy2] at h
        exact h
      have n2 : (y2 != y2) = false := by cases y2 <;> rfl
      obtain ⟨y3, hy3⟩ : ∃ y, holdsP T PV (PT.mk xop xcmp ⟨xlk, xli, ⟨xlvk, xlvn, xlvs⟩⟩ ⟨xrk, xri, ⟨xrvk, xrvn, xrvs⟩⟩ xs) = y := ⟨_, rfl⟩
      have HP3 : Hid (∀ W, Below wb.heap.size wb W → Calls Try.prog 17 #[.agg #[.int .i64 xop, .int .i64 xcmp, .int .i64 xlk, .int .i64 xli, .int .i64 xlvk, .int .i64 xlvn, .string xlvs, .int .i64 xrk, .int .i64 xri, .int .i64 xrvk, .int .i64 xrvn, .string xrvs, .slice xa xn xc], .slice ta tn tc, pv] W fun e w' => e = .returned (.bool y3) ∧ Below W.heap.size W w') := fun W hb => by
        have h := pHolds_any T PV _ (PT.mk xop xcmp ⟨xlk, xli, ⟨xlvk, xlvn, xlvs⟩⟩ ⟨xrk, xri, ⟨xrvk, xrvn, xrvs⟩⟩ xs) (Nat.le_refl _) (.agg #[.int .i64 xop, .int .i64 xcmp, .int .i64 xlk, .int .i64 xli, .int .i64 xlvk, .int .i64 xlvn, .string xlvs, .int .i64 xrk, .int .i64 xri, .int .i64 xrvk, .int .i64 xrvn, .string xrvs, .slice xa xn xc]) (.slice ta tn tc) (pv) W (HPX.out W hb) (HTA.out.blw (below_go HLB.out hb)) (HPV.out.blw (below_go HWL.out (below_go HLB.out hb)))
        rw [hy3] at h
        exact h
      have HR3 : Hid (∀ W, Below wb.heap.size wb W → Calls Try.prog 18 #[.agg #[.int .i64 xop, .int .i64 xcmp, .int .i64 xlk, .int .i64 xli, .int .i64 xlvk, .int .i64 xlvn, .string xlvs, .int .i64 xrk, .int .i64 xri, .int .i64 xrvk, .int .i64 xrvn, .string xrvs, .slice xa xn xc], .slice ta tn tc, pv] W fun e w' => e = .returned (.bool y3) ∧ Below W.heap.size W w') := fun W hb => by
        have h := rHolds_any T PV _ (PT.mk xop xcmp ⟨xlk, xli, ⟨xlvk, xlvn, xlvs⟩⟩ ⟨xrk, xri, ⟨xrvk, xrvn, xrvs⟩⟩ xs) (Nat.le_refl _) (.agg #[.int .i64 xop, .int .i64 xcmp, .int .i64 xlk, .int .i64 xli, .int .i64 xlvk, .int .i64 xlvn, .string xlvs, .int .i64 xrk, .int .i64 xri, .int .i64 xrvk, .int .i64 xrvn, .string xrvs, .slice xa xn xc]) (.slice ta tn tc) (pv) W (HPX.out W hb) (HTA.out.blw (below_go HLB.out hb)) (HPV.out.blw (below_go HWL.out (below_go HLB.out hb)))
        rw [hy3] at h
        exact h
      have n3 : (y3 != y3) = false := by cases y3 <;> rfl
      clear hwb HPX HXS hy1 hy2 hy3 a0 g0 a1 g1 a2 g2 a3 g3 a4 g4 a5 g5 a6 g6 a7 g7 a8 g8 a9 g9 a10 g10 a11 g11 a12 g12
      refine wp_region_held_drew (S := fun W => W.cell? ⟨wr.heap.size, 0, none⟩ = some (.int .i64 xop) ∧ W.cell? ⟨wr.heap.size, 1, none⟩ = some (.int .i64 xcmp) ∧ W.cell? ⟨wr.heap.size, 2, none⟩ = some (.int .i64 xlk) ∧ W.cell? ⟨wr.heap.size, 3, none⟩ = some (.int .i64 xli) ∧ W.cell? ⟨wr.heap.size, 4, none⟩ = some (.int .i64 xlvk) ∧ W.cell? ⟨wr.heap.size, 5, none⟩ = some (.int .i64 xlvn) ∧ W.cell? ⟨wr.heap.size, 6, none⟩ = some (.string xlvs) ∧ W.cell? ⟨wr.heap.size, 7, none⟩ = some (.int .i64 xrk) ∧ W.cell? ⟨wr.heap.size, 8, none⟩ = some (.int .i64 xri) ∧ W.cell? ⟨wr.heap.size, 9, none⟩ = some (.int .i64 xrvk) ∧ W.cell? ⟨wr.heap.size, 10, none⟩ = some (.int .i64 xrvn) ∧ W.cell? ⟨wr.heap.size, 11, none⟩ = some (.string xrvs) ∧ W.cell? ⟨wr.heap.size, 12, none⟩ = some (.slice xa xn xc)) (by kernel_rfl) (HK.out _ (Below.refl _ _).drew) (fun hHeld => ?_)
      obtain ⟨wd, hwd⟩ : ∃ wd, wb.drew = wd := ⟨_, rfl⟩
      have BW : Hid (Below wb.heap.size wb wd) := by rw [← hwd]; exact (Below.refl _ _).drew
      rw [hwd] at hHeld ⊢
      clear hwd
      refine wpAnyH_takeD (i := 0) (d := 44) (v := ?_) rfl rfl (by kernel_rfl) (by kernel_rfl) (by kernel_rfl) (fun _ _ _ h => h) (Or.inl ⟨by rfl, ?_⟩) (by assumption) ?_; rotate_left
      · intro W hSw; (try dsimp only at hSw); go_simp; (try with_reducible rfl)
      (try simp only [List.set_cons_zero, List.set_cons_succ])
      refine wpAnyH_takeD (i := 1) (d := 45) (v := ?_) rfl rfl (by kernel_rfl) (by kernel_rfl) (by kernel_rfl) (fun _ _ _ h => h) (Or.inl ⟨by rfl, ?_⟩) (by assumption) ?_; rotate_left
      · intro W hSw; (try dsimp only at hSw); go_simp; (try with_reducible rfl)
      (try simp only [List.set_cons_zero, List.set_cons_succ])
      refine wpAnyH_takeD (i := 2) (d := 46) (v := ?_) rfl rfl (by kernel_rfl) (by kernel_rfl) (by kernel_rfl) (fun _ _ _ h => h) (Or.inl ⟨by rfl, ?_⟩) (by assumption) ?_; rotate_left
      · intro W hSw; (try dsimp only at hSw); go_simp; (try with_reducible rfl)
      (try simp only [List.set_cons_zero, List.set_cons_succ])
      refine wpAnyH_takeD (i := 4) (d := 48) (v := ?_) rfl rfl (by kernel_rfl) (by kernel_rfl) (by kernel_rfl) (fun _ _ _ h => h) (Or.inl ⟨by rfl, ?_⟩) (by assumption) ?_; rotate_left
      · intro W hSw; (try dsimp only at hSw); go_simp; (try with_reducible rfl)
      (try simp only [List.set_cons_zero, List.set_cons_succ])
      refine wpAnyH_takeD (i := 5) (d := 49) (v := ?_) rfl rfl (by kernel_rfl) (by kernel_rfl) (by kernel_rfl) (fun _ _ _ h => h) (Or.inl ⟨by rfl, ?_⟩) (by assumption) ?_; rotate_left
      · intro W hSw; (try dsimp only at hSw); go_simp; (try with_reducible rfl)
      (try simp only [List.set_cons_zero, List.set_cons_succ])
      refine wpAnyH_takeD (i := 6) (d := 50) (v := ?_) rfl rfl (by kernel_rfl) (by kernel_rfl) (by kernel_rfl) (fun _ _ _ h => h) (Or.inl ⟨by rfl, ?_⟩) (by assumption) ?_; rotate_left
      · intro W hSw; (try dsimp only at hSw); go_simp; (try with_reducible rfl)
      (try simp only [List.set_cons_zero, List.set_cons_succ])
      refine wpAnyH_ready (rs := [3]) (by kernel_rfl) (by simp) ?_
      refine AllReadyH.cons rfl (fun K hK => ?_) AllReadyH.nil
      go_simp
      go_at_call 17
      refine (HP1.out _ BW.out).mono ?_
      rintro e w_3 ⟨rfl, hg⟩
      clear hHeld
      replace BW := Lib.hid (below_go BW.out hg)
      clear hg
      refine hK.out _ _ (HK.out _ BW.out) (fun hHeld => ?_)
      clear hK K
      (try simp only [List.set_cons_zero, List.set_cons_succ])
      refine wpAnyH_ready (rs := [7]) (by kernel_rfl) (by simp) ?_
      refine AllReadyH.cons rfl (fun K hK => ?_) AllReadyH.nil
      go_simp
      go_at_call 18
      refine (HR1.out _ BW.out).mono ?_
      rintro e w_7 ⟨rfl, hg⟩
      clear hHeld
      replace BW := Lib.hid (below_go BW.out hg)
      clear hg
      refine hK.out _ _ (HK.out _ BW.out) (fun hHeld => ?_)
      clear hK K
      (try simp only [List.set_cons_zero, List.set_cons_succ])
      refine wpAnyH_takeD (i := 8) (d := 52) (v := ?_) rfl rfl (by kernel_rfl) (by kernel_rfl) (by kernel_rfl) (fun _ _ _ h => h) (Or.inl ⟨by rfl, ?_⟩) (by assumption) ?_; rotate_left
      · intro W hSw; (try dsimp only at hSw); go_simp; (try with_reducible rfl)
      (try simp only [List.set_cons_zero, List.set_cons_succ])
      refine wpAnyH_takeD (i := 9) (d := 53) (v := ?_) rfl rfl (by kernel_rfl) (by kernel_rfl) (by kernel_rfl) (fun _ _ _ h => h) (Or.inl ⟨by rfl, ?_⟩) (by assumption) ?_; rotate_left
      · intro W hSw; (try dsimp only at hSw); go_simp; (try with_reducible rfl)
      (try simp only [List.set_cons_zero, List.set_cons_succ])
      refine wpAnyH_takeD (i := 10) (d := 54) (v := ?_) rfl rfl (by kernel_rfl) (by kernel_rfl) (by kernel_rfl) (fun _ _ _ h => h) (Or.inl ⟨by rfl, ?_⟩) (by assumption) ?_; rotate_left
      · intro W hSw; (try dsimp only at hSw); go_simp; (try with_reducible rfl)
      (try simp only [List.set_cons_zero, List.set_cons_succ])
      refine wpAnyH_takeD (i := 11) (d := 55) (v := ?_) rfl rfl (by kernel_rfl) (by kernel_rfl) (by kernel_rfl) (fun _ _ _ h => h) (Or.inl ⟨by rfl, ?_⟩) (by assumption) ?_; rotate_left
      · intro W hSw; (try dsimp only at hSw); go_simp; (try with_reducible rfl)
      (try simp only [List.set_cons_zero, List.set_cons_succ])
      refine wpAnyH_takeD (i := 12) (d := 56) (v := ?_) rfl rfl (by kernel_rfl) (by kernel_rfl) (by kernel_rfl) (fun _ _ _ h => h) (Or.inl ⟨by rfl, ?_⟩) (by assumption) ?_; rotate_left
      · intro W hSw; (try dsimp only at hSw); go_simp; (try with_reducible rfl)
      (try simp only [List.set_cons_zero, List.set_cons_succ])
      refine wpAnyH_takeD (i := 14) (d := 58) (v := ?_) rfl rfl (by kernel_rfl) (by kernel_rfl) (by kernel_rfl) (fun _ _ _ h => h) (Or.inl ⟨by rfl, ?_⟩) (by assumption) ?_; rotate_left
      · intro W hSw; (try dsimp only at hSw); go_simp; (try with_reducible rfl)
      (try simp only [List.set_cons_zero, List.set_cons_succ])
      refine wpAnyH_takeD (i := 15) (d := 59) (v := ?_) rfl rfl (by kernel_rfl) (by kernel_rfl) (by kernel_rfl) (fun _ _ _ h => h) (Or.inl ⟨by rfl, ?_⟩) (by assumption) ?_; rotate_left
      · intro W hSw; (try dsimp only at hSw); go_simp; (try with_reducible rfl)
      (try simp only [List.set_cons_zero, List.set_cons_succ])
      refine wpAnyH_takeD (i := 16) (d := 60) (v := ?_) rfl rfl (by kernel_rfl) (by kernel_rfl) (by kernel_rfl) (fun _ _ _ h => h) (Or.inl ⟨by rfl, ?_⟩) (by assumption) ?_; rotate_left
      · intro W hSw; (try dsimp only at hSw); go_simp; (try with_reducible rfl)
      (try simp only [List.set_cons_zero, List.set_cons_succ])
      refine wpAnyH_ready (rs := [13]) (by kernel_rfl) (by simp) ?_
      refine AllReadyH.cons rfl (fun K hK => ?_) AllReadyH.nil
      go_simp
      go_at_call 17
      refine (HP2.out _ BW.out).mono ?_
      rintro e w_13 ⟨rfl, hg⟩
      clear hHeld
      replace BW := Lib.hid (below_go BW.out hg)
      clear hg
      refine hK.out _ _ (HK.out _ BW.out) (fun hHeld => ?_)
      clear hK K
      (try simp only [List.set_cons_zero, List.set_cons_succ])
      refine wpAnyH_ready (rs := [17]) (by kernel_rfl) (by simp) ?_
      refine AllReadyH.cons rfl (fun K hK => ?_) AllReadyH.nil
      go_simp
      go_at_call 18
      refine (HR2.out _ BW.out).mono ?_
      rintro e w_17 ⟨rfl, hg⟩
      clear hHeld
      replace BW := Lib.hid (below_go BW.out hg)
      clear hg
      refine hK.out _ _ (HK.out _ BW.out) (fun hHeld => ?_)
      clear hK K
      (try simp only [List.set_cons_zero, List.set_cons_succ])
      refine wpAnyH_takeD (i := 18) (d := 62) (v := ?_) rfl rfl (by kernel_rfl) (by kernel_rfl) (by kernel_rfl) (fun _ _ _ h => h) (Or.inl ⟨by rfl, ?_⟩) (by assumption) ?_; rotate_left
      · intro W hSw; (try dsimp only at hSw); go_simp; (try with_reducible rfl)
      (try simp only [List.set_cons_zero, List.set_cons_succ])
      refine wpAnyH_takeD (i := 19) (d := 63) (v := ?_) rfl rfl (by kernel_rfl) (by kernel_rfl) (by kernel_rfl) (fun _ _ _ h => h) (Or.inl ⟨by rfl, ?_⟩) (by assumption) ?_; rotate_left
      · intro W hSw; (try dsimp only at hSw); go_simp; (try with_reducible rfl)
      (try simp only [List.set_cons_zero, List.set_cons_succ])
      refine wpAnyH_takeD (i := 20) (d := 64) (v := ?_) rfl rfl (by kernel_rfl) (by kernel_rfl) (by kernel_rfl) (fun _ _ _ h => h) (Or.inl ⟨by rfl, ?_⟩) (by assumption) ?_; rotate_left
      · intro W hSw; (try dsimp only at hSw); go_simp; (try with_reducible rfl)
      (try simp only [List.set_cons_zero, List.set_cons_succ])
      refine wpAnyH_takeD (i := 21) (d := 65) (v := ?_) rfl rfl (by kernel_rfl) (by kernel_rfl) (by kernel_rfl) (fun _ _ _ h => h) (Or.inl ⟨by rfl, ?_⟩) (by assumption) ?_; rotate_left
      · intro W hSw; (try dsimp only at hSw); go_simp; (try with_reducible rfl)
      (try simp only [List.set_cons_zero, List.set_cons_succ])
      refine wpAnyH_takeD (i := 22) (d := 66) (v := ?_) rfl rfl (by kernel_rfl) (by kernel_rfl) (by kernel_rfl) (fun _ _ _ h => h) (Or.inl ⟨by rfl, ?_⟩) (by assumption) ?_; rotate_left
      · intro W hSw; (try dsimp only at hSw); go_simp; (try with_reducible rfl)
      (try simp only [List.set_cons_zero, List.set_cons_succ])
      refine wpAnyH_takeD (i := 23) (d := 67) (v := ?_) rfl rfl (by kernel_rfl) (by kernel_rfl) (by kernel_rfl) (fun _ _ _ h => h) (Or.inl ⟨by rfl, ?_⟩) (by assumption) ?_; rotate_left
      · intro W hSw; (try dsimp only at hSw); go_simp; (try with_reducible rfl)
      (try simp only [List.set_cons_zero, List.set_cons_succ])
      refine wpAnyH_takeD (i := 25) (d := 69) (v := ?_) rfl rfl (by kernel_rfl) (by kernel_rfl) (by kernel_rfl) (fun _ _ _ h => h) (Or.inl ⟨by rfl, ?_⟩) (by assumption) ?_; rotate_left
      · intro W hSw; (try dsimp only at hSw); go_simp; (try with_reducible rfl)
      (try simp only [List.set_cons_zero, List.set_cons_succ])
      refine wpAnyH_takeD (i := 26) (d := 70) (v := ?_) rfl rfl (by kernel_rfl) (by kernel_rfl) (by kernel_rfl) (fun _ _ _ h => h) (Or.inl ⟨by rfl, ?_⟩) (by assumption) ?_; rotate_left
      · intro W hSw; (try dsimp only at hSw); go_simp; (try with_reducible rfl)
      (try simp only [List.set_cons_zero, List.set_cons_succ])
      refine wpAnyH_takeD (i := 27) (d := 71) (v := ?_) rfl rfl (by kernel_rfl) (by kernel_rfl) (by kernel_rfl) (fun _ _ _ h => h) (Or.inl ⟨by rfl, ?_⟩) (by assumption) ?_; rotate_left
      · intro W hSw; (try dsimp only at hSw); go_simp; (try with_reducible rfl)
      (try simp only [List.set_cons_zero, List.set_cons_succ])
      refine wpAnyH_ready (rs := [24]) (by kernel_rfl) (by simp) ?_
      refine AllReadyH.cons rfl (fun K hK => ?_) AllReadyH.nil
      go_simp
      go_at_call 17
      refine (HP3.out _ BW.out).mono ?_
      rintro e w_24 ⟨rfl, hg⟩
      clear hHeld
      replace BW := Lib.hid (below_go BW.out hg)
      clear hg
      refine hK.out _ _ (HK.out _ BW.out) (fun hHeld => ?_)
      clear hK K
      (try simp only [List.set_cons_zero, List.set_cons_succ])
      refine wpAnyH_ready (rs := [28]) (by kernel_rfl) (by simp) ?_
      refine AllReadyH.cons rfl (fun K hK => ?_) AllReadyH.nil
      go_simp
      go_at_call 18
      refine (HR3.out _ BW.out).mono ?_
      rintro e w_28 ⟨rfl, hg⟩
      clear hHeld
      replace BW := Lib.hid (below_go BW.out hg)
      clear hg
      refine hK.out _ _ (HK.out _ BW.out) (fun hHeld => ?_)
      clear hK K
      (try simp only [List.set_cons_zero, List.set_cons_succ])
      refine wpAnyH_takeD (i := 29) (d := 73) (v := ?_) rfl rfl (by kernel_rfl) (by kernel_rfl) (by kernel_rfl) (fun _ _ _ h => h) (Or.inl ⟨by rfl, ?_⟩) (by assumption) ?_; rotate_left
      · intro W hSw; (try dsimp only at hSw); go_simp; (try with_reducible rfl)
      (try simp only [List.set_cons_zero, List.set_cons_succ])
      refine wpAnyH_takeD (i := 30) (d := 74) (v := ?_) rfl rfl (by kernel_rfl) (by kernel_rfl) (by kernel_rfl) (fun _ _ _ h => h) (Or.inl ⟨by rfl, ?_⟩) (by assumption) ?_; rotate_left
      · intro W hSw; (try dsimp only at hSw); go_simp; (try with_reducible rfl)
      (try simp only [List.set_cons_zero, List.set_cons_succ])
      clear hHeld
      refine wpAnyH_done (by kernel_rfl) ?_ _
      go_wp2_with fail
      go_roundw
      case rel => exact ⟨k + 1, by omega, by go_num, Lib.hid (HLB.out.trans (BW.out.mono HLB.out.size))⟩
      case measure => simp [intOf]; omega
    · have hk3 : k = 3 := by omega
      subst hk3
      have HBB := Lib.hid (HB.out wr)
      go_wp2_with fail
      refine HBB.out.mono ?_
      rintro e wf ⟨rfl, hb⟩
      have BF : Hid (Below wl.heap.size wl wf) := HBW.out.trans (hb.mono HBW.out.size)
      clear hb HBB
      go_wp2_with fail
      go_ret
      exact ⟨rfl, HWL.out.trans (BF.out.mono HWL.out.size)⟩
end Go.Proofs.Ytffeghlepblapaa
