/- Law PredicateEquals. -/
import Derived.Test.YtffeghlepblapaaPdTree
import Derived.Test.YtffeghlepblapaaPdRow
import Derived.Test.YtffeghlepblapaaPdNew
import Derived.Test.YtffeghlepblapaaPdBegun
import Derived.Test.YtffeghlepblapaaPdSpoil2
import Derived.Test.YtffeghlepblapaaPdEqual
import Derived.Test.YtffeghlepblapaaPdRefEqual
import Derived.Test.YtffeghlepblapaaPdRefBind
namespace Go.Proofs.Ytffeghlepblapaa
open Go.RowKit Go.Deep

theorem bndO_nil (o : Od) : bndO [] o = o := by
  unfold bndO
  have h : inB ([] : List V).length o.i = false := by unfold inB; simp
  rw [h, if_neg (fun hh => absurd hh.2 (by simp))]
mutual
theorem bndP_nil : ∀ p : PT, bndP [] p = p
  | .mk op cmp l r args => by rw [bndP, bndO_nil, bndO_nil, bndL_nil args]
theorem bndL_nil : ∀ ps : List PT, bndL [] ps = ps
  | [] => by rw [bndL]
  | p :: t => by rw [bndL, bndP_nil p, bndL_nil t]
end
theorem pEqual_two (p q : PT) (v v' : Value) (W : World) (h : Pd W v p) (h' : Pd W v' q) (x : Bool) (hx : eqT p q = x) : Calls Try.prog 25 #[v, v'] W fun e w' => e = .returned (.bool x) ∧ Below W.heap.size W w' := by
  subst hx; exact pEqualP_any p.depth p q (Nat.le_refl _) v v' W h h'
theorem rEqual_two (p q : PT) (v v' : Value) (W : World) (h : Pd W v p) (h' : Pd W v' q) (x : Bool) (hx : eqT p q = x) : Calls Try.prog 20 #[v, v'] W fun e w' => e = .returned (.bool x) ∧ Below W.heap.size W w' := by
  subst hx; exact rEqualP_any p.depth p q (Nat.le_refl _) v v' W h h'
set_option linter.unusedSimpArgs false in
set_option maxRecDepth 100000 in
set_option maxHeartbeats 2000000 in
theorem pequals_walk (cv : Value) (cn : Nat) (rv : Value) (R : PT) (w : World) (hcv : BytesAt w cv cn) (hrv : Pd w rv R) (_hwr : widP R) : Calls Try.prog 7 #[cv, rv] w fun e w' => e = .returned (.bool true) ∧ Below w.heap.size w w' := by
  obtain ⟨ra, rc, rfl, hrs⟩ := hrv
  obtain ⟨rop, rcmp, ⟨rlk, rli, ⟨rlvk, rlvn, rlvs⟩⟩, ⟨rrk, rri, ⟨rrvk, rrvn, rrvs⟩⟩, rs⟩ := R
  have HR0 : Hid (Pd w (pdV (PT.mk rop rcmp ⟨rlk, rli, ⟨rlvk, rlvn, rlvs⟩⟩ ⟨rrk, rri, ⟨rrvk, rrvn, rrvs⟩⟩ rs) ra rc) (PT.mk rop rcmp ⟨rlk, rli, ⟨rlvk, rlvn, rlvs⟩⟩ ⟨rrk, rri, ⟨rrvk, rrvn, rrvs⟩⟩ rs)) := ⟨ra, rc, rfl, hrs⟩
  simp only [pdV, PT.op, PT.cmp, PT.l, PT.r, PT.args] at HR0 ⊢
  obtain ⟨rn, hrn⟩ : ∃ rn, rs.length = rn := ⟨_, rfl⟩
  have HRN := Lib.hid hrn
  rw [hrn] at HR0 ⊢
  obtain ⟨wa, hwa⟩ : ∃ wa, w.alloc (.cells #[.int .i64 rop, .int .i64 rcmp, .int .i64 rlk, .int .i64 rli, .int .i64 rlvk, .int .i64 rlvn, .string rlvs, .int .i64 rrk, .int .i64 rri, .int .i64 rrvk, .int .i64 rrvn, .string rrvs, .slice ra rn rc] 29) = wa := ⟨_, rfl⟩
  have HWA : Hid (Below w.heap.size w wa) := by rw [← hwa]; exact (Below.refl _ _).alloc (Nat.le_refl _) _
  have hwas : w.heap.size < wa.heap.size := by rw [← hwa]; simp
  have a0 : wa.cell? ⟨w.heap.size, 0, none⟩ = some (.int .i64 rop) := by subst hwa; go_simp
  have a1 : wa.cell? ⟨w.heap.size, 1, none⟩ = some (.int .i64 rcmp) := by subst hwa; go_simp
  have a2 : wa.cell? ⟨w.heap.size, 2, none⟩ = some (.int .i64 rlk) := by subst hwa; go_simp
  have a3 : wa.cell? ⟨w.heap.size, 3, none⟩ = some (.int .i64 rli) := by subst hwa; go_simp
  have a4 : wa.cell? ⟨w.heap.size, 4, none⟩ = some (.int .i64 rlvk) := by subst hwa; go_simp
  have a5 : wa.cell? ⟨w.heap.size, 5, none⟩ = some (.int .i64 rlvn) := by subst hwa; go_simp
  have a6 : wa.cell? ⟨w.heap.size, 6, none⟩ = some (.string rlvs) := by subst hwa; go_simp
  have a7 : wa.cell? ⟨w.heap.size, 7, none⟩ = some (.int .i64 rrk) := by subst hwa; go_simp
  have a8 : wa.cell? ⟨w.heap.size, 8, none⟩ = some (.int .i64 rri) := by subst hwa; go_simp
  have a9 : wa.cell? ⟨w.heap.size, 9, none⟩ = some (.int .i64 rrvk) := by subst hwa; go_simp
  have a10 : wa.cell? ⟨w.heap.size, 10, none⟩ = some (.int .i64 rrvn) := by subst hwa; go_simp
  have a11 : wa.cell? ⟨w.heap.size, 11, none⟩ = some (.string rrvs) := by subst hwa; go_simp
  have a12 : wa.cell? ⟨w.heap.size, 12, none⟩ = some (.slice ra rn rc) := by subst hwa; go_simp
  have HKR : Hid (∀ W, Below wa.heap.size wa W → W.cell? ⟨w.heap.size, 0, none⟩ = some (.int .i64 rop) ∧ W.cell? ⟨w.heap.size, 1, none⟩ = some (.int .i64 rcmp) ∧ W.cell? ⟨w.heap.size, 2, none⟩ = some (.int .i64 rlk) ∧ W.cell? ⟨w.heap.size, 3, none⟩ = some (.int .i64 rli) ∧ W.cell? ⟨w.heap.size, 4, none⟩ = some (.int .i64 rlvk) ∧ W.cell? ⟨w.heap.size, 5, none⟩ = some (.int .i64 rlvn) ∧ W.cell? ⟨w.heap.size, 6, none⟩ = some (.string rlvs) ∧ W.cell? ⟨w.heap.size, 7, none⟩ = some (.int .i64 rrk) ∧ W.cell? ⟨w.heap.size, 8, none⟩ = some (.int .i64 rri) ∧ W.cell? ⟨w.heap.size, 9, none⟩ = some (.int .i64 rrvk) ∧ W.cell? ⟨w.heap.size, 10, none⟩ = some (.int .i64 rrvn) ∧ W.cell? ⟨w.heap.size, 11, none⟩ = some (.string rrvs) ∧ W.cell? ⟨w.heap.size, 12, none⟩ = some (.slice ra rn rc)) := fun W hb => ⟨(hb.cell (p := ⟨w.heap.size, 0, none⟩) hwas).trans a0, (hb.cell (p := ⟨w.heap.size, 1, none⟩) hwas).trans a1, (hb.cell (p := ⟨w.heap.size, 2, none⟩) hwas).trans a2, (hb.cell (p := ⟨w.heap.size, 3, none⟩) hwas).trans a3, (hb.cell (p := ⟨w.heap.size, 4, none⟩) hwas).trans a4, (hb.cell (p := ⟨w.heap.size, 5, none⟩) hwas).trans a5, (hb.cell (p := ⟨w.heap.size, 6, none⟩) hwas).trans a6, (hb.cell (p := ⟨w.heap.size, 7, none⟩) hwas).trans a7, (hb.cell (p := ⟨w.heap.size, 8, none⟩) hwas).trans a8, (hb.cell (p := ⟨w.heap.size, 9, none⟩) hwas).trans a9, (hb.cell (p := ⟨w.heap.size, 10, none⟩) hwas).trans a10, (hb.cell (p := ⟨w.heap.size, 11, none⟩) hwas).trans a11, (hb.cell (p := ⟨w.heap.size, 12, none⟩) hwas).trans a12⟩
  have HN := Lib.hid (cNew_160 cv cn wa (hcv.below HWA.out))
  obtain ⟨sa, sc, rfl, _⟩ := hcv
  have HB : Hid (∀ W, Calls Try.prog 12 #[] W fun e w' => e = .returned (.bool true) ∧ Below W.heap.size W w') := begun5_any
  clear hrs  hrn a0 a1 a2 a3 a4 a5 a6 a7 a8 a9 a10 a11 a12
  go_enter Try.func7, Try.ntmps7
  go_wp2_with fail
  try rw [hwa]
  clear hwa
  refine HN.out.mono ?_
  rintro e w1 ⟨bc, rfl, hb1, hbc, hok⟩
  have hlt : bc < w1.heap.size := hok.lt.1
  have B1 : Hid (Below wa.heap.size wa w1) := hb1
  have hs1 := hb1.size
  have O1 := Lib.hid hok
  have M1 : Hid (Mv bc w1 w1) := Mv.refl _ _
  clear hb1 hok HN
  have HC1 := Lib.hid (lKinds_any bc w1.heap.size 4 (by omega) w1 O1.out)
  go_wp2_with fail
  refine HC1.out.mono ?_
  rintro e w2 ⟨kv, K, rfl, hkl, hkk, hki, hm, ho⟩
  have M2 : Hid (Mv bc w1 w2) := M1.out.trans hm
  have O2 := Lib.hid ho
  have hs2 : w1.heap.size ≤ w2.heap.size := hm.size
  obtain ⟨ka, kc, rfl⟩ := hki.shape
  have HKK : Hid (okKs K = true ∧ K.length ≤ 4) := ⟨hkk, hkl⟩
  have HIK : Hid (IntsG w1.heap.size w2 (.slice ka K.length kc) K) := hki.weak (by omega)
  obtain ⟨kn, hkn⟩ : ∃ kn, K.length = kn := ⟨_, rfl⟩
  rw [hkn] at HIK ⊢
  clear hki hkl hkk hkn
  clear hm ho HC1 M1 O1
  have HC2 := Lib.hid (cPredicate_any bc w1.heap.size w1.heap.size K [] (.slice ka kn kc) (.slice none 0 0) 3 w2 O2.out (by omega) HKK.out.1 rfl (by have := HKK.out.2; omega) (by simp) HIK.out (IntsG.nil _ _) hlt)
  go_wp2_with fail
  refine HC2.out.mono ?_
  rintro e w3 ⟨⟨pop, pcmp, ⟨plk, pli, ⟨plvk, plvn, plvs⟩⟩, ⟨prk, pri, ⟨prvk, prvn, prvs⟩⟩, ps⟩, pa, pc, rfl, hps, hpvl, hpsm, hm, ho⟩
  have M3 : Hid (Mv bc w1 w3) := M2.out.trans hm
  have O3 := Lib.hid ho
  have hs3 : w2.heap.size ≤ w3.heap.size := hm.size
  replace HIK := Lib.hid (HIK.out.mv hm hlt)
  have HPS : Hid (PdS (fun b => w1.heap.size ≤ b) w3 ps pa pc) := hps.weak (fun b hb => by omega)
  have HPV2 : Hid (vldP K [] (PT.mk pop pcmp ⟨plk, pli, ⟨plvk, plvn, plvs⟩⟩ ⟨prk, pri, ⟨prvk, prvn, prvs⟩⟩ ps) = true ∧ smallP (PT.mk pop pcmp ⟨plk, pli, ⟨plvk, plvn, plvs⟩⟩ ⟨prk, pri, ⟨prvk, prvn, prvs⟩⟩ ps) = true) := ⟨hpvl, hpsm⟩
  simp only [pdV, PT.op, PT.cmp, PT.l, PT.r, PT.args]
  obtain ⟨pn, hpn⟩ : ∃ pn, ps.length = pn := ⟨_, rfl⟩
  have HPN := Lib.hid hpn
  rw [hpn]
  clear hps hpvl hpsm hpn
  clear hm ho HC2 M2 O2
  go_wp2_with fail
  obtain ⟨w4, hwb⟩ : ∃ w4, w3.alloc (.cells #[.int .i64 pop, .int .i64 pcmp, .int .i64 plk, .int .i64 pli, .int .i64 plvk, .int .i64 plvn, .string plvs, .int .i64 prk, .int .i64 pri, .int .i64 prvk, .int .i64 prvn, .string prvs, .slice pa pn pc] 29) = w4 := ⟨_, rfl⟩
  have hbb : Below w3.heap.size w3 w4 := by rw [← hwb]; exact (Below.refl _ _).alloc (Nat.le_refl _) _
  have hm : Mv bc w3 w4 := Mv.of_below hbb
  have O4 : Hid (CaseOk bc w1.heap.size w4) := by rw [← hwb]; exact O3.out.alloc _
  have hs4 : w4.heap.size = w3.heap.size + 1 := by rw [← hwb]; simp
  have M4 : Hid (Mv bc w1 w4) := M3.out.trans hm
  obtain ⟨bp, hbp⟩ : ∃ bp, w3.heap.size = bp := ⟨_, rfl⟩
  have a0 : w4.cell? ⟨w3.heap.size, 0, none⟩ = some (.int .i64 pop) := by subst hwb; go_simp
  have a1 : w4.cell? ⟨w3.heap.size, 1, none⟩ = some (.int .i64 pcmp) := by subst hwb; go_simp
  have a2 : w4.cell? ⟨w3.heap.size, 2, none⟩ = some (.int .i64 plk) := by subst hwb; go_simp
  have a3 : w4.cell? ⟨w3.heap.size, 3, none⟩ = some (.int .i64 pli) := by subst hwb; go_simp
  have a4 : w4.cell? ⟨w3.heap.size, 4, none⟩ = some (.int .i64 plvk) := by subst hwb; go_simp
  have a5 : w4.cell? ⟨w3.heap.size, 5, none⟩ = some (.int .i64 plvn) := by subst hwb; go_simp
  have a6 : w4.cell? ⟨w3.heap.size, 6, none⟩ = some (.string plvs) := by subst hwb; go_simp
  have a7 : w4.cell? ⟨w3.heap.size, 7, none⟩ = some (.int .i64 prk) := by subst hwb; go_simp
  have a8 : w4.cell? ⟨w3.heap.size, 8, none⟩ = some (.int .i64 pri) := by subst hwb; go_simp
  have a9 : w4.cell? ⟨w3.heap.size, 9, none⟩ = some (.int .i64 prvk) := by subst hwb; go_simp
  have a10 : w4.cell? ⟨w3.heap.size, 10, none⟩ = some (.int .i64 prvn) := by subst hwb; go_simp
  have a11 : w4.cell? ⟨w3.heap.size, 11, none⟩ = some (.string prvs) := by subst hwb; go_simp
  have a12 : w4.cell? ⟨w3.heap.size, 12, none⟩ = some (.slice pa pn pc) := by subst hwb; go_simp
  rw [hbp] at a0 a1 a2 a3 a4 a5 a6 a7 a8 a9 a10 a11 a12 hs4
  have hlp : w1.heap.size ≤ bp := by omega
  have HBp : Hid (bp < w4.heap.size ∧ ∀ W, Mv bc w4 W → W.cell? ⟨bp, 0, none⟩ = some (.int .i64 pop) ∧ W.cell? ⟨bp, 1, none⟩ = some (.int .i64 pcmp) ∧ W.cell? ⟨bp, 2, none⟩ = some (.int .i64 plk) ∧ W.cell? ⟨bp, 3, none⟩ = some (.int .i64 pli) ∧ W.cell? ⟨bp, 4, none⟩ = some (.int .i64 plvk) ∧ W.cell? ⟨bp, 5, none⟩ = some (.int .i64 plvn) ∧ W.cell? ⟨bp, 6, none⟩ = some (.string plvs) ∧ W.cell? ⟨bp, 7, none⟩ = some (.int .i64 prk) ∧ W.cell? ⟨bp, 8, none⟩ = some (.int .i64 pri) ∧ W.cell? ⟨bp, 9, none⟩ = some (.int .i64 prvk) ∧ W.cell? ⟨bp, 10, none⟩ = some (.int .i64 prvn) ∧ W.cell? ⟨bp, 11, none⟩ = some (.string prvs) ∧ W.cell? ⟨bp, 12, none⟩ = some (.slice pa pn pc)) := ⟨by omega, fun W hb => ⟨(hb.cell (p := ⟨bp, 0, none⟩) (show bp < _ by omega) (show bp ≠ bc by omega)).trans a0, (hb.cell (p := ⟨bp, 1, none⟩) (show bp < _ by omega) (show bp ≠ bc by omega)).trans a1, (hb.cell (p := ⟨bp, 2, none⟩) (show bp < _ by omega) (show bp ≠ bc by omega)).trans a2, (hb.cell (p := ⟨bp, 3, none⟩) (show bp < _ by omega) (show bp ≠ bc by omega)).trans a3, (hb.cell (p := ⟨bp, 4, none⟩) (show bp < _ by omega) (show bp ≠ bc by omega)).trans a4, (hb.cell (p := ⟨bp, 5, none⟩) (show bp < _ by omega) (show bp ≠ bc by omega)).trans a5, (hb.cell (p := ⟨bp, 6, none⟩) (show bp < _ by omega) (show bp ≠ bc by omega)).trans a6, (hb.cell (p := ⟨bp, 7, none⟩) (show bp < _ by omega) (show bp ≠ bc by omega)).trans a7, (hb.cell (p := ⟨bp, 8, none⟩) (show bp < _ by omega) (show bp ≠ bc by omega)).trans a8, (hb.cell (p := ⟨bp, 9, none⟩) (show bp < _ by omega) (show bp ≠ bc by omega)).trans a9, (hb.cell (p := ⟨bp, 10, none⟩) (show bp < _ by omega) (show bp ≠ bc by omega)).trans a10, (hb.cell (p := ⟨bp, 11, none⟩) (show bp < _ by omega) (show bp ≠ bc by omega)).trans a11, (hb.cell (p := ⟨bp, 12, none⟩) (show bp < _ by omega) (show bp ≠ bc by omega)).trans a12⟩⟩
  replace HIK := Lib.hid (HIK.out.mv hm hlt)
  replace HPS := Lib.hid ((show PdS (fun b => w1.heap.size ≤ b) _ ps pa pc from HPS.out.keep hm.size (fun b hb hl => hm.block b hl (by omega))))
  rw [hwb, hbp]
  clear hwb hbb hm hbp M3 O3 a0 a1 a2 a3 a4 a5 a6 a7 a8 a9 a10 a11 a12
  have HC4 := Lib.hid (cSpoil_any bc w1.heap.size w1.heap.size hlt _ (PT.mk pop pcmp ⟨plk, pli, ⟨plvk, plvn, plvs⟩⟩ ⟨prk, pri, ⟨prvk, prvn, prvs⟩⟩ ps) (Nat.le_refl _) (by have := HPV2.out.2; unfold smallP at this; simp only [decide_eq_true_eq] at this; omega) w4.heap.size pa pc w4 O4.out (Nat.le_refl _) (HPS.out.ltP))
  simp only [pdV, PT.op, PT.cmp, PT.l, PT.r, PT.args, HPN.out] at HC4
  refine HC4.out.mono ?_
  rintro e w5 ⟨⟨qop, qcmp, ⟨qlk, qli, ⟨qlvk, qlvn, qlvs⟩⟩, ⟨qrk, qri, ⟨qrvk, qrvn, qrvs⟩⟩, qs⟩, qa, qc, rfl, hps, hm, ho⟩
  have M5 : Hid (Mv bc w1 w5) := M4.out.trans hm
  have O5 := Lib.hid ho
  have hs5 : w4.heap.size ≤ w5.heap.size := hm.size
  replace HIK := Lib.hid (HIK.out.mv hm hlt)
  replace HPS := Lib.hid ((show PdS (fun b => w1.heap.size ≤ b) _ ps pa pc from HPS.out.keep hm.size (fun b hb hl => hm.block b hl (by omega))))
  replace HBp := Lib.hid ((show _ ∧ (∀ W, Mv bc _ W → W.cell? ⟨bp, 0, none⟩ = some (.int .i64 pop) ∧ W.cell? ⟨bp, 1, none⟩ = some (.int .i64 pcmp) ∧ W.cell? ⟨bp, 2, none⟩ = some (.int .i64 plk) ∧ W.cell? ⟨bp, 3, none⟩ = some (.int .i64 pli) ∧ W.cell? ⟨bp, 4, none⟩ = some (.int .i64 plvk) ∧ W.cell? ⟨bp, 5, none⟩ = some (.int .i64 plvn) ∧ W.cell? ⟨bp, 6, none⟩ = some (.string plvs) ∧ W.cell? ⟨bp, 7, none⟩ = some (.int .i64 prk) ∧ W.cell? ⟨bp, 8, none⟩ = some (.int .i64 pri) ∧ W.cell? ⟨bp, 9, none⟩ = some (.int .i64 prvk) ∧ W.cell? ⟨bp, 10, none⟩ = some (.int .i64 prvn) ∧ W.cell? ⟨bp, 11, none⟩ = some (.string prvs) ∧ W.cell? ⟨bp, 12, none⟩ = some (.slice pa pn pc)) from ⟨Nat.lt_of_lt_of_le HBp.out.1 hm.size, fun W hb => HBp.out.2 W (hm.trans hb)⟩))
  have HQS : Hid (PdS (fun b => w1.heap.size ≤ b) w5 qs qa qc) := hps.weak (fun b hb => by omega)
  simp only [pdV, PT.op, PT.cmp, PT.l, PT.r, PT.args]
  obtain ⟨qn, hqn⟩ : ∃ qn, qs.length = qn := ⟨_, rfl⟩
  have HQN := Lib.hid hqn
  rw [hqn]
  clear hps hqn
  clear hm ho HC4 M4 O4
  go_upto_region 5 with fail
  obtain ⟨w6, hwb⟩ : ∃ w6, w5.alloc (.cells #[.int .i64 qop, .int .i64 qcmp, .int .i64 qlk, .int .i64 qli, .int .i64 qlvk, .int .i64 qlvn, .string qlvs, .int .i64 qrk, .int .i64 qri, .int .i64 qrvk, .int .i64 qrvn, .string qrvs, .slice qa qn qc] 29) = w6 := ⟨_, rfl⟩
  have hbb : Below w5.heap.size w5 w6 := by rw [← hwb]; exact (Below.refl _ _).alloc (Nat.le_refl _) _
  have hm : Mv bc w5 w6 := Mv.of_below hbb
  have O6 : Hid (CaseOk bc w1.heap.size w6) := by rw [← hwb]; exact O5.out.alloc _
  have hs6 : w6.heap.size = w5.heap.size + 1 := by rw [← hwb]; simp
  have M6 : Hid (Mv bc w1 w6) := M5.out.trans hm
  obtain ⟨bq, hbq⟩ : ∃ bq, w5.heap.size = bq := ⟨_, rfl⟩
  have a0 : w6.cell? ⟨w5.heap.size, 0, none⟩ = some (.int .i64 qop) := by subst hwb; go_simp
  have a1 : w6.cell? ⟨w5.heap.size, 1, none⟩ = some (.int .i64 qcmp) := by subst hwb; go_simp
  have a2 : w6.cell? ⟨w5.heap.size, 2, none⟩ = some (.int .i64 qlk) := by subst hwb; go_simp
  have a3 : w6.cell? ⟨w5.heap.size, 3, none⟩ = some (.int .i64 qli) := by subst hwb; go_simp
  have a4 : w6.cell? ⟨w5.heap.size, 4, none⟩ = some (.int .i64 qlvk) := by subst hwb; go_simp
  have a5 : w6.cell? ⟨w5.heap.size, 5, none⟩ = some (.int .i64 qlvn) := by subst hwb; go_simp
  have a6 : w6.cell? ⟨w5.heap.size, 6, none⟩ = some (.string qlvs) := by subst hwb; go_simp
  have a7 : w6.cell? ⟨w5.heap.size, 7, none⟩ = some (.int .i64 qrk) := by subst hwb; go_simp
  have a8 : w6.cell? ⟨w5.heap.size, 8, none⟩ = some (.int .i64 qri) := by subst hwb; go_simp
  have a9 : w6.cell? ⟨w5.heap.size, 9, none⟩ = some (.int .i64 qrvk) := by subst hwb; go_simp
  have a10 : w6.cell? ⟨w5.heap.size, 10, none⟩ = some (.int .i64 qrvn) := by subst hwb; go_simp
  have a11 : w6.cell? ⟨w5.heap.size, 11, none⟩ = some (.string qrvs) := by subst hwb; go_simp
  have a12 : w6.cell? ⟨w5.heap.size, 12, none⟩ = some (.slice qa qn qc) := by subst hwb; go_simp
  rw [hbq] at a0 a1 a2 a3 a4 a5 a6 a7 a8 a9 a10 a11 a12 hs6
  have hlq : w1.heap.size ≤ bq := by omega
  have HBq : Hid (bq < w6.heap.size ∧ ∀ W, Mv bc w6 W → W.cell? ⟨bq, 0, none⟩ = some (.int .i64 qop) ∧ W.cell? ⟨bq, 1, none⟩ = some (.int .i64 qcmp) ∧ W.cell? ⟨bq, 2, none⟩ = some (.int .i64 qlk) ∧ W.cell? ⟨bq, 3, none⟩ = some (.int .i64 qli) ∧ W.cell? ⟨bq, 4, none⟩ = some (.int .i64 qlvk) ∧ W.cell? ⟨bq, 5, none⟩ = some (.int .i64 qlvn) ∧ W.cell? ⟨bq, 6, none⟩ = some (.string qlvs) ∧ W.cell? ⟨bq, 7, none⟩ = some (.int .i64 qrk) ∧ W.cell? ⟨bq, 8, none⟩ = some (.int .i64 qri) ∧ W.cell? ⟨bq, 9, none⟩ = some (.int .i64 qrvk) ∧ W.cell? ⟨bq, 10, none⟩ = some (.int .i64 qrvn) ∧ W.cell? ⟨bq, 11, none⟩ = some (.string qrvs) ∧ W.cell? ⟨bq, 12, none⟩ = some (.slice qa qn qc)) := ⟨by omega, fun W hb => ⟨(hb.cell (p := ⟨bq, 0, none⟩) (show bq < _ by omega) (show bq ≠ bc by omega)).trans a0, (hb.cell (p := ⟨bq, 1, none⟩) (show bq < _ by omega) (show bq ≠ bc by omega)).trans a1, (hb.cell (p := ⟨bq, 2, none⟩) (show bq < _ by omega) (show bq ≠ bc by omega)).trans a2, (hb.cell (p := ⟨bq, 3, none⟩) (show bq < _ by omega) (show bq ≠ bc by omega)).trans a3, (hb.cell (p := ⟨bq, 4, none⟩) (show bq < _ by omega) (show bq ≠ bc by omega)).trans a4, (hb.cell (p := ⟨bq, 5, none⟩) (show bq < _ by omega) (show bq ≠ bc by omega)).trans a5, (hb.cell (p := ⟨bq, 6, none⟩) (show bq < _ by omega) (show bq ≠ bc by omega)).trans a6, (hb.cell (p := ⟨bq, 7, none⟩) (show bq < _ by omega) (show bq ≠ bc by omega)).trans a7, (hb.cell (p := ⟨bq, 8, none⟩) (show bq < _ by omega) (show bq ≠ bc by omega)).trans a8, (hb.cell (p := ⟨bq, 9, none⟩) (show bq < _ by omega) (show bq ≠ bc by omega)).trans a9, (hb.cell (p := ⟨bq, 10, none⟩) (show bq < _ by omega) (show bq ≠ bc by omega)).trans a10, (hb.cell (p := ⟨bq, 11, none⟩) (show bq < _ by omega) (show bq ≠ bc by omega)).trans a11, (hb.cell (p := ⟨bq, 12, none⟩) (show bq < _ by omega) (show bq ≠ bc by omega)).trans a12⟩⟩
  replace HIK := Lib.hid (HIK.out.mv hm hlt)
  replace HPS := Lib.hid ((show PdS (fun b => w1.heap.size ≤ b) _ ps pa pc from HPS.out.keep hm.size (fun b hb hl => hm.block b hl (by omega))))
  replace HBp := Lib.hid ((show _ ∧ (∀ W, Mv bc _ W → W.cell? ⟨bp, 0, none⟩ = some (.int .i64 pop) ∧ W.cell? ⟨bp, 1, none⟩ = some (.int .i64 pcmp) ∧ W.cell? ⟨bp, 2, none⟩ = some (.int .i64 plk) ∧ W.cell? ⟨bp, 3, none⟩ = some (.int .i64 pli) ∧ W.cell? ⟨bp, 4, none⟩ = some (.int .i64 plvk) ∧ W.cell? ⟨bp, 5, none⟩ = some (.int .i64 plvn) ∧ W.cell? ⟨bp, 6, none⟩ = some (.string plvs) ∧ W.cell? ⟨bp, 7, none⟩ = some (.int .i64 prk) ∧ W.cell? ⟨bp, 8, none⟩ = some (.int .i64 pri) ∧ W.cell? ⟨bp, 9, none⟩ = some (.int .i64 prvk) ∧ W.cell? ⟨bp, 10, none⟩ = some (.int .i64 prvn) ∧ W.cell? ⟨bp, 11, none⟩ = some (.string prvs) ∧ W.cell? ⟨bp, 12, none⟩ = some (.slice pa pn pc)) from ⟨Nat.lt_of_lt_of_le HBp.out.1 hm.size, fun W hb => HBp.out.2 W (hm.trans hb)⟩))
  replace HQS := Lib.hid ((show PdS (fun b => w1.heap.size ≤ b) _ qs qa qc from HQS.out.keep hm.size (fun b hb hl => hm.block b hl (by omega))))
  rw [hwb, hbq]
  clear hwb hbb hm hbq M5 O5 a0 a1 a2 a3 a4 a5 a6 a7 a8 a9 a10 a11 a12
  have BAZ : Hid (Below wa.heap.size wa w6) := B1.out.trans (M6.out.below (B := wa.heap.size) (by omega) (by omega))
  have BWZ : Hid (Below w.heap.size w w6) := HWA.out.trans (BAZ.out.mono (by omega))
  have HK : Hid (∀ W, Below w6.heap.size w6 W → W.cell? ⟨w.heap.size, 0, none⟩ = some (.int .i64 rop) ∧ W.cell? ⟨w.heap.size, 1, none⟩ = some (.int .i64 rcmp) ∧ W.cell? ⟨w.heap.size, 2, none⟩ = some (.int .i64 rlk) ∧ W.cell? ⟨w.heap.size, 3, none⟩ = some (.int .i64 rli) ∧ W.cell? ⟨w.heap.size, 4, none⟩ = some (.int .i64 rlvk) ∧ W.cell? ⟨w.heap.size, 5, none⟩ = some (.int .i64 rlvn) ∧ W.cell? ⟨w.heap.size, 6, none⟩ = some (.string rlvs) ∧ W.cell? ⟨w.heap.size, 7, none⟩ = some (.int .i64 rrk) ∧ W.cell? ⟨w.heap.size, 8, none⟩ = some (.int .i64 rri) ∧ W.cell? ⟨w.heap.size, 9, none⟩ = some (.int .i64 rrvk) ∧ W.cell? ⟨w.heap.size, 10, none⟩ = some (.int .i64 rrvn) ∧ W.cell? ⟨w.heap.size, 11, none⟩ = some (.string rrvs) ∧ W.cell? ⟨w.heap.size, 12, none⟩ = some (.slice ra rn rc) ∧ W.cell? ⟨bp, 0, none⟩ = some (.int .i64 pop) ∧ W.cell? ⟨bp, 1, none⟩ = some (.int .i64 pcmp) ∧ W.cell? ⟨bp, 2, none⟩ = some (.int .i64 plk) ∧ W.cell? ⟨bp, 3, none⟩ = some (.int .i64 pli) ∧ W.cell? ⟨bp, 4, none⟩ = some (.int .i64 plvk) ∧ W.cell? ⟨bp, 5, none⟩ = some (.int .i64 plvn) ∧ W.cell? ⟨bp, 6, none⟩ = some (.string plvs) ∧ W.cell? ⟨bp, 7, none⟩ = some (.int .i64 prk) ∧ W.cell? ⟨bp, 8, none⟩ = some (.int .i64 pri) ∧ W.cell? ⟨bp, 9, none⟩ = some (.int .i64 prvk) ∧ W.cell? ⟨bp, 10, none⟩ = some (.int .i64 prvn) ∧ W.cell? ⟨bp, 11, none⟩ = some (.string prvs) ∧ W.cell? ⟨bp, 12, none⟩ = some (.slice pa pn pc) ∧ W.cell? ⟨bq, 0, none⟩ = some (.int .i64 qop) ∧ W.cell? ⟨bq, 1, none⟩ = some (.int .i64 qcmp) ∧ W.cell? ⟨bq, 2, none⟩ = some (.int .i64 qlk) ∧ W.cell? ⟨bq, 3, none⟩ = some (.int .i64 qli) ∧ W.cell? ⟨bq, 4, none⟩ = some (.int .i64 qlvk) ∧ W.cell? ⟨bq, 5, none⟩ = some (.int .i64 qlvn) ∧ W.cell? ⟨bq, 6, none⟩ = some (.string qlvs) ∧ W.cell? ⟨bq, 7, none⟩ = some (.int .i64 qrk) ∧ W.cell? ⟨bq, 8, none⟩ = some (.int .i64 qri) ∧ W.cell? ⟨bq, 9, none⟩ = some (.int .i64 qrvk) ∧ W.cell? ⟨bq, 10, none⟩ = some (.int .i64 qrvn) ∧ W.cell? ⟨bq, 11, none⟩ = some (.string qrvs) ∧ W.cell? ⟨bq, 12, none⟩ = some (.slice qa qn qc)) := fun W hb => by
    obtain ⟨x0, x1, x2, x3, x4, x5, x6, x7, x8, x9, x10, x11, x12⟩ := HKR.out W (below_go BAZ.out hb)
    obtain ⟨py0, py1, py2, py3, py4, py5, py6, py7, py8, py9, py10, py11, py12⟩ := HBp.out.2 W (Mv.of_below hb)
    obtain ⟨qy0, qy1, qy2, qy3, qy4, qy5, qy6, qy7, qy8, qy9, qy10, qy11, qy12⟩ := HBq.out.2 W (Mv.of_below hb)
    exact ⟨x0, x1, x2, x3, x4, x5, x6, x7, x8, x9, x10, x11, x12, py0, py1, py2, py3, py4, py5, py6, py7, py8, py9, py10, py11, py12, qy0, qy1, qy2, qy3, qy4, qy5, qy6, qy7, qy8, qy9, qy10, qy11, qy12⟩
  have HPr : Hid (∀ W, Below w6.heap.size w6 W → Pd W (.agg #[.int .i64 rop, .int .i64 rcmp, .int .i64 rlk, .int .i64 rli, .int .i64 rlvk, .int .i64 rlvn, .string rlvs, .int .i64 rrk, .int .i64 rri, .int .i64 rrvk, .int .i64 rrvn, .string rrvs, .slice ra rn rc]) (PT.mk rop rcmp ⟨rlk, rli, ⟨rlvk, rlvn, rlvs⟩⟩ ⟨rrk, rri, ⟨rrvk, rrvn, rrvs⟩⟩ rs)) := fun W hb => HR0.out.below (below_go BWZ.out hb)
  have HPp : Hid (∀ W, Below w6.heap.size w6 W → Pd W (.agg #[.int .i64 pop, .int .i64 pcmp, .int .i64 plk, .int .i64 pli, .int .i64 plvk, .int .i64 plvn, .string plvs, .int .i64 prk, .int .i64 pri, .int .i64 prvk, .int .i64 prvn, .string prvs, .slice pa pn pc]) (PT.mk pop pcmp ⟨plk, pli, ⟨plvk, plvn, plvs⟩⟩ ⟨prk, pri, ⟨prvk, prvn, prvs⟩⟩ ps)) := fun W hb => ⟨pa, pc, by simp only [pdV, PT.op, PT.cmp, PT.l, PT.r, PT.args, HPN.out], (HPS.out.weak (fun _ _ => trivial)).below hb⟩
  have HPq : Hid (∀ W, Below w6.heap.size w6 W → Pd W (.agg #[.int .i64 qop, .int .i64 qcmp, .int .i64 qlk, .int .i64 qli, .int .i64 qlvk, .int .i64 qlvn, .string qlvs, .int .i64 qrk, .int .i64 qri, .int .i64 qrvk, .int .i64 qrvn, .string qrvs, .slice qa qn qc]) (PT.mk qop qcmp ⟨qlk, qli, ⟨qlvk, qlvn, qlvs⟩⟩ ⟨qrk, qri, ⟨qrvk, qrvn, qrvs⟩⟩ qs)) := fun W hb => ⟨qa, qc, by simp only [pdV, PT.op, PT.cmp, PT.l, PT.r, PT.args, HQN.out], (HQS.out.weak (fun _ _ => trivial)).below hb⟩
  have HWP : Hid (widP (PT.mk pop pcmp ⟨plk, pli, ⟨plvk, plvn, plvs⟩⟩ ⟨prk, pri, ⟨prvk, prvn, prvs⟩⟩ ps)) := wid_of_nodes _ (by have := HPV2.out.2; unfold smallP at this; simp only [decide_eq_true_eq] at this; omega)
  have HRB : Hid (∀ W, Below w6.heap.size w6 W → Calls Try.prog 21 #[.agg #[.int .i64 pop, .int .i64 pcmp, .int .i64 plk, .int .i64 pli, .int .i64 plvk, .int .i64 plvn, .string plvs, .int .i64 prk, .int .i64 pri, .int .i64 prvk, .int .i64 prvn, .string prvs, .slice pa pn pc], .slice none 0 0] W fun e w' => ∃ za zc, e = .returned (.agg #[.int .i64 pop, .int .i64 pcmp, .int .i64 plk, .int .i64 pli, .int .i64 plvk, .int .i64 plvn, .string plvs, .int .i64 prk, .int .i64 pri, .int .i64 prvk, .int .i64 prvn, .string prvs, .slice za pn zc]) ∧ Hid (PdS (fun _ => True) w' ps za zc) ∧ Below W.heap.size W w') := fun W hb => by
    refine (rBindP_any [] _ (PT.mk pop pcmp ⟨plk, pli, ⟨plvk, plvn, plvs⟩⟩ ⟨prk, pri, ⟨prvk, prvn, prvs⟩⟩ ps) (Nat.le_refl _) (.agg #[.int .i64 pop, .int .i64 pcmp, .int .i64 plk, .int .i64 pli, .int .i64 plvk, .int .i64 plvn, .string plvs, .int .i64 prk, .int .i64 pri, .int .i64 prvk, .int .i64 prvn, .string prvs, .slice pa pn pc]) (.slice none 0 0) W (HPp.out W hb) (rowAt_nil _) HWP.out).mono ?_
    rintro e w' ⟨za, zc, rfl, h1, h2⟩
    rw [bndP_nil] at h1 ⊢
    exact ⟨za, zc, by simp only [pdV, PT.op, PT.cmp, PT.l, PT.r, PT.args, HPN.out], h1.weak (fun _ _ => trivial), h2⟩
  obtain ⟨x, hx⟩ : ∃ x, eqT (PT.mk pop pcmp ⟨plk, pli, ⟨plvk, plvn, plvs⟩⟩ ⟨prk, pri, ⟨prvk, prvn, prvs⟩⟩ ps) (PT.mk qop qcmp ⟨qlk, qli, ⟨qlvk, qlvn, qlvs⟩⟩ ⟨qrk, qri, ⟨qrvk, qrvn, qrvs⟩⟩ qs) = x := ⟨_, rfl⟩
  obtain ⟨y, hy⟩ : ∃ y, eqT (PT.mk rop rcmp ⟨rlk, rli, ⟨rlvk, rlvn, rlvs⟩⟩ ⟨rrk, rri, ⟨rrvk, rrvn, rrvs⟩⟩ rs) (PT.mk pop pcmp ⟨plk, pli, ⟨plvk, plvn, plvs⟩⟩ ⟨prk, pri, ⟨prvk, prvn, prvs⟩⟩ ps) = y := ⟨_, rfl⟩
  have HE1 : Hid (∀ W, Below w6.heap.size w6 W → Calls Try.prog 25 #[.agg #[.int .i64 pop, .int .i64 pcmp, .int .i64 plk, .int .i64 pli, .int .i64 plvk, .int .i64 plvn, .string plvs, .int .i64 prk, .int .i64 pri, .int .i64 prvk, .int .i64 prvn, .string prvs, .slice pa pn pc], .agg #[.int .i64 qop, .int .i64 qcmp, .int .i64 qlk, .int .i64 qli, .int .i64 qlvk, .int .i64 qlvn, .string qlvs, .int .i64 qrk, .int .i64 qri, .int .i64 qrvk, .int .i64 qrvn, .string qrvs, .slice qa qn qc]] W fun e w' => e = .returned (.bool x) ∧ Below W.heap.size W w') := fun W hb => pEqual_two (PT.mk pop pcmp ⟨plk, pli, ⟨plvk, plvn, plvs⟩⟩ ⟨prk, pri, ⟨prvk, prvn, prvs⟩⟩ ps) (PT.mk qop qcmp ⟨qlk, qli, ⟨qlvk, qlvn, qlvs⟩⟩ ⟨qrk, qri, ⟨qrvk, qrvn, qrvs⟩⟩ qs) _ _ W (HPp.out W hb) (HPq.out W hb) x hx
  have HE2 : Hid (∀ W, Below w6.heap.size w6 W → Calls Try.prog 20 #[.agg #[.int .i64 pop, .int .i64 pcmp, .int .i64 plk, .int .i64 pli, .int .i64 plvk, .int .i64 plvn, .string plvs, .int .i64 prk, .int .i64 pri, .int .i64 prvk, .int .i64 prvn, .string prvs, .slice pa pn pc], .agg #[.int .i64 qop, .int .i64 qcmp, .int .i64 qlk, .int .i64 qli, .int .i64 qlvk, .int .i64 qlvn, .string qlvs, .int .i64 qrk, .int .i64 qri, .int .i64 qrvk, .int .i64 qrvn, .string qrvs, .slice qa qn qc]] W fun e w' => e = .returned (.bool x) ∧ Below W.heap.size W w') := fun W hb => rEqual_two (PT.mk pop pcmp ⟨plk, pli, ⟨plvk, plvn, plvs⟩⟩ ⟨prk, pri, ⟨prvk, prvn, prvs⟩⟩ ps) (PT.mk qop qcmp ⟨qlk, qli, ⟨qlvk, qlvn, qlvs⟩⟩ ⟨qrk, qri, ⟨qrvk, qrvn, qrvs⟩⟩ qs) _ _ W (HPp.out W hb) (HPq.out W hb) x hx
  have HE3 : Hid (∀ W, Below w6.heap.size w6 W → Calls Try.prog 25 #[.agg #[.int .i64 rop, .int .i64 rcmp, .int .i64 rlk, .int .i64 rli, .int .i64 rlvk, .int .i64 rlvn, .string rlvs, .int .i64 rrk, .int .i64 rri, .int .i64 rrvk, .int .i64 rrvn, .string rrvs, .slice ra rn rc], .agg #[.int .i64 pop, .int .i64 pcmp, .int .i64 plk, .int .i64 pli, .int .i64 plvk, .int .i64 plvn, .string plvs, .int .i64 prk, .int .i64 pri, .int .i64 prvk, .int .i64 prvn, .string prvs, .slice pa pn pc]] W fun e w' => e = .returned (.bool y) ∧ Below W.heap.size W w') := fun W hb => pEqual_two (PT.mk rop rcmp ⟨rlk, rli, ⟨rlvk, rlvn, rlvs⟩⟩ ⟨rrk, rri, ⟨rrvk, rrvn, rrvs⟩⟩ rs) (PT.mk pop pcmp ⟨plk, pli, ⟨plvk, plvn, plvs⟩⟩ ⟨prk, pri, ⟨prvk, prvn, prvs⟩⟩ ps) _ _ W (HPr.out W hb) (HPp.out W hb) y hy
  have HE4 : Hid (∀ W, Below w6.heap.size w6 W → Calls Try.prog 20 #[.agg #[.int .i64 rop, .int .i64 rcmp, .int .i64 rlk, .int .i64 rli, .int .i64 rlvk, .int .i64 rlvn, .string rlvs, .int .i64 rrk, .int .i64 rri, .int .i64 rrvk, .int .i64 rrvn, .string rrvs, .slice ra rn rc], .agg #[.int .i64 pop, .int .i64 pcmp, .int .i64 plk, .int .i64 pli, .int .i64 plvk, .int .i64 plvn, .string plvs, .int .i64 prk, .int .i64 pri, .int .i64 prvk, .int .i64 prvn, .string prvs, .slice pa pn pc]] W fun e w' => e = .returned (.bool y) ∧ Below W.heap.size W w') := fun W hb => rEqual_two (PT.mk rop rcmp ⟨rlk, rli, ⟨rlvk, rlvn, rlvs⟩⟩ ⟨rrk, rri, ⟨rrvk, rrvn, rrvs⟩⟩ rs) (PT.mk pop pcmp ⟨plk, pli, ⟨plvk, plvn, plvs⟩⟩ ⟨prk, pri, ⟨prvk, prvn, prvs⟩⟩ ps) _ _ W (HPr.out W hb) (HPp.out W hb) y hy
  have HE5 : Hid (∀ W, Below w6.heap.size w6 W → Calls Try.prog 25 #[.agg #[.int .i64 rop, .int .i64 rcmp, .int .i64 rlk, .int .i64 rli, .int .i64 rlvk, .int .i64 rlvn, .string rlvs, .int .i64 rrk, .int .i64 rri, .int .i64 rrvk, .int .i64 rrvn, .string rrvs, .slice ra rn rc], .agg #[.int .i64 rop, .int .i64 rcmp, .int .i64 rlk, .int .i64 rli, .int .i64 rlvk, .int .i64 rlvn, .string rlvs, .int .i64 rrk, .int .i64 rri, .int .i64 rrvk, .int .i64 rrvn, .string rrvs, .slice ra rn rc]] W fun e w' => e = .returned (.bool true) ∧ Below W.heap.size W w') := fun W hb => pEqual_two (PT.mk rop rcmp ⟨rlk, rli, ⟨rlvk, rlvn, rlvs⟩⟩ ⟨rrk, rri, ⟨rrvk, rrvn, rrvs⟩⟩ rs) (PT.mk rop rcmp ⟨rlk, rli, ⟨rlvk, rlvn, rlvs⟩⟩ ⟨rrk, rri, ⟨rrvk, rrvn, rrvs⟩⟩ rs) _ _ W (HPr.out W hb) (HPr.out W hb) true (eqT_refl _)
  clear HKR HBp HBq HPr HPq HPS HQS HPV2 HKK HIK HR0 M6 O6 BAZ B1 HWA hx hy
  refine wp_region_held_drew (S := fun W => W.cell? ⟨w.heap.size, 0, none⟩ = some (.int .i64 rop) ∧ W.cell? ⟨w.heap.size, 1, none⟩ = some (.int .i64 rcmp) ∧ W.cell? ⟨w.heap.size, 2, none⟩ = some (.int .i64 rlk) ∧ W.cell? ⟨w.heap.size, 3, none⟩ = some (.int .i64 rli) ∧ W.cell? ⟨w.heap.size, 4, none⟩ = some (.int .i64 rlvk) ∧ W.cell? ⟨w.heap.size, 5, none⟩ = some (.int .i64 rlvn) ∧ W.cell? ⟨w.heap.size, 6, none⟩ = some (.string rlvs) ∧ W.cell? ⟨w.heap.size, 7, none⟩ = some (.int .i64 rrk) ∧ W.cell? ⟨w.heap.size, 8, none⟩ = some (.int .i64 rri) ∧ W.cell? ⟨w.heap.size, 9, none⟩ = some (.int .i64 rrvk) ∧ W.cell? ⟨w.heap.size, 10, none⟩ = some (.int .i64 rrvn) ∧ W.cell? ⟨w.heap.size, 11, none⟩ = some (.string rrvs) ∧ W.cell? ⟨w.heap.size, 12, none⟩ = some (.slice ra rn rc) ∧ W.cell? ⟨bp, 0, none⟩ = some (.int .i64 pop) ∧ W.cell? ⟨bp, 1, none⟩ = some (.int .i64 pcmp) ∧ W.cell? ⟨bp, 2, none⟩ = some (.int .i64 plk) ∧ W.cell? ⟨bp, 3, none⟩ = some (.int .i64 pli) ∧ W.cell? ⟨bp, 4, none⟩ = some (.int .i64 plvk) ∧ W.cell? ⟨bp, 5, none⟩ = some (.int .i64 plvn) ∧ W.cell? ⟨bp, 6, none⟩ = some (.string plvs) ∧ W.cell? ⟨bp, 7, none⟩ = some (.int .i64 prk) ∧ W.cell? ⟨bp, 8, none⟩ = some (.int .i64 pri) ∧ W.cell? ⟨bp, 9, none⟩ = some (.int .i64 prvk) ∧ W.cell? ⟨bp, 10, none⟩ = some (.int .i64 prvn) ∧ W.cell? ⟨bp, 11, none⟩ = some (.string prvs) ∧ W.cell? ⟨bp, 12, none⟩ = some (.slice pa pn pc) ∧ W.cell? ⟨bq, 0, none⟩ = some (.int .i64 qop) ∧ W.cell? ⟨bq, 1, none⟩ = some (.int .i64 qcmp) ∧ W.cell? ⟨bq, 2, none⟩ = some (.int .i64 qlk) ∧ W.cell? ⟨bq, 3, none⟩ = some (.int .i64 qli) ∧ W.cell? ⟨bq, 4, none⟩ = some (.int .i64 qlvk) ∧ W.cell? ⟨bq, 5, none⟩ = some (.int .i64 qlvn) ∧ W.cell? ⟨bq, 6, none⟩ = some (.string qlvs) ∧ W.cell? ⟨bq, 7, none⟩ = some (.int .i64 qrk) ∧ W.cell? ⟨bq, 8, none⟩ = some (.int .i64 qri) ∧ W.cell? ⟨bq, 9, none⟩ = some (.int .i64 qrvk) ∧ W.cell? ⟨bq, 10, none⟩ = some (.int .i64 qrvn) ∧ W.cell? ⟨bq, 11, none⟩ = some (.string qrvs) ∧ W.cell? ⟨bq, 12, none⟩ = some (.slice qa qn qc)) (by kernel_rfl) (HK.out _ (Below.refl _ _).drew) (fun hHeld => ?_)
  obtain ⟨wd, hwd⟩ : ∃ wd, w6.drew = wd := ⟨_, rfl⟩
  have BW : Hid (Below w6.heap.size w6 wd) := by rw [← hwd]; exact (Below.refl _ _).drew
  rw [hwd] at hHeld ⊢
  clear hwd
  refine wpAnyH_ready (rs := [0]) (by kernel_rfl) (by simp) ?_
  refine AllReadyH.cons rfl (fun K hK => ?_) AllReadyH.nil
  go_simp
  go_at_call 12
  refine (HB.out _).mono ?_
  rintro e w_0 ⟨rfl, hg⟩
  clear hHeld
  replace BW := Lib.hid (below_go BW.out hg)
  clear hg
  refine hK.out _ _ (HK.out _ BW.out) (fun hHeld => ?_)
  clear hK K
  (try simp only [List.set_cons_zero, List.set_cons_succ])
  refine wpAnyH_takeD (i := 1) (d := 20) (v := ?_) rfl rfl (by kernel_rfl) (by kernel_rfl) (by kernel_rfl) (fun _ _ _ h => h) (Or.inl ⟨by rfl, ?_⟩) (by assumption) ?_; rotate_left
  · intro W hSw; (try dsimp only at hSw); go_simp; (try with_reducible rfl)
  (try simp only [List.set_cons_zero, List.set_cons_succ])
  refine wpAnyH_takeD (i := 2) (d := 21) (v := ?_) rfl rfl (by kernel_rfl) (by kernel_rfl) (by kernel_rfl) (fun _ _ _ h => h) (Or.inl ⟨by rfl, ?_⟩) (by assumption) ?_; rotate_left
  · intro W hSw; (try dsimp only at hSw); go_simp; (try with_reducible rfl)
  (try simp only [List.set_cons_zero, List.set_cons_succ])
  refine wpAnyH_takeD (i := 3) (d := 22) (v := ?_) rfl rfl (by kernel_rfl) (by kernel_rfl) (by kernel_rfl) (fun _ _ _ h => h) (Or.inl ⟨by rfl, ?_⟩) (by assumption) ?_; rotate_left
  · intro W hSw; (try dsimp only at hSw); go_simp; (try with_reducible rfl)
  (try simp only [List.set_cons_zero, List.set_cons_succ])
  refine wpAnyH_ready (rs := [4]) (by kernel_rfl) (by simp) ?_
  refine AllReadyH.cons rfl (fun K hK => ?_) AllReadyH.nil
  go_simp
  go_at_call 21
  refine (HRB.out _ BW.out).mono ?_
  rintro e wz1 ⟨za, zc, rfl, hz, hg⟩
  clear hHeld
  replace BW := Lib.hid (below_go BW.out hg)
  have HZ1 : Hid (PdS (fun _ => True) wz1 ps za zc) := hz
  have HPZ : Hid (Pd wz1 (.agg #[.int .i64 pop, .int .i64 pcmp, .int .i64 plk, .int .i64 pli, .int .i64 plvk, .int .i64 plvn, .string plvs, .int .i64 prk, .int .i64 pri, .int .i64 prvk, .int .i64 prvn, .string prvs, .slice pa pn pc]) (PT.mk pop pcmp ⟨plk, pli, ⟨plvk, plvn, plvs⟩⟩ ⟨prk, pri, ⟨prvk, prvn, prvs⟩⟩ ps)) := HPp.out _ BW.out
  clear hz
  clear hg
  refine hK.out _ _ (HK.out _ BW.out) (fun hHeld => ?_)
  clear hK K
  (try simp only [List.set_cons_zero, List.set_cons_succ])
  refine wpAnyH_ready (rs := [5]) (by kernel_rfl) (by simp) ?_
  refine AllReadyH.cons rfl (fun K hK => ?_) AllReadyH.nil
  go_simp
  go_at_call 25
  refine (pEqual_two (PT.mk pop pcmp ⟨plk, pli, ⟨plvk, plvn, plvs⟩⟩ ⟨prk, pri, ⟨prvk, prvn, prvs⟩⟩ ps) (PT.mk pop pcmp ⟨plk, pli, ⟨plvk, plvn, plvs⟩⟩ ⟨prk, pri, ⟨prvk, prvn, prvs⟩⟩ ps) (.agg #[.int .i64 pop, .int .i64 pcmp, .int .i64 plk, .int .i64 pli, .int .i64 plvk, .int .i64 plvn, .string plvs, .int .i64 prk, .int .i64 pri, .int .i64 prvk, .int .i64 prvn, .string prvs, .slice pa pn pc]) (.agg #[.int .i64 pop, .int .i64 pcmp, .int .i64 plk, .int .i64 pli, .int .i64 plvk, .int .i64 plvn, .string plvs, .int .i64 prk, .int .i64 pri, .int .i64 prvk, .int .i64 prvn, .string prvs, .slice za pn zc]) wz1 HPZ.out ⟨za, zc, by simp only [pdV, PT.op, PT.cmp, PT.l, PT.r, PT.args, HPN.out], HZ1.out⟩ true (eqT_refl _)).mono ?_
  rintro e w_5 ⟨rfl, hg⟩
  clear hHeld
  replace BW := Lib.hid (below_go BW.out hg)
  clear hg
  refine hK.out _ _ (HK.out _ BW.out) (fun hHeld => ?_)
  clear hK K
  (try simp only [List.set_cons_zero, List.set_cons_succ])
  refine wpAnyH_takeD (i := 6) (d := 25) (v := ?_) rfl rfl (by kernel_rfl) (by kernel_rfl) (by kernel_rfl) (fun _ _ _ h => h) (Or.inl ⟨by rfl, ?_⟩) (by assumption) ?_; rotate_left
  · intro W hSw; (try dsimp only at hSw); go_simp; (try with_reducible rfl)
  (try simp only [List.set_cons_zero, List.set_cons_succ])
  refine wpAnyH_takeD (i := 7) (d := 26) (v := ?_) rfl rfl (by kernel_rfl) (by kernel_rfl) (by kernel_rfl) (fun _ _ _ h => h) (Or.inl ⟨by rfl, ?_⟩) (by assumption) ?_; rotate_left
  · intro W hSw; (try dsimp only at hSw); go_simp; (try with_reducible rfl)
  (try simp only [List.set_cons_zero, List.set_cons_succ])
  refine wpAnyH_takeD (i := 8) (d := 27) (v := ?_) rfl rfl (by kernel_rfl) (by kernel_rfl) (by kernel_rfl) (fun _ _ _ h => h) (Or.inl ⟨by rfl, ?_⟩) (by assumption) ?_; rotate_left
  · intro W hSw; (try dsimp only at hSw); go_simp; (try with_reducible rfl)
  (try simp only [List.set_cons_zero, List.set_cons_succ])
  refine wpAnyH_takeD (i := 9) (d := 28) (v := ?_) rfl rfl (by kernel_rfl) (by kernel_rfl) (by kernel_rfl) (fun _ _ _ h => h) (Or.inl ⟨by rfl, ?_⟩) (by assumption) ?_; rotate_left
  · intro W hSw; (try dsimp only at hSw); go_simp; (try with_reducible rfl)
  (try simp only [List.set_cons_zero, List.set_cons_succ])
  refine wpAnyH_takeD (i := 11) (d := 30) (v := ?_) rfl rfl (by kernel_rfl) (by kernel_rfl) (by kernel_rfl) (fun _ _ _ h => h) (Or.inl ⟨by rfl, ?_⟩) (by assumption) ?_; rotate_left
  · intro W hSw; (try dsimp only at hSw); go_simp; (try with_reducible rfl)
  (try simp only [List.set_cons_zero, List.set_cons_succ])
  refine wpAnyH_takeD (i := 12) (d := 31) (v := ?_) rfl rfl (by kernel_rfl) (by kernel_rfl) (by kernel_rfl) (fun _ _ _ h => h) (Or.inl ⟨by rfl, ?_⟩) (by assumption) ?_; rotate_left
  · intro W hSw; (try dsimp only at hSw); go_simp; (try with_reducible rfl)
  (try simp only [List.set_cons_zero, List.set_cons_succ])
  refine wpAnyH_ready (rs := [10]) (by kernel_rfl) (by simp) ?_
  refine AllReadyH.cons rfl (fun K hK => ?_) AllReadyH.nil
  go_simp
  go_at_call 25
  refine (HE1.out _ BW.out).mono ?_
  rintro e w_10 ⟨rfl, hg⟩
  clear hHeld
  replace BW := Lib.hid (below_go BW.out hg)
  clear hg
  refine hK.out _ _ (HK.out _ BW.out) (fun hHeld => ?_)
  clear hK K
  (try simp only [List.set_cons_zero, List.set_cons_succ])
  refine wpAnyH_ready (rs := [13]) (by kernel_rfl) (by simp) ?_
  refine AllReadyH.cons rfl (fun K hK => ?_) AllReadyH.nil
  go_simp
  go_at_call 20
  refine (HE2.out _ BW.out).mono ?_
  rintro e w_13 ⟨rfl, hg⟩
  clear hHeld
  replace BW := Lib.hid (below_go BW.out hg)
  clear hg
  refine hK.out _ _ (HK.out _ BW.out) (fun hHeld => ?_)
  clear hK K
  (try simp only [List.set_cons_zero, List.set_cons_succ])
  refine wpAnyH_takeD (i := 14) (d := 33) (v := ?_) rfl rfl (by kernel_rfl) (by kernel_rfl) (by kernel_rfl) (fun _ _ _ h => h) (Or.inl ⟨by rfl, ?_⟩) (by assumption) ?_; rotate_left
  · intro W hSw; (try dsimp only at hSw); go_simp; (try with_reducible rfl)
  (try simp only [List.set_cons_zero, List.set_cons_succ])
  refine wpAnyH_takeD (i := 15) (d := 34) (v := ?_) rfl rfl (by kernel_rfl) (by kernel_rfl) (by kernel_rfl) (fun _ _ _ h => h) (Or.inl ⟨by rfl, ?_⟩) (by assumption) ?_; rotate_left
  · intro W hSw; (try dsimp only at hSw); go_simp; (try with_reducible rfl)
  (try simp only [List.set_cons_zero, List.set_cons_succ])
  refine wpAnyH_takeD (i := 16) (d := 35) (v := ?_) rfl rfl (by kernel_rfl) (by kernel_rfl) (by kernel_rfl) (fun _ _ _ h => h) (Or.inl ⟨by rfl, ?_⟩) (by assumption) ?_; rotate_left
  · intro W hSw; (try dsimp only at hSw); go_simp; (try with_reducible rfl)
  (try simp only [List.set_cons_zero, List.set_cons_succ])
  refine wpAnyH_takeD (i := 17) (d := 36) (v := ?_) rfl rfl (by kernel_rfl) (by kernel_rfl) (by kernel_rfl) (fun _ _ _ h => h) (Or.inl ⟨by rfl, ?_⟩) (by assumption) ?_; rotate_left
  · intro W hSw; (try dsimp only at hSw); go_simp; (try with_reducible rfl)
  (try simp only [List.set_cons_zero, List.set_cons_succ])
  refine wpAnyH_takeD (i := 18) (d := 37) (v := ?_) rfl rfl (by kernel_rfl) (by kernel_rfl) (by kernel_rfl) (fun _ _ _ h => h) (Or.inl ⟨by rfl, ?_⟩) (by assumption) ?_; rotate_left
  · intro W hSw; (try dsimp only at hSw); go_simp; (try with_reducible rfl)
  (try simp only [List.set_cons_zero, List.set_cons_succ])
  refine wpAnyH_takeD (i := 20) (d := 39) (v := ?_) rfl rfl (by kernel_rfl) (by kernel_rfl) (by kernel_rfl) (fun _ _ _ h => h) (Or.inl ⟨by rfl, ?_⟩) (by assumption) ?_; rotate_left
  · intro W hSw; (try dsimp only at hSw); go_simp; (try with_reducible rfl)
  (try simp only [List.set_cons_zero, List.set_cons_succ])
  refine wpAnyH_takeD (i := 21) (d := 40) (v := ?_) rfl rfl (by kernel_rfl) (by kernel_rfl) (by kernel_rfl) (fun _ _ _ h => h) (Or.inl ⟨by rfl, ?_⟩) (by assumption) ?_; rotate_left
  · intro W hSw; (try dsimp only at hSw); go_simp; (try with_reducible rfl)
  (try simp only [List.set_cons_zero, List.set_cons_succ])
  refine wpAnyH_ready (rs := [19]) (by kernel_rfl) (by simp) ?_
  refine AllReadyH.cons rfl (fun K hK => ?_) AllReadyH.nil
  go_simp
  go_at_call 25
  refine (HE3.out _ BW.out).mono ?_
  rintro e w_19 ⟨rfl, hg⟩
  clear hHeld
  replace BW := Lib.hid (below_go BW.out hg)
  clear hg
  refine hK.out _ _ (HK.out _ BW.out) (fun hHeld => ?_)
  clear hK K
  (try simp only [List.set_cons_zero, List.set_cons_succ])
  refine wpAnyH_ready (rs := [22]) (by kernel_rfl) (by simp) ?_
  refine AllReadyH.cons rfl (fun K hK => ?_) AllReadyH.nil
  go_simp
  go_at_call 20
  refine (HE4.out _ BW.out).mono ?_
  rintro e w_22 ⟨rfl, hg⟩
  clear hHeld
  replace BW := Lib.hid (below_go BW.out hg)
  clear hg
  refine hK.out _ _ (HK.out _ BW.out) (fun hHeld => ?_)
  clear hK K
  (try simp only [List.set_cons_zero, List.set_cons_succ])
  refine wpAnyH_takeD (i := 23) (d := 42) (v := ?_) rfl rfl (by kernel_rfl) (by kernel_rfl) (by kernel_rfl) (fun _ _ _ h => h) (Or.inl ⟨by rfl, ?_⟩) (by assumption) ?_; rotate_left
  · intro W hSw; (try dsimp only at hSw); go_simp; (try with_reducible rfl)
  (try simp only [List.set_cons_zero, List.set_cons_succ])
  refine wpAnyH_takeD (i := 24) (d := 43) (v := ?_) rfl rfl (by kernel_rfl) (by kernel_rfl) (by kernel_rfl) (fun _ _ _ h => h) (Or.inl ⟨by rfl, ?_⟩) (by assumption) ?_; rotate_left
  · intro W hSw; (try dsimp only at hSw); go_simp; (try with_reducible rfl)
  (try simp only [List.set_cons_zero, List.set_cons_succ])
  refine wpAnyH_takeD (i := 25) (d := 44) (v := ?_) rfl rfl (by kernel_rfl) (by kernel_rfl) (by kernel_rfl) (fun _ _ _ h => h) (Or.inl ⟨by rfl, ?_⟩) (by assumption) ?_; rotate_left
  · intro W hSw; (try dsimp only at hSw); go_simp; (try with_reducible rfl)
  (try simp only [List.set_cons_zero, List.set_cons_succ])
  refine wpAnyH_takeD (i := 26) (d := 45) (v := ?_) rfl rfl (by kernel_rfl) (by kernel_rfl) (by kernel_rfl) (fun _ _ _ h => h) (Or.inl ⟨by rfl, ?_⟩) (by assumption) ?_; rotate_left
  · intro W hSw; (try dsimp only at hSw); go_simp; (try with_reducible rfl)
  (try simp only [List.set_cons_zero, List.set_cons_succ])
  refine wpAnyH_takeD (i := 27) (d := 46) (v := ?_) rfl rfl (by kernel_rfl) (by kernel_rfl) (by kernel_rfl) (fun _ _ _ h => h) (Or.inl ⟨by rfl, ?_⟩) (by assumption) ?_; rotate_left
  · intro W hSw; (try dsimp only at hSw); go_simp; (try with_reducible rfl)
  (try simp only [List.set_cons_zero, List.set_cons_succ])
  refine wpAnyH_ready (rs := [28]) (by kernel_rfl) (by simp) ?_
  refine AllReadyH.cons rfl (fun K hK => ?_) AllReadyH.nil
  go_simp
  go_at_call 25
  refine (HE5.out _ BW.out).mono ?_
  rintro e w_28 ⟨rfl, hg⟩
  clear hHeld
  replace BW := Lib.hid (below_go BW.out hg)
  clear hg
  refine hK.out _ _ (HK.out _ BW.out) (fun hHeld => ?_)
  clear hK K
  (try simp only [List.set_cons_zero, List.set_cons_succ])
  refine wpAnyH_takeD (i := 29) (d := 48) (v := ?_) rfl rfl (by kernel_rfl) (by kernel_rfl) (by kernel_rfl) (fun _ _ _ h => h) (Or.inl ⟨by rfl, ?_⟩) (by assumption) ?_; rotate_left
  · intro W hSw; (try dsimp only at hSw); go_simp; (try with_reducible rfl)
  (try simp only [List.set_cons_zero, List.set_cons_succ])
  refine wpAnyH_takeD (i := 30) (d := 4) (v := ?_) rfl rfl (by kernel_rfl) (by kernel_rfl) (by kernel_rfl) (fun _ _ _ h => h) (Or.inl ⟨by rfl, ?_⟩) (by assumption) ?_; rotate_left
  · intro W hSw; (try dsimp only at hSw); go_simp; (try with_reducible rfl)
  (try simp only [List.set_cons_zero, List.set_cons_succ])
  clear hHeld
  refine wpAnyH_done (by kernel_rfl) ?_ _
  go_wp2_with fail
  go_ret
  exact ⟨rfl, BWZ.out.trans (BW.out.mono BWZ.out.size)⟩
end Go.Proofs.Ytffeghlepblapaa
