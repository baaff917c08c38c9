/- Law PredicateColumns. -/
import Derived.Test.YtjkjmkplcjfogaaPdTree
import Derived.Test.YtjkjmkplcjfogaaRowG
import Derived.Test.YtjkjmkplcjfogaaPdNew
import Derived.Test.YtjkjmkplcjfogaaPdBegun
import Derived.Test.YtjkjmkplcjfogaaPdHolds
import Derived.Test.YtjkjmkplcjfogaaPdColLaw
import Derived.Test.YtjkjmkplcjfogaaPdGather
import Derived.Test.YtjkjmkplcjfogaaPdSameI
namespace Go.Proofs.Ytjkjmkplcjfogaa
open Go.RowKit Go.Deep

theorem lSame_t (va vb : Value) (A : List Int) (w : World) (ha : IntsAt w va A) (hb : IntsAt w vb A) : Calls Try.prog 13 #[va, vb] w fun e w' => e = .returned (.bool true) ∧ Below w.heap.size w w' :=
  (lSame_any va vb A A w ha hb).mono fun e w' h => ⟨by rw [h.1, decide_eq_true rfl], by obtain ⟨n, e⟩ := h.2; rw [e]; exact ((Gr.refl w).drewN n).below⟩
theorem Mv.below_trans {bc B : Nat} {a b c : World} (h : Mv bc a b) (k : Below B b c) (hB : a.heap.size ≤ B) : Mv bc a c :=
  ⟨k.os.trans h.os, k.tape.trans h.tape, k.output.trans h.output, Nat.le_trans h.size k.size, fun i hi hn => (k.block i (by omega)).trans (h.block i hi hn)⟩
theorem own_rowAt {w : World} {base : Nat} {v : Value} {l : List V} (h : w.ownsRow base 24 3 v l.length (cellsOf l)) (hl : l.length ≤ 4398046511104) : RowAt w v l := (rowT_own h hl).rowB.at (Nat.le_refl _)

set_option linter.unusedSimpArgs false in
set_option maxRecDepth 100000 in
set_option maxHeartbeats 4000000 in
theorem pcolumns_walk (cv : Value) (cn : Nat) (rv : Value) (R : PT) (w : World) (hcv : BytesAt w cv cn) (hrv : Pd w rv R) (hcl : (colP R).length ≤ 1099511627776) : Calls Try.prog 3 #[cv, rv] w fun e w' => e = .returned (.bool true) ∧ Below w.heap.size w w' := by
  obtain ⟨ra, rc, rfl, hrs⟩ := hrv
  obtain ⟨rop, rcmp, ⟨rlk, rli, ⟨rlvk, rlvn, rlvs⟩⟩, ⟨rrk, rri, ⟨rrvk, rrvn, rrvs⟩⟩, rs⟩ := R
  have HR0 : Hid (Pd w (pdV (PT.mk rop rcmp ⟨rlk, rli, ⟨rlvk, rlvn, rlvs⟩⟩ ⟨rrk, rri, ⟨rrvk, rrvn, rrvs⟩⟩ rs) ra rc) (PT.mk rop rcmp ⟨rlk, rli, ⟨rlvk, rlvn, rlvs⟩⟩ ⟨rrk, rri, ⟨rrvk, rrvn, rrvs⟩⟩ rs)) := ⟨ra, rc, rfl, hrs⟩
  have HCL := Lib.hid hcl
  simp only [pdV, PT.op, PT.cmp, PT.l, PT.r, PT.args] at HR0 ⊢
  obtain ⟨rn, hrn⟩ : ∃ rn, rs.length = rn := ⟨_, rfl⟩
  have HRN := Lib.hid hrn
  rw [hrn] at HR0 ⊢
  obtain ⟨wa, hwa⟩ : ∃ wa, w.alloc (.cells #[.int .i64 rop, .int .i64 rcmp, .int .i64 rlk, .int .i64 rli, .int .i64 rlvk, .int .i64 rlvn, .string rlvs, .int .i64 rrk, .int .i64 rri, .int .i64 rrvk, .int .i64 rrvn, .string rrvs, .slice ra rn rc] 29) = wa := ⟨_, rfl⟩
  have HWA : Hid (Below w.heap.size w wa) := by rw [← hwa]; exact (Below.refl _ _).alloc (Nat.le_refl _) _
  have hwas : w.heap.size < wa.heap.size := by rw [← hwa]; simp
  have a0 : wa.cell? ⟨w.heap.size, 0, none⟩ = some (.int .i64 rop) := by subst hwa; go_simp
  have a1 : wa.cell? ⟨w.heap.size, 1, none⟩ = some (.int .i64 rcmp) := by subst hwa; go_simp
  have a2 : wa.cell? ⟨w.heap.size, 2, none⟩ = some (.int .i64 rlk) := by subst hwa; go_simp
  have a3 : wa.cell? ⟨w.heap.size, 3, none⟩ = some (.int .i64 rli) := by subst hwa; go_simp
  have a4 : wa.cell? ⟨w.heap.size, 4, none⟩ = some (.int .i64 rlvk) := by subst hwa; go_simp
  have a5 : wa.cell? ⟨w.heap.size, 5, none⟩ = some (.int .i64 rlvn) := by subst hwa; go_simp
  have a6 : wa.cell? ⟨w.heap.size, 6, none⟩ = some (.string rlvs) := by subst hwa; go_simp
  have a7 : wa.cell? ⟨w.heap.size, 7, none⟩ = some (.int .i64 rrk) := by subst hwa; go_simp
  have a8 : wa.cell? ⟨w.heap.size, 8, none⟩ = some (.int .i64 rri) := by subst hwa; go_simp
  have a9 : wa.cell? ⟨w.heap.size, 9, none⟩ = some (.int .i64 rrvk) := by subst hwa; go_simp
  have a10 : wa.cell? ⟨w.heap.size, 10, none⟩ = some (.int .i64 rrvn) := by subst hwa; go_simp
  have a11 : wa.cell? ⟨w.heap.size, 11, none⟩ = some (.string rrvs) := by subst hwa; go_simp
  have a12 : wa.cell? ⟨w.heap.size, 12, none⟩ = some (.slice ra rn rc) := by subst hwa; go_simp
  have HKR : Hid (∀ W, Below wa.heap.size wa W → W.cell? ⟨w.heap.size, 0, none⟩ = some (.int .i64 rop) ∧ W.cell? ⟨w.heap.size, 1, none⟩ = some (.int .i64 rcmp) ∧ W.cell? ⟨w.heap.size, 2, none⟩ = some (.int .i64 rlk) ∧ W.cell? ⟨w.heap.size, 3, none⟩ = some (.int .i64 rli) ∧ W.cell? ⟨w.heap.size, 4, none⟩ = some (.int .i64 rlvk) ∧ W.cell? ⟨w.heap.size, 5, none⟩ = some (.int .i64 rlvn) ∧ W.cell? ⟨w.heap.size, 6, none⟩ = some (.string rlvs) ∧ W.cell? ⟨w.heap.size, 7, none⟩ = some (.int .i64 rrk) ∧ W.cell? ⟨w.heap.size, 8, none⟩ = some (.int .i64 rri) ∧ W.cell? ⟨w.heap.size, 9, none⟩ = some (.int .i64 rrvk) ∧ W.cell? ⟨w.heap.size, 10, none⟩ = some (.int .i64 rrvn) ∧ W.cell? ⟨w.heap.size, 11, none⟩ = some (.string rrvs) ∧ W.cell? ⟨w.heap.size, 12, none⟩ = some (.slice ra rn rc)) := fun W hb => ⟨(hb.cell (p := ⟨w.heap.size, 0, none⟩) hwas).trans a0, (hb.cell (p := ⟨w.heap.size, 1, none⟩) hwas).trans a1, (hb.cell (p := ⟨w.heap.size, 2, none⟩) hwas).trans a2, (hb.cell (p := ⟨w.heap.size, 3, none⟩) hwas).trans a3, (hb.cell (p := ⟨w.heap.size, 4, none⟩) hwas).trans a4, (hb.cell (p := ⟨w.heap.size, 5, none⟩) hwas).trans a5, (hb.cell (p := ⟨w.heap.size, 6, none⟩) hwas).trans a6, (hb.cell (p := ⟨w.heap.size, 7, none⟩) hwas).trans a7, (hb.cell (p := ⟨w.heap.size, 8, none⟩) hwas).trans a8, (hb.cell (p := ⟨w.heap.size, 9, none⟩) hwas).trans a9, (hb.cell (p := ⟨w.heap.size, 10, none⟩) hwas).trans a10, (hb.cell (p := ⟨w.heap.size, 11, none⟩) hwas).trans a11, (hb.cell (p := ⟨w.heap.size, 12, none⟩) hwas).trans a12⟩
  have HN := Lib.hid (cNew_160 cv cn wa (hcv.below HWA.out))
  obtain ⟨sa, sc, rfl, _⟩ := hcv
  have HB : Hid (∀ W, Calls Try.prog 16 #[] W fun e w' => e = .returned (.bool true) ∧ Below W.heap.size W w') := begun5_any
  clear hrs hcl hrn a0 a1 a2 a3 a4 a5 a6 a7 a8 a9 a10 a11 a12
  go_enter Try.func3, Try.ntmps3
  go_wp2_with fail
  try rw [hwa]
  clear hwa
  refine HN.out.mono ?_
  rintro e w1 ⟨bc, rfl, hb1, hbc, hok⟩
  have hlt : bc < w1.heap.size := hok.lt.1
  have B1 : Hid (Below wa.heap.size wa w1) := hb1
  have hs1 := hb1.size
  have O1 := Lib.hid hok
  have M1 : Hid (Mv bc w1 w1) := Mv.refl _ _
  clear hb1 hok HN
  have HC1 := Lib.hid (lKinds_any bc w1.heap.size 5 (by omega) w1 O1.out)
  go_wp2_with fail
  refine HC1.out.mono ?_
  rintro e w2 ⟨kv, K, rfl, hkl, hkk, hki, hm, ho⟩
  have M2 : Hid (Mv bc w1 w2) := M1.out.trans hm
  have O2 := Lib.hid ho
  have hs2 : w1.heap.size ≤ w2.heap.size := hm.size
  obtain ⟨ka, kc, rfl⟩ := hki.shape
  have HKK : Hid (okKs K = true ∧ K.length ≤ 5) := ⟨hkk, hkl⟩
  have HIK : Hid (IntsG w1.heap.size w2 (.slice ka K.length kc) K) := hki.weak (by omega)
  obtain ⟨kn, hkn⟩ : ∃ kn, K.length = kn := ⟨_, rfl⟩
  rw [hkn] at HIK ⊢
  clear hki hkl hkk hkn
  clear hm ho HC1 M1 O1
  have HC2 := Lib.hid (cPredicate_any bc w1.heap.size w1.heap.size K [] (.slice ka kn kc) (.slice none 0 0) 3 w2 O2.out (by omega) HKK.out.1 rfl (by have := HKK.out.2; omega) (by simp) HIK.out (IntsG.nil _ _) hlt)
  go_wp2_with fail
  refine HC2.out.mono ?_
  rintro e w3 ⟨⟨pop, pcmp, ⟨plk, pli, ⟨plvk, plvn, plvs⟩⟩, ⟨prk, pri, ⟨prvk, prvn, prvs⟩⟩, ps⟩, pa, pc, rfl, hps, hpvl, hpsm, hm, ho⟩
  have M3 : Hid (Mv bc w1 w3) := M2.out.trans hm
  have O3 := Lib.hid ho
  have hs3 : w2.heap.size ≤ w3.heap.size := hm.size
  replace HIK := Lib.hid (HIK.out.mv hm hlt)
  have HPS : Hid (PdS (fun b => w1.heap.size ≤ b) w3 ps pa pc) := hps.weak (fun b hb => by omega)
  have HPV2 : Hid (vldP K [] (PT.mk pop pcmp ⟨plk, pli, ⟨plvk, plvn, plvs⟩⟩ ⟨prk, pri, ⟨prvk, prvn, prvs⟩⟩ ps) = true ∧ smallP (PT.mk pop pcmp ⟨plk, pli, ⟨plvk, plvn, plvs⟩⟩ ⟨prk, pri, ⟨prvk, prvn, prvs⟩⟩ ps) = true) := ⟨hpvl, hpsm⟩
  simp only [pdV, PT.op, PT.cmp, PT.l, PT.r, PT.args]
  obtain ⟨pn, hpn⟩ : ∃ pn, ps.length = pn := ⟨_, rfl⟩
  have HPN := Lib.hid hpn
  rw [hpn]
  clear hps hpvl hpsm hpn
  clear hm ho HC2 M2 O2
  go_wp2_with fail
  obtain ⟨w4, hwb⟩ : ∃ w4, w3.alloc (.cells #[.int .i64 pop, .int .i64 pcmp, .int .i64 plk, .int .i64 pli, .int .i64 plvk, .int .i64 plvn, .string plvs, .int .i64 prk, .int .i64 pri, .int .i64 prvk, .int .i64 prvn, .string prvs, .slice pa pn pc] 29) = w4 := ⟨_, rfl⟩
  have hbb : Below w3.heap.size w3 w4 := by rw [← hwb]; exact (Below.refl _ _).alloc (Nat.le_refl _) _
  have hm : Mv bc w3 w4 := Mv.of_below hbb
  have O4 : Hid (CaseOk bc w1.heap.size w4) := by rw [← hwb]; exact O3.out.alloc _
  have hs4 : w4.heap.size = w3.heap.size + 1 := by rw [← hwb]; simp
  have M4 : Hid (Mv bc w1 w4) := M3.out.trans hm
  obtain ⟨bp, hbp⟩ : ∃ bp, w3.heap.size = bp := ⟨_, rfl⟩
  have a0 : w4.cell? ⟨w3.heap.size, 0, none⟩ = some (.int .i64 pop) := by subst hwb; go_simp
  have a1 : w4.cell? ⟨w3.heap.size, 1, none⟩ = some (.int .i64 pcmp) := by subst hwb; go_simp
  have a2 : w4.cell? ⟨w3.heap.size, 2, none⟩ = some (.int .i64 plk) := by subst hwb; go_simp
  have a3 : w4.cell? ⟨w3.heap.size, 3, none⟩ = some (.int .i64 pli) := by subst hwb; go_simp
  have a4 : w4.cell? ⟨w3.heap.size, 4, none⟩ = some (.int .i64 plvk) := by subst hwb; go_simp
  have a5 : w4.cell? ⟨w3.heap.size, 5, none⟩ = some (.int .i64 plvn) := by subst hwb; go_simp
  have a6 : w4.cell? ⟨w3.heap.size, 6, none⟩ = some (.string plvs) := by subst hwb; go_simp
  have a7 : w4.cell? ⟨w3.heap.size, 7, none⟩ = some (.int .i64 prk) := by subst hwb; go_simp
  have a8 : w4.cell? ⟨w3.heap.size, 8, none⟩ = some (.int .i64 pri) := by subst hwb; go_simp
  have a9 : w4.cell? ⟨w3.heap.size, 9, none⟩ = some (.int .i64 prvk) := by subst hwb; go_simp
  have a10 : w4.cell? ⟨w3.heap.size, 10, none⟩ = some (.int .i64 prvn) := by subst hwb; go_simp
  have a11 : w4.cell? ⟨w3.heap.size, 11, none⟩ = some (.string prvs) := by subst hwb; go_simp
  have a12 : w4.cell? ⟨w3.heap.size, 12, none⟩ = some (.slice pa pn pc) := by subst hwb; go_simp
  rw [hbp] at a0 a1 a2 a3 a4 a5 a6 a7 a8 a9 a10 a11 a12 hs4
  have hlp : w1.heap.size ≤ bp := by omega
  have HBp : Hid (bp < w4.heap.size ∧ ∀ W, Mv bc w4 W → W.cell? ⟨bp, 0, none⟩ = some (.int .i64 pop) ∧ W.cell? ⟨bp, 1, none⟩ = some (.int .i64 pcmp) ∧ W.cell? ⟨bp, 2, none⟩ = some (.int .i64 plk) ∧ W.cell? ⟨bp, 3, none⟩ = some (.int .i64 pli) ∧ W.cell? ⟨bp, 4, none⟩ = some (.int .i64 plvk) ∧ W.cell? ⟨bp, 5, none⟩ = some (.int .i64 plvn) ∧ W.cell? ⟨bp, 6, none⟩ = some (.string plvs) ∧ W.cell? ⟨bp, 7, none⟩ = some (.int .i64 prk) ∧ W.cell? ⟨bp, 8, none⟩ = some (.int .i64 pri) ∧ W.cell? ⟨bp, 9, none⟩ = some (.int .i64 prvk) ∧ W.cell? ⟨bp, 10, none⟩ = some (.int .i64 prvn) ∧ W.cell? ⟨bp, 11, none⟩ = some (.string prvs) ∧ W.cell? ⟨bp, 12, none⟩ = some (.slice pa pn pc)) := ⟨by omega, fun W hb => ⟨(hb.cell (p := ⟨bp, 0, none⟩) (show bp < _ by omega) (show bp ≠ bc by omega)).trans a0, (hb.cell (p := ⟨bp, 1, none⟩) (show bp < _ by omega) (show bp ≠ bc by omega)).trans a1, (hb.cell (p := ⟨bp, 2, none⟩) (show bp < _ by omega) (show bp ≠ bc by omega)).trans a2, (hb.cell (p := ⟨bp, 3, none⟩) (show bp < _ by omega) (show bp ≠ bc by omega)).trans a3, (hb.cell (p := ⟨bp, 4, none⟩) (show bp < _ by omega) (show bp ≠ bc by omega)).trans a4, (hb.cell (p := ⟨bp, 5, none⟩) (show bp < _ by omega) (show bp ≠ bc by omega)).trans a5, (hb.cell (p := ⟨bp, 6, none⟩) (show bp < _ by omega) (show bp ≠ bc by omega)).trans a6, (hb.cell (p := ⟨bp, 7, none⟩) (show bp < _ by omega) (show bp ≠ bc by omega)).trans a7, (hb.cell (p := ⟨bp, 8, none⟩) (show bp < _ by omega) (show bp ≠ bc by omega)).trans a8, (hb.cell (p := ⟨bp, 9, none⟩) (show bp < _ by omega) (show bp ≠ bc by omega)).trans a9, (hb.cell (p := ⟨bp, 10, none⟩) (show bp < _ by omega) (show bp ≠ bc by omega)).trans a10, (hb.cell (p := ⟨bp, 11, none⟩) (show bp < _ by omega) (show bp ≠ bc by omega)).trans a11, (hb.cell (p := ⟨bp, 12, none⟩) (show bp < _ by omega) (show bp ≠ bc by omega)).trans a12⟩⟩
  replace HIK := Lib.hid (HIK.out.mv hm hlt)
  replace HPS := Lib.hid ((show PdS (fun b => w1.heap.size ≤ b) _ ps pa pc from HPS.out.keep hm.size (fun b hb hl => hm.block b hl (by omega))))
  rw [hwb, hbp]
  clear hwb hbb hm hbp M3 O3 a0 a1 a2 a3 a4 a5 a6 a7 a8 a9 a10 a11 a12
  have HPB : Hid (PdS (fun b => w1.heap.size ≤ b) w4 ps pa pc) := HPS.out.keep (Nat.le_refl _) (fun _ _ _ => rfl)
  have HPL : Hid (∀ W, Mv bc w4 W → Pd W (.agg #[.int .i64 pop, .int .i64 pcmp, .int .i64 plk, .int .i64 pli, .int .i64 plvk, .int .i64 plvn, .string plvs, .int .i64 prk, .int .i64 pri, .int .i64 prvk, .int .i64 prvn, .string prvs, .slice pa pn pc]) (PT.mk pop pcmp ⟨plk, pli, ⟨plvk, plvn, plvs⟩⟩ ⟨prk, pri, ⟨prvk, prvn, prvs⟩⟩ ps)) := fun W hm => ⟨pa, pc, by simp only [pdV, PT.op, PT.cmp, PT.l, PT.r, PT.args, HPN.out], (HPB.out.keep hm.size (fun b hb hl => hm.block b hl (by omega))).weak (fun _ _ => trivial)⟩
  have hc48 : (colP (PT.mk pop pcmp ⟨plk, pli, ⟨plvk, plvn, plvs⟩⟩ ⟨prk, pri, ⟨prvk, prvn, prvs⟩⟩ ps)).length ≤ 1099511627776 := by have h1 := colP_nodes (PT.mk pop pcmp ⟨plk, pli, ⟨plvk, plvn, plvs⟩⟩ ⟨prk, pri, ⟨prvk, prvn, prvs⟩⟩ ps); have h2 := HPV2.out.2; unfold smallP at h2; simp only [decide_eq_true_eq] at h2; omega
  have HC48 := Lib.hid hc48
  have HC := Lib.hid (pColumns_any (PT.mk pop pcmp ⟨plk, pli, ⟨plvk, plvn, plvs⟩⟩ ⟨prk, pri, ⟨prvk, prvn, prvs⟩⟩ ps) (.agg #[.int .i64 pop, .int .i64 pcmp, .int .i64 plk, .int .i64 pli, .int .i64 plvk, .int .i64 plvn, .string plvs, .int .i64 prk, .int .i64 pri, .int .i64 prvk, .int .i64 prvn, .string prvs, .slice pa pn pc]) w4 (HPL.out _ (Mv.refl _ _)) hc48)
  have HFIT : Hid (∀ x ∈ colsP (PT.mk pop pcmp ⟨plk, pli, ⟨plvk, plvn, plvs⟩⟩ ⟨prk, pri, ⟨prvk, prvn, prvs⟩⟩ ps), 0 ≤ x ∧ x < K.length) := fun x hx => colP_fit K [] _ HPV2.out.1 x ((mem_colsP _ x).1 hx)
  have HMEM : Hid (∀ x, x ∈ colsP (PT.mk pop pcmp ⟨plk, pli, ⟨plvk, plvn, plvs⟩⟩ ⟨prk, pri, ⟨prvk, prvn, prvs⟩⟩ ps) ↔ x ∈ colP (PT.mk pop pcmp ⟨plk, pli, ⟨plvk, plvn, plvs⟩⟩ ⟨prk, pri, ⟨prvk, prvn, prvs⟩⟩ ps)) := fun x => mem_colsP _ x
  clear hc48
  obtain ⟨p1, p2, p3, p4, p5, p6, p7, p8, p9, p10, p11, p12, p13⟩ := HBp.out.2 _ (Mv.refl _ _)
  clear HPS
  go_wp2_with fail
  refine HC.out.mono ?_
  rintro e w5 ⟨la, lc, rfl, hli, hbl⟩
  have hm : Mv bc w4 w5 := Mv.of_below hbl
  have M5 : Hid (Mv bc w1 w5) := M4.out.trans hm
  have O5 : Hid (CaseOk bc w1.heap.size w5) := O4.out.below hbl O4.out.lt.2
  have hs5 : w4.heap.size ≤ w5.heap.size := hm.size
  have HPM : Hid (Mv bc w4 w5) := hm
  replace HIK := Lib.hid (HIK.out.mv hm hlt)
  replace HBp := Lib.hid ((show _ ∧ (∀ W, Mv bc _ W → W.cell? ⟨bp, 0, none⟩ = some (.int .i64 pop) ∧ W.cell? ⟨bp, 1, none⟩ = some (.int .i64 pcmp) ∧ W.cell? ⟨bp, 2, none⟩ = some (.int .i64 plk) ∧ W.cell? ⟨bp, 3, none⟩ = some (.int .i64 pli) ∧ W.cell? ⟨bp, 4, none⟩ = some (.int .i64 plvk) ∧ W.cell? ⟨bp, 5, none⟩ = some (.int .i64 plvn) ∧ W.cell? ⟨bp, 6, none⟩ = some (.string plvs) ∧ W.cell? ⟨bp, 7, none⟩ = some (.int .i64 prk) ∧ W.cell? ⟨bp, 8, none⟩ = some (.int .i64 pri) ∧ W.cell? ⟨bp, 9, none⟩ = some (.int .i64 prvk) ∧ W.cell? ⟨bp, 10, none⟩ = some (.int .i64 prvn) ∧ W.cell? ⟨bp, 11, none⟩ = some (.string prvs) ∧ W.cell? ⟨bp, 12, none⟩ = some (.slice pa pn pc)) from ⟨Nat.lt_of_lt_of_le HBp.out.1 hm.size, fun W hb => HBp.out.2 W (hm.trans hb)⟩))
  have HLI : Hid (IntsG w1.heap.size w5 (.slice la (colsP (PT.mk pop pcmp ⟨plk, pli, ⟨plvk, plvn, plvs⟩⟩ ⟨prk, pri, ⟨prvk, prvn, prvs⟩⟩ ps)).length lc) (colsP (PT.mk pop pcmp ⟨plk, pli, ⟨plvk, plvn, plvs⟩⟩ ⟨prk, pri, ⟨prvk, prvn, prvs⟩⟩ ps))) := hli.weak (by omega)
  obtain ⟨CS, hcs⟩ : ∃ CS, colsP (PT.mk pop pcmp ⟨plk, pli, ⟨plvk, plvn, plvs⟩⟩ ⟨prk, pri, ⟨prvk, prvn, prvs⟩⟩ ps) = CS := ⟨_, rfl⟩
  have HCS := Lib.hid hcs
  rw [hcs] at HLI HFIT HMEM ⊢
  obtain ⟨ln, hln⟩ : ∃ ln, CS.length = ln := ⟨_, rfl⟩
  have HLN := Lib.hid hln
  rw [hln] at HLI ⊢
  clear hli hbl hm hcs hln HC M4 O4 p1 p2 p3 p4 p5 p6 p7 p8 p9 p10 p11 p12 p13
  go_upto_region 5 with fail
  have BAZ : Hid (Below wa.heap.size wa w5) := B1.out.trans (M5.out.below (B := wa.heap.size) (by omega) (by omega))
  have BWZ : Hid (Below w.heap.size w w5) := HWA.out.trans (BAZ.out.mono (by omega))
  have HK : Hid (∀ W, Below w5.heap.size w5 W → W.cell? ⟨w.heap.size, 0, none⟩ = some (.int .i64 rop) ∧ W.cell? ⟨w.heap.size, 1, none⟩ = some (.int .i64 rcmp) ∧ W.cell? ⟨w.heap.size, 2, none⟩ = some (.int .i64 rlk) ∧ W.cell? ⟨w.heap.size, 3, none⟩ = some (.int .i64 rli) ∧ W.cell? ⟨w.heap.size, 4, none⟩ = some (.int .i64 rlvk) ∧ W.cell? ⟨w.heap.size, 5, none⟩ = some (.int .i64 rlvn) ∧ W.cell? ⟨w.heap.size, 6, none⟩ = some (.string rlvs) ∧ W.cell? ⟨w.heap.size, 7, none⟩ = some (.int .i64 rrk) ∧ W.cell? ⟨w.heap.size, 8, none⟩ = some (.int .i64 rri) ∧ W.cell? ⟨w.heap.size, 9, none⟩ = some (.int .i64 rrvk) ∧ W.cell? ⟨w.heap.size, 10, none⟩ = some (.int .i64 rrvn) ∧ W.cell? ⟨w.heap.size, 11, none⟩ = some (.string rrvs) ∧ W.cell? ⟨w.heap.size, 12, none⟩ = some (.slice ra rn rc) ∧ W.cell? ⟨bp, 0, none⟩ = some (.int .i64 pop) ∧ W.cell? ⟨bp, 1, none⟩ = some (.int .i64 pcmp) ∧ W.cell? ⟨bp, 2, none⟩ = some (.int .i64 plk) ∧ W.cell? ⟨bp, 3, none⟩ = some (.int .i64 pli) ∧ W.cell? ⟨bp, 4, none⟩ = some (.int .i64 plvk) ∧ W.cell? ⟨bp, 5, none⟩ = some (.int .i64 plvn) ∧ W.cell? ⟨bp, 6, none⟩ = some (.string plvs) ∧ W.cell? ⟨bp, 7, none⟩ = some (.int .i64 prk) ∧ W.cell? ⟨bp, 8, none⟩ = some (.int .i64 pri) ∧ W.cell? ⟨bp, 9, none⟩ = some (.int .i64 prvk) ∧ W.cell? ⟨bp, 10, none⟩ = some (.int .i64 prvn) ∧ W.cell? ⟨bp, 11, none⟩ = some (.string prvs) ∧ W.cell? ⟨bp, 12, none⟩ = some (.slice pa pn pc)) := fun W hb => by
    obtain ⟨x0, x1, x2, x3, x4, x5, x6, x7, x8, x9, x10, x11, x12⟩ := HKR.out W (below_go BAZ.out hb)
    obtain ⟨y0, y1, y2, y3, y4, y5, y6, y7, y8, y9, y10, y11, y12⟩ := HBp.out.2 W (Mv.of_below hb)
    exact ⟨x0, x1, x2, x3, x4, x5, x6, x7, x8, x9, x10, x11, x12, y0, y1, y2, y3, y4, y5, y6, y7, y8, y9, y10, y11, y12⟩
  have HPR : Hid (∀ W, Below w5.heap.size w5 W → Pd W (.agg #[.int .i64 rop, .int .i64 rcmp, .int .i64 rlk, .int .i64 rli, .int .i64 rlvk, .int .i64 rlvn, .string rlvs, .int .i64 rrk, .int .i64 rri, .int .i64 rrvk, .int .i64 rrvn, .string rrvs, .slice ra rn rc]) (PT.mk rop rcmp ⟨rlk, rli, ⟨rlvk, rlvn, rlvs⟩⟩ ⟨rrk, rri, ⟨rrvk, rrvn, rrvs⟩⟩ rs)) := fun W hb => HR0.out.below (below_go BWZ.out hb)
  have HPQ : Hid (∀ W, Below w5.heap.size w5 W → Pd W (.agg #[.int .i64 pop, .int .i64 pcmp, .int .i64 plk, .int .i64 pli, .int .i64 plvk, .int .i64 plvn, .string plvs, .int .i64 prk, .int .i64 pri, .int .i64 prvk, .int .i64 prvn, .string prvs, .slice pa pn pc]) (PT.mk pop pcmp ⟨plk, pli, ⟨plvk, plvn, plvs⟩⟩ ⟨prk, pri, ⟨prvk, prvn, prvs⟩⟩ ps)) := fun W hb => HPL.out W (HPM.out.trans (Mv.of_below hb))
  have HLQ : Hid (∀ W, Below w5.heap.size w5 W → IntsAt W (.slice la ln lc) CS) := fun W hb => (HLI.out.below hb).at
  have HCP : Hid (∀ W, Below w5.heap.size w5 W → Calls Try.prog 14 #[.agg #[.int .i64 pop, .int .i64 pcmp, .int .i64 plk, .int .i64 pli, .int .i64 plvk, .int .i64 plvn, .string plvs, .int .i64 prk, .int .i64 pri, .int .i64 prvk, .int .i64 prvn, .string prvs, .slice pa pn pc]] W (GathPost CS W)) := fun W hb => by
    have h := rColumns_any (PT.mk pop pcmp ⟨plk, pli, ⟨plvk, plvn, plvs⟩⟩ ⟨prk, pri, ⟨prvk, prvn, prvs⟩⟩ ps) (.agg #[.int .i64 pop, .int .i64 pcmp, .int .i64 plk, .int .i64 pli, .int .i64 plvk, .int .i64 plvn, .string plvs, .int .i64 prk, .int .i64 pri, .int .i64 prvk, .int .i64 prvn, .string prvs, .slice pa pn pc]) W (HPQ.out W hb) HC48.out
    rw [HCS.out] at h; exact h
  obtain ⟨RS, hrs2⟩ : ∃ RS, colsP (PT.mk rop rcmp ⟨rlk, rli, ⟨rlvk, rlvn, rlvs⟩⟩ ⟨rrk, rri, ⟨rrvk, rrvn, rrvs⟩⟩ rs) = RS := ⟨_, rfl⟩
  obtain ⟨rl, hrl⟩ : ∃ rl, RS.length = rl := ⟨_, rfl⟩
  have HCR : Hid (∀ W, Below w5.heap.size w5 W → Calls Try.prog 12 #[.agg #[.int .i64 rop, .int .i64 rcmp, .int .i64 rlk, .int .i64 rli, .int .i64 rlvk, .int .i64 rlvn, .string rlvs, .int .i64 rrk, .int .i64 rri, .int .i64 rrvk, .int .i64 rrvn, .string rrvs, .slice ra rn rc]] W fun e w' => ∃ a c, e = .returned (.slice a rl c) ∧ IntsAt w' (.slice a rl c) RS ∧ Below W.heap.size W w') := fun W hb => by
    refine (pColumns_any (PT.mk rop rcmp ⟨rlk, rli, ⟨rlvk, rlvn, rlvs⟩⟩ ⟨rrk, rri, ⟨rrvk, rrvn, rrvs⟩⟩ rs) (.agg #[.int .i64 rop, .int .i64 rcmp, .int .i64 rlk, .int .i64 rli, .int .i64 rlvk, .int .i64 rlvn, .string rlvs, .int .i64 rrk, .int .i64 rri, .int .i64 rrvk, .int .i64 rrvn, .string rrvs, .slice ra rn rc]) W (HPR.out W hb) HCL.out).mono ?_
    rintro e w' ⟨a, c, h1, h2, h3⟩
    rw [hrs2, hrl] at h1 h2
    exact ⟨a, c, h1, h2.at, h3⟩
  have HRR : Hid (∀ W, Below w5.heap.size w5 W → Calls Try.prog 14 #[.agg #[.int .i64 rop, .int .i64 rcmp, .int .i64 rlk, .int .i64 rli, .int .i64 rlvk, .int .i64 rlvn, .string rlvs, .int .i64 rrk, .int .i64 rri, .int .i64 rrvk, .int .i64 rrvn, .string rrvs, .slice ra rn rc]] W fun e w' => ∃ a c, e = .returned (.slice a rl c) ∧ IntsAt w' (.slice a rl c) RS ∧ Below W.heap.size W w') := fun W hb => by
    refine (rColumns_any (PT.mk rop rcmp ⟨rlk, rli, ⟨rlvk, rlvn, rlvs⟩⟩ ⟨rrk, rri, ⟨rrvk, rrvn, rrvs⟩⟩ rs) (.agg #[.int .i64 rop, .int .i64 rcmp, .int .i64 rlk, .int .i64 rli, .int .i64 rlvk, .int .i64 rlvn, .string rlvs, .int .i64 rrk, .int .i64 rri, .int .i64 rrvk, .int .i64 rrvn, .string rrvs, .slice ra rn rc]) W (HPR.out W hb) HCL.out).mono ?_
    rintro e w' ⟨a, c, h1, h2, h3⟩
    rw [hrs2, hrl] at h1 h2
    exact ⟨a, c, h1, h2, h3⟩
  have HCP2 : Hid (∀ W, Below w5.heap.size w5 W → Calls Try.prog 14 #[.agg #[.int .i64 pop, .int .i64 pcmp, .int .i64 plk, .int .i64 pli, .int .i64 plvk, .int .i64 plvn, .string plvs, .int .i64 prk, .int .i64 pri, .int .i64 prvk, .int .i64 prvn, .string prvs, .slice pa pn pc]] W fun e w' => ∃ a c, e = .returned (.slice a ln c) ∧ IntsAt w' (.slice a ln c) CS ∧ Below W.heap.size W w') := fun W hb => by
    refine (HCP.out W hb).mono ?_
    rintro e w' ⟨a, c, h1, h2, h3⟩
    rw [HLN.out] at h1 h2
    exact ⟨a, c, h1, h2, h3⟩
  clear HCP hrs2 hrl HPR HPQ HR0 HCL
  refine wp_region_held_drew (S := fun W => W.cell? ⟨w.heap.size, 0, none⟩ = some (.int .i64 rop) ∧ W.cell? ⟨w.heap.size, 1, none⟩ = some (.int .i64 rcmp) ∧ W.cell? ⟨w.heap.size, 2, none⟩ = some (.int .i64 rlk) ∧ W.cell? ⟨w.heap.size, 3, none⟩ = some (.int .i64 rli) ∧ W.cell? ⟨w.heap.size, 4, none⟩ = some (.int .i64 rlvk) ∧ W.cell? ⟨w.heap.size, 5, none⟩ = some (.int .i64 rlvn) ∧ W.cell? ⟨w.heap.size, 6, none⟩ = some (.string rlvs) ∧ W.cell? ⟨w.heap.size, 7, none⟩ = some (.int .i64 rrk) ∧ W.cell? ⟨w.heap.size, 8, none⟩ = some (.int .i64 rri) ∧ W.cell? ⟨w.heap.size, 9, none⟩ = some (.int .i64 rrvk) ∧ W.cell? ⟨w.heap.size, 10, none⟩ = some (.int .i64 rrvn) ∧ W.cell? ⟨w.heap.size, 11, none⟩ = some (.string rrvs) ∧ W.cell? ⟨w.heap.size, 12, none⟩ = some (.slice ra rn rc) ∧ W.cell? ⟨bp, 0, none⟩ = some (.int .i64 pop) ∧ W.cell? ⟨bp, 1, none⟩ = some (.int .i64 pcmp) ∧ W.cell? ⟨bp, 2, none⟩ = some (.int .i64 plk) ∧ W.cell? ⟨bp, 3, none⟩ = some (.int .i64 pli) ∧ W.cell? ⟨bp, 4, none⟩ = some (.int .i64 plvk) ∧ W.cell? ⟨bp, 5, none⟩ = some (.int .i64 plvn) ∧ W.cell? ⟨bp, 6, none⟩ = some (.string plvs) ∧ W.cell? ⟨bp, 7, none⟩ = some (.int .i64 prk) ∧ W.cell? ⟨bp, 8, none⟩ = some (.int .i64 pri) ∧ W.cell? ⟨bp, 9, none⟩ = some (.int .i64 prvk) ∧ W.cell? ⟨bp, 10, none⟩ = some (.int .i64 prvn) ∧ W.cell? ⟨bp, 11, none⟩ = some (.string prvs) ∧ W.cell? ⟨bp, 12, none⟩ = some (.slice pa pn pc)) (by kernel_rfl) (HK.out _ (Below.refl _ _).drew) (fun hHeld => ?_)
  obtain ⟨wd, hwd⟩ : ∃ wd, w5.drew = wd := ⟨_, rfl⟩
  have BW : Hid (Below w5.heap.size w5 wd) := by rw [← hwd]; exact (Below.refl _ _).drew
  rw [hwd] at hHeld ⊢
  clear hwd
  refine wpAnyH_takeD (i := 0) (d := 22) (v := ?_) rfl rfl (by kernel_rfl) (by kernel_rfl) (by kernel_rfl) (fun _ _ _ h => h) (Or.inl ⟨by rfl, ?_⟩) (by assumption) ?_; rotate_left
  · intro W hSw; (try dsimp only at hSw); go_simp; (try with_reducible rfl)
  (try simp only [List.set_cons_zero, List.set_cons_succ])
  refine wpAnyH_takeD (i := 1) (d := 23) (v := ?_) rfl rfl (by kernel_rfl) (by kernel_rfl) (by kernel_rfl) (fun _ _ _ h => h) (Or.inl ⟨by rfl, ?_⟩) (by assumption) ?_; rotate_left
  · intro W hSw; (try dsimp only at hSw); go_simp; (try with_reducible rfl)
  (try simp only [List.set_cons_zero, List.set_cons_succ])
  refine wpAnyH_ready (rs := [2]) (by kernel_rfl) (by simp) ?_
  refine AllReadyH.cons rfl (fun K hK => ?_) AllReadyH.nil
  go_simp
  go_at_call 14
  refine (HCP2.out _ BW.out).mono ?_
  rintro e w_2 ⟨a2, c2, rfl, hi2, hg⟩
  clear hHeld
  replace BW := Lib.hid (below_go BW.out hg)
  have HI2 := Lib.hid hi2
  clear hi2
  clear hg
  refine hK.out _ _ (HK.out _ BW.out) (fun hHeld => ?_)
  clear hK K
  (try simp only [List.set_cons_zero, List.set_cons_succ])
  refine wpAnyH_ready (rs := [3]) (by kernel_rfl) (by simp) ?_
  refine AllReadyH.cons rfl (fun K hK => ?_) AllReadyH.nil
  go_simp
  go_at_call 13
  refine (lSame_t (.slice la ln lc) (.slice a2 ln c2) CS _ (HLQ.out _ BW.out) HI2.out).mono ?_
  rintro e w_3 ⟨rfl, hg⟩
  clear hHeld
  replace BW := Lib.hid (below_go BW.out hg)
  clear hg
  refine hK.out _ _ (HK.out _ BW.out) (fun hHeld => ?_)
  clear hK K
  (try simp only [List.set_cons_zero, List.set_cons_succ])
  refine wpAnyH_takeD (i := 4) (d := 26) (v := ?_) rfl rfl (by kernel_rfl) (by kernel_rfl) (by kernel_rfl) (fun _ _ _ h => h) (Or.inl ⟨by rfl, ?_⟩) (by assumption) ?_; rotate_left
  · intro W hSw; (try dsimp only at hSw); go_simp; (try with_reducible rfl)
  (try simp only [List.set_cons_zero, List.set_cons_succ])
  refine wpAnyH_takeD (i := 5) (d := 27) (v := ?_) rfl rfl (by kernel_rfl) (by kernel_rfl) (by kernel_rfl) (fun _ _ _ h => h) (Or.inl ⟨by rfl, ?_⟩) (by assumption) ?_; rotate_left
  · intro W hSw; (try dsimp only at hSw); go_simp; (try with_reducible rfl)
  (try simp only [List.set_cons_zero, List.set_cons_succ])
  refine wpAnyH_takeD (i := 6) (d := 28) (v := ?_) rfl rfl (by kernel_rfl) (by kernel_rfl) (by kernel_rfl) (fun _ _ _ h => h) (Or.inl ⟨by rfl, ?_⟩) (by assumption) ?_; rotate_left
  · intro W hSw; (try dsimp only at hSw); go_simp; (try with_reducible rfl)
  (try simp only [List.set_cons_zero, List.set_cons_succ])
  refine wpAnyH_takeD (i := 8) (d := 30) (v := ?_) rfl rfl (by kernel_rfl) (by kernel_rfl) (by kernel_rfl) (fun _ _ _ h => h) (Or.inl ⟨by rfl, ?_⟩) (by assumption) ?_; rotate_left
  · intro W hSw; (try dsimp only at hSw); go_simp; (try with_reducible rfl)
  (try simp only [List.set_cons_zero, List.set_cons_succ])
  refine wpAnyH_ready (rs := [7]) (by kernel_rfl) (by simp) ?_
  refine AllReadyH.cons rfl (fun K hK => ?_) AllReadyH.nil
  go_simp
  go_at_call 12
  refine (HCR.out _ BW.out).mono ?_
  rintro e w_7 ⟨a7, c7, rfl, hi7, hg⟩
  clear hHeld
  replace BW := Lib.hid (below_go BW.out hg)
  have HI7 := Lib.hid hi7
  clear hi7 HI2
  clear hg
  refine hK.out _ _ (HK.out _ BW.out) (fun hHeld => ?_)
  clear hK K
  (try simp only [List.set_cons_zero, List.set_cons_succ])
  refine wpAnyH_ready (rs := [9]) (by kernel_rfl) (by simp) ?_
  refine AllReadyH.cons rfl (fun K hK => ?_) AllReadyH.nil
  go_simp
  go_at_call 14
  refine (HRR.out _ BW.out).mono ?_
  rintro e w_9 ⟨a9, c9, rfl, hi9, hg⟩
  clear hHeld
  replace BW := Lib.hid (below_go BW.out hg)
  have HI9 := Lib.hid hi9
  replace HI7 := Lib.hid (HI7.out.blw hg)
  clear hi9
  clear hg
  refine hK.out _ _ (HK.out _ BW.out) (fun hHeld => ?_)
  clear hK K
  (try simp only [List.set_cons_zero, List.set_cons_succ])
  refine wpAnyH_ready (rs := [10]) (by kernel_rfl) (by simp) ?_
  refine AllReadyH.cons rfl (fun K hK => ?_) AllReadyH.nil
  go_simp
  go_at_call 13
  refine (lSame_t (.slice a7 rl c7) (.slice a9 rl c9) RS _ HI7.out HI9.out).mono ?_
  rintro e w6 ⟨rfl, hg⟩
  clear hHeld
  replace BW := Lib.hid (below_go BW.out hg)
  clear hg
  refine hK.out _ _ (HK.out _ BW.out) (fun hHeld => ?_)
  clear hK K
  (try simp only [List.set_cons_zero, List.set_cons_succ])
  refine wpAnyH_takeD (i := 11) (d := 33) (v := ?_) rfl rfl (by kernel_rfl) (by kernel_rfl) (by kernel_rfl) (fun _ _ _ h => h) (Or.inl ⟨by rfl, ?_⟩) (by assumption) ?_; rotate_left
  · intro W hSw; (try dsimp only at hSw); go_simp; (try with_reducible rfl)
  (try simp only [List.set_cons_zero, List.set_cons_succ])
  refine wpAnyH_takeD (i := 12) (d := 34) (v := ?_) rfl rfl (by kernel_rfl) (by kernel_rfl) (by kernel_rfl) (fun _ _ _ h => h) (Or.inl ⟨by rfl, ?_⟩) (by assumption) ?_; rotate_left
  · intro W hSw; (try dsimp only at hSw); go_simp; (try with_reducible rfl)
  (try simp only [List.set_cons_zero, List.set_cons_succ])
  clear hHeld
  refine wpAnyH_done (by kernel_rfl) ?_ _
  have hm : Mv bc w5 w6 := Mv.of_below BW.out
  have M6 : Hid (Mv bc w1 w6) := M5.out.trans hm
  have O6 : Hid (CaseOk bc w1.heap.size w6) := O5.out.below BW.out O5.out.lt.2
  have hs6 : w5.heap.size ≤ w6.heap.size := hm.size
  replace HPM : Hid (Mv bc w4 w6) := HPM.out.trans hm
  replace HIK := Lib.hid (HIK.out.mv hm hlt)
  replace HBp := Lib.hid ((show _ ∧ (∀ W, Mv bc _ W → W.cell? ⟨bp, 0, none⟩ = some (.int .i64 pop) ∧ W.cell? ⟨bp, 1, none⟩ = some (.int .i64 pcmp) ∧ W.cell? ⟨bp, 2, none⟩ = some (.int .i64 plk) ∧ W.cell? ⟨bp, 3, none⟩ = some (.int .i64 pli) ∧ W.cell? ⟨bp, 4, none⟩ = some (.int .i64 plvk) ∧ W.cell? ⟨bp, 5, none⟩ = some (.int .i64 plvn) ∧ W.cell? ⟨bp, 6, none⟩ = some (.string plvs) ∧ W.cell? ⟨bp, 7, none⟩ = some (.int .i64 prk) ∧ W.cell? ⟨bp, 8, none⟩ = some (.int .i64 pri) ∧ W.cell? ⟨bp, 9, none⟩ = some (.int .i64 prvk) ∧ W.cell? ⟨bp, 10, none⟩ = some (.int .i64 prvn) ∧ W.cell? ⟨bp, 11, none⟩ = some (.string prvs) ∧ W.cell? ⟨bp, 12, none⟩ = some (.slice pa pn pc)) from ⟨Nat.lt_of_lt_of_le HBp.out.1 hm.size, fun W hb => HBp.out.2 W (hm.trans hb)⟩))
  replace HLI := Lib.hid (HLI.out.mv hm hlt)
  clear hm M5 O5 HK HLQ HCP2 HCR HRR HI7 HI9 BAZ BWZ
  go_wp2_with fail
  have HC6 := Lib.hid (cRowG_any bc w1.heap.size w1.heap.size K (.slice ka kn kc) 0 3 w6 O6.out HKK.out.1 (by have := HKK.out.2; omega) HIK.out hlt (.inr (.inr rfl)))
  refine HC6.out.mono ?_
  rintro e w7 ⟨tv, T, rfl, htl, -, hto, hm, ho⟩
  have M7 : Hid (Mv bc w1 w7) := M6.out.trans hm
  have O7 := Lib.hid ho
  have hs7 : w6.heap.size ≤ w7.heap.size := hm.size
  replace HIK := Lib.hid (HIK.out.mv hm hlt)
  replace HBp := Lib.hid ((show _ ∧ (∀ W, Mv bc _ W → W.cell? ⟨bp, 0, none⟩ = some (.int .i64 pop) ∧ W.cell? ⟨bp, 1, none⟩ = some (.int .i64 pcmp) ∧ W.cell? ⟨bp, 2, none⟩ = some (.int .i64 plk) ∧ W.cell? ⟨bp, 3, none⟩ = some (.int .i64 pli) ∧ W.cell? ⟨bp, 4, none⟩ = some (.int .i64 plvk) ∧ W.cell? ⟨bp, 5, none⟩ = some (.int .i64 plvn) ∧ W.cell? ⟨bp, 6, none⟩ = some (.string plvs) ∧ W.cell? ⟨bp, 7, none⟩ = some (.int .i64 prk) ∧ W.cell? ⟨bp, 8, none⟩ = some (.int .i64 pri) ∧ W.cell? ⟨bp, 9, none⟩ = some (.int .i64 prvk) ∧ W.cell? ⟨bp, 10, none⟩ = some (.int .i64 prvn) ∧ W.cell? ⟨bp, 11, none⟩ = some (.string prvs) ∧ W.cell? ⟨bp, 12, none⟩ = some (.slice pa pn pc)) from ⟨Nat.lt_of_lt_of_le HBp.out.1 hm.size, fun W hb => HBp.out.2 W (hm.trans hb)⟩))
  replace HLI := Lib.hid (HLI.out.mv hm hlt)
  replace HPM := Lib.hid (HPM.out.trans hm)
  have HTL : Hid (T.length = K.length) := htl
  have HTO : Hid (w7.ownsRow w6.heap.size 24 3 tv T.length (cellsOf T)) := hto
  clear htl hto
  obtain ⟨ta, tc, et⟩ := own_slice HTO.out
  subst et
  obtain ⟨tn, htn⟩ : ∃ tn, T.length = tn := ⟨_, rfl⟩
  have HTN := Lib.hid htn
  rw [htn] at HTO ⊢
  clear htn
  clear hm ho HC6 M6 O6
  have HTY := HTO
  have HLY := HLI
  have HBY := HBp
  have HPY := HPM
  have HPX : Hid (Mv bc w1 w7) := M7.out
  have HC7 := Lib.hid (cRowG_any bc w1.heap.size w1.heap.size K (.slice ka kn kc) 0 3 w7 O7.out HKK.out.1 (by have := HKK.out.2; omega) HIK.out hlt (.inr (.inr rfl)))
  go_wp2_with fail
  refine HC7.out.mono ?_
  rintro e w8 ⟨uv, U, rfl, hul, -, huo, hm, ho⟩
  have M8 : Hid (Mv bc w1 w8) := M7.out.trans hm
  have O8 := Lib.hid ho
  have hs8 : w7.heap.size ≤ w8.heap.size := hm.size
  replace HIK := Lib.hid (HIK.out.mv hm hlt)
  have HUL : Hid (U.length = K.length) := hul
  have HUO : Hid (w8.ownsRow w7.heap.size 24 3 uv U.length (cellsOf U)) := huo
  clear hul huo
  obtain ⟨ua, uc, eu⟩ := own_slice HUO.out
  subst eu
  obtain ⟨un, hun⟩ : ∃ un, U.length = un := ⟨_, rfl⟩
  have HUN := Lib.hid hun
  rw [hun] at HUO ⊢
  clear hun
  have HMQ : Hid (Mv bc w7 w8) := hm
  clear hm ho HC7 M7 O7
  have hkl8 : K.length ≤ 5 := HKK.out.2
  have hlnb : ln ≤ 1099511627776 := by have h1 := HLN.out; have h2 := HCS.out; have h3 := HC48.out; have h4 := compact_le ((colP (PT.mk pop pcmp ⟨plk, pli, ⟨plvk, plvn, plvs⟩⟩ ⟨prk, pri, ⟨prvk, prvn, prvs⟩⟩ ps)).mergeSort fun x y => decide (x ≤ y)); have h5 : (colP (PT.mk pop pcmp ⟨plk, pli, ⟨plvk, plvn, plvs⟩⟩ ⟨prk, pri, ⟨prvk, prvn, prvs⟩⟩ ps)).length = ((colP (PT.mk pop pcmp ⟨plk, pli, ⟨plvk, plvn, plvs⟩⟩ ⟨prk, pri, ⟨prvk, prvn, prvs⟩⟩ ps)).mergeSort fun x y => decide (x ≤ y)).length := (by simp); unfold colsP at h2; rw [← h1, ← h2]; omega
  clear HTO HLI HBp HPM HIK O8 M8 HC48 HCS
  have hby : w1.heap.size ≤ w7.heap.size := by omega
  go_wp2_with fail
  go_loopw [43] (fun i wr => ∃ k : Nat, k ≤ ln ∧ i = .int .i64 k ∧ Hid (wr.ownsRow w7.heap.size 24 3 (.slice ua un uc) un (cellsOf (over T (CS.take k) U))) ∧ Hid (Mv bc w7 wr)) (fun i _ => ln - (intOf i).toNat)
  case atStart => exact ⟨0, by omega, rfl, HUO, HMQ⟩
  case round =>
    obtain ⟨k, hk, rfl, HO, HX⟩ := hrel
    clear HUO HMQ
    by_cases hltk : k < ln
    · have hltk' : (k : Int) < ln := by omega
      have hkn : k < CS.length := by rw [HLN.out]; exact hltk
      obtain ⟨la', lc', e', -, hcell⟩ := HLY.out.mv HX.out hlt
      simp only [Value.slice.injEq] at e'
      obtain ⟨rfl, -, rfl⟩ := e'
      obtain ⟨lb, loff, rfl, -, hlb, c0⟩ := hcell k hkn
      obtain ⟨x0, hx0, hxK⟩ : ∃ x0 : Nat, CS[k] = (x0 : Int) ∧ x0 < K.length := by have := HFIT.out _ (List.getElem_mem hkn); exact ⟨CS[k].toNat, by omega, by omega⟩
      have hov : over T (CS.take (k + 1)) U = (over T (CS.take k) U).set x0 (atV T x0) := by rw [List.take_succ_eq_append_getElem hkn, over_snoc, hx0]; rfl
      rw [hx0] at c0
      have hxt : x0 < T.length := by rw [HTL.out]; exact hxK
      have hxu : x0 < (over T (CS.take k) U).length := by rw [over_len, HUL.out]; exact hxK
      rw [atV_in hxt] at hov
      have hxtn : x0 < tn := by rw [← HTN.out]; exact hxt
      have hxun : x0 < un := by rw [← HUN.out, HUL.out]; exact hxK
      have htr : RowAt wr (.slice ta tn tc) T := by
        have h := own_mv HTY.out HX.out (show bc < w6.heap.size by omega)
        rw [← HTN.out] at h ⊢
        exact own_rowAt h (by rw [HTL.out]; omega)
      obtain ⟨ta', tc', e', -, htc⟩ := htr
      simp only [Value.slice.injEq] at e'
      obtain ⟨rfl, -, rfl⟩ := e'
      obtain ⟨tb, toff, rfl, htb, q0, q1, q2⟩ := htc x0 hxt
      obtain ⟨g, cap, hua, hgb⟩ : ∃ g cap, (Value.slice ua un uc = .slice (some ⟨g, 0, none⟩) un cap) ∧ w7.heap.size ≤ g := by
        rcases HO.out.2 with ⟨_, h0⟩ | ⟨g, cap, cur, h1, h2, _⟩
        · omega
        · exact ⟨g, cap, h1, h2⟩
      simp only [Value.slice.injEq, true_and] at hua
      obtain ⟨rfl, rfl⟩ := hua
      have hcc : ∀ j, j < 3 → ∃ v, wr.cell? ⟨g, x0 * 3 + j, none⟩ = some v := fun j hj => by
        have h1 := HO.out.1
        have h2 := HO.out.cellAt (x0 * 3 + j) (by omega)
        rw [List.getElem?_eq_getElem (by omega)] at h2
        exact ⟨_, h2⟩
      obtain ⟨z0, g0⟩ := hcc 0 (by omega)
      rw [Nat.add_zero] at g0
      obtain ⟨z1, g1⟩ := hcc 1 (by omega)
      obtain ⟨z2, g2⟩ := hcc 2 (by omega)
      have f0 := HO.out.frozenAt (x0 * 3)
      have f1 := HO.out.frozenAt (x0 * 3 + 1)
      have f2 := HO.out.frozenAt (x0 * 3 + 2)
      have HNEW : Hid ((((wr.setCell ⟨g, x0 * 3, none⟩ (.int .i64 T[x0].k)).setCell ⟨g, x0 * 3 + 1, none⟩ (.int .i64 T[x0].n)).setCell ⟨g, x0 * 3 + 2, none⟩ (.string T[x0].s)).ownsRow w7.heap.size 24 3 (.slice (some ⟨g, 0, none⟩) un uc) un (cellsOf (over T (CS.take (k + 1)) U))) := by
        show World.ownsRow _ _ _ _ _ _ _; rw [hov]; exact own_set3 HO.out x0 hxu T[x0]
      have HMN : Hid (Mv bc w7 (((wr.setCell ⟨g, x0 * 3, none⟩ (.int .i64 T[x0].k)).setCell ⟨g, x0 * 3 + 1, none⟩ (.int .i64 T[x0].n)).setCell ⟨g, x0 * 3 + 2, none⟩ (.string T[x0].s))) := ((HX.out.setNew hgb _ _).setNew hgb _ _).setNew hgb _ _
      clear hcell htc hov hcc hx0
      generalize T[x0].k = vk at *
      generalize T[x0].n = vn at *
      generalize T[x0].s = vs at *
      have hxt2 : (x0 : Int) < tn := by omega
      have hxu2 : (x0 : Int) < un := by omega
      have d1 : decide ((tn : Int) ≤ x0) = false := by simp; omega
      have d2 : decide (tn ≤ x0) = false := by simp; omega
      clear HX HO
      go_wp2_with fail
      go_roundw
      case rel => exact ⟨k + 1, by omega, by go_num, HNEW, HMN⟩
      case measure => simp [intOf]; omega
    · have hkl : k = ln := by omega
      subst hkl
      have HTK : Hid (CS.take k = CS) := by show _ = _; rw [← HLN.out, List.take_length]
      rw [HTK.out] at HO
      go_upto_region 15 with fail
      have HTW : Hid (∀ W, Mv bc w7 W → RowAt W (.slice ta tn tc) T) := fun W hm => by
        have h := own_mv HTY.out hm (show bc < w6.heap.size by omega)
        rw [← HTN.out] at h ⊢
        exact own_rowAt h (by rw [HTL.out]; omega)
      have HUW : Hid (∀ W, Below wr.heap.size wr W → RowAt W (.slice ua un uc) (over T CS U)) := fun W hb => by
        have e : (over T CS U).length = un := by rw [over_len, HUN.out]
        have h := HO.out
        rw [← e] at h ⊢
        exact (own_rowAt h (by rw [e, ← HUN.out, HUL.out]; omega)).blw hb
      have HPW : Hid (∀ W, Mv bc w7 W → Pd W (.agg #[.int .i64 pop, .int .i64 pcmp, .int .i64 plk, .int .i64 pli, .int .i64 plvk, .int .i64 plvn, .string plvs, .int .i64 prk, .int .i64 pri, .int .i64 prvk, .int .i64 prvn, .string prvs, .slice pa pn pc]) (PT.mk pop pcmp ⟨plk, pli, ⟨plvk, plvn, plvs⟩⟩ ⟨prk, pri, ⟨prvk, prvn, prvs⟩⟩ ps)) := fun W hm => HPL.out W (HPY.out.trans hm)
      obtain ⟨y, hy⟩ : ∃ y, holdsP T [] (PT.mk pop pcmp ⟨plk, pli, ⟨plvk, plvn, plvs⟩⟩ ⟨prk, pri, ⟨prvk, prvn, prvs⟩⟩ ps) = y := ⟨_, rfl⟩
      have hy2 : holdsP (over T CS U) [] (PT.mk pop pcmp ⟨plk, pli, ⟨plvk, plvn, plvs⟩⟩ ⟨prk, pri, ⟨prvk, prvn, prvs⟩⟩ ps) = y := by
        rw [← hy]
        refine holds_cong _ _ _ _ fun x hx => ?_
        have hx2 := (HMEM.out x).2 hx
        exact over_at T CS U (fun z hz => by have := HFIT.out z hz; rw [HUL.out]; exact this) x (.inl hx2)
      have HH1 : Hid (∀ W, Below wr.heap.size wr W → Calls Try.prog 17 #[.agg #[.int .i64 pop, .int .i64 pcmp, .int .i64 plk, .int .i64 pli, .int .i64 plvk, .int .i64 plvn, .string plvs, .int .i64 prk, .int .i64 pri, .int .i64 prvk, .int .i64 prvn, .string prvs, .slice pa pn pc], .slice ta tn tc, .slice none 0 0] W fun e w' => e = .returned (.bool y) ∧ Below W.heap.size W w') := fun W hb => by
        have h := pHolds_any T [] _ (PT.mk pop pcmp ⟨plk, pli, ⟨plvk, plvn, plvs⟩⟩ ⟨prk, pri, ⟨prvk, prvn, prvs⟩⟩ ps) (Nat.le_refl _) (.agg #[.int .i64 pop, .int .i64 pcmp, .int .i64 plk, .int .i64 pli, .int .i64 plvk, .int .i64 plvn, .string plvs, .int .i64 prk, .int .i64 pri, .int .i64 prvk, .int .i64 prvn, .string prvs, .slice pa pn pc]) (.slice ta tn tc) (.slice none 0 0) W (HPW.out W (HX.out.trans (Mv.of_below hb))) (HTW.out W (HX.out.trans (Mv.of_below hb))) (rowAt_nil _)
        rw [hy] at h; exact h
      have HH2 : Hid (∀ W, Below wr.heap.size wr W → Calls Try.prog 17 #[.agg #[.int .i64 pop, .int .i64 pcmp, .int .i64 plk, .int .i64 pli, .int .i64 plvk, .int .i64 plvn, .string plvs, .int .i64 prk, .int .i64 pri, .int .i64 prvk, .int .i64 prvn, .string prvs, .slice pa pn pc], .slice ua un uc, .slice none 0 0] W fun e w' => e = .returned (.bool y) ∧ Below W.heap.size W w') := fun W hb => by
        have h := pHolds_any (over T CS U) [] _ (PT.mk pop pcmp ⟨plk, pli, ⟨plvk, plvn, plvs⟩⟩ ⟨prk, pri, ⟨prvk, prvn, prvs⟩⟩ ps) (Nat.le_refl _) (.agg #[.int .i64 pop, .int .i64 pcmp, .int .i64 plk, .int .i64 pli, .int .i64 plvk, .int .i64 plvn, .string plvs, .int .i64 prk, .int .i64 pri, .int .i64 prvk, .int .i64 prvn, .string prvs, .slice pa pn pc]) (.slice ua un uc) (.slice none 0 0) W (HPW.out W (HX.out.trans (Mv.of_below hb))) (HUW.out W hb) (rowAt_nil _)
        rw [hy2] at h; exact h
      have HK : Hid (∀ W, Below wr.heap.size wr W → W.cell? ⟨bp, 0, none⟩ = some (.int .i64 pop) ∧ W.cell? ⟨bp, 1, none⟩ = some (.int .i64 pcmp) ∧ W.cell? ⟨bp, 2, none⟩ = some (.int .i64 plk) ∧ W.cell? ⟨bp, 3, none⟩ = some (.int .i64 pli) ∧ W.cell? ⟨bp, 4, none⟩ = some (.int .i64 plvk) ∧ W.cell? ⟨bp, 5, none⟩ = some (.int .i64 plvn) ∧ W.cell? ⟨bp, 6, none⟩ = some (.string plvs) ∧ W.cell? ⟨bp, 7, none⟩ = some (.int .i64 prk) ∧ W.cell? ⟨bp, 8, none⟩ = some (.int .i64 pri) ∧ W.cell? ⟨bp, 9, none⟩ = some (.int .i64 prvk) ∧ W.cell? ⟨bp, 10, none⟩ = some (.int .i64 prvn) ∧ W.cell? ⟨bp, 11, none⟩ = some (.string prvs) ∧ W.cell? ⟨bp, 12, none⟩ = some (.slice pa pn pc)) := fun W hb => HBY.out.2 W (HX.out.trans (Mv.of_below hb))
      have BZZ : Hid (Below w.heap.size w wr) := HWA.out.trans ((B1.out.trans ((HPX.out.trans HX.out).below (B := wa.heap.size) (by omega) (by omega))).mono (by omega))
      clear hy hy2 HX HO HTK HTW HUW HPW HTY HLY HPY HBY HPL HFIT HMEM
      refine wp_region_held_drew (S := fun W => W.cell? ⟨bp, 0, none⟩ = some (.int .i64 pop) ∧ W.cell? ⟨bp, 1, none⟩ = some (.int .i64 pcmp) ∧ W.cell? ⟨bp, 2, none⟩ = some (.int .i64 plk) ∧ W.cell? ⟨bp, 3, none⟩ = some (.int .i64 pli) ∧ W.cell? ⟨bp, 4, none⟩ = some (.int .i64 plvk) ∧ W.cell? ⟨bp, 5, none⟩ = some (.int .i64 plvn) ∧ W.cell? ⟨bp, 6, none⟩ = some (.string plvs) ∧ W.cell? ⟨bp, 7, none⟩ = some (.int .i64 prk) ∧ W.cell? ⟨bp, 8, none⟩ = some (.int .i64 pri) ∧ W.cell? ⟨bp, 9, none⟩ = some (.int .i64 prvk) ∧ W.cell? ⟨bp, 10, none⟩ = some (.int .i64 prvn) ∧ W.cell? ⟨bp, 11, none⟩ = some (.string prvs) ∧ W.cell? ⟨bp, 12, none⟩ = some (.slice pa pn pc)) (by kernel_rfl) (HK.out _ (Below.refl _ _).drew) (fun hHeld => ?_)
      obtain ⟨wd, hwd⟩ : ∃ wd, wr.drew = wd := ⟨_, rfl⟩
      have BW : Hid (Below wr.heap.size wr wd) := by rw [← hwd]; exact (Below.refl _ _).drew
      rw [hwd] at hHeld ⊢
      clear hwd
      refine wpAnyH_ready (rs := [0]) (by kernel_rfl) (by simp) ?_
      refine AllReadyH.cons rfl (fun K hK => ?_) AllReadyH.nil
      go_simp
      go_at_call 16
      refine (HB.out _).mono ?_
      rintro e w_0 ⟨rfl, hg⟩
      clear hHeld
      replace BW := Lib.hid (below_go BW.out hg)
      clear hg
      refine hK.out _ _ (HK.out _ BW.out) (fun hHeld => ?_)
      clear hK K
      (try simp only [List.set_cons_zero, List.set_cons_succ])
      refine wpAnyH_takeD (i := 1) (d := 60) (v := ?_) rfl rfl (by kernel_rfl) (by kernel_rfl) (by kernel_rfl) (fun _ _ _ h => h) (Or.inl ⟨by rfl, ?_⟩) (by assumption) ?_; rotate_left
      · intro W hSw; (try dsimp only at hSw); go_simp; (try with_reducible rfl)
      (try simp only [List.set_cons_zero, List.set_cons_succ])
      refine wpAnyH_takeD (i := 2) (d := 61) (v := ?_) rfl rfl (by kernel_rfl) (by kernel_rfl) (by kernel_rfl) (fun _ _ _ h => h) (Or.inl ⟨by rfl, ?_⟩) (by assumption) ?_; rotate_left
      · intro W hSw; (try dsimp only at hSw); go_simp; (try with_reducible rfl)
      (try simp only [List.set_cons_zero, List.set_cons_succ])
      refine wpAnyH_takeD (i := 3) (d := 62) (v := ?_) rfl rfl (by kernel_rfl) (by kernel_rfl) (by kernel_rfl) (fun _ _ _ h => h) (Or.inl ⟨by rfl, ?_⟩) (by assumption) ?_; rotate_left
      · intro W hSw; (try dsimp only at hSw); go_simp; (try with_reducible rfl)
      (try simp only [List.set_cons_zero, List.set_cons_succ])
      refine wpAnyH_takeD (i := 5) (d := 64) (v := ?_) rfl rfl (by kernel_rfl) (by kernel_rfl) (by kernel_rfl) (fun _ _ _ h => h) (Or.inl ⟨by rfl, ?_⟩) (by assumption) ?_; rotate_left
      · intro W hSw; (try dsimp only at hSw); go_simp; (try with_reducible rfl)
      (try simp only [List.set_cons_zero, List.set_cons_succ])
      refine wpAnyH_takeD (i := 6) (d := 65) (v := ?_) rfl rfl (by kernel_rfl) (by kernel_rfl) (by kernel_rfl) (fun _ _ _ h => h) (Or.inl ⟨by rfl, ?_⟩) (by assumption) ?_; rotate_left
      · intro W hSw; (try dsimp only at hSw); go_simp; (try with_reducible rfl)
      (try simp only [List.set_cons_zero, List.set_cons_succ])
      refine wpAnyH_ready (rs := [4]) (by kernel_rfl) (by simp) ?_
      refine AllReadyH.cons rfl (fun K hK => ?_) AllReadyH.nil
      go_simp
      go_at_call 17
      refine (HH1.out _ BW.out).mono ?_
      rintro e w_4 ⟨rfl, hg⟩
      clear hHeld
      replace BW := Lib.hid (below_go BW.out hg)
      clear hg
      refine hK.out _ _ (HK.out _ BW.out) (fun hHeld => ?_)
      clear hK K
      (try simp only [List.set_cons_zero, List.set_cons_succ])
      refine wpAnyH_ready (rs := [7]) (by kernel_rfl) (by simp) ?_
      refine AllReadyH.cons rfl (fun K hK => ?_) AllReadyH.nil
      go_simp
      go_at_call 17
      refine (HH2.out _ BW.out).mono ?_
      rintro e w_7 ⟨rfl, hg⟩
      clear hHeld
      replace BW := Lib.hid (below_go BW.out hg)
      clear hg
      refine hK.out _ _ (HK.out _ BW.out) (fun hHeld => ?_)
      clear hK K
      (try simp only [List.set_cons_zero, List.set_cons_succ])
      refine wpAnyH_takeD (i := 8) (d := 67) (v := ?_) rfl rfl (by kernel_rfl) (by kernel_rfl) (by kernel_rfl) (fun _ _ _ h => h) (Or.inl ⟨by rfl, ?_⟩) (by assumption) ?_; rotate_left
      · intro W hSw; (try dsimp only at hSw); go_simp; (try with_reducible rfl)
      (try simp only [List.set_cons_zero, List.set_cons_succ])
      refine wpAnyH_takeD (i := 9) (d := 68) (v := ?_) rfl rfl (by kernel_rfl) (by kernel_rfl) (by kernel_rfl) (fun _ _ _ h => h) (Or.inl ⟨by rfl, ?_⟩) (by assumption) ?_; rotate_left
      · intro W hSw; (try dsimp only at hSw); go_simp; (try with_reducible rfl)
      (try simp only [List.set_cons_zero, List.set_cons_succ])
      refine wpAnyH_takeD (i := 10) (d := 4) (v := ?_) rfl rfl (by kernel_rfl) (by kernel_rfl) (by kernel_rfl) (fun _ _ _ h => h) (Or.inl ⟨by rfl, ?_⟩) (by assumption) ?_; rotate_left
      · intro W hSw; (try dsimp only at hSw); go_simp; (try with_reducible rfl)
      (try simp only [List.set_cons_zero, List.set_cons_succ])
      clear hHeld
      refine wpAnyH_done (by kernel_rfl) ?_ _
      go_wp2_with fail
      go_ret
      exact ⟨rfl, BZZ.out.trans (BW.out.mono BZZ.out.size)⟩
end Go.Proofs.Ytjkjmkplcjfogaa
