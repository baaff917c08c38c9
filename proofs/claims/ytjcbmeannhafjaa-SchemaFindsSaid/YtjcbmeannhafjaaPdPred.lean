
/- Predicate of a case, given its trees. -/
import Derived.Test.YtjcbmeannhafjaaPdTreeAt

import Derived.Test.YtjcbmeannhafjaaPdRefValid

import Derived.Test.YtjcbmeannhafjaaPdTreeNe

import Derived.Test.YtjcbmeannhafjaaPdTreeE

namespace Go.Proofs.Ytjcbmeannhafjaa

open Go.RowKit Go.Deep

/-- What Predicate hands back. -/
def PredPost (bc B : Nat) (C Q : List Int) (w : World) (e : Ending) (w' : World) : Prop :=
  ∃ (p : PT) (a : Option Addr) (c : Nat), e = .returned (pdV p a c) ∧ PdS (fun b => w.heap.size < b) w' p.args a c ∧ vldP C Q p = true ∧ smallP p = true ∧ Mv bc w w' ∧ CaseOk bc B w'

set_option linter.unusedSimpArgs false in
set_option maxRecDepth 100000 in
set_option maxHeartbeats 4000000 in
theorem cPredicate_of (bc B lo : Nat) (C Q : List Int) (HTA : ∀ deep : Nat, deep ≤ 3 → TreeAt bc B lo C Q deep) (cv qv : Value) (deep : Nat) (w : World) (h : CaseOk bc B w) (hdeep : deep ≤ 3) (hkc : okKs C = true) (hkq : okKs Q = true) (hcv : IntsG lo w cv C) (hqv : IntsG lo w qv Q) (hlo : bc < lo) : Calls Try.prog 32 #[.pointer (some ⟨bc, 0, none⟩), cv, qv, .int .i64 deep] w (PredPost bc B C Q w) := by
  have hbl := h.lt
  obtain ⟨wq, hwq⟩ : ∃ wq, w.alloc (.cells #[.int .i64 0, .int .i64 0, .int .i64 0, .int .i64 0, .int .i64 0, .int .i64 0, .string ⟨#[]⟩, .int .i64 0, .int .i64 0, .int .i64 0, .int .i64 0, .string ⟨#[]⟩, .slice none 0 0] 77) = wq := ⟨_, rfl⟩
  have hbq : Below w.heap.size w wq := by rw [← hwq]; exact (Below.refl _ _).alloc (Nat.le_refl _) _
  have hrb : RBx wq w.heap.size := by
    subst hwq
    exact ⟨by go_simp, by go_simp, by go_simp, by go_simp, by go_simp, by go_simp, by go_simp, by go_simp, by go_simp, by go_simp, by go_simp, by go_simp, by go_simp, fun j => by go_simp⟩
  have hzq : wq.heap.size = w.heap.size + 1 := by rw [← hwq]; simp
  have MW : Hid (Mv bc w wq) := Mv.of_below hbq
  have HRB : Hid (∀ W, Mv bc wq W → RBx W w.heap.size) := fun W hm => hrb.same (hm.block _ (by omega) (by omega))
  have HTR : Hid (TreeAt bc B lo C Q deep) := HTA deep hdeep
  have HTR1 : Hid (TreeAt bc B lo C Q 1) := HTA 1 (by omega)
  have HT1 := Lib.hid (HTR.out cv qv wq (h.below hbq hbl.2) (hcv.below hbq) (hqv.below hbq))
  have HC0 : Hid (∀ (p : PT) v W, IntsAt W cv C → IntsAt W qv Q → Pd W v p → Calls Try.prog 41 #[cv, qv, v] W fun e w' => e = .returned (.int .i64 (checkP C Q p)) ∧ Below W.heap.size W w') := fun p v W h1 h2 h3 => rCheck_any C Q cv qv p v W h1 h2 h3
  have HCQ : Hid (IntsG lo wq cv C) := hcv.below hbq
  have HQQ : Hid (IntsG lo wq qv Q) := hqv.below hbq
  have HKK : Hid (okKs C = true ∧ okKs Q = true) := ⟨hkc, hkq⟩
  clear hcv hqv h hkc hkq hbq hrb HTR
  go_enter Try.func32, Try.ntmps32
  go_wp2_with fail
  refine HT1.out.mono ?_
  rintro e w2 ⟨p, pa, pc, rfl, hps, hvl, hdp, hnd, hm2, ho2⟩
  have M2 := Lib.hid hm2
  have O2 := Lib.hid ho2
  have HPS := Lib.hid hps
  have HVL := Lib.hid hvl
  have HDP := Lib.hid hdp
  have hsq : wq.heap.size ≤ w2.heap.size := hm2.size
  clear hps hvl hdp hnd hm2 ho2 HT1
  obtain ⟨po, pcm, ⟨lk, li, ⟨lvk, lvn, lvs⟩⟩, ⟨rk, ri, ⟨rvk, rvn, rvs⟩⟩, ps⟩ := p
  simp only [pdV, PT.op, PT.cmp, PT.l, PT.r, PT.args]
  obtain ⟨xn, hxn⟩ : ∃ xn, ps.length = xn := ⟨_, rfl⟩
  have HXN := Lib.hid hxn
  rw [hxn]
  clear hxn
  have hckc : (smallP (.mk po pcm ⟨lk, li, ⟨lvk, lvn, lvs⟩⟩ ⟨rk, ri, ⟨rvk, rvn, rvs⟩⟩ ps) = true ∧ checkP C Q (.mk po pcm ⟨lk, li, ⟨lvk, lvn, lvs⟩⟩ ⟨rk, ri, ⟨rvk, rvn, rvs⟩⟩ ps) = 0) ∨ (smallP (.mk po pcm ⟨lk, li, ⟨lvk, lvn, lvs⟩⟩ ⟨rk, ri, ⟨rvk, rvn, rvs⟩⟩ ps) = false ∧ checkP C Q (.mk po pcm ⟨lk, li, ⟨lvk, lvn, lvs⟩⟩ ⟨rk, ri, ⟨rvk, rvn, rvs⟩⟩ ps) = 2) := by
    unfold checkP
    rw [HKK.out.1, HKK.out.2, HVL.out]
    cases smallP (.mk po pcm ⟨lk, li, ⟨lvk, lvn, lvs⟩⟩ ⟨rk, ri, ⟨rvk, rvn, rvs⟩⟩ ps) <;> simp
  have HCKC := Lib.hid hckc
  clear hckc
  go_wp2_with fail
  have HXC := Lib.hid (HC0.out (.mk po pcm ⟨lk, li, ⟨lvk, lvn, lvs⟩⟩ ⟨rk, ri, ⟨rvk, rvn, rvs⟩⟩ ps) (.agg #[.int .i64 po, .int .i64 pcm, .int .i64 lk, .int .i64 li, .int .i64 lvk, .int .i64 lvn, .string lvs, .int .i64 rk, .int .i64 ri, .int .i64 rvk, .int .i64 rvn, .string rvs, .slice pa xn pc]) (w2.alloc (.cells #[.int .i64 po, .int .i64 pcm, .int .i64 lk, .int .i64 li, .int .i64 lvk, .int .i64 lvn, .string lvs, .int .i64 rk, .int .i64 ri, .int .i64 rvk, .int .i64 rvn, .string rvs, .slice pa xn pc] 77)) ((HCQ.out.mv (M2.out.alloc _) hlo).at) ((HQQ.out.mv (M2.out.alloc _) hlo).at) ⟨pa, pc, by rw [← HXN.out]; rfl, (HPS.out.weak (fun _ _ => trivial)).below ((Below.refl _ _).alloc (Nat.le_refl _) _)⟩)
  refine HXC.out.mono ?_
  rintro e w3 ⟨rfl, hb3⟩
  have hszp : w.heap.size < w2.heap.size := by omega
  obtain ⟨pb, hpb⟩ : ∃ pb, w2.heap.size = pb := ⟨_, rfl⟩
  have M3 : Hid (Mv bc wq w3) := (M2.out.alloc _).trans (Mv.of_below hb3)
  have O3 : Hid (CaseOk bc B w3) := (O2.out.alloc _).below hb3 (by have := (O2.out.alloc (.cells #[.int .i64 po, .int .i64 pcm, .int .i64 lk, .int .i64 li, .int .i64 lvk, .int .i64 lvn, .string lvs, .int .i64 rk, .int .i64 ri, .int .i64 rvk, .int .i64 rvn, .string rvs, .slice pa xn pc] 77)).lt; omega)
  have HP3 : Hid (PdS (fun b => wq.heap.size < b) w3 ps pa pc) := (HPS.out.below ((Below.refl _ _).alloc (Nat.le_refl _) _)).below hb3
  have kf : ∀ j v, (w2.alloc (.cells #[.int .i64 po, .int .i64 pcm, .int .i64 lk, .int .i64 li, .int .i64 lvk, .int .i64 lvn, .string lvs, .int .i64 rk, .int .i64 ri, .int .i64 rvk, .int .i64 rvn, .string rvs, .slice pa xn pc] 77)).cell? ⟨w2.heap.size, j, none⟩ = some v → w3.cell? ⟨pb, j, none⟩ = some v := fun j v h => by
    rw [← hpb]
    exact (hb3.cell (p := ⟨w2.heap.size, j, none⟩) (show w2.heap.size < _ by simp)).trans h
  have k0 : w3.cell? ⟨pb, 0, none⟩ = some (.int .i64 po) := kf 0 _ (by go_simp)
  have k1 : w3.cell? ⟨pb, 1, none⟩ = some (.int .i64 pcm) := kf 1 _ (by go_simp)
  have k2 : w3.cell? ⟨pb, 2, none⟩ = some (.int .i64 lk) := kf 2 _ (by go_simp)
  have k3 : w3.cell? ⟨pb, 3, none⟩ = some (.int .i64 li) := kf 3 _ (by go_simp)
  have k4 : w3.cell? ⟨pb, 4, none⟩ = some (.int .i64 lvk) := kf 4 _ (by go_simp)
  have k5 : w3.cell? ⟨pb, 5, none⟩ = some (.int .i64 lvn) := kf 5 _ (by go_simp)
  have k6 : w3.cell? ⟨pb, 6, none⟩ = some (.string lvs) := kf 6 _ (by go_simp)
  have k7 : w3.cell? ⟨pb, 7, none⟩ = some (.int .i64 rk) := kf 7 _ (by go_simp)
  have k8 : w3.cell? ⟨pb, 8, none⟩ = some (.int .i64 ri) := kf 8 _ (by go_simp)
  have k9 : w3.cell? ⟨pb, 9, none⟩ = some (.int .i64 rvk) := kf 9 _ (by go_simp)
  have k10 : w3.cell? ⟨pb, 10, none⟩ = some (.int .i64 rvn) := kf 10 _ (by go_simp)
  have k11 : w3.cell? ⟨pb, 11, none⟩ = some (.string rvs) := kf 11 _ (by go_simp)
  have k12 : w3.cell? ⟨pb, 12, none⟩ = some (.slice pa xn pc) := kf 12 _ (by go_simp)
  have zp : pb < w3.heap.size := by have := hb3.size; simp at this; omega
  rw [hpb]
  have hrp : w.heap.size < pb := by omega
  have hnr : ¬ (w.heap.size = pb) := by omega
  have hnr2 : ¬ (pb = w.heap.size) := by omega
  have zr : w.heap.size < w3.heap.size := by omega
  clear kf hb3 HXC HC0 HPS O2 M2 hszp hpb hsq
  rcases HCKC.out with ⟨hsm, hck⟩ | ⟨hsm, hck⟩
  · have HSM := Lib.hid hsm
    rw [hck]
    clear hck hsm HTR1 HCKC HCQ HQQ
    obtain ⟨q0, q1, q2, q3, q4, q5, q6, q7, q8, q9, q10, q11, q12, qf⟩ := HRB.out w3 M3.out
    go_wp2_with fail
    refine bodyPost_ret (v := .agg #[.int .i64 po, .int .i64 pcm, .int .i64 lk, .int .i64 li, .int .i64 lvk, .int .i64 lvn, .string lvs, .int .i64 rk, .int .i64 ri, .int .i64 rvk, .int .i64 rvn, .string rvs, .slice pa xn pc]) ?_ rfl ?_
    · simp [results, Try.results32, go_sem, q0, q1, q2, q3, q4, q5, q6, q7, q8, q9, q10, q11, q12]
    · exact ⟨(.mk po pcm ⟨lk, li, ⟨lvk, lvn, lvs⟩⟩ ⟨rk, ri, ⟨rvk, rvn, rvs⟩⟩ ps), pa, pc, by rw [← HXN.out]; rfl, (HP3.out.weak (Q := fun b => w.heap.size < b) (fun b hb => by omega)).keep (by rw [set13_size]; exact Nat.le_refl _) (fun b hb _ => set13_block _ _ _ _ _ _ _ _ _ _ _ _ _ _ _ _ (by omega)), HVL.out, HSM.out, (MW.out.trans M3.out).set13 (Nat.le_refl _) _ _ _ _ _ _ _ _ _ _ _ _ _, O3.out.set13 hbl.2 _ _ _ _ _ _ _ _ _ _ _ _ _⟩
  · rw [hck]
    have HT2 := Lib.hid (HTR1.out cv qv w3 O3.out (HCQ.out.mv M3.out hlo) (HQQ.out.mv M3.out hlo))
    have hs3 : wq.heap.size ≤ w3.heap.size := M3.out.size
    clear hck hsm HTR1 HCKC HCQ HQQ k0 k1 k2 k3 k4 k5 k6 k7 k8 k9 k10 k11 k12 HVL HXN HP3
    go_wp2_with fail
    refine HT2.out.mono ?_
    rintro e w4 ⟨⟨yo, yc, ⟨ylk, yli, ⟨ylvk, ylvn, ylvs⟩⟩, ⟨yrk, yri, ⟨yrvk, yrvn, yrvs⟩⟩, ys⟩, ya, yp, rfl, hps, hvl, hdp, hnd, hm4, ho4⟩
    have M4 : Hid (Mv bc wq w4) := M3.out.trans hm4
    have O4 := Lib.hid ho4
    have HP4 : Hid (PdS (fun b => w3.heap.size < b) w4 ys ya yp) := hps
    have HVL := Lib.hid hvl
    have HSM : Hid (smallP (.mk yo yc ⟨ylk, yli, ⟨ylvk, ylvn, ylvs⟩⟩ ⟨yrk, yri, ⟨yrvk, yrvn, yrvs⟩⟩ ys) = true) := by
      show smallP _ = true
      unfold smallP
      have e4 : ndB 1 = 4 := rfl
      rw [e4] at hnd
      simp; omega
    obtain ⟨q0, q1, q2, q3, q4, q5, q6, q7, q8, q9, q10, q11, q12, qf⟩ := HRB.out w4 M4.out
    have zr4 : w.heap.size < w4.heap.size := by have := hm4.size; omega
    simp only [pdV, PT.op, PT.cmp, PT.l, PT.r, PT.args]
    obtain ⟨yn, hyn⟩ : ∃ yn, ys.length = yn := ⟨_, rfl⟩
    have HYN := Lib.hid hyn
    rw [hyn]
    clear hps hvl hdp hnd hm4 ho4 hyn HT2
    go_wp2_with fail
    refine bodyPost_ret (v := .agg #[.int .i64 yo, .int .i64 yc, .int .i64 ylk, .int .i64 yli, .int .i64 ylvk, .int .i64 ylvn, .string ylvs, .int .i64 yrk, .int .i64 yri, .int .i64 yrvk, .int .i64 yrvn, .string yrvs, .slice ya yn yp]) ?_ rfl ?_
    · simp [results, Try.results32, go_sem, q0, q1, q2, q3, q4, q5, q6, q7, q8, q9, q10, q11, q12]
    · exact ⟨(.mk yo yc ⟨ylk, yli, ⟨ylvk, ylvn, ylvs⟩⟩ ⟨yrk, yri, ⟨yrvk, yrvn, yrvs⟩⟩ ys), ya, yp, by rw [← HYN.out]; rfl, (HP4.out.weak (Q := fun b => w.heap.size < b) (fun b hb => by omega)).keep (by rw [set13_size]; exact Nat.le_refl _) (fun b hb _ => set13_block _ _ _ _ _ _ _ _ _ _ _ _ _ _ _ _ (by omega)), HVL.out, HSM.out, (MW.out.trans M4.out).set13 (Nat.le_refl _) _ _ _ _ _ _ _ _ _ _ _ _ _, O4.out.set13 hbl.2 _ _ _ _ _ _ _ _ _ _ _ _ _⟩
end Go.Proofs.Ytjcbmeannhafjaa

/- Trees and predicates of a case. -/
namespace Go.Proofs.Ytjcbmeannhafjaa

open Go.RowKit Go.Deep

theorem cTree_any (bc B lo : Nat) (C Q : List Int) (hkc : okKs C = true) (hcl : C.length ≤ 5) (hql : Q.length ≤ 5) (hlo : bc < lo) : ∀ deep : Nat, deep ≤ 3 → TreeAt bc B lo C Q deep
  | 0, hd => fun cv qv w h hcv hqv => by
    by_cases hC : 0 < C.length
    · exact cTreeS_ne bc B lo C Q cv qv 0 w h hd hkc hcl hql hcv hqv hlo hC (fun d e => by omega)
    · exact cTreeS_e bc B lo C Q cv qv 0 w h hd hkc hcl hql hcv hqv hlo (by omega) (fun d e => by omega)
  | n + 1, hd => fun cv qv w h hcv hqv => by
    have IH := cTree_any bc B lo C Q hkc hcl hql hlo n (by omega)
    by_cases hC : 0 < C.length
    · exact cTreeS_ne bc B lo C Q cv qv (n + 1) w h hd hkc hcl hql hcv hqv hlo hC (fun d e => (show n = d by omega) ▸ IH)
    · exact cTreeS_e bc B lo C Q cv qv (n + 1) w h hd hkc hcl hql hcv hqv hlo (by omega) (fun d e => (show n = d by omega) ▸ IH)

theorem cPredicate_any (bc B lo : Nat) (C Q : List Int) (cv qv : Value) (deep : Nat) (w : World) (h : CaseOk bc B w) (hdeep : deep ≤ 3) (hkc : okKs C = true) (hkq : okKs Q = true) (hcl : C.length ≤ 5) (hql : Q.length ≤ 5) (hcv : IntsG lo w cv C) (hqv : IntsG lo w qv Q) (hlo : bc < lo) : Calls Try.prog 32 #[.pointer (some ⟨bc, 0, none⟩), cv, qv, .int .i64 deep] w (PredPost bc B C Q w) :=
  cPredicate_of bc B lo C Q (fun d hd => cTree_any bc B lo C Q hkc hcl hql hlo d hd) cv qv deep w h hdeep hkc hkq hcv hqv hlo
end Go.Proofs.Ytjcbmeannhafjaa
