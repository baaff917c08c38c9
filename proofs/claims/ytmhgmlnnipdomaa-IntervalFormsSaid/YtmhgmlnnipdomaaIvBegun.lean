
/- Law 3's begun. -/
import Derived.Test.YtmhgmlnnipdomaaIvOps

namespace Go.Proofs.Ytmhgmlnnipdomaa

open Go.RowKit Go.Deep

def nV (n : Int) : V := ⟨4, n, ⟨#[]⟩⟩
theorem okV_nV (n : Int) : okV (nV n) = true := by unfold okV nV vldB; simp; rfl
theorem cmp_nV (a b : Int) : cmpV (nV a) (nV b) = cmpI a b := by
  unfold cmpV nV
  by_cases h : a = b
  · subst h; simp [cmpI]; unfold cmpS; exact (cmpL_zero _ _).2 rfl
  · simp [h]
theorem cmp_nV_lt {a b : Int} : cmpV (nV a) (nV b) < 0 ↔ a < b := by rw [cmp_nV]; unfold cmpI; split <;> (try split) <;> omega
theorem cmp_nV_le {a b : Int} : cmpV (nV a) (nV b) ≤ 0 ↔ a ≤ b := by rw [cmp_nV]; exact cmpI_le a b
/-- Two intervals that touch. -/
theorem isOp_touch {f m t : V} (hf : okV f = true) (ht : okV t = true) (h1 : cmpV f m < 0) (h2 : cmpV m t < 0) : IsOp kOr [⟨f, m, false⟩] [⟨m, t, false⟩] [⟨f, t, false⟩] := by
  have h3 := cmpV_lt_lt h1 h2
  refine ⟨⟨fun x hx => ?_, by simp⟩, fun v _ => ?_⟩
  · simp only [List.mem_singleton] at hx
    subst hx
    simp [okI, hf, ht, h3]
  · show (inI ⟨f, t, false⟩ v || false) = ((inI ⟨f, m, false⟩ v || false) || (inI ⟨m, t, false⟩ v || false))
    rw [Bool.or_false, Bool.or_false, Bool.or_false]
    by_cases hv : cmpV v m < 0
    · have a1 : ¬ cmpV m v ≤ 0 := cmpV_nle.2 hv
      have a2 := cmpV_lt_lt hv h2
      simp [inI, hv, a1, a2]
    · have a1 := cmpV_nlt.1 hv
      have a2 : cmpV f v ≤ 0 := by have := cmpV_lt_le h1 a1; omega
      simp [inI, hv, a1, a2]
theorem begun_math : IsOp kOr [⟨nV 1, nV 3, false⟩] [⟨nV 3, nV 5, false⟩] [⟨nV 1, nV 5, false⟩] :=
  isOp_touch (okV_nV _) (okV_nV _) (cmp_nV_lt.2 (by omega)) (cmp_nV_lt.2 (by omega))
theorem vldL_one {x : IV} (h : okI x = true) : vldL [x] = true := vldL_iff.2 ⟨by simp, fun y hy => by simp only [List.mem_singleton] at hy; subst hy; exact h, by simp⟩
theorem okI_nV {a b : Int} (h : a < b) : okI ⟨nV a, nV b, false⟩ = true := by
  have h1 := cmp_nV_lt.2 h
  simp [okI, okV_nV, h1]
theorem begun_res {L : List IV} {er : Int} (h : Res kOr [⟨nV 1, nV 3, false⟩] [⟨nV 3, nV 5, false⟩] L er) : L = [⟨nV 1, nV 5, false⟩] ∧ er = 0 := by
  refine h.uniq (.inr ⟨?_, _, begun_math, by simp, .inl ⟨by simp, rfl, rfl⟩⟩)
  rw [vldL_one (okI_nV (by omega)), vldL_one (okI_nV (by omega))]; rfl
theorem begun_has : hasB [⟨nV 1, nV 5, false⟩] (nV 3) = true := by
  have h1 := cmp_nV_le (a := 1) (b := 3)
  have h2 := cmp_nV_lt (a := 3) (b := 5)
  simp [hasB, okV_nV, vldL_one (okI_nV (a := 1) (b := 5) (by omega)), inL, inI, h1, h2]

set_option linter.unusedSimpArgs false in
set_option maxHeartbeats 400000 in
theorem num_any (n : Int) (w : World) : Calls Try.prog 51 #[.int .i64 n] w fun e w' => e = .returned (.agg #[.int .i64 4, .int .i64 n, .string ⟨#[]⟩]) ∧ Below w.heap.size w w' := by
  go_enter Try.func51, Try.ntmps51
  go_wp2_with fail
  refine bodyPost_ret (v := .agg #[.int .i64 4, .int .i64 n, .string ⟨#[]⟩]) (by simp [results, Try.results51, go_sem, *]) rfl ?_
  exact ⟨rfl, by (repeat (first | exact Below.refl _ _ | assumption | refine Below.drew ?_ | refine Below.setCell ?_ (by first | omega | (simp only [World.size_alloc]; omega) | (simp; try omega)) _ | refine Below.alloc ?_ (by first | omega | (simp only [World.size_alloc]; omega) | (simp; try omega)) _))⟩

set_option maxRecDepth 100000 in
set_option maxHeartbeats 4000000 in
theorem begun3_any (w : World) : Calls Try.prog 18 #[] w fun e w' => e = .returned (.bool true) ∧ Below w.heap.size w w' := by
  have HN1 := Lib.hid (num_any 1)
  have HN3 := Lib.hid (num_any 3)
  have HN5 := Lib.hid (num_any 5)
  have HB1 : Hid (∀ W, Calls Try.prog 50 #[.agg #[.int .i64 4, .int .i64 1, .string ⟨#[]⟩], .agg #[.int .i64 4, .int .i64 3, .string ⟨#[]⟩]] W (IvOut2 W [⟨nV 1, nV 3, false⟩] 0)) := fun W => by
    have h := iBetween_any 4 1 ⟨#[]⟩ 4 3 ⟨#[]⟩ W
    have e1 : vldB 4 1 ⟨#[]⟩ = true := okV_nV 1
    have e2 : vldB 4 3 ⟨#[]⟩ = true := okV_nV 3
    have e3 : cmpV ⟨4, 1, ⟨#[]⟩⟩ ⟨4, 3, ⟨#[]⟩⟩ < 0 := cmp_nV_lt.2 (by omega)
    simp only [e1, e2, e3, Bool.and_self, if_true] at h
    exact h
  have HB2 : Hid (∀ W, Calls Try.prog 50 #[.agg #[.int .i64 4, .int .i64 3, .string ⟨#[]⟩], .agg #[.int .i64 4, .int .i64 5, .string ⟨#[]⟩]] W (IvOut2 W [⟨nV 3, nV 5, false⟩] 0)) := fun W => by
    have h := iBetween_any 4 3 ⟨#[]⟩ 4 5 ⟨#[]⟩ W
    have e1 : vldB 4 3 ⟨#[]⟩ = true := okV_nV 3
    have e2 : vldB 4 5 ⟨#[]⟩ = true := okV_nV 5
    have e3 : cmpV ⟨4, 3, ⟨#[]⟩⟩ ⟨4, 5, ⟨#[]⟩⟩ < 0 := cmp_nV_lt.2 (by omega)
    simp only [e1, e2, e3, Bool.and_self, if_true] at h
    exact h
  have HU : Hid (∀ va vb W, Ivs W va [⟨nV 1, nV 3, false⟩] → Ivs W vb [⟨nV 3, nV 5, false⟩] → Calls Try.prog 22 #[va, vb] W (IvOut2 W [⟨nV 1, nV 5, false⟩] 0)) := fun va vb W h1 h2 =>
    (iUnion_any va vb _ _ W h1 h2).mono fun e w' h => by
      obtain ⟨v, L, er, he, hv, hr, hb⟩ := h
      obtain ⟨rfl, rfl⟩ := begun_res hr
      exact ⟨v, he, hv, hb⟩
  have HA : Hid (∀ W, Calls Try.prog 33 #[] W fun e w' => ∃ a c, e = .returned (.slice a 1 c) ∧ Below W.heap.size W w') := fun W => (iAll_any W).mono fun e w' h => by
    obtain ⟨v, he, hv, hb⟩ := h
    obtain ⟨a, c, rfl⟩ := hv.shape
    exact ⟨a, c, he, hb⟩
  go_enter Try.func18, Try.ntmps18
  go_wp2_with fail
  refine (HN1.out _).mono ?_
  rintro e w1 ⟨rfl, hb1⟩
  go_wp2_with fail
  refine (HN3.out _).mono ?_
  rintro e w2 ⟨rfl, hb2⟩
  go_wp2_with fail
  refine (HB1.out _).mono ?_
  rintro e w3 ⟨va, rfl, hva, hb3⟩
  have BW3 : Below w.heap.size w w3 := hb1.trans ((hb2.mono hb1.size).trans (hb3.mono (Nat.le_trans hb1.size hb2.size)))
  clear hb1 hb2 hb3
  obtain ⟨aa, ac, hA1⟩ := hva.shape
  simp only [List.length_singleton] at hA1
  subst hA1
  have HVA := Lib.hid hva
  clear hva
  go_wp2_with fail
  refine (HN3.out _).mono ?_
  rintro e w4 ⟨rfl, hb4⟩
  go_wp2_with fail
  refine (HN5.out _).mono ?_
  rintro e w5 ⟨rfl, hb5⟩
  go_wp2_with fail
  refine (HB2.out _).mono ?_
  rintro e w6 ⟨vb, rfl, hvb, hb6⟩
  have b36 : Below w3.heap.size w3 w6 := hb4.trans ((hb5.mono hb4.size).trans (hb6.mono (Nat.le_trans hb4.size hb5.size)))
  have BW6 : Below w.heap.size w w6 := BW3.trans (b36.mono BW3.size)
  have hva6 := HVA.out.below b36
  clear hb4 hb5 hb6 BW3 b36 HVA
  obtain ⟨ba, bc, hB1⟩ := hvb.shape
  simp only [List.length_singleton] at hB1
  subst hB1
  have HU6 := Lib.hid (HU.out _ _ w6 hva6.all hvb.all)
  clear HU hva6 hvb
  go_wp2_with fail
  refine HU6.out.mono ?_
  rintro e w7 ⟨vc, rfl, hvc, hb7⟩
  have BW7 : Hid (Below w.heap.size w w7) := BW6.trans (hb7.mono BW6.size)
  have HVC := hvc.all
  have HVL : Hid (∀ W, Below w7.heap.size w7 W → Calls Try.prog 11 #[vc] W fun e w' => e = .returned (.bool true) ∧ Below W.heap.size W w') := fun W hb => by
    have h := iValid_any vc _ W (HVC.below hb)
    have e : (decide (([⟨nV 1, nV 5, false⟩] : List IV).length ≤ 64) && ordL [⟨nV 1, nV 5, false⟩]) = true := vldL_one (okI_nV (by omega))
    rw [e] at h
    exact h
  have HHS : Hid (∀ W, Below w7.heap.size w7 W → Calls Try.prog 16 #[vc, .agg #[.int .i64 4, .int .i64 3, .string ⟨#[]⟩]] W fun e w' => e = .returned (.bool true) ∧ Below W.heap.size W w') := fun W hb => by
    have h := iHas_any vc _ 4 3 ⟨#[]⟩ W (HVC.below hb)
    rw [show hasB [⟨nV 1, nV 5, false⟩] ⟨4, 3, ⟨#[]⟩⟩ = true from begun_has] at h
    exact h
  obtain ⟨ca, cc, hC1, _, _, _, _, hci⟩ := hvc
  simp only [List.length_singleton] at hC1
  subst hC1
  obtain ⟨b, off, rfl, -, zc, hcx⟩ := hci 0 (by simp)
  simp only [List.getElem_cons_zero, Nat.zero_mul, Nat.add_zero] at hcx
  obtain ⟨⟨c0, c1, c2⟩, ⟨c3, c4, c5⟩, c6⟩ := hcx
  simp only [nV] at c0 c1 c2 c3 c4 c5 c6
  clear hci HVC hb7 BW6 HB1 HB2 HU6
  obtain ⟨o, ho⟩ : ∃ o, o = off := ⟨_, rfl⟩
  rw [← ho] at c0 c1 c2 c3 c4 c5 c6 HVL HHS ⊢
  clear ho
  have h1 := fun W => eqV_run 4 1 ⟨#[]⟩ 4 1 ⟨#[]⟩ W
  have h5 := fun W => eqV_run 4 5 ⟨#[]⟩ 4 5 ⟨#[]⟩ W
  simp only [decide_true] at h1 h5

  have HK : Hid (∀ W, Below w7.heap.size w7 W → W.cell? ⟨b, o, none⟩ = some (.int .i64 4) ∧ W.cell? ⟨b, o + 1, none⟩ = some (.int .i64 1) ∧ W.cell? ⟨b, o + 2, none⟩ = some (.string ⟨#[]⟩) ∧ W.cell? ⟨b, o + 3, none⟩ = some (.int .i64 4) ∧ W.cell? ⟨b, o + 4, none⟩ = some (.int .i64 5) ∧ W.cell? ⟨b, o + 5, none⟩ = some (.string ⟨#[]⟩) ∧ W.cell? ⟨b, o + 6, none⟩ = some (.bool false)) := fun W hb => ⟨(hb.cell (p := ⟨b, o, none⟩) zc).trans c0, (hb.cell (p := ⟨b, o + 1, none⟩) zc).trans c1, (hb.cell (p := ⟨b, o + 2, none⟩) zc).trans c2, (hb.cell (p := ⟨b, o + 3, none⟩) zc).trans c3, (hb.cell (p := ⟨b, o + 4, none⟩) zc).trans c4, (hb.cell (p := ⟨b, o + 5, none⟩) zc).trans c5, (hb.cell (p := ⟨b, o + 6, none⟩) zc).trans c6⟩

  go_wp2_with fail

  go_region_held3 (fun W => W.cell? ⟨b, o, none⟩ = some (.int .i64 4) ∧ W.cell? ⟨b, o + 1, none⟩ = some (.int .i64 1) ∧ W.cell? ⟨b, o + 2, none⟩ = some (.string ⟨#[]⟩) ∧ W.cell? ⟨b, o + 3, none⟩ = some (.int .i64 4) ∧ W.cell? ⟨b, o + 4, none⟩ = some (.int .i64 5) ∧ W.cell? ⟨b, o + 5, none⟩ = some (.string ⟨#[]⟩) ∧ W.cell? ⟨b, o + 6, none⟩ = some (.bool false))
    (first | exact ⟨c0i, c1i, c2i, c3i, c4i, c5i, c6i⟩ | exact ⟨c0h, c1h, c2h, c3h, c4h, c5h, c6h⟩ | exact ⟨c0f, c1f, c2f, c3f, c4f, c5f, c6f⟩ | exact ⟨c0g, c1g, c2g, c3g, c4g, c5g, c6g⟩ | exact ⟨c0e, c1e, c2e, c3e, c4e, c5e, c6e⟩ | exact ⟨c0d, c1d, c2d, c3d, c4d, c5d, c6d⟩ | exact ⟨c0, c1, c2, c3, c4, c5, c6⟩)
    (first | (go_at_call 51; (with_reducible refine (HN1.out _).mono ?_); rintro e wzd ⟨rfl, hg⟩; have hbd : Below w7.heap.size w7 wzd := Below.trans (by (repeat (first | exact Below.refl _ _ | assumption | refine Below.drew ?_ | refine Below.setCell ?_ (by simp; try omega) _ | refine Below.alloc ?_ (by simp; try omega) _))) (hg.mono (by first | (simp; done) | ((try simp); exact Below.size (by assumption)))); obtain ⟨c0d, c1d, c2d, c3d, c4d, c5d, c6d⟩ := HK.out wzd hbd; clear hg) | (go_at_call 51; (with_reducible refine (HN5.out _).mono ?_); rintro e wze ⟨rfl, hg⟩; have hbe : Below w7.heap.size w7 wze := Below.trans (by (repeat (first | exact Below.refl _ _ | assumption | refine Below.drew ?_ | refine Below.setCell ?_ (by simp; try omega) _ | refine Below.alloc ?_ (by simp; try omega) _))) (hg.mono (by first | (simp; done) | ((try simp); exact Below.size (by assumption)))); obtain ⟨c0e, c1e, c2e, c3e, c4e, c5e, c6e⟩ := HK.out wze hbe; clear hg) | (go_at_call 51; (with_reducible refine (HN3.out _).mono ?_); rintro e wzg ⟨rfl, hg⟩; have hbg : Below w7.heap.size w7 wzg := Below.trans (by (repeat (first | exact Below.refl _ _ | assumption | refine Below.drew ?_ | refine Below.setCell ?_ (by simp; try omega) _ | refine Below.alloc ?_ (by simp; try omega) _))) (hg.mono (by first | (simp; done) | ((try simp); exact Below.size (by assumption)))); obtain ⟨c0g, c1g, c2g, c3g, c4g, c5g, c6g⟩ := HK.out wzg hbg; clear hg) | (go_at_call 11; (with_reducible refine (HVL.out _ (by (repeat (first | exact Below.refl _ _ | assumption | refine Below.drew ?_ | refine Below.setCell ?_ (by first | omega | (simp only [World.size_alloc]; omega) | (simp; try omega)) _ | refine Below.alloc ?_ (by first | omega | (simp only [World.size_alloc]; omega) | (simp; try omega)) _)))).mono ?_); rintro e wzf ⟨rfl, hg⟩; have hbf : Below w7.heap.size w7 wzf := Below.trans (by (repeat (first | exact Below.refl _ _ | assumption | refine Below.drew ?_ | refine Below.setCell ?_ (by simp; try omega) _ | refine Below.alloc ?_ (by simp; try omega) _))) (hg.mono (by first | (simp; done) | ((try simp); exact Below.size (by assumption)))); obtain ⟨c0f, c1f, c2f, c3f, c4f, c5f, c6f⟩ := HK.out wzf hbf; clear hg) | (go_at_call 16; (with_reducible refine (HHS.out _ (by (repeat (first | exact Below.refl _ _ | assumption | refine Below.drew ?_ | refine Below.setCell ?_ (by first | omega | (simp only [World.size_alloc]; omega) | (simp; try omega)) _ | refine Below.alloc ?_ (by first | omega | (simp only [World.size_alloc]; omega) | (simp; try omega)) _)))).mono ?_); rintro e wzh ⟨rfl, hg⟩; have hbh : Below w7.heap.size w7 wzh := Below.trans (by (repeat (first | exact Below.refl _ _ | assumption | refine Below.drew ?_ | refine Below.setCell ?_ (by simp; try omega) _ | refine Below.alloc ?_ (by simp; try omega) _))) (hg.mono (by first | (simp; done) | ((try simp); exact Below.size (by assumption)))); obtain ⟨c0h, c1h, c2h, c3h, c4h, c5h, c6h⟩ := HK.out wzh hbh; clear hg) | (go_at_call 33; (with_reducible refine (HA.out _).mono ?_); rintro e wzi ⟨xa, xc, rfl, hg⟩; have hbi : Below w7.heap.size w7 wzi := Below.trans (by (repeat (first | exact Below.refl _ _ | assumption | refine Below.drew ?_ | refine Below.setCell ?_ (by simp; try omega) _ | refine Below.alloc ?_ (by simp; try omega) _))) (hg.mono (by first | (simp; done) | ((try simp); exact Below.size (by assumption)))); obtain ⟨c0i, c1i, c2i, c3i, c4i, c5i, c6i⟩ := HK.out wzi hbi; clear hg))

  go_wp2_with fail
  go_ret
  exact ⟨rfl, BW7.out.trans (Below.mono (by (repeat (first | exact Below.refl _ _ | assumption | refine Below.drew ?_ | refine Below.setCell ?_ (by first | omega | (simp only [World.size_alloc]; omega) | (simp; try omega)) _ | refine Below.alloc ?_ (by first | omega | (simp only [World.size_alloc]; omega) | (simp; try omega)) _))) BW7.out.size)⟩
end Go.Proofs.Ytmhgmlnnipdomaa
