
/- Schemas: Fits of the reference. -/
import Derived.Test.YtjkjmkplcjfogaaScFits

import Derived.Test.YtjkjmkplcjfogaaScCheck

namespace Go.Proofs.Ytjkjmkplcjfogaa

open Go.RowKit Go.Deep

set_option linter.unusedSimpArgs false in
set_option maxRecDepth 100000 in
set_option maxHeartbeats 8000000 in
theorem rFits_any {P : Nat → Prop} (v : Value) (s : SC) (i : Int) (rv : Value) (l : List V) (mode : Int) (w : World) (h : Sc P w v s) (hr : RowAt w rv l) : Calls Try.prog 39 #[v, .int .i64 i, rv, .int .i64 mode] w fun e w' => e = .returned (.bool (fitsT s i l mode)) ∧ Below w.heap.size w w' := by
  obtain ⟨tv, rfl, hs⟩ := h
  have HRW := Lib.hid hr
  obtain ⟨ra, rc, rfl, hlen, -⟩ := hr
  obtain ⟨a, c, rfl, hf⟩ := hs.shape
  have H := Lib.hid hs
  obtain ⟨z, hz⟩ : ∃ z, fitsT s i l mode = z := ⟨_, rfl⟩
  rw [hz]
  have HZ := Lib.hid hz
  unfold fitsT at HZ
  obtain ⟨m, hm⟩ : ∃ m, l.length = m := ⟨_, rfl⟩
  have HM := Lib.hid hm
  rw [hm] at HRW hlen HZ ⊢
  obtain ⟨n, hn⟩ : ∃ n, s.ts.length = n := ⟨_, rfl⟩
  have HN := Lib.hid hn
  rw [hn] at H ⊢
  clear hs hf hz hm
  by_cases hm1 : mode < 1
  · have HR : Hid (z = false) := by show _ = _; rw [← HZ.out, decide_eq_false (p := 1 ≤ mode ∧ mode ≤ 3) (by omega)]; simp
    have d1 : decide (mode < 1) = true := decide_eq_true hm1
    clear HZ hm1 hn
    go_enter Try.func39, Try.ntmps39
    go_wp2_with fail
    go_ret
    exact ⟨by rw [HR.out]; rfl, by (repeat (first | exact Below.refl _ _ | assumption | refine Below.drew ?_ | refine Below.setCell ?_ (by first | omega | (simp only [World.size_alloc]; omega) | (simp; try omega)) _ | refine Below.alloc ?_ (by first | omega | (simp only [World.size_alloc]; omega) | (simp; try omega)) _))⟩
  · have d1 : decide (mode < 1) = false := decide_eq_false hm1
    by_cases hm3 : 3 < mode
    · have HR : Hid (z = false) := by show _ = _; rw [← HZ.out, decide_eq_false (p := 1 ≤ mode ∧ mode ≤ 3) (by omega)]; simp
      have d2 : decide (3 < mode) = true := decide_eq_true hm3
      clear HZ hm1 hm3 hn
      go_enter Try.func39, Try.ntmps39
      go_wp2_with fail
      go_ret
      exact ⟨by rw [HR.out]; rfl, by (repeat (first | exact Below.refl _ _ | assumption | refine Below.drew ?_ | refine Below.setCell ?_ (by first | omega | (simp only [World.size_alloc]; omega) | (simp; try omega)) _ | refine Below.alloc ?_ (by first | omega | (simp only [World.size_alloc]; omega) | (simp; try omega)) _))⟩
    · have d2 : decide (3 < mode) = false := decide_eq_false hm3
      by_cases hi0 : i < 0
      · have HR : Hid (z = false) := by show _ = _; rw [← HZ.out, show inT s i = false from by unfold inT; simp; omega]; rfl
        have d3 : decide (i < 0) = true := decide_eq_true hi0
        clear HZ hm1 hm3 hi0 hn
        go_enter Try.func39, Try.ntmps39
        go_wp2_with fail
        go_ret
        exact ⟨by rw [HR.out]; rfl, by (repeat (first | exact Below.refl _ _ | assumption | refine Below.drew ?_ | refine Below.setCell ?_ (by first | omega | (simp only [World.size_alloc]; omega) | (simp; try omega)) _ | refine Below.alloc ?_ (by first | omega | (simp only [World.size_alloc]; omega) | (simp; try omega)) _))⟩
      · have d3 : decide (i < 0) = false := decide_eq_false hi0
        by_cases hin : (n : Int) ≤ i
        · have HR : Hid (z = false) := by show _ = _; rw [← HZ.out, show inT s i = false from by unfold inT; rw [hn]; simp; omega]; rfl
          have d4 : decide ((n : Int) ≤ i) = true := decide_eq_true hin
          clear HZ hm1 hm3 hi0 hin hn
          go_enter Try.func39, Try.ntmps39
          go_wp2_with fail
          go_ret
          exact ⟨by rw [HR.out]; rfl, by (repeat (first | exact Below.refl _ _ | assumption | refine Below.drew ?_ | refine Below.setCell ?_ (by first | omega | (simp only [World.size_alloc]; omega) | (simp; try omega)) _ | refine Below.alloc ?_ (by first | omega | (simp only [World.size_alloc]; omega) | (simp; try omega)) _))⟩
        · have d4 : decide ((n : Int) ≤ i) = false := decide_eq_false hin
          obtain ⟨t, rfl⟩ := Int.eq_ofNat_of_zero_le (show 0 ≤ i by omega)
          have htn : t < n := by omega
          have htn' : (t : Int) < n := by omega
          have ht0 : (0 : Int) ≤ t := by omega
          have d5 : decide (n ≤ t) = false := decide_eq_false (by omega)
          have htc : t < s.ts.length := by rw [hn]; exact htn
          obtain ⟨b, off, rfl, -, hb, ca, cc, ga, gc, pa, pc, -, c1, c2, -, -, htb⟩ := tab_get H.out htc
          have HC := Lib.hid htb.cols
          have HZ2 : Hid ((decide (m = (tbAt s t).cs.length) && fitL (tbAt s t).key mode 0 (tbAt s t).cs l) = z) := by
            show _ = _; rw [← HZ.out, show inT s t = true from by unfold inT; rw [hn]; simpa using htn, decide_eq_true (p := 1 ≤ mode ∧ mode ≤ 3) (by omega)]; rfl
          rw [tbAt_in htc] at HZ2
          clear HZ htb hin hi0 hm1 hm3
          generalize s.ts[t].cs = cs at *
          generalize s.ts[t].key = key at *
          obtain ⟨nc, hnc⟩ : ∃ nc, cs.length = nc := ⟨_, rfl⟩
          have HNC := Lib.hid hnc
          rw [hnc] at HC HZ2 c1
          have hcf : nc ≤ 17592186044416 := by obtain ⟨_, _, _, hf⟩ := HC.out.shape; rw [hnc] at hf; exact hf.few
          clear hnc hn
          by_cases hmn : m = nc
          · subst hmn
            have d6 : (m != m) = false := by simp
            have HZ4 : Hid (fitL key mode 0 (cs.drop 0) (l.drop 0) = z) := by show _ = _; rw [← HZ2.out]; simp
            obtain ⟨wb, hwb⟩ : ∃ wb, w.alloc (.cells #[.int .i64 s.ver, .slice (some ⟨b, off, none⟩) n c] 45) = wb := ⟨_, rfl⟩
            have hbz : wb.heap.size = w.heap.size + 1 := by rw [← hwb]; simp
            have HWB : Hid (Below w.heap.size w wb) := by rw [← hwb]; exact (Below.refl _ _).alloc (Nat.le_refl _) _
            have s1 : wb.cell? ⟨w.heap.size, 1, none⟩ = some (.slice (some ⟨b, off, none⟩) n c) := by subst hwb; go_simp
            have HQ : Hid (∀ W, Below wb.heap.size wb W → W.cell? ⟨w.heap.size, 1, none⟩ = some (.slice (some ⟨b, off, none⟩) n c) ∧ W.cell? ⟨b, off + t * 5 + 1, none⟩ = some (.slice ca m cc) ∧ W.cell? ⟨b, off + t * 5 + 2, none⟩ = some (.int .i64 key)) := fun W hW =>
              ⟨(hW.cell (p := ⟨w.heap.size, 1, none⟩) (show w.heap.size < _ by omega)).trans s1, (hW.cell (p := ⟨b, off + t * 5 + 1, none⟩) (show b < _ by omega)).trans ((HWB.out.cell (p := ⟨b, off + t * 5 + 1, none⟩) hb).trans c1), (hW.cell (p := ⟨b, off + t * 5 + 2, none⟩) (show b < _ by omega)).trans ((HWB.out.cell (p := ⟨b, off + t * 5 + 2, none⟩) hb).trans c2)⟩
            have HWN := Lib.hid hwb
            clear HZ2 s1 hwb
            go_enter Try.func39, Try.ntmps39
            go_wp2_with fail
            rw [HWN.out]
            clear HWN d1 d2 d3 d4 d5 d6 c1 c2
            go_loopw [42] (fun i wr => ∃ k : Nat, k ≤ m ∧ i = .int .i64 k ∧ Hid (fitL key mode k (cs.drop k) (l.drop k) = z) ∧ Hid (Below wb.heap.size wb wr)) (fun i _ => m - (intOf i).toNat)
            case atStart => exact ⟨0, by omega, rfl, HZ4, Below.refl _ _⟩
            case round =>
              obtain ⟨k, hk, rfl, HT, HX⟩ := hrel
              clear HZ4
              have hzz := HX.out.size
              have HW : Hid (Below w.heap.size w wr) := HWB.out.trans (HX.out.mono (by omega))
              by_cases hlt : k < m
              · have hlt' : (k : Int) < m := by omega
                have hkc : k < cs.length := by rw [HNC.out]; exact hlt
                have hkl : k < l.length := by rw [HM.out]; exact hlt
                obtain ⟨cb, coff, rfl, -, hcb, -, e1⟩ := col_get (HC.out.below HW.out) hkc
                obtain ⟨ra', rc', e', -, hcell⟩ := HRW.out.blw HW.out
                simp only [Value.slice.injEq] at e'
                obtain ⟨rfl, -, rfl⟩ := e'
                obtain ⟨rb, roff, rfl, hrb, r0, r1, r2⟩ := hcell k hkl
                have HD := Lib.hid (fitL_drop key mode cs l k hkc hkl)
                obtain ⟨ckk, hck⟩ : ∃ q, cs[k].k = q := ⟨_, rfl⟩
                obtain ⟨vk, hvk⟩ : ∃ q, l[k].k = q := ⟨_, rfl⟩
                obtain ⟨vn, hvn⟩ : ∃ q, l[k].n = q := ⟨_, rfl⟩
                obtain ⟨vs, hvs⟩ : ∃ q, l[k].s = q := ⟨_, rfl⟩
                obtain ⟨vb, hvb⟩ : ∃ q, vldB vk vn vs = q := ⟨_, rfl⟩
                have HV := Lib.hid (rValid_any vk vn vs)
                unfold fitB at HD
                rw [hck, hvk, hvn, hvs, hvb] at HD
                rw [hvb] at HV
                rw [hck] at e1
                rw [hvk] at r0
                rw [hvn] at r1
                rw [hvs] at r2
                obtain ⟨wc, hwc⟩ : ∃ wc, wr.alloc (.cells #[.int .i64 vk, .int .i64 vn, .string vs] 24) = wc := ⟨_, rfl⟩
                have hcz : wc.heap.size = wr.heap.size + 1 := by rw [← hwc]; simp
                have HWC : Hid (Below wr.heap.size wr wc) := by rw [← hwc]; exact (Below.refl _ _).alloc (Nat.le_refl _) _
                have v0 : wc.cell? ⟨wr.heap.size, 0, none⟩ = some (.int .i64 vk) := by subst hwc; go_simp
                have HV0 : Hid (∀ W, Below wc.heap.size wc W → W.cell? ⟨wr.heap.size, 0, none⟩ = some (.int .i64 vk) ∧ W.cell? ⟨cb, coff + k * 2 + 1, none⟩ = some (.int .i64 ckk)) := fun W hW => ⟨(hW.cell (p := ⟨wr.heap.size, 0, none⟩) (show wr.heap.size < _ by omega)).trans v0, (hW.cell (p := ⟨cb, coff + k * 2 + 1, none⟩) (show cb < _ by omega)).trans ((HWC.out.cell (p := ⟨cb, coff + k * 2 + 1, none⟩) hcb).trans e1)⟩
                have HWCN := Lib.hid hwc
                clear hck hvk hvn hvs hvb hwc v0 hcell
                go_wp2_with fail
                rw [HWCN.out]
                refine (HV.out wc).mono ?_
                rintro e w2 ⟨rfl, hg⟩
                have HB2 : Hid (Below wb.heap.size wb w2) := HX.out.trans ((HWC.out.trans (hg.below.mono (by omega))).mono (by omega))
                obtain ⟨q0, q1⟩ := HV0.out w2 hg.below
                obtain ⟨p0, p1, p2⟩ := HQ.out w2 HB2.out
                have HWW : Hid (Below w.heap.size w w2) := HWB.out.trans (HB2.out.mono (by omega))
                clear hg HV HWCN e1 r0 r1 r2
                cases vb with
                | false =>
                  have HR : Hid (z = false) := by show _ = _; rw [← HT.out, HD.out]; rfl
                  clear HD HT
                  go_wp2_with fail
                  go_ret
                  exact ⟨by rw [HR.out]; rfl, HWW.out⟩
                | true =>

                  by_cases h1 : vk = ckk
                  · subst h1
                    have HQN : ∀ n, Hid (Below wb.heap.size wb (w2.drewN n)) := fun n => HB2.out.trans ((((Gr.refl w2).drewN n).below).mono HB2.out.size)
                    have HR : Hid (fitL key mode (k + 1) (cs.drop (k + 1)) (l.drop (k + 1)) = z) := by show _ = _; rw [← HT.out, HD.out]; simp
                    clear HD HT
                    go_wp2_with fail
                    go_quiet (fail)
                    rename_i nq
                    go_wp2_with fail
                    go_roundw
                    case rel => exact ⟨k + 1, by omega, by go_num, HR, HQN _⟩
                    case measure => simp [intOf]; omega
                  · have e1 : (vk == ckk) = false := by simpa using h1
                    clear h1
                    by_cases h2 : vk = 2
                    · subst h2
                      by_cases hm1 : mode = 1
                      · subst hm1
                        have HQN : ∀ n, Hid (Below wb.heap.size wb (w2.drewN n)) := fun n => HB2.out.trans ((((Gr.refl w2).drewN n).below).mono HB2.out.size)
                        have HR : Hid (z = false) := by show _ = _; rw [← HT.out, HD.out]; rw [e1]; simp
                        clear HD HT
                        go_wp2_with fail
                        go_quiet (fail)
                        rename_i nq
                        go_wp2_with fail
                        go_ret
                        exact ⟨by rw [HR.out]; rfl, HWB.out.trans ((HQN _).out.mono (by omega))⟩
                      · have m1 : (mode != 1) = true := by simpa using hm1
                        clear hm1
                        by_cases hg : key ≤ (k : Int)
                        · have g1 : decide (key ≤ (k : Int)) = true := decide_eq_true hg
                          clear hg
                          have HQN : ∀ n, Hid (Below wb.heap.size wb (w2.drewN n)) := fun n => HB2.out.trans ((((Gr.refl w2).drewN n).below).mono HB2.out.size)
                          have HR : Hid (fitL key mode (k + 1) (cs.drop (k + 1)) (l.drop (k + 1)) = z) := by show _ = _; rw [← HT.out, HD.out]; rw [e1, m1, g1]; simp
                          clear HD HT
                          go_wp2_with fail
                          go_quiet (fail)
                          rename_i nq
                          go_wp2_with fail
                          go_roundw
                          case rel => exact ⟨k + 1, by omega, by go_num, HR, HQN _⟩
                          case measure => simp [intOf]; omega
                        · have g1 : decide (key ≤ (k : Int)) = false := decide_eq_false hg
                          clear hg
                          have HQN : ∀ n, Hid (Below wb.heap.size wb (w2.drewN n)) := fun n => HB2.out.trans ((((Gr.refl w2).drewN n).below).mono HB2.out.size)
                          have HR : Hid (z = false) := by show _ = _; rw [← HT.out, HD.out]; rw [e1, g1]; simp
                          clear HD HT
                          go_wp2_with fail
                          go_quiet (fail)
                          rename_i nq
                          go_wp2_with fail
                          go_ret
                          exact ⟨by rw [HR.out]; rfl, HWB.out.trans ((HQN _).out.mono (by omega))⟩
                    · have e2 : (vk == 2) = false := by simpa using h2
                      clear h2
                      by_cases h3 : vk = 1
                      · subst h3
                        by_cases hm3 : mode = 3
                        · subst hm3
                          by_cases hg : key ≤ (k : Int)
                          · have g1 : decide (key ≤ (k : Int)) = true := decide_eq_true hg
                            clear hg
                            have HQN : ∀ n, Hid (Below wb.heap.size wb (w2.drewN n)) := fun n => HB2.out.trans ((((Gr.refl w2).drewN n).below).mono HB2.out.size)
                            have HR : Hid (fitL key 3 (k + 1) (cs.drop (k + 1)) (l.drop (k + 1)) = z) := by show _ = _; rw [← HT.out, HD.out]; rw [e1, g1]; simp
                            clear HD HT
                            go_wp2_with fail
                            go_quiet (fail)
                            rename_i nq
                            go_wp2_with fail
                            go_roundw
                            case rel => exact ⟨k + 1, by omega, by go_num, HR, HQN _⟩
                            case measure => simp [intOf]; omega
                          · have g1 : decide (key ≤ (k : Int)) = false := decide_eq_false hg
                            clear hg
                            have HQN : ∀ n, Hid (Below wb.heap.size wb (w2.drewN n)) := fun n => HB2.out.trans ((((Gr.refl w2).drewN n).below).mono HB2.out.size)
                            have HR : Hid (z = false) := by show _ = _; rw [← HT.out, HD.out]; rw [e1, g1]; simp
                            clear HD HT
                            go_wp2_with fail
                            go_quiet (fail)
                            rename_i nq
                            go_wp2_with fail
                            go_ret
                            exact ⟨by rw [HR.out]; rfl, HWB.out.trans ((HQN _).out.mono (by omega))⟩
                        · have m3 : (mode == 3) = false := by simpa using hm3
                          clear hm3
                          have HQN : ∀ n, Hid (Below wb.heap.size wb (w2.drewN n)) := fun n => HB2.out.trans ((((Gr.refl w2).drewN n).below).mono HB2.out.size)
                          have HR : Hid (z = false) := by show _ = _; rw [← HT.out, HD.out]; rw [e1, m3]; simp
                          clear HD HT
                          go_wp2_with fail
                          go_quiet (fail)
                          rename_i nq
                          go_wp2_with fail
                          go_ret
                          exact ⟨by rw [HR.out]; rfl, HWB.out.trans ((HQN _).out.mono (by omega))⟩
                      · have e3 : (vk == 1) = false := by simpa using h3
                        clear h3
                        have HQN : ∀ n, Hid (Below wb.heap.size wb (w2.drewN n)) := fun n => HB2.out.trans ((((Gr.refl w2).drewN n).below).mono HB2.out.size)
                        have HR : Hid (z = false) := by show _ = _; rw [← HT.out, HD.out]; rw [e1, e2, e3]; simp
                        clear HD HT
                        go_wp2_with fail
                        go_quiet (fail)
                        rename_i nq
                        go_wp2_with fail
                        go_ret
                        exact ⟨by rw [HR.out]; rfl, HWB.out.trans ((HQN _).out.mono (by omega))⟩
              · have HR : Hid (z = true) := by show _ = _; rw [← HT.out]; exact fitL_end _ _ _ _ _ (by rw [HM.out]; omega)
                go_wp2_with fail
                go_ret
                exact ⟨by rw [HR.out]; rfl, HW.out⟩
          · have HR : Hid (z = false) := by show _ = _; rw [← HZ2.out, decide_eq_false hmn]; rfl
            have d6 : (m != nc) = true := by simpa using hmn
            have d7 : ((m : Int) != nc) = true := by simp; omega
            clear HZ2
            go_enter Try.func39, Try.ntmps39
            go_wp2_with fail
            go_ret
            exact ⟨by rw [HR.out]; rfl, by (repeat (first | exact Below.refl _ _ | assumption | refine Below.drew ?_ | refine Below.setCell ?_ (by first | omega | (simp only [World.size_alloc]; omega) | (simp; try omega)) _ | refine Below.alloc ?_ (by first | omega | (simp only [World.size_alloc]; omega) | (simp; try omega)) _))⟩
end Go.Proofs.Ytjkjmkplcjfogaa
