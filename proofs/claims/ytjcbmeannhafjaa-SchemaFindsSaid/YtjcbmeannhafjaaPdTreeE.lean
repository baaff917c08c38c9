
/- partsynccase's tree where there are no columns. -/
import Derived.Test.YtjcbmeannhafjaaPdTreeAt

import Derived.Deep.CutRange

import Derived.Deep.CutBlock

import Derived.Deep.DeepCutAuto

namespace Go.Proofs.Ytjcbmeannhafjaa

open Go.RowKit Go.Deep



set_option linter.unusedSimpArgs false in
set_option maxRecDepth 100000 in
set_option maxHeartbeats 16000000 in
theorem cTreeS_e (bc B lo : Nat) (C Q : List Int) (cv qv : Value) (deep : Nat) (w : World) (h : CaseOk bc B w) (hdeep : deep ≤ 3) (hkc : okKs C = true) (hcl : C.length ≤ 5) (hql : Q.length ≤ 5) (hcv : IntsG lo w cv C) (hqv : IntsG lo w qv Q) (hlo : bc < lo) (hC : C.length = 0) (IH : ∀ d, deep = d + 1 → TreeAt bc B lo C Q d) : Calls Try.prog 58 #[.pointer (some ⟨bc, 0, none⟩), cv, qv, .int .i64 deep] w (TreePost bc B C Q deep w) := by
  have hbl := h.lt
  have HKC := Lib.hid hkc
  have HCL := Lib.hid hcl
  have HQL := Lib.hid hql
  have HCV := Lib.hid hcv
  have HQV := Lib.hid hqv
  obtain ⟨CA, cc, rfl⟩ := hcv.shape
  obtain ⟨qa, qc, rfl⟩ := hqv.shape
  obtain ⟨m, hm⟩ : ∃ m, C.length = m := ⟨_, rfl⟩
  obtain ⟨mq, hmq⟩ : ∃ mq, Q.length = mq := ⟨_, rfl⟩
  have HM := Lib.hid hm
  have HMQ := Lib.hid hmq
  rw [hm] at hcl ⊢
  rw [hmq] at hql ⊢
  have HO := Lib.hid h
  have HDEEP := Lib.hid hdeep
  clear h hcv hqv hm hmq hkc hql
  have hm0 : m = 0 := by rw [← HM.out]; exact hC
  have HIH := Lib.hid IH
  clear hC IH
  have dm : decide ((0 : Int) < m) = false := by simp; omega
  have dm3 : (0 < m) = False := by simp; omega
  clear hm0
  go_enter Try.func58, Try.ntmps58
  go_wp2_with fail
  obtain ⟨wq, hwq⟩ : ∃ wq, w.alloc (.cells #[.int .i64 0, .int .i64 0, .int .i64 0, .int .i64 0, .int .i64 0, .int .i64 0, .string ⟨#[]⟩, .int .i64 0, .int .i64 0, .int .i64 0, .int .i64 0, .string ⟨#[]⟩, .slice none 0 0] 77) = wq := ⟨_, rfl⟩
  have hbq : Below w.heap.size w wq := by rw [← hwq]; exact (Below.refl _ _).alloc (Nat.le_refl _) _
  have hrb : RBx wq w.heap.size := by
    subst hwq
    exact ⟨by go_simp, by go_simp, by go_simp, by go_simp, by go_simp, by go_simp, by go_simp, by go_simp, by go_simp, by go_simp, by go_simp, by go_simp, by go_simp, fun j => by go_simp⟩
  have hzq : wq.heap.size = w.heap.size + 1 := by rw [← hwq]; simp
  have MW : Hid (Mv bc w wq) := Mv.of_below hbq
  have HOQ : Hid (CaseOk bc B wq) := HO.out.below hbq hbl.2
  have HRB : Hid (∀ W, Mv bc wq W → RBx W w.heap.size) := fun W hm => hrb.same (hm.block _ (by omega) (by omega))
  have HCQ : Hid (IntsG lo wq (.slice CA m cc) C) := by have := HCV.out.below hbq; rwa [HM.out] at this
  have HQQ : Hid (IntsG lo wq (.slice qa mq qc) Q) := by have := HQV.out.below hbq; rwa [HMQ.out] at this
  rw [hwq]
  clear hwq hbq hrb HCV HQV HO
  have HI9 := Lib.hid (cInt_any bc B 9 wq (by omega) (by omega) HOQ.out)
  refine HI9.out.mono ?_
  rintro e w1 ⟨r, rfl, hr0, hr1, hm1, ho1⟩
  have hr8 : r ≤ 8 := by omega
  have M1 := Lib.hid hm1
  have O1 := Lib.hid ho1
  clear hm1 ho1 HI9 hr1
  go_upto_region 2 with fail
  go_cut [16] (fun s16 wx => ∃ b : Bool, s16 = .bool b ∧ (b = true → r = 0) ∧ Hid (Mv bc wq wx ∧ CaseOk bc B wx))
  case first =>
    by_cases h0 : r = 0
    · subst h0
      have HB2 := Lib.hid (cBool_2 bc B w1 O1.out)
      go_wp2_with fail
      refine HB2.out.mono ?_
      rintro e w2 ⟨b2, rfl, hm2, ho2⟩
      have M2 : Hid (Mv bc wq w2) := M1.out.trans hm2
      have O2 := Lib.hid ho2
      clear hm2 ho2 HB2 HIH
      go_wp2_with fail
      go_meet
      exact ⟨b2, rfl, fun _ => by trivial, ⟨M2.out, O2.out⟩⟩
    · have b0 : (r == 0) = false := by simpa using h0
      clear HIH
      go_wp2_with fail
      go_meet
      exact ⟨false, rfl, fun e => absurd e (by simp), ⟨M1.out, O1.out⟩⟩
  case rest =>
    obtain ⟨b2, rfl, hb2, HX2⟩ := hcut
    have M2 : Hid (Mv bc wq wc) := HX2.out.1
    have O2 : Hid (CaseOk bc B wc) := HX2.out.2
    obtain ⟨w2, hw2⟩ : ∃ w2, wc = w2 := ⟨_, rfl⟩
    rw [hw2] at M2 O2 ⊢
    clear HX2 M1 O1 hw2
    cases b2 with
    | true =>
      have HI2 := Lib.hid (cInt_any bc B 2 w2 (by omega) (by omega) O2.out)
      go_wp2_with fail
      refine HI2.out.mono ?_
      rintro e w3 ⟨q, rfl, hq0, hq1, hm3, ho3⟩
      have M3 : Hid (Mv bc wq w3) := M2.out.trans hm3
      have O3 := Lib.hid ho3
      have hq2 : q ≤ 1 := by omega
      obtain ⟨q0, q1, q2, q3, q4, q5, q6, q7, q8, q9, q10, q11, q12, qf⟩ := HRB.out w3 M3.out
      have zr : w.heap.size < w3.heap.size := by have := M3.out.size; omega
      clear hm3 ho3 HI2 hq1
      go_wp2_with fail
      refine bodyPost_ret (v := .agg #[.int .i64 (1 + q), .int .i64 0, .int .i64 0, .int .i64 0, .int .i64 0, .int .i64 0, .string ⟨#[]⟩, .int .i64 0, .int .i64 0, .int .i64 0, .int .i64 0, .string ⟨#[]⟩, .slice none 0 0]) ?_ rfl ?_
      · simp [results, Try.results58, go_sem, q0, q1, q2, q3, q4, q5, q6, q7, q8, q9, q10, q11, q12]
      · exact ⟨.mk (1 + q) 0 zO zO [], none, 0, rfl, PdS.nil _ _, vld_const (by omega), by show 1 ≤ _; omega, by show 1 ≤ _; exact ndB_pos _, (MW.out.trans M3.out).set13 (Nat.le_refl _) (.int .i64 (1 + q)) (.int .i64 0) (.int .i64 0) (.int .i64 0) (.int .i64 0) (.int .i64 0) (.string ⟨#[]⟩) (.int .i64 0) (.int .i64 0) (.int .i64 0) (.int .i64 0) (.string ⟨#[]⟩) (.slice none 0 0), O3.out.set13 hbl.2 (.int .i64 (1 + q)) (.int .i64 0) (.int .i64 0) (.int .i64 0) (.int .i64 0) (.int .i64 0) (.string ⟨#[]⟩) (.int .i64 0) (.int .i64 0) (.int .i64 0) (.int .i64 0) (.string ⟨#[]⟩) (.slice none 0 0)⟩
    | false =>
      clear hb2
      go_upto_region 4 with fail
      go_cut [27] (fun s27 wx => ∃ b : Bool, s27 = .bool b ∧ (b = false → 6 ≤ r ∧ 0 < deep) ∧ Hid (wx = w2))
      case first =>
        by_cases h6 : r < 6
        · have b6 : decide (r < 6) = true := by simpa using h6
          clear HIH
          go_wp2_with fail
          go_meet
          exact ⟨true, rfl, fun e => absurd e (by simp), rfl⟩
        · have b6 : decide (r < 6) = false := by simpa using h6
          clear HIH
          by_cases hd0 : deep = 0
          · have bd : decide ((deep : Int) < 1) = true := by simp; omega
            clear hd0
            go_wp2_with fail
            go_meet
            exact ⟨true, rfl, fun e => absurd e (by simp), rfl⟩
          · have bd : decide ((deep : Int) < 1) = false := by simp; omega
            go_wp2_with fail
            go_meet
            exact ⟨false, rfl, fun _ => ⟨by omega, by omega⟩, rfl⟩
      case rest =>
        obtain ⟨b7, rfl, hb7, HX7⟩ := hcut
        have M1 : Hid (Mv bc wq wc) := by rw [HX7.out]; exact M2.out
        have O1 : Hid (CaseOk bc B wc) := by rw [HX7.out]; exact O2.out
        obtain ⟨w1, hw1⟩ : ∃ w1, wc = w1 := ⟨_, rfl⟩
        rw [hw1] at M1 O1 ⊢
        clear HX7 M2 O2 hw1
        cases b7 with
        | true =>
          clear HIH hb7
          have MK : Hid (Mv bc wq w1) := M1.out
          have OK : Hid (CaseOk bc B w1) := O1.out
          have HI6 := Lib.hid (cInt_any bc B 6 w1 (by omega) (by omega) OK.out)
          go_wp2_with fail
          refine HI6.out.mono ?_
          rintro e w5 ⟨cq, rfl, hcq0, hcq1, hm5, ho5⟩
          have hcq6 : cq ≤ 5 := by omega
          have M5 : Hid (Mv bc wq w5) := MK.out.trans hm5
          have HOP := Lib.hid (cOperand_any bc B lo C Q (.slice CA m cc) (.slice qa mq qc) 4 w5 ho5 (.inr (.inl rfl)) HCL.out HQL.out (HCQ.out.mv M5.out hlo) (HQQ.out.mv M5.out hlo) hlo)
          clear HI6 hm5 ho5 hcq1
          go_wp2_with fail
          refine HOP.out.mono ?_
          rintro e w6 ⟨⟨xk, xi, ⟨xvk, xvn, xvs⟩⟩, rfl, hgx, hm6, ho6⟩
          simp only
          have M6 : Hid (Mv bc wq w6) := M5.out.trans hm6
          have GX := Lib.hid hgx
          have HVV := Lib.hid (cValue_any bc B 4 w6 (.inr (.inl rfl)) ho6)
          clear HOP hm6 ho6 hgx
          go_wp2_with fail
          refine HVV.out.mono ?_
          rintro e w7 ⟨vn, vs, rfl, hvld, -, -, hm7, ho7⟩
          have M7 : Hid (Mv bc wq w7) := M6.out.trans hm7
          have GV : Hid (GoodO C Q 4 ⟨3, 0, ⟨4, vn, vs⟩⟩) := good_val (by unfold realB; rw [hvld]; simp; done)
          have O7 := Lib.hid ho7
          clear HVV hm7 ho7 hvld
          go_wp2_with fail
          obtain ⟨wp, hwp⟩ : ∃ wp, w7.alloc (.cells #[.int .i64 3, .int .i64 (1 + cq), .int .i64 xk, .int .i64 xi, .int .i64 xvk, .int .i64 xvn, .string xvs, .int .i64 3, .int .i64 0, .int .i64 4, .int .i64 vn, .string vs, .slice none 0 0] 77) = wp := ⟨_, rfl⟩
          have PB : Hid (PBx wp w7.heap.size (1 + cq) ⟨xk, xi, ⟨xvk, xvn, xvs⟩⟩ ⟨3, 0, ⟨4, vn, vs⟩⟩) := by
            subst hwp
            exact ⟨by go_simp, by go_simp, by go_simp, by go_simp, by go_simp, by go_simp, by go_simp, by go_simp, by go_simp, by go_simp, by go_simp, by go_simp, by go_simp, fun j => by go_simp⟩
          have MP : Hid (Mv bc wq wp) := by rw [← hwp]; exact M7.out.alloc _
          have OP : Hid (CaseOk bc B wp) := by rw [← hwp]; exact O7.out.alloc _
          have hszp : wp.heap.size = w7.heap.size + 1 := by rw [← hwp]; simp
          have hszq := M7.out.size
          rw [hwp]
          obtain ⟨pb, hpb⟩ : ∃ pb, w7.heap.size = pb := ⟨_, rfl⟩
          rw [hpb] at PB hszp hszq ⊢
          have hpbW : pb < wp.heap.size := by omega
          have hpbq : wq.heap.size ≤ pb := hszq
          have hpbB : B ≤ pb := by omega
          have hnr : ¬ (w.heap.size = pb) := by omega
          have hnr2 : ¬ (pb = w.heap.size) := by omega
          have hrp : w.heap.size < pb := by omega
          clear hwp hpb hszp hszq
          have HB3 := Lib.hid (cBool_any bc B wp OP.out)
          refine HB3.out.mono ?_
          rintro e w8 ⟨b3, rfl, hm8, ho8⟩
          have M8 : Hid (Mv bc wq w8) := MP.out.trans hm8
          have O8 := Lib.hid ho8
          replace PB := Lib.hid (PB.out.mv hm8 hpbW (by omega))
          replace hpbW : pb < w8.heap.size := by have := hm8.size; omega
          clear hm8 ho8 HB3 MP OP
          go_upto_if 58 with fail
          go_cut [] (fun wx => ∃ y : Od, Hid (Mv bc wq wx ∧ CaseOk bc B wx ∧ PBx wx pb (1 + cq) ⟨xk, xi, ⟨xvk, xvn, xvs⟩⟩ y ∧ GoodO C Q 4 y) ∧ pb < wx.heap.size)
          case first =>
            cases b3 with
            | false =>
              go_wp2_with fail
              go_meet
              exact ⟨⟨3, 0, ⟨4, vn, vs⟩⟩, ⟨M8.out, O8.out, PB.out, GV.out⟩, hpbW⟩
            | true =>
              have HOP := Lib.hid (cOperand_any bc B lo C Q (.slice CA m cc) (.slice qa mq qc) 4 w8 O8.out (.inr (.inl rfl)) HCL.out HQL.out (HCQ.out.mv M8.out hlo) (HQQ.out.mv M8.out hlo) hlo)
              go_wp2_with fail
              refine HOP.out.mono ?_
              rintro e w9 ⟨⟨yk, yi, ⟨yvk, yvn, yvs⟩⟩, rfl, hgy, hm9, ho9⟩
              simp only
              have GY := Lib.hid hgy
              have PB9 := PB.out.mv hm9 hpbW (by omega)
              have MS : Hid (Mv bc wq (set5 w9 pb 7 ⟨yk, yi, ⟨yvk, yvn, yvs⟩⟩)) := (M8.out.trans hm9).set5 hpbq 7 _
              have OS : Hid (CaseOk bc B (set5 w9 pb 7 ⟨yk, yi, ⟨yvk, yvn, yvs⟩⟩)) := ho9.set5 hpbB 7 _
              have PBS : Hid (PBx (set5 w9 pb 7 ⟨yk, yi, ⟨yvk, yvn, yvs⟩⟩) pb (1 + cq) ⟨xk, xi, ⟨xvk, xvn, xvs⟩⟩ ⟨yk, yi, ⟨yvk, yvn, yvs⟩⟩) := PB9.setR _
              have HPS : Hid (pb < (set5 w9 pb 7 ⟨yk, yi, ⟨yvk, yvn, yvs⟩⟩).heap.size) := by show _ < _; rw [set5_size]; have := hm9.size; omega
              obtain ⟨-, -, -, -, -, -, -, k7, k8, k9, k10, k11, -, kf⟩ := PB9
              have zp9 : pb < w9.heap.size := by have := hm9.size; omega
              simp only at k7 k8 k9 k10 k11
              clear hgy hm9 ho9 HOP PB M8 O8 hpbW
              go_wp2_with fail
              go_meet
              exact ⟨⟨yk, yi, ⟨yvk, yvn, yvs⟩⟩, ⟨MS.out, OS.out, PBS.out, GY.out⟩, HPS.out⟩
          case rest =>
            obtain ⟨⟨yk, yi, ⟨yvk, yvn, yvs⟩⟩, HY, hpbY⟩ := hcut
            clear PB M8 O8 hpbW GV
            have HB6 := Lib.hid (cBool_6 bc B wc HY.out.2.1)
            go_wp2_with fail
            refine HB6.out.mono ?_
            rintro e wz ⟨b6, rfl, hmz, hoz⟩
            have MZ : Hid (Mv bc wq wz) := HY.out.1.trans hmz
            have OZ := Lib.hid hoz
            have GY : Hid (GoodO C Q 4 ⟨yk, yi, ⟨yvk, yvn, yvs⟩⟩) := HY.out.2.2.2
            have PZ := Lib.hid (HY.out.2.2.1.mv hmz hpbY (by omega))
            have zp : pb < wz.heap.size := by have := hmz.size; omega
            clear hmz hoz HB6 HY hpbY
            go_upto_if 66 with fail
            go_cut [] (fun wx => ∃ x y : Od, Hid (Mv bc wq wx ∧ CaseOk bc B wx ∧ PBx wx pb (1 + cq) x y ∧ GoodO C Q 4 x ∧ GoodO C Q 4 y) ∧ pb < wx.heap.size)
            case first =>
              cases b6 with
              | false =>
                go_wp2_with fail
                go_meet
                exact ⟨_, _, ⟨MZ.out, OZ.out, PZ.out, GX.out, GY.out⟩, zp⟩
              | true =>
                have PSW : Hid (PBx (set5 (set5 wz pb 2 ⟨yk, yi, ⟨yvk, yvn, yvs⟩⟩) pb 7 ⟨xk, xi, ⟨xvk, xvn, xvs⟩⟩) pb (1 + cq) ⟨yk, yi, ⟨yvk, yvn, yvs⟩⟩ ⟨xk, xi, ⟨xvk, xvn, xvs⟩⟩) := (PZ.out.setL _).setR _
                have MSW : Hid (Mv bc wq (set5 (set5 wz pb 2 ⟨yk, yi, ⟨yvk, yvn, yvs⟩⟩) pb 7 ⟨xk, xi, ⟨xvk, xvn, xvs⟩⟩)) := (MZ.out.set5 hpbq 2 _).set5 hpbq 7 _
                have OSW : Hid (CaseOk bc B (set5 (set5 wz pb 2 ⟨yk, yi, ⟨yvk, yvn, yvs⟩⟩) pb 7 ⟨xk, xi, ⟨xvk, xvn, xvs⟩⟩)) := (OZ.out.set5 hpbB 2 _).set5 hpbB 7 _
                have HPS : Hid (pb < (set5 (set5 wz pb 2 ⟨yk, yi, ⟨yvk, yvn, yvs⟩⟩) pb 7 ⟨xk, xi, ⟨xvk, xvn, xvs⟩⟩).heap.size) := by show _ < _; rw [set5_size, set5_size]; exact zp
                obtain ⟨k0, k1, k2, k3, k4, k5, k6, k7, k8, k9, k10, k11, k12, kf⟩ := PZ.out
                simp only at k2 k3 k4 k5 k6 k7 k8 k9 k10 k11
                clear PZ MZ OZ
                go_wp2_with fail
                go_meet
                exact ⟨_, _, ⟨MSW.out, OSW.out, PSW.out, GY.out, GX.out⟩, HPS.out⟩
            case rest =>
              obtain ⟨⟨ak, ai, ⟨avk, avn, avs⟩⟩, ⟨ck, ci, ⟨cvk, cvn, cvs⟩⟩, HZ, zpz⟩ := hcut
              clear PZ MZ OZ GX GY zp
              obtain ⟨k0, k1, k2, k3, k4, k5, k6, k7, k8, k9, k10, k11, k12, kf⟩ := HZ.out.2.2.1
              obtain ⟨q0, q1, q2, q3, q4, q5, q6, q7, q8, q9, q10, q11, q12, qf⟩ := HRB.out wc HZ.out.1
              have zr : w.heap.size < wc.heap.size := by have := HZ.out.1.size; omega
              simp only at k2 k3 k4 k5 k6 k7 k8 k9 k10 k11
              go_wp2_with fail
              refine bodyPost_ret (v := .agg #[.int .i64 3, .int .i64 (1 + cq), .int .i64 ak, .int .i64 ai, .int .i64 avk, .int .i64 avn, .string avs, .int .i64 ck, .int .i64 ci, .int .i64 cvk, .int .i64 cvn, .string cvs, .slice none 0 0]) ?_ rfl ?_
              · simp [results, Try.results58, go_sem, q0, q1, q2, q3, q4, q5, q6, q7, q8, q9, q10, q11, q12, hnr, hnr2]
              · exact ⟨.mk 3 (1 + cq) ⟨ak, ai, ⟨avk, avn, avs⟩⟩ ⟨ck, ci, ⟨cvk, cvn, cvs⟩⟩ [], none, 0, rfl, PdS.nil _ _, vld_cmp HZ.out.2.2.2.1 HZ.out.2.2.2.2 (by omega) (by omega), by show 1 ≤ _; omega, by have := ndB_pos deep; show 1 ≤ _; omega, (MW.out.trans HZ.out.1).set13 (Nat.le_refl _) _ _ _ _ _ _ _ _ _ _ _ _ _, HZ.out.2.1.set13 hbl.2 _ _ _ _ _ _ _ _ _ _ _ _ _⟩
        | false =>
          obtain ⟨h6, hd⟩ := hb7 rfl
          clear hb7
          by_cases h66 : r = 6
          · subst h66
            obtain ⟨d, rfl⟩ : ∃ d, deep = d + 1 := ⟨deep - 1, by omega⟩
            have HT := Lib.hid (HIH.out d rfl)
            obtain ⟨dd, hdd⟩ : ∃ dd : Int, ((d + 1 : Nat) : Int) = dd := ⟨_, rfl⟩
            have e1 : dd - 1 = (d : Int) := by omega
            have e1w : IntKind.i64.wrap (dd - 1) = (d : Int) := by rw [IntKind.wrap_i64]; omega
            have e1x : IntKind.i64.wrap (d : Int) = (d : Int) := by rw [IntKind.wrap_i64]; omega
            have bd : decide (dd < 1) = false := by simp; omega
            have hdd0 : 1 ≤ dd := by omega
            have hdd4 : dd ≤ 4 := by omega
            have HT1 := Lib.hid (HT.out (.slice CA m cc) (.slice qa mq qc) w1 O1.out (HCQ.out.mv M1.out hlo) (HQQ.out.mv M1.out hlo))
            rw [hdd]
            clear HIH HT hdd hd
            go_wp2_with fail
            refine HT1.out.mono ?_
            rintro e w2 ⟨⟨xo, xc, ⟨xlk, xli, ⟨xlvk, xlvn, xlvs⟩⟩, ⟨xrk, xri, ⟨xrvk, xrvn, xrvs⟩⟩, xs⟩, xa, xcp, rfl, hps, hvl, hdp, hnd, hm2, ho2⟩
            have M2 : Hid (Mv bc wq w2) := M1.out.trans hm2
            have O2 := Lib.hid ho2
            have HPS := Lib.hid hps
            have HVL := Lib.hid hvl
            have HDP := Lib.hid hdp
            have HND := Lib.hid hnd
            change PdS _ w2 xs xa xcp at hps
            obtain ⟨q0, q1, q2, q3, q4, q5, q6, q7, q8, q9, q10, q11, q12, qf⟩ := HRB.out w2 M2.out
            have zr : w.heap.size < w2.heap.size := by have := M2.out.size; omega
            have hw12 : w.heap.size < w1.heap.size := by have := M1.out.size; omega
            have hsub : ∀ O V0 V1 V2 V3 V4 V5 V6 V7 V8 V9 V10 V11 V12, PdS (fun b => w.heap.size < b) ((set13 w2 w.heap.size V0 V1 V2 V3 V4 V5 V6 V7 V8 V9 V10 V11 V12).alloc O) xs xa xcp := fun O V0 V1 V2 V3 V4 V5 V6 V7 V8 V9 V10 V11 V12 =>
              (hps.weak (Q := fun b => w.heap.size < b) (fun b hb => by omega)).keep (by simp) (fun b hb hl => (Below.heap_alloc _ _ b (by rw [set13_size]; exact hl)).trans (set13_block _ _ _ _ _ _ _ _ _ _ _ _ _ _ _ _ (by omega)))
            have hread := fun O => set13_readsA (HRB.out w2 M2.out) zr O (.int .i64 6) (.int .i64 0) (.int .i64 0) (.int .i64 0) (.int .i64 0) (.int .i64 0) (.string ⟨#[]⟩) (.int .i64 0) (.int .i64 0) (.int .i64 0) (.int .i64 0) (.string ⟨#[]⟩) (.slice (some ⟨w2.heap.size, 0, none⟩) 1 1)
            have HREAD := Lib.hid hread
            clear hread
            have HSUB := Lib.hid hsub
            simp only [pdV, PT.op, PT.cmp, PT.l, PT.r, PT.args]
            obtain ⟨xn, hxn⟩ : ∃ xn, xs.length = xn := ⟨_, rfl⟩
            have HXN := Lib.hid hxn
            rw [hxn]
            clear hps hvl hdp hnd hm2 ho2 HT1 hsub hxn
            go_wp2_with fail
            refine bodyPost_ret (v := .agg #[.int .i64 6, .int .i64 0, .int .i64 0, .int .i64 0, .int .i64 0, .int .i64 0, .string ⟨#[]⟩, .int .i64 0, .int .i64 0, .int .i64 0, .int .i64 0, .string ⟨#[]⟩, .slice (some ⟨w2.heap.size, 0, none⟩) 1 1]) ?_ rfl ?_
            · obtain ⟨f0, f1, f2, f3, f4, f5, f6, f7, f8, f9, f10, f11, f12⟩ := HREAD.out (.cells #[.int .i64 xo, .int .i64 xc, .int .i64 xlk, .int .i64 xli, .int .i64 xlvk, .int .i64 xlvn, .string xlvs, .int .i64 xrk, .int .i64 xri, .int .i64 xrvk, .int .i64 xrvn, .string xrvs, .slice xa xn xcp] 77)
              simp only [set13] at f0 f1 f2 f3 f4 f5 f6 f7 f8 f9 f10 f11 f12
              simp [results, Try.results58, go_sem, f0, f1, f2, f3, f4, f5, f6, f7, f8, f9, f10, f11, f12]
            · refine ⟨.mk 6 0 zO zO [.mk xo xc ⟨xlk, xli, ⟨xlvk, xlvn, xlvs⟩⟩ ⟨xrk, xri, ⟨xrvk, xrvn, xrvs⟩⟩ xs], some ⟨w2.heap.size, 0, none⟩, 1, rfl, pdS_one (by omega) ?_ (pdC_block (a := xa) (c := xcp) (fun j u hu => ?_) (HSUB.out _ _ _ _ _ _ _ _ _ _ _ _ _ _)), vld_not HVL.out, ?_, ?_, ((MW.out.trans M2.out).set13 (Nat.le_refl _) _ _ _ _ _ _ _ _ _ _ _ _ _).alloc _, (O2.out.set13 hbl.2 _ _ _ _ _ _ _ _ _ _ _ _ _).alloc _⟩
              · simp
              · have hsz : (set13 w2 w.heap.size (.int .i64 6) (.int .i64 0) (.int .i64 0) (.int .i64 0) (.int .i64 0) (.int .i64 0) (.string ⟨#[]⟩) (.int .i64 0) (.int .i64 0) (.int .i64 0) (.int .i64 0) (.string ⟨#[]⟩) (.slice (some ⟨w2.heap.size, 0, none⟩) 1 1)).heap.size = w2.heap.size := set13_size _ _ _ _ _ _ _ _ _ _ _ _ _ _ _
                have hm := World.cell?_alloc_mark (set13 w2 w.heap.size (.int .i64 6) (.int .i64 0) (.int .i64 0) (.int .i64 0) (.int .i64 0) (.int .i64 0) (.string ⟨#[]⟩) (.int .i64 0) (.int .i64 0) (.int .i64 0) (.int .i64 0) (.string ⟨#[]⟩) (.slice (some ⟨w2.heap.size, 0, none⟩) 1 1)) #[.int .i64 xo, .int .i64 xc, .int .i64 xlk, .int .i64 xli, .int .i64 xlvk, .int .i64 xlvn, .string xlvs, .int .i64 xrk, .int .i64 xri, .int .i64 xrvk, .int .i64 xrvn, .string xrvs, .slice xa xn xcp] 77 (0, 0) j
                rw [hsz] at hm
                refine hm.trans ?_
                rw [← hu, ← HXN.out]
                simp [PT.op, PT.cmp, PT.l, PT.r, PT.args]
              · have := HDP.out
                show (depthP [_] + 1) ≤ _
                simp only [depthP]; omega
              · have := HND.out
                show nodesL [_] + 1 ≤ _
                simp only [nodesL, ndB]; omega
          · have h7 : 7 ≤ r := by omega
            obtain ⟨d, rfl⟩ : ∃ d, deep = d + 1 := ⟨deep - 1, by omega⟩
            have HT := Lib.hid (HIH.out d rfl)
            have b0 : (r == 0) = false := by simp; omega
            have b6 : decide (r < 6) = false := by simp; omega
            have b66 : (r == 6) = false := by simp; omega
            obtain ⟨dd, hdd⟩ : ∃ dd : Int, ((d + 1 : Nat) : Int) = dd := ⟨_, rfl⟩
            have e1 : dd - 1 = (d : Int) := by omega
            have e1w : IntKind.i64.wrap (dd - 1) = (d : Int) := by rw [IntKind.wrap_i64]; omega
            have e1x : IntKind.i64.wrap (d : Int) = (d : Int) := by rw [IntKind.wrap_i64]; omega
            have bd : decide (dd < 1) = false := by simp; omega
            have hdd0 : 1 ≤ dd := by omega
            have hdd4 : dd ≤ 4 := by omega
            rw [hdd]
            clear HIH hdd hd
            go_wp2_with fail
            obtain ⟨op, hop⟩ : ∃ op : Int, 4 + r - 7 = op := ⟨_, rfl⟩
            rw [hop]
            have HOP : Hid (op = 4 ∨ op = 5) := by show _ ∨ _; omega
            obtain ⟨wp, hwp⟩ : ∃ wp, w1.alloc (.cells #[.int .i64 op, .int .i64 0, .int .i64 0, .int .i64 0, .int .i64 0, .int .i64 0, .string ⟨#[]⟩, .int .i64 0, .int .i64 0, .int .i64 0, .int .i64 0, .string ⟨#[]⟩, .slice none 0 0] 77) = wp := ⟨_, rfl⟩
            have JB : JBx wp w1.heap.size op (.slice none 0 0) := by
              subst hwp
              exact ⟨by go_simp, by go_simp, by go_simp, by go_simp, by go_simp, by go_simp, by go_simp, by go_simp, by go_simp, by go_simp, by go_simp, by go_simp, by go_simp, fun j => by go_simp⟩
            have MP : Mv bc wq wp := by rw [← hwp]; exact M1.out.alloc _
            have OP : CaseOk bc B wp := by rw [← hwp]; exact O1.out.alloc _
            have hszp : wp.heap.size = w1.heap.size + 1 := by rw [← hwp]; simp
            have hszq := M1.out.size
            rw [hwp]
            obtain ⟨pb, hpb⟩ : ∃ pb, w1.heap.size = pb := ⟨_, rfl⟩
            rw [hpb] at JB hszp hszq ⊢
            have hpbq : wq.heap.size ≤ pb := hszq
            have hpbB : B ≤ pb := by omega
            have hpbc : bc < pb := by omega
            have hrp : w.heap.size < pb := by omega
            have JI : Hid (JInv bc B pb op wq (fun p => vldP C Q p = true ∧ p.depth ≤ d + 1 ∧ p.nodes ≤ ndB d) (.slice none 0 0) [] wp) := ⟨World.ownsRow_nil _ _ _ _, fun x hx => by simp at hx, fun x hx => by simp at hx, JB, by omega, MP, OP⟩
            clear hwp hpb hszp hszq JB MP OP hop h7 hr8 b0 b6 b66 hr0
            have HI3 := Lib.hid (cInt_any bc B 3 wp (by omega) (by omega) JI.out.ok)
            refine HI3.out.mono ?_
            rintro e w3 ⟨q, rfl, hq0, hq1, hm3, ho3⟩
            obtain ⟨q, rfl⟩ : ∃ z : Nat, q = z := ⟨q.toNat, by omega⟩
            have hq2 : q ≤ 2 := by omega
            replace JI := Lib.hid (JI.out.step hm3 ho3 hpbc)
            clear hm3 ho3 HI3 hq1 hq0
            have hinfo : (Try.prog.info? 77).map (fun i => (i.zero, i.size, i.bytes)) = some (some (.agg #[.int .i64 0, .int .i64 0, .int .i64 0, .int .i64 0, .int .i64 0, .int .i64 0, .string ⟨#[]⟩, .int .i64 0, .int .i64 0, .int .i64 0, .int .i64 0, .string ⟨#[]⟩, .slice none 0 0]), 13, 136) := by kernel_rfl
            obtain ⟨i0, hi, hz0, hz1, hz2⟩ := info_parts hinfo
            have HI := Lib.hid hi
            have HZ0 := Lib.hid hz0
            have HZ1 := Lib.hid hz1
            have HZ2 := Lib.hid hz2
            clear hi hz0 hz1 hz2 hinfo
            go_wp2_with fail
            go_loopw [13] (fun i wr => ∃ (k : Nat) (v : Value) (L : List TE), k ≤ q + 1 ∧ i = .int .i64 ((k : Int) - 1) ∧ Hid (L.length + k = q + 1) ∧ Hid (JInv bc B pb op wq (fun p => vldP C Q p = true ∧ p.depth ≤ d + 1 ∧ p.nodes ≤ ndB d) v L wr)) (fun i _ => (intOf i + 1).toNat)
            case atStart => exact ⟨q + 1, _, [], by omega, by go_num, by (show _ = _); simp, JI.out⟩
            case round =>
              obtain ⟨k, v, L, hk, rfl, HLK, HX0⟩ := hrel
              clear JI
              obtain ⟨va, vc, hv5⟩ := own_slice HX0.out.own
              subst hv5
              obtain ⟨j0, j1, j2, j3, j4, j5, j6, j7, j8, j9, j10, j11, j12, jf⟩ := HX0.out.box
              have jz := HX0.out.lt
              by_cases hk0 : k = 0
              · subst hk0
                obtain ⟨oa, oc, eo, hps⟩ := HX0.out.out (by have := HLK.out; omega)
                obtain ⟨q0, q1, q2, q3, q4, q5, q6, q7, q8, q9, q10, q11, q12, qf⟩ := HRB.out wr HX0.out.mv
                have zr : w.heap.size < wr.heap.size := by omega
                simp only [Value.slice.injEq] at eo
                obtain ⟨rfl, -, rfl⟩ := eo
                have hsub : ∀ V0 V1 V2 V3 V4 V5 V6 V7 V8 V9 V10 V11 V12, PdS (fun b => w.heap.size < b) (set13 wr w.heap.size V0 V1 V2 V3 V4 V5 V6 V7 V8 V9 V10 V11 V12) (L.map TE.p) va vc := fun V0 V1 V2 V3 V4 V5 V6 V7 V8 V9 V10 V11 V12 =>
                  (hps.weak (Q := fun b => w.heap.size < b) (fun b hb => by omega)).keep (by rw [set13_size]; exact Nat.le_refl _) (fun b hb _ => set13_block _ _ _ _ _ _ _ _ _ _ _ _ _ _ _ _ (by omega))
                have HSUB := Lib.hid hsub
                obtain ⟨ln, hln⟩ : ∃ ln, L.length = ln := ⟨_, rfl⟩
                have HLN := Lib.hid hln
                rw [hln] at j12
                have hl3 : ln ≤ 3 := by have := HLK.out; omega
                clear hps hsub hln
                go_wp2_with fail
                refine bodyPost_ret (v := .agg #[.int .i64 op, .int .i64 0, .int .i64 0, .int .i64 0, .int .i64 0, .int .i64 0, .string ⟨#[]⟩, .int .i64 0, .int .i64 0, .int .i64 0, .int .i64 0, .string ⟨#[]⟩, .slice va ln vc]) ?_ rfl ?_
                · simp [results, Try.results58, go_sem, q0, q1, q2, q3, q4, q5, q6, q7, q8, q9, q10, q11, q12]
                · have hg := HX0.out.good
                  refine ⟨.mk op 0 zO zO (L.map TE.p), va, vc, by show Ending.returned _ = Ending.returned (pdV _ _ _); rw [← HLN.out]; simp [pdV, PT.op, PT.cmp, PT.l, PT.r, PT.args, zO, zV], HSUB.out _ _ _ _ _ _ _ _ _ _ _ _ _, vld_join HOP.out (fun p hp => ?_), ?_, ?_, (MW.out.trans HX0.out.mv).set13 (Nat.le_refl _) _ _ _ _ _ _ _ _ _ _ _ _ _, HX0.out.ok.set13 hbl.2 _ _ _ _ _ _ _ _ _ _ _ _ _⟩
                  · obtain ⟨x, hx, rfl⟩ := List.mem_map.1 hp
                    exact (hg x hx).1
                  · show depthP (L.map TE.p) + 1 ≤ _
                    have := depthP_le (L := L.map TE.p) (d := d + 1) (fun p hp => by obtain ⟨x, hx, rfl⟩ := List.mem_map.1 hp; exact (hg x hx).2.1)
                    omega
                  · show nodesL (L.map TE.p) + 1 ≤ _
                    have h1 := nodesL_le (L := L.map TE.p) (d := ndB d) (fun p hp => by obtain ⟨x, hx, rfl⟩ := List.mem_map.1 hp; exact (hg x hx).2.2)
                    have h2 : (L.map TE.p).length * ndB d ≤ 3 * ndB d := Nat.mul_le_mul_right _ (by rw [List.length_map, HLN.out]; exact hl3)
                    simp only [ndB]; omega
              · have hki : (0 : Int) ≤ (k : Int) - 1 := by omega
                have hki2 : (1 : Int) ≤ k := by omega
                have hk3 : k ≤ 3 := by omega
                have hl3 : L.length ≤ 2 := by have := HLK.out; omega
                go_wp2_with fail
                have HXD : Hid (JInv bc B pb op wq (fun p => vldP C Q p = true ∧ p.depth ≤ d + 1 ∧ p.nodes ≤ ndB d) (.slice va L.length vc) L wr.drew) := HX0.out.step ((Mv.refl bc wr).drewN 1) (HX0.out.ok.below ((Below.refl B wr).drew) (Nat.le_refl _)) hpbc
                have A1 : Hid (L.length + 1 ≤ maxLen) := by show _ ≤ _; unfold maxLen; omega
                have A2 : Hid ((L.length + 1) * 136 ≤ 140737488355328) := by show _ ≤ _; omega
                refine wp_region_held_drew (S := fun _ => True) (by kernel_rfl) trivial (fun hHeld => ?_)
                obtain ⟨wd, hwd⟩ : ∃ wd, wr.drew = wd := ⟨_, rfl⟩
                rw [hwd] at HXD ⊢
                clear hwd j0 j1 j2 j3 j4 j5 j6 j7 j8 j9 j10 j11 j12 jf jz HX0
                have d12 := HXD.out.box.k12
                have dz := HXD.out.lt
                have HT1 := Lib.hid (HT.out (.slice CA m cc) (.slice qa mq qc) wd HXD.out.ok (HCQ.out.mv HXD.out.mv hlo) (HQQ.out.mv HXD.out.mv hlo))
                refine wpAnyH_takeD (i := 0) (d := 95) (v := ?_) rfl rfl (by kernel_rfl) (by kernel_rfl) (by kernel_rfl) (fun _ _ _ h => h) (Or.inl ⟨by rfl, ?_⟩) (by assumption) ?_; rotate_left
                · intro W hSw; (try dsimp only at hSw); go_simp; (try with_reducible rfl)
                (try simp only [List.set_cons_zero, List.set_cons_succ])
                refine wpAnyH_takeD (i := 2) (d := 97) (v := ?_) rfl rfl (by kernel_rfl) (by kernel_rfl) (by kernel_rfl) (fun _ _ _ h => h) (Or.inl ⟨by rfl, ?_⟩) (by assumption) ?_; rotate_left
                · intro W hSw; (try dsimp only at hSw); go_simp; (try with_reducible rfl)
                (try simp only [List.set_cons_zero, List.set_cons_succ])
                refine wpAnyH_takeD (i := 3) (d := 98) (v := ?_) rfl rfl (by kernel_rfl) (by kernel_rfl) (by kernel_rfl) (fun _ _ _ h => h) (Or.inl ⟨by rfl, ?_⟩) (by assumption) ?_; rotate_left
                · intro W hSw; (try dsimp only at hSw); go_simp; (try with_reducible rfl)
                (try simp only [List.set_cons_zero, List.set_cons_succ])
                refine wpAnyH_takeD (i := 4) (d := 99) (v := ?_) rfl rfl (by kernel_rfl) (by kernel_rfl) (by kernel_rfl) (fun _ _ _ h => h) (Or.inl ⟨by rfl, ?_⟩) (by assumption) ?_; rotate_left
                · intro W hSw; (try dsimp only at hSw); go_simp; (try with_reducible rfl)
                (try simp only [List.set_cons_zero, List.set_cons_succ])
                refine wpAnyH_takeD (i := 5) (d := 100) (v := ?_) rfl rfl (by kernel_rfl) (by kernel_rfl) (by kernel_rfl) (fun _ _ _ h => h) (Or.inl ⟨by rfl, ?_⟩) (by assumption) ?_; rotate_left
                · intro W hSw; (try dsimp only at hSw); go_simp; (try with_reducible rfl)
                (try simp only [List.set_cons_zero, List.set_cons_succ])
                refine wpAnyH_takeD (i := 6) (d := 101) (v := ?_) rfl rfl (by kernel_rfl) (by kernel_rfl) (by kernel_rfl) (fun _ _ _ h => h) (Or.inl ⟨by rfl, ?_⟩) (by assumption) ?_; rotate_left
                · intro W hSw; (try dsimp only at hSw); go_simp; (try with_reducible rfl)
                (try simp only [List.set_cons_zero, List.set_cons_succ])
                refine wpAnyH_ready (rs := [1, 7]) (by kernel_rfl) (by simp) ?_
                refine AllReadyH.cons rfl (fun K hK => ?_) (AllReadyH.cons rfl (fun K hK => ?_) AllReadyH.nil)
                · go_simp
                  clear hHeld
                  refine hK.out _ _ trivial (fun hHeld => ?_)
                  clear hK K
                  (try simp only [List.set_cons_zero, List.set_cons_succ])
                  refine wpAnyH_ready (rs := [7]) (by kernel_rfl) (by simp) ?_
                  refine AllReadyH.cons rfl (fun K hK => ?_) AllReadyH.nil
                  go_simp
                  (with_reducible refine HT1.out.mono ?_)
                  rintro e w2 ⟨⟨xo, xc, ⟨xlk, xli, ⟨xlvk, xlvn, xlvs⟩⟩, ⟨xrk, xri, ⟨xrvk, xrvn, xrvs⟩⟩, xs⟩, xa, xcp, rfl, hps, hvl, hdp, hnd, hm2, ho2⟩
                  change PdS _ w2 xs xa xcp at hps
                  simp only [pdV, PT.op, PT.cmp, PT.l, PT.r, PT.args]
                  have JX2 : Hid (JInv bc B pb op wq (fun p => vldP C Q p = true ∧ p.depth ≤ d + 1 ∧ p.nodes ≤ ndB d) (.slice va L.length vc) L w2) := HXD.out.step hm2 ho2 hpbc
                  have JAP : Hid (∀ (O : Obj) (v' : Value) (W2 : World), W2.ownsRow (pb + 1) 77 13 v' (L.length + 1) (teCells L ++ [.int .i64 xo, .int .i64 xc, .int .i64 xlk, .int .i64 xli, .int .i64 xlvk, .int .i64 xlvn, .string xlvs, .int .i64 xrk, .int .i64 xri, .int .i64 xrvk, .int .i64 xrvn, .string xrvs, .slice xa xs.length xcp]) → (w2.alloc O).grownBy W2 (Value.slice va L.length vc).ownBlock → (v'.ownBlock = (Value.slice va L.length vc).ownBlock ∨ v'.ownBlock = some (w2.alloc O).heap.size) → JInv bc B pb op wq (fun p => vldP C Q p = true ∧ p.depth ≤ d + 1 ∧ p.nodes ≤ ndB d) v' (L ++ [⟨.mk xo xc ⟨xlk, xli, ⟨xlvk, xlvn, xlvs⟩⟩ ⟨xrk, xri, ⟨xrvk, xrvn, xrvs⟩⟩ xs, xa, xcp⟩]) (W2.setCell ⟨pb, 12, none⟩ v')) := fun O v' W2 h1 h2 h3 => JX2.out.app ⟨.mk xo xc ⟨xlk, xli, ⟨xlvk, xlvn, xlvs⟩⟩ ⟨xrk, xri, ⟨xrvk, xrvn, xrvs⟩⟩ xs, xa, xcp⟩ (lo := wd.heap.size) (fun k e => Nat.le_of_lt (HXD.out.own.lt k e).2) (Nat.le_of_lt HXD.out.lt) hps ⟨hvl, hdp, hnd⟩ hpbq hpbB h1 h2 h3
                  have A3 : Hid (∀ O : Obj, pb + 1 ≤ (w2.alloc O).heap.size) := fun O => by have := JX2.out.lt; simp; omega
                  have A4 : Hid (∀ t (j : Nat) (u : Value), ([.int .i64 xo, .int .i64 xc, .int .i64 xlk, .int .i64 xli, .int .i64 xlvk, .int .i64 xlvn, .string xlvs, .int .i64 xrk, .int .i64 xri, .int .i64 xrvk, .int .i64 xrvn, .string xrvs, .slice xa xs.length xcp] : List Value)[j]? = some u → (w2.alloc (.cells #[.int .i64 xo, .int .i64 xc, .int .i64 xlk, .int .i64 xli, .int .i64 xlvk, .int .i64 xlvn, .string xlvs, .int .i64 xrk, .int .i64 xri, .int .i64 xrvk, .int .i64 xrvn, .string xrvs, .slice xa xs.length xcp] t)).cell? ((⟨w2.heap.size, 0, none⟩ : Addr).add j) = some u) := fun t => te_new w2 ⟨.mk xo xc ⟨xlk, xli, ⟨xlvk, xlvn, xlvs⟩⟩ ⟨xrk, xri, ⟨xrvk, xrvn, xrvs⟩⟩ xs, xa, xcp⟩ t
                  have A5 : Hid (∀ u ∈ ([.int .i64 xo, .int .i64 xc, .int .i64 xlk, .int .i64 xli, .int .i64 xlvk, .int .i64 xlvn, .string xlvs, .int .i64 xrk, .int .i64 xri, .int .i64 xrvk, .int .i64 xrvn, .string xrvs, .slice xa xs.length xcp] : List Value), u.oneCell' = true) := te_one ⟨.mk xo xc ⟨xlk, xli, ⟨xlvk, xlvn, xlvs⟩⟩ ⟨xrk, xri, ⟨xrvk, xrvn, xrvs⟩⟩ xs, xa, xcp⟩
                  have c12 : w2.cell? ⟨pb, 12, none⟩ = some (.slice va L.length vc) := JX2.out.box.k12
                  have z2 : pb < w2.heap.size := JX2.out.lt
                  clear hps hvl hdp hnd hm2 ho2 d12
                  clear hHeld
                  refine hK.out _ _ trivial (fun hHeld => ?_)
                  clear hK K
                  (try simp only [List.set_cons_zero, List.set_cons_succ])
                  refine wpAnyH_ready (rs := [8]) (by kernel_rfl) (by simp) ?_
                  refine AllReadyH.cons rfl (fun K hK => ?_) AllReadyH.nil
                  go_simp
                  clear hHeld
                  refine hK.out _ _ trivial (fun hHeld => ?_)
                  clear hK K
                  (try simp only [List.set_cons_zero, List.set_cons_succ])
                  refine wpAnyH_ready (rs := [9]) (by kernel_rfl) (by simp) ?_
                  refine AllReadyH.cons rfl (fun K hK => ?_) AllReadyH.nil
                  refine step_append_own rfl _ _ 38 rfl (pb + 1) 77 i0 (.agg #[.int .i64 0, .int .i64 0, .int .i64 0, .int .i64 0, .int .i64 0, .int .i64 0, .string ⟨#[]⟩, .int .i64 0, .int .i64 0, .int .i64 0, .int .i64 0, .string ⟨#[]⟩, .slice none 0 0]) 13 136 Try.underlying38 HI.out HZ0.out HZ1.out HZ2.out rfl (by decide) (.slice va L.length vc) L.length (teCells L) rfl (JX2.out.own.alloc _) ⟨w2.heap.size, 0, none⟩ 1 1 [.int .i64 xo, .int .i64 xc, .int .i64 xlk, .int .i64 xli, .int .i64 xlvk, .int .i64 xlvn, .string xlvs, .int .i64 xrk, .int .i64 xri, .int .i64 xrvk, .int .i64 xrvn, .string xrvs, .slice xa xs.length xcp] rfl rfl (A4.out _) A5.out A1.out A2.out (A3.out _) ?_
                  intro v' w4 hown4 hgr4 hat4
                  obtain ⟨va4, vc4, rfl⟩ := own_slice hown4
                  have HJ := Lib.hid (JAP.out _ _ w4 hown4 hgr4 hat4)
                  have hne4 : some pb ≠ (Value.slice va L.length vc).ownBlock := fun e => by have := (JX2.out.own.lt pb e.symm).1; omega
                  have e4 : w4.heap[pb]? = w2.heap[pb]? := (hgr4.block pb (by simp; omega) hne4).trans (Below.heap_alloc _ _ pb z2)
                  have d12' : w4.cell? ⟨pb, 12, none⟩ = some (.slice va L.length vc) := (World.cell?_of_block (w := w2) (a := ⟨pb, 12, none⟩) e4).trans c12
                  have f4 : w4.frozen? ⟨pb, 12, none⟩ = false := (World.frozen?_of_block (w := w2) (a := ⟨pb, 12, none⟩) e4).trans (JX2.out.box.kf 12)
                  have z4 : pb < w4.heap.size := by have := hgr4.size; simp at this; omega
                  clear hown4 hgr4 hat4 hne4 e4 JAP A3 A4 A5 JX2
                  clear hHeld
                  refine hK.out _ _ trivial (fun hHeld => ?_)
                  clear hK K
                  (try simp only [List.set_cons_zero, List.set_cons_succ])
                  refine wpAnyH_ready (rs := [10]) (by kernel_rfl) (by simp) ?_
                  refine AllReadyH.cons rfl (fun K hK => ?_) AllReadyH.nil
                  go_simp
                  clear hHeld
                  refine hK.out _ _ trivial (fun hHeld => ?_)
                  clear hK K
                  (try simp only [List.set_cons_zero, List.set_cons_succ])
                  refine wpAnyH_ready (rs := [11]) (by kernel_rfl) (by simp) ?_
                  refine AllReadyH.cons rfl (fun K hK => ?_) AllReadyH.nil
                  go_simp
                  clear hHeld
                  refine hK.out _ _ trivial (fun hHeld => ?_)
                  clear hK K
                  (try simp only [List.set_cons_zero, List.set_cons_succ])
                  refine wpAnyH_done (by kernel_rfl) ?_ _
                  clear d12' f4 z4
                  go_wp2_with fail
                  go_roundw
                  case rel => exact ⟨k - 1, _, L ++ [⟨.mk xo xc ⟨xlk, xli, ⟨xlvk, xlvn, xlvs⟩⟩ ⟨xrk, xri, ⟨xrvk, xrvn, xrvs⟩⟩ xs, xa, xcp⟩], by omega, by go_num, by (show _ = _); have := HLK.out; simp; omega, HJ⟩
                  case measure => simp [intOf]; omega
                · go_simp
                  (with_reducible refine HT1.out.mono ?_)
                  rintro e w2 ⟨⟨xo, xc, ⟨xlk, xli, ⟨xlvk, xlvn, xlvs⟩⟩, ⟨xrk, xri, ⟨xrvk, xrvn, xrvs⟩⟩, xs⟩, xa, xcp, rfl, hps, hvl, hdp, hnd, hm2, ho2⟩
                  change PdS _ w2 xs xa xcp at hps
                  simp only [pdV, PT.op, PT.cmp, PT.l, PT.r, PT.args]
                  have JX2 : Hid (JInv bc B pb op wq (fun p => vldP C Q p = true ∧ p.depth ≤ d + 1 ∧ p.nodes ≤ ndB d) (.slice va L.length vc) L w2) := HXD.out.step hm2 ho2 hpbc
                  have JAP : Hid (∀ (O : Obj) (v' : Value) (W2 : World), W2.ownsRow (pb + 1) 77 13 v' (L.length + 1) (teCells L ++ [.int .i64 xo, .int .i64 xc, .int .i64 xlk, .int .i64 xli, .int .i64 xlvk, .int .i64 xlvn, .string xlvs, .int .i64 xrk, .int .i64 xri, .int .i64 xrvk, .int .i64 xrvn, .string xrvs, .slice xa xs.length xcp]) → (w2.alloc O).grownBy W2 (Value.slice va L.length vc).ownBlock → (v'.ownBlock = (Value.slice va L.length vc).ownBlock ∨ v'.ownBlock = some (w2.alloc O).heap.size) → JInv bc B pb op wq (fun p => vldP C Q p = true ∧ p.depth ≤ d + 1 ∧ p.nodes ≤ ndB d) v' (L ++ [⟨.mk xo xc ⟨xlk, xli, ⟨xlvk, xlvn, xlvs⟩⟩ ⟨xrk, xri, ⟨xrvk, xrvn, xrvs⟩⟩ xs, xa, xcp⟩]) (W2.setCell ⟨pb, 12, none⟩ v')) := fun O v' W2 h1 h2 h3 => JX2.out.app ⟨.mk xo xc ⟨xlk, xli, ⟨xlvk, xlvn, xlvs⟩⟩ ⟨xrk, xri, ⟨xrvk, xrvn, xrvs⟩⟩ xs, xa, xcp⟩ (lo := wd.heap.size) (fun k e => Nat.le_of_lt (HXD.out.own.lt k e).2) (Nat.le_of_lt HXD.out.lt) hps ⟨hvl, hdp, hnd⟩ hpbq hpbB h1 h2 h3
                  have A3 : Hid (∀ O : Obj, pb + 1 ≤ (w2.alloc O).heap.size) := fun O => by have := JX2.out.lt; simp; omega
                  have A4 : Hid (∀ t (j : Nat) (u : Value), ([.int .i64 xo, .int .i64 xc, .int .i64 xlk, .int .i64 xli, .int .i64 xlvk, .int .i64 xlvn, .string xlvs, .int .i64 xrk, .int .i64 xri, .int .i64 xrvk, .int .i64 xrvn, .string xrvs, .slice xa xs.length xcp] : List Value)[j]? = some u → (w2.alloc (.cells #[.int .i64 xo, .int .i64 xc, .int .i64 xlk, .int .i64 xli, .int .i64 xlvk, .int .i64 xlvn, .string xlvs, .int .i64 xrk, .int .i64 xri, .int .i64 xrvk, .int .i64 xrvn, .string xrvs, .slice xa xs.length xcp] t)).cell? ((⟨w2.heap.size, 0, none⟩ : Addr).add j) = some u) := fun t => te_new w2 ⟨.mk xo xc ⟨xlk, xli, ⟨xlvk, xlvn, xlvs⟩⟩ ⟨xrk, xri, ⟨xrvk, xrvn, xrvs⟩⟩ xs, xa, xcp⟩ t
                  have A5 : Hid (∀ u ∈ ([.int .i64 xo, .int .i64 xc, .int .i64 xlk, .int .i64 xli, .int .i64 xlvk, .int .i64 xlvn, .string xlvs, .int .i64 xrk, .int .i64 xri, .int .i64 xrvk, .int .i64 xrvn, .string xrvs, .slice xa xs.length xcp] : List Value), u.oneCell' = true) := te_one ⟨.mk xo xc ⟨xlk, xli, ⟨xlvk, xlvn, xlvs⟩⟩ ⟨xrk, xri, ⟨xrvk, xrvn, xrvs⟩⟩ xs, xa, xcp⟩
                  have c12 : w2.cell? ⟨pb, 12, none⟩ = some (.slice va L.length vc) := JX2.out.box.k12
                  have z2 : pb < w2.heap.size := JX2.out.lt
                  clear hps hvl hdp hnd hm2 ho2 d12
                  clear hHeld
                  refine hK.out _ _ trivial (fun hHeld => ?_)
                  clear hK K
                  (try simp only [List.set_cons_zero, List.set_cons_succ])
                  refine wpAnyH_ready (rs := [1, 8]) (by kernel_rfl) (by simp) ?_
                  refine AllReadyH.cons rfl (fun K hK => ?_) (AllReadyH.cons rfl (fun K hK => ?_) AllReadyH.nil)
                  · go_simp
                    clear hHeld
                    refine hK.out _ _ trivial (fun hHeld => ?_)
                    clear hK K
                    (try simp only [List.set_cons_zero, List.set_cons_succ])
                    refine wpAnyH_ready (rs := [8]) (by kernel_rfl) (by simp) ?_
                    refine AllReadyH.cons rfl (fun K hK => ?_) AllReadyH.nil
                    go_simp
                    clear hHeld
                    refine hK.out _ _ trivial (fun hHeld => ?_)
                    clear hK K
                    (try simp only [List.set_cons_zero, List.set_cons_succ])
                    refine wpAnyH_ready (rs := [9]) (by kernel_rfl) (by simp) ?_
                    refine AllReadyH.cons rfl (fun K hK => ?_) AllReadyH.nil
                    refine step_append_own rfl _ _ 38 rfl (pb + 1) 77 i0 (.agg #[.int .i64 0, .int .i64 0, .int .i64 0, .int .i64 0, .int .i64 0, .int .i64 0, .string ⟨#[]⟩, .int .i64 0, .int .i64 0, .int .i64 0, .int .i64 0, .string ⟨#[]⟩, .slice none 0 0]) 13 136 Try.underlying38 HI.out HZ0.out HZ1.out HZ2.out rfl (by decide) (.slice va L.length vc) L.length (teCells L) rfl (JX2.out.own.alloc _) ⟨w2.heap.size, 0, none⟩ 1 1 [.int .i64 xo, .int .i64 xc, .int .i64 xlk, .int .i64 xli, .int .i64 xlvk, .int .i64 xlvn, .string xlvs, .int .i64 xrk, .int .i64 xri, .int .i64 xrvk, .int .i64 xrvn, .string xrvs, .slice xa xs.length xcp] rfl rfl (A4.out _) A5.out A1.out A2.out (A3.out _) ?_
                    intro v' w4 hown4 hgr4 hat4
                    obtain ⟨va4, vc4, rfl⟩ := own_slice hown4
                    have HJ := Lib.hid (JAP.out _ _ w4 hown4 hgr4 hat4)
                    have hne4 : some pb ≠ (Value.slice va L.length vc).ownBlock := fun e => by have := (JX2.out.own.lt pb e.symm).1; omega
                    have e4 : w4.heap[pb]? = w2.heap[pb]? := (hgr4.block pb (by simp; omega) hne4).trans (Below.heap_alloc _ _ pb z2)
                    have d12' : w4.cell? ⟨pb, 12, none⟩ = some (.slice va L.length vc) := (World.cell?_of_block (w := w2) (a := ⟨pb, 12, none⟩) e4).trans c12
                    have f4 : w4.frozen? ⟨pb, 12, none⟩ = false := (World.frozen?_of_block (w := w2) (a := ⟨pb, 12, none⟩) e4).trans (JX2.out.box.kf 12)
                    have z4 : pb < w4.heap.size := by have := hgr4.size; simp at this; omega
                    clear hown4 hgr4 hat4 hne4 e4 JAP A3 A4 A5 JX2
                    clear hHeld
                    refine hK.out _ _ trivial (fun hHeld => ?_)
                    clear hK K
                    (try simp only [List.set_cons_zero, List.set_cons_succ])
                    refine wpAnyH_ready (rs := [10]) (by kernel_rfl) (by simp) ?_
                    refine AllReadyH.cons rfl (fun K hK => ?_) AllReadyH.nil
                    go_simp
                    clear hHeld
                    refine hK.out _ _ trivial (fun hHeld => ?_)
                    clear hK K
                    (try simp only [List.set_cons_zero, List.set_cons_succ])
                    refine wpAnyH_ready (rs := [11]) (by kernel_rfl) (by simp) ?_
                    refine AllReadyH.cons rfl (fun K hK => ?_) AllReadyH.nil
                    go_simp
                    clear hHeld
                    refine hK.out _ _ trivial (fun hHeld => ?_)
                    clear hK K
                    (try simp only [List.set_cons_zero, List.set_cons_succ])
                    refine wpAnyH_done (by kernel_rfl) ?_ _
                    clear d12' f4 z4
                    go_wp2_with fail
                    go_roundw
                    case rel => exact ⟨k - 1, _, L ++ [⟨.mk xo xc ⟨xlk, xli, ⟨xlvk, xlvn, xlvs⟩⟩ ⟨xrk, xri, ⟨xrvk, xrvn, xrvs⟩⟩ xs, xa, xcp⟩], by omega, by go_num, by (show _ = _); have := HLK.out; simp; omega, HJ⟩
                    case measure => simp [intOf]; omega
                  · go_simp
                    clear hHeld
                    refine hK.out _ _ trivial (fun hHeld => ?_)
                    clear hK K
                    (try simp only [List.set_cons_zero, List.set_cons_succ])
                    refine wpAnyH_ready (rs := [1]) (by kernel_rfl) (by simp) ?_
                    refine AllReadyH.cons rfl (fun K hK => ?_) AllReadyH.nil
                    go_simp
                    clear hHeld
                    refine hK.out _ _ trivial (fun hHeld => ?_)
                    clear hK K
                    (try simp only [List.set_cons_zero, List.set_cons_succ])
                    refine wpAnyH_ready (rs := [9]) (by kernel_rfl) (by simp) ?_
                    refine AllReadyH.cons rfl (fun K hK => ?_) AllReadyH.nil
                    refine step_append_own rfl _ _ 38 rfl (pb + 1) 77 i0 (.agg #[.int .i64 0, .int .i64 0, .int .i64 0, .int .i64 0, .int .i64 0, .int .i64 0, .string ⟨#[]⟩, .int .i64 0, .int .i64 0, .int .i64 0, .int .i64 0, .string ⟨#[]⟩, .slice none 0 0]) 13 136 Try.underlying38 HI.out HZ0.out HZ1.out HZ2.out rfl (by decide) (.slice va L.length vc) L.length (teCells L) rfl (JX2.out.own.alloc _) ⟨w2.heap.size, 0, none⟩ 1 1 [.int .i64 xo, .int .i64 xc, .int .i64 xlk, .int .i64 xli, .int .i64 xlvk, .int .i64 xlvn, .string xlvs, .int .i64 xrk, .int .i64 xri, .int .i64 xrvk, .int .i64 xrvn, .string xrvs, .slice xa xs.length xcp] rfl rfl (A4.out _) A5.out A1.out A2.out (A3.out _) ?_
                    intro v' w4 hown4 hgr4 hat4
                    obtain ⟨va4, vc4, rfl⟩ := own_slice hown4
                    have HJ := Lib.hid (JAP.out _ _ w4 hown4 hgr4 hat4)
                    have hne4 : some pb ≠ (Value.slice va L.length vc).ownBlock := fun e => by have := (JX2.out.own.lt pb e.symm).1; omega
                    have e4 : w4.heap[pb]? = w2.heap[pb]? := (hgr4.block pb (by simp; omega) hne4).trans (Below.heap_alloc _ _ pb z2)
                    have d12' : w4.cell? ⟨pb, 12, none⟩ = some (.slice va L.length vc) := (World.cell?_of_block (w := w2) (a := ⟨pb, 12, none⟩) e4).trans c12
                    have f4 : w4.frozen? ⟨pb, 12, none⟩ = false := (World.frozen?_of_block (w := w2) (a := ⟨pb, 12, none⟩) e4).trans (JX2.out.box.kf 12)
                    have z4 : pb < w4.heap.size := by have := hgr4.size; simp at this; omega
                    clear hown4 hgr4 hat4 hne4 e4 JAP A3 A4 A5 JX2
                    clear hHeld
                    refine hK.out _ _ trivial (fun hHeld => ?_)
                    clear hK K
                    (try simp only [List.set_cons_zero, List.set_cons_succ])
                    refine wpAnyH_ready (rs := [10]) (by kernel_rfl) (by simp) ?_
                    refine AllReadyH.cons rfl (fun K hK => ?_) AllReadyH.nil
                    go_simp
                    clear hHeld
                    refine hK.out _ _ trivial (fun hHeld => ?_)
                    clear hK K
                    (try simp only [List.set_cons_zero, List.set_cons_succ])
                    refine wpAnyH_ready (rs := [11]) (by kernel_rfl) (by simp) ?_
                    refine AllReadyH.cons rfl (fun K hK => ?_) AllReadyH.nil
                    go_simp
                    clear hHeld
                    refine hK.out _ _ trivial (fun hHeld => ?_)
                    clear hK K
                    (try simp only [List.set_cons_zero, List.set_cons_succ])
                    refine wpAnyH_done (by kernel_rfl) ?_ _
                    clear d12' f4 z4
                    go_wp2_with fail
                    go_roundw
                    case rel => exact ⟨k - 1, _, L ++ [⟨.mk xo xc ⟨xlk, xli, ⟨xlvk, xlvn, xlvs⟩⟩ ⟨xrk, xri, ⟨xrvk, xrvn, xrvs⟩⟩ xs, xa, xcp⟩], by omega, by go_num, by (show _ = _); have := HLK.out; simp; omega, HJ⟩
                    case measure => simp [intOf]; omega

end Go.Proofs.Ytjcbmeannhafjaa
