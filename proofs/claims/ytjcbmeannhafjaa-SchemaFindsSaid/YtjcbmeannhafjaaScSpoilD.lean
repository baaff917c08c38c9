
/- SpoilSchema of a case: ScSpoilD. -/
import Derived.Test.YtjcbmeannhafjaaScSpMem

namespace Go.Proofs.Ytjcbmeannhafjaa

open Go.RowKit Go.Deep

set_option linter.unusedSimpArgs false in
set_option maxRecDepth 100000 in
set_option maxHeartbeats 16000000 in
theorem sp_way2 {bc B lo sb k m4 n tb cap i nc cc : Nat} {ca : Option Addr} {w w7 : World} {ver : Int} {X6 : List TX} {K : Act → World → Prop} (H : SwHyp bc B lo sb k m4 w w7 ver n tb cap X6 i nc cc ca) (hnp : 0 < nc) (x_1 x_2 x_4 x_7 x_8 x_9 x_10 x_11 x_12 x_13 x_14 x_15 x_16 x_17 x_18 x_19 x_20 x_21 x_22 x_23 x_24 x_25 x_26 x_27 x_28 x_29 x_30 x_31 x_32 x_33 x_34 x_35 x_36 x_37 x_38 x_39 x_40 x_41 x_42 x_43 x_44 x_45 x_46 x_47 x_48 x_49 x_50 x_51 x_52 x_53 x_54 x_55 x_57 x_58 x_59 x_60 x_61 x_62 x_63 x_64 x_65 x_66 x_67 x_68 x_69 x_70 x_71 x_72 x_73 x_74 x_75 x_76 x_77 x_78 x_79 x_80 x_81 x_82 x_83 x_84 x_85 x_86 x_87 x_88 x_89 x_90 x_91 x_92 x_93 x_94 x_95 x_96 x_97 x_98 x_99 x_100 x_101 x_102 x_103 x_104 x_105 x_106 x_107 x_108 x_109 x_110 x_111 x_112 x_113 x_114 x_115 x_116 x_117 x_118 x_119 x_120 x_121 x_122 x_123 x_124 x_125 x_126 x_127 x_128 x_129 x_130 x_131 x_132 x_133 x_134 x_135 x_136 x_137 x_138 x_139 x_140 x_141 x_142 x_143 x_144 x_145 x_146 x_147 x_148 x_149 x_150 x_151 x_152 x_153 x_154 x_155 x_156 x_157 x_158 x_159 x_160 x_161 x_162 x_163 x_164 x_165 x_166 x_167 x_168 x_169 x_170 x_171 x_172 x_173 x_174 x_175 x_176 x_177 x_178 x_179 x_180 x_181 x_182 x_183 x_184 x_185 x_186 x_187 x_188 x_189 x_190 x_191 x_192 x_193 x_194 x_195 x_196 x_197 x_198 x_199 x_200 x_201 x_202 : Value) (hK : ∀ (u7 u57 u58 u59 u60 u61 u62 u63 u64 u65 u66 u67 u68 u69 u70 u71 u72 u73 u74 u75 u76 u77 u78 u79 u80 u81 u82 u83 u84 u85 u86 u87 u88 u89 u90 u91 u92 u93 u94 u95 u96 u97 u98 u99 u100 u101 u102 u103 u104 u105 u106 u107 u108 u109 u110 u111 u112 u113 u114 u115 u116 u117 u118 u119 u120 u121 u122 u123 u124 u125 u126 u127 u128 u129 u130 u131 u132 u133 u134 u135 u136 u137 u138 u139 u140 u141 u142 u143 u144 u145 u146 u147 u148 u149 u150 u151 u152 u153 u154 u155 u156 u157 u158 u159 u160 u161 u162 u163 u164 u165 u166 u167 u168 u169 u170 u171 u172 u173 u174 u175 u176 u177 u178 u179 u180 u181 u182 u183 u184 u185 u186 u187 u188 u189 u190 u191 u192 u193 u194 u195 u196 u197 u198 u199 u200 u201 : Value) (W : World), SpEnd bc B lo sb (k + 9) w W → K ⟨#[.pointer (some ⟨bc, 0, none⟩), x_1, x_2, .pointer (some ⟨sb, 0, none⟩), x_4, .pointer (some ⟨tb, i * 5, none⟩), .int .i64 (2 : Nat), u7, x_8, x_9, x_10, x_11, x_12, x_13, x_14, x_15, x_16, x_17, x_18, x_19, x_20, x_21, x_22, x_23, x_24, x_25, x_26, x_27, x_28, x_29, x_30, x_31, x_32, x_33, x_34, x_35, x_36, x_37, x_38, x_39, x_40, x_41, x_42, x_43, x_44, x_45, x_46, x_47, x_48, x_49, x_50, x_51, x_52, x_53, x_54, x_55, .int .i64 (2 : Nat), u57, u58, u59, u60, u61, u62, u63, u64, u65, u66, u67, u68, u69, u70, u71, u72, u73, u74, u75, u76, u77, u78, u79, u80, u81, u82, u83, u84, u85, u86, u87, u88, u89, u90, u91, u92, u93, u94, u95, u96, u97, u98, u99, u100, u101, u102, u103, u104, u105, u106, u107, u108, u109, u110, u111, u112, u113, u114, u115, u116, u117, u118, u119, u120, u121, u122, u123, u124, u125, u126, u127, u128, u129, u130, u131, u132, u133, u134, u135, u136, u137, u138, u139, u140, u141, u142, u143, u144, u145, u146, u147, u148, u149, u150, u151, u152, u153, u154, u155, u156, u157, u158, u159, u160, u161, u162, u163, u164, u165, u166, u167, u168, u169, u170, u171, u172, u173, u174, u175, u176, u177, u178, u179, u180, u181, u182, u183, u184, u185, u186, u187, u188, u189, u190, u191, u192, u193, u194, u195, u196, u197, u198, u199, u200, u201, x_202], []⟩ W) : Code.wp Try.prog swBlock (Exit.then K (bodyPost Try.prog Try.f9 (SpSPost bc B lo (k + 9) w))) ⟨#[.pointer (some ⟨bc, 0, none⟩), x_1, x_2, .pointer (some ⟨sb, 0, none⟩), x_4, .pointer (some ⟨tb, i * 5, none⟩), .int .i64 (2 : Nat), x_7, x_8, x_9, x_10, x_11, x_12, x_13, x_14, x_15, x_16, x_17, x_18, x_19, x_20, x_21, x_22, x_23, x_24, x_25, x_26, x_27, x_28, x_29, x_30, x_31, x_32, x_33, x_34, x_35, x_36, x_37, x_38, x_39, x_40, x_41, x_42, x_43, x_44, x_45, x_46, x_47, x_48, x_49, x_50, x_51, x_52, x_53, x_54, x_55, .int .i64 (2 : Nat), x_57, x_58, x_59, x_60, x_61, x_62, x_63, x_64, x_65, x_66, x_67, x_68, x_69, x_70, x_71, x_72, x_73, x_74, x_75, x_76, x_77, x_78, x_79, x_80, x_81, x_82, x_83, x_84, x_85, x_86, x_87, x_88, x_89, x_90, x_91, x_92, x_93, x_94, x_95, x_96, x_97, x_98, x_99, x_100, x_101, x_102, x_103, x_104, x_105, x_106, x_107, x_108, x_109, x_110, x_111, x_112, x_113, x_114, x_115, x_116, x_117, x_118, x_119, x_120, x_121, x_122, x_123, x_124, x_125, x_126, x_127, x_128, x_129, x_130, x_131, x_132, x_133, x_134, x_135, x_136, x_137, x_138, x_139, x_140, x_141, x_142, x_143, x_144, x_145, x_146, x_147, x_148, x_149, x_150, x_151, x_152, x_153, x_154, x_155, x_156, x_157, x_158, x_159, x_160, x_161, x_162, x_163, x_164, x_165, x_166, x_167, x_168, x_169, x_170, x_171, x_172, x_173, x_174, x_175, x_176, x_177, x_178, x_179, x_180, x_181, x_182, x_183, x_184, x_185, x_186, x_187, x_188, x_189, x_190, x_191, x_192, x_193, x_194, x_195, x_196, x_197, x_198, x_199, x_200, x_201, x_202], []⟩ w7 := by
  obtain ⟨hk, hn1, hnk, hi6, s7, hsz5, hnx, hnck⟩ := H
  have S7 := Lib.hid s7
  have HSZ5 := Lib.hid hsz5
  have HNX := Lib.hid hnx
  have HK := Lib.hid hK
  have HSX : Hid (SzT k X6[i].t) := hsz5 _ (List.getElem_mem hi6)
  have T7 : Hid (TInv bc B lo sb w7.heap.size w w7 ver n tb cap X6) := S7.out.done (by have := HSX.out.1; omega)
  have HSE : Hid (∀ x' : TX, SzT (k + 9) x'.t → ∀ y ∈ X6.set i x', SzT (k + 9) y.t) := fun x' h => szT_set (fun y hy => (HSZ5.out y hy).mono (by omega)) h
  have hltb : tb < w7.heap.size := T7.out.core.tblt.2
  have hsb2 : sb + 2 ≤ tb := T7.out.core.tblt.1
  have hbcs : bc < sb := T7.out.core.hsb.2.1
  clear s7 hsz5 hnx hK
  conv => arg 2; whnf
  obtain ⟨cb, cc2, hcae⟩ : ∃ cb cc2, Value.slice ca nc cc = .slice (some ⟨cb, 0, none⟩) nc cc2 := by
    have h := S7.out.col
    rw [HNX.out.1, HNX.out.2.1, HNX.out.2.2] at h
    obtain ⟨g, c2, e, _⟩ := own_some hnp h
    exact ⟨g, c2, e⟩
  simp only [Value.slice.injEq, true_and] at hcae
  obtain ⟨rfl, rfl⟩ := hcae
  have hcbm : m4 ≤ cb ∧ cb < w7.heap.size := by
    have h := S7.out.col
    rw [HNX.out.2.1] at h
    exact h.lt cb rfl
  have hm4 : tb < m4 ∧ m4 ≤ w7.heap.size := ⟨S7.out.hm.1, S7.out.hm.2.1⟩
  have HKs : Hid (∀ W, Mv bc w7 W → W.cell? ⟨tb, i * 5 + 1, none⟩ = some (.slice (some ⟨cb, 0, none⟩) nc cc)) := fun W hm => by
    rw [hm.cell (p := ⟨tb, i * 5 + 1, none⟩) hltb (show tb ≠ bc by omega), S7.out.core.cellAt i hi6 1 (by omega)]
    show some (Value.slice X6[i].ca X6[i].t.cs.length X6[i].cc) = _
    rw [HNX.out.1, HNX.out.2.1, HNX.out.2.2]
  have HO7 : Hid (CaseOk bc B w7) := S7.out.core.ok
  have hnck2 : (nc : Int) ≤ 100 := by omega
  have q1 := HKs.out w7 (Mv.refl _ _)
  clear T7
  go_upto_region 18 with fail
  clear q1
  refine wp_region_held_drew (S := fun W => W.cell? ⟨tb, i * 5 + 1, none⟩ = some (.slice (some ⟨cb, 0, none⟩) nc cc)) (by kernel_rfl) (HKs.out _ ((Mv.refl _ _).drewN 1)) (fun hHeld => ?_)
  obtain ⟨wd, hwd⟩ : ∃ wd, w7.drew = wd := ⟨_, rfl⟩
  have BW : Hid (Mv bc w7 wd) := by rw [← hwd]; exact (Mv.refl _ _).drewN 1
  have OW : Hid (CaseOk bc B wd) := by rw [← hwd]; exact HO7.out.below ((Below.refl _ _).drew) HO7.out.lt.2
  have hzd : w7.heap.size ≤ wd.heap.size := BW.out.size
  rw [hwd] at hHeld ⊢
  clear hwd
  refine wpAnyH_takeD (i := 0) (d := 102) (v := ?_) rfl rfl (by kernel_rfl) (by kernel_rfl) (by kernel_rfl) (fun _ _ _ h => h) (Or.inl ⟨by rfl, ?_⟩) (by assumption) ?_; rotate_left
  · intro W hSw; (try dsimp only at hSw); go_simp; (try with_reducible rfl)
  (try simp only [List.set_cons_zero, List.set_cons_succ])
  refine wpAnyH_takeD (i := 1) (d := 103) (v := ?_) rfl rfl (by kernel_rfl) (by kernel_rfl) (by kernel_rfl) (fun _ _ _ h => h) (Or.inl ⟨by rfl, ?_⟩) (by assumption) ?_; rotate_left
  · intro W hSw; (try dsimp only at hSw); go_simp; (try with_reducible rfl)
  (try simp only [List.set_cons_zero, List.set_cons_succ])
  refine wpAnyH_takeD (i := 2) (d := 104) (v := ?_) rfl rfl (by kernel_rfl) (by kernel_rfl) (by kernel_rfl) (fun _ _ _ h => h) (Or.inl ⟨by rfl, ?_⟩) (by assumption) ?_; rotate_left
  · intro W hSw; (try dsimp only at hSw); go_simp; (try with_reducible rfl)
  (try simp only [List.set_cons_zero, List.set_cons_succ])
  refine wpAnyH_takeD (i := 3) (d := 105) (v := ?_) rfl rfl (by kernel_rfl) (by kernel_rfl) (by kernel_rfl) (fun _ _ _ h => h) (Or.inl ⟨by rfl, ?_⟩) (by assumption) ?_; rotate_left
  · intro W hSw; (try dsimp only at hSw); go_simp; (try with_reducible rfl)
  (try simp only [List.set_cons_zero, List.set_cons_succ])
  refine wpAnyH_takeD (i := 4) (d := 106) (v := ?_) rfl rfl (by kernel_rfl) (by kernel_rfl) (by kernel_rfl) (fun _ _ _ h => h) (Or.inl ⟨by rfl, ?_⟩) (by assumption) ?_; rotate_left
  · intro W hSw; (try dsimp only at hSw); go_simp; (try with_reducible rfl)
  (try simp only [List.set_cons_zero, List.set_cons_succ])
  refine wpAnyH_takeD (i := 5) (d := 107) (v := ?_) rfl rfl (by kernel_rfl) (by kernel_rfl) (by kernel_rfl) (fun _ _ _ h => h) (Or.inl ⟨by rfl, ?_⟩) (by assumption) ?_; rotate_left
  · intro W hSw; (try dsimp only at hSw); go_simp; (try with_reducible rfl)
  (try simp only [List.set_cons_zero, List.set_cons_succ])
  refine wpAnyH_takeD (i := 6) (d := 108) (v := ?_) rfl rfl (by kernel_rfl) (by kernel_rfl) (by kernel_rfl) (fun _ _ _ h => h) (Or.inl ⟨by rfl, ?_⟩) (by assumption) ?_; rotate_left
  · intro W hSw; (try dsimp only at hSw); go_simp; (try with_reducible rfl)
  (try simp only [List.set_cons_zero, List.set_cons_succ])
  refine wpAnyH_takeD (i := 7) (d := 109) (v := ?_) rfl rfl (by kernel_rfl) (by kernel_rfl) (by kernel_rfl) (fun _ _ _ h => h) (Or.inl ⟨by rfl, ?_⟩) (by assumption) ?_; rotate_left
  · intro W hSw; (try dsimp only at hSw); go_simp; (try with_reducible rfl)
  (try simp only [List.set_cons_zero, List.set_cons_succ])
  refine wpAnyH_takeD (i := 8) (d := 110) (v := ?_) rfl rfl (by kernel_rfl) (by kernel_rfl) (by kernel_rfl) (fun _ _ _ h => h) (Or.inl ⟨by rfl, ?_⟩) (by assumption) ?_; rotate_left
  · intro W hSw; (try dsimp only at hSw); go_simp; (try with_reducible rfl)
  (try simp only [List.set_cons_zero, List.set_cons_succ])
  refine wpAnyH_takeD (i := 9) (d := 111) (v := ?_) rfl rfl (by kernel_rfl) (by kernel_rfl) (by kernel_rfl) (fun _ _ _ h => h) (Or.inl ⟨by rfl, ?_⟩) (by assumption) ?_; rotate_left
  · intro W hSw; (try dsimp only at hSw); go_simp; (try with_reducible rfl)
  (try simp only [List.set_cons_zero, List.set_cons_succ])
  refine wpAnyH_takeD (i := 11) (d := 113) (v := ?_) rfl rfl (by kernel_rfl) (by kernel_rfl) (by kernel_rfl) (fun _ _ _ h => h) (Or.inl ⟨by rfl, ?_⟩) (by assumption) ?_; rotate_left
  · intro W hSw; (try dsimp only at hSw); go_simp; (try with_reducible rfl)
  (try simp only [List.set_cons_zero, List.set_cons_succ])
  have HCALL := Lib.hid (cInt_any bc B (nc : Int) wd (by omega) (by omega) OW.out)
  refine wpAnyH_ready (rs := [10]) (by kernel_rfl) (by simp) ?_
  refine (AllReadyH.cons rfl (fun K hK => ?_) AllReadyH.nil)
  go_simp
  refine HCALL.out.mono ?_
  rintro e wa ⟨r, rfl, hr0, hr1, hm, ho⟩
  clear hHeld HCALL
  replace BW := Lib.hid (BW.out.trans hm)
  replace OW := Lib.hid ho
  have hz_wa := hm.size
  obtain ⟨q, rfl⟩ : ∃ q : Nat, r = q := ⟨r.toNat, by omega⟩
  have hqn : q < nc := by omega
  have hqn2 : (q : Int) < nc := by omega
  clear hr0 hr1
  clear hm ho
  refine hK.out _ _ (HKs.out _ BW.out) (fun hHeld => ?_)
  clear hK K
  (try simp only [List.set_cons_zero, List.set_cons_succ])
  have HCALL := Lib.hid (cNumb_any bc B wa OW.out)
  refine wpAnyH_ready (rs := [12]) (by kernel_rfl) (by simp) ?_
  refine (AllReadyH.cons rfl (fun K hK => ?_) AllReadyH.nil)
  go_simp
  refine HCALL.out.mono ?_
  rintro e wb ⟨z, rfl, hm, ho⟩
  clear hHeld HCALL
  replace BW := Lib.hid (BW.out.trans hm)
  replace OW := Lib.hid ho
  have hz_wb := hm.size
  clear hm ho
  refine hK.out _ _ (HKs.out _ BW.out) (fun hHeld => ?_)
  clear hK K
  (try simp only [List.set_cons_zero, List.set_cons_succ])
  refine wpAnyH_takeD (i := 13) (d := 115) (v := ?_) rfl rfl (by kernel_rfl) (by kernel_rfl) (by kernel_rfl) (fun _ _ _ h => h) (Or.inl ⟨by rfl, ?_⟩) (by assumption) ?_; rotate_left
  · intro W hSw; (try dsimp only at hSw); go_simp; (try with_reducible rfl)
  (try simp only [List.set_cons_zero, List.set_cons_succ])
  refine wpAnyH_takeD (i := 14) (d := 116) (v := ?_) rfl rfl (by kernel_rfl) (by kernel_rfl) (by kernel_rfl) (fun _ _ _ h => h) (Or.inl ⟨by rfl, ?_⟩) (by assumption) ?_; rotate_left
  · intro W hSw; (try dsimp only at hSw); go_simp; (try with_reducible rfl)
  (try simp only [List.set_cons_zero, List.set_cons_succ])
  have S8 := Lib.hid (S7.out.step BW.out OW.out)
  obtain ⟨vo, qo⟩ : ∃ v, wb.cell? ⟨cb, q * 2 + 1, none⟩ = some v := by
    have h := S8.out.col
    rw [HNX.out.2.1] at h
    refine ⟨_, (h.cellAt (q * 2 + 1) (by rw [HNX.out.1]; omega)).trans (List.getElem?_eq_getElem (by rw [flat_len clC 2 clC_len, HNX.out.1]; omega))⟩
  have fo : wb.frozen? ⟨cb, q * 2 + 1, none⟩ = false := by
    have h := S8.out.col
    rw [HNX.out.2.1] at h
    exact h.frozenAt _
  have hlo8 : cb < wb.heap.size := by omega
  have hqc : q < X6[i].t.cs.length := by rw [HNX.out.1]; exact hqn
  have HE : Hid (SpEnd bc B lo sb (k + 9) w (wb.setCell ⟨cb, q * 2 + 1, none⟩ (.int .i64 z))) := col_end S8.out HNX.out.2.1 hqc 1 (by omega) (.int .i64 z) ⟨X6[i].t.cs[q].s, z⟩ rfl hn1 hnk HSZ5.out (show X6[i].t.cs[q].s.size ≤ maxLen from HSX.out.2.2.2.2 _ (List.getElem_mem hqc)) (by omega)
  have HKE : Hid ((wb.setCell ⟨cb, q * 2 + 1, none⟩ (.int .i64 z)).cell? ⟨tb, i * 5 + 1, none⟩ = some (.slice (some ⟨cb, 0, none⟩) nc cc)) := (World.cell?_of_block (a := ⟨tb, i * 5 + 1, none⟩) (Below.heap_setCell _ _ _ _ (show tb ≠ cb by omega))).trans (HKs.out _ BW.out)
  refine wpAnyH_ready (rs := [15]) (by kernel_rfl) (by simp) ?_
  refine (AllReadyH.cons rfl (fun K hK => ?_) AllReadyH.nil)
  go_simp
  clear hHeld
  refine hK.out _ _ HKE.out (fun hHeld => ?_)
  clear hK K
  (try simp only [List.set_cons_zero, List.set_cons_succ])
  clear hHeld
  refine wpAnyH_done (by kernel_rfl) ?_ _
  clear HSZ5 HSE HSX S7 S8 HNX HKs HKE
  go_wp2_with fail
  have hK := HK.out
  apply hK
  exact HE.out

set_option linter.unusedSimpArgs false in
set_option maxRecDepth 100000 in
set_option maxHeartbeats 16000000 in
theorem sp_way5 {bc B lo sb k m4 n tb cap i nc cc : Nat} {ca : Option Addr} {w w7 : World} {ver : Int} {X6 : List TX} {K : Act → World → Prop} (H : SwHyp bc B lo sb k m4 w w7 ver n tb cap X6 i nc cc ca) (x_1 x_2 x_4 x_7 x_8 x_9 x_10 x_11 x_12 x_13 x_14 x_15 x_16 x_17 x_18 x_19 x_20 x_21 x_22 x_23 x_24 x_25 x_26 x_27 x_28 x_29 x_30 x_31 x_32 x_33 x_34 x_35 x_36 x_37 x_38 x_39 x_40 x_41 x_42 x_43 x_44 x_45 x_46 x_47 x_48 x_49 x_50 x_51 x_52 x_53 x_54 x_55 x_57 x_58 x_59 x_60 x_61 x_62 x_63 x_64 x_65 x_66 x_67 x_68 x_69 x_70 x_71 x_72 x_73 x_74 x_75 x_76 x_77 x_78 x_79 x_80 x_81 x_82 x_83 x_84 x_85 x_86 x_87 x_88 x_89 x_90 x_91 x_92 x_93 x_94 x_95 x_96 x_97 x_98 x_99 x_100 x_101 x_102 x_103 x_104 x_105 x_106 x_107 x_108 x_109 x_110 x_111 x_112 x_113 x_114 x_115 x_116 x_117 x_118 x_119 x_120 x_121 x_122 x_123 x_124 x_125 x_126 x_127 x_128 x_129 x_130 x_131 x_132 x_133 x_134 x_135 x_136 x_137 x_138 x_139 x_140 x_141 x_142 x_143 x_144 x_145 x_146 x_147 x_148 x_149 x_150 x_151 x_152 x_153 x_154 x_155 x_156 x_157 x_158 x_159 x_160 x_161 x_162 x_163 x_164 x_165 x_166 x_167 x_168 x_169 x_170 x_171 x_172 x_173 x_174 x_175 x_176 x_177 x_178 x_179 x_180 x_181 x_182 x_183 x_184 x_185 x_186 x_187 x_188 x_189 x_190 x_191 x_192 x_193 x_194 x_195 x_196 x_197 x_198 x_199 x_200 x_201 x_202 : Value) (hK : ∀ (u7 u57 u58 u59 u60 u61 u62 u63 u64 u65 u66 u67 u68 u69 u70 u71 u72 u73 u74 u75 u76 u77 u78 u79 u80 u81 u82 u83 u84 u85 u86 u87 u88 u89 u90 u91 u92 u93 u94 u95 u96 u97 u98 u99 u100 u101 u102 u103 u104 u105 u106 u107 u108 u109 u110 u111 u112 u113 u114 u115 u116 u117 u118 u119 u120 u121 u122 u123 u124 u125 u126 u127 u128 u129 u130 u131 u132 u133 u134 u135 u136 u137 u138 u139 u140 u141 u142 u143 u144 u145 u146 u147 u148 u149 u150 u151 u152 u153 u154 u155 u156 u157 u158 u159 u160 u161 u162 u163 u164 u165 u166 u167 u168 u169 u170 u171 u172 u173 u174 u175 u176 u177 u178 u179 u180 u181 u182 u183 u184 u185 u186 u187 u188 u189 u190 u191 u192 u193 u194 u195 u196 u197 u198 u199 u200 u201 : Value) (W : World), SpEnd bc B lo sb (k + 9) w W → K ⟨#[.pointer (some ⟨bc, 0, none⟩), x_1, x_2, .pointer (some ⟨sb, 0, none⟩), x_4, .pointer (some ⟨tb, i * 5, none⟩), .int .i64 (5 : Nat), u7, x_8, x_9, x_10, x_11, x_12, x_13, x_14, x_15, x_16, x_17, x_18, x_19, x_20, x_21, x_22, x_23, x_24, x_25, x_26, x_27, x_28, x_29, x_30, x_31, x_32, x_33, x_34, x_35, x_36, x_37, x_38, x_39, x_40, x_41, x_42, x_43, x_44, x_45, x_46, x_47, x_48, x_49, x_50, x_51, x_52, x_53, x_54, x_55, .int .i64 (5 : Nat), u57, u58, u59, u60, u61, u62, u63, u64, u65, u66, u67, u68, u69, u70, u71, u72, u73, u74, u75, u76, u77, u78, u79, u80, u81, u82, u83, u84, u85, u86, u87, u88, u89, u90, u91, u92, u93, u94, u95, u96, u97, u98, u99, u100, u101, u102, u103, u104, u105, u106, u107, u108, u109, u110, u111, u112, u113, u114, u115, u116, u117, u118, u119, u120, u121, u122, u123, u124, u125, u126, u127, u128, u129, u130, u131, u132, u133, u134, u135, u136, u137, u138, u139, u140, u141, u142, u143, u144, u145, u146, u147, u148, u149, u150, u151, u152, u153, u154, u155, u156, u157, u158, u159, u160, u161, u162, u163, u164, u165, u166, u167, u168, u169, u170, u171, u172, u173, u174, u175, u176, u177, u178, u179, u180, u181, u182, u183, u184, u185, u186, u187, u188, u189, u190, u191, u192, u193, u194, u195, u196, u197, u198, u199, u200, u201, x_202], []⟩ W) : Code.wp Try.prog swBlock (Exit.then K (bodyPost Try.prog Try.f9 (SpSPost bc B lo (k + 9) w))) ⟨#[.pointer (some ⟨bc, 0, none⟩), x_1, x_2, .pointer (some ⟨sb, 0, none⟩), x_4, .pointer (some ⟨tb, i * 5, none⟩), .int .i64 (5 : Nat), x_7, x_8, x_9, x_10, x_11, x_12, x_13, x_14, x_15, x_16, x_17, x_18, x_19, x_20, x_21, x_22, x_23, x_24, x_25, x_26, x_27, x_28, x_29, x_30, x_31, x_32, x_33, x_34, x_35, x_36, x_37, x_38, x_39, x_40, x_41, x_42, x_43, x_44, x_45, x_46, x_47, x_48, x_49, x_50, x_51, x_52, x_53, x_54, x_55, .int .i64 (5 : Nat), x_57, x_58, x_59, x_60, x_61, x_62, x_63, x_64, x_65, x_66, x_67, x_68, x_69, x_70, x_71, x_72, x_73, x_74, x_75, x_76, x_77, x_78, x_79, x_80, x_81, x_82, x_83, x_84, x_85, x_86, x_87, x_88, x_89, x_90, x_91, x_92, x_93, x_94, x_95, x_96, x_97, x_98, x_99, x_100, x_101, x_102, x_103, x_104, x_105, x_106, x_107, x_108, x_109, x_110, x_111, x_112, x_113, x_114, x_115, x_116, x_117, x_118, x_119, x_120, x_121, x_122, x_123, x_124, x_125, x_126, x_127, x_128, x_129, x_130, x_131, x_132, x_133, x_134, x_135, x_136, x_137, x_138, x_139, x_140, x_141, x_142, x_143, x_144, x_145, x_146, x_147, x_148, x_149, x_150, x_151, x_152, x_153, x_154, x_155, x_156, x_157, x_158, x_159, x_160, x_161, x_162, x_163, x_164, x_165, x_166, x_167, x_168, x_169, x_170, x_171, x_172, x_173, x_174, x_175, x_176, x_177, x_178, x_179, x_180, x_181, x_182, x_183, x_184, x_185, x_186, x_187, x_188, x_189, x_190, x_191, x_192, x_193, x_194, x_195, x_196, x_197, x_198, x_199, x_200, x_201, x_202], []⟩ w7 := by
  obtain ⟨hk, hn1, hnk, hi6, s7, hsz5, hnx, hnck⟩ := H
  have S7 := Lib.hid s7
  have HSZ5 := Lib.hid hsz5
  have HNX := Lib.hid hnx
  have HK := Lib.hid hK
  have HSX : Hid (SzT k X6[i].t) := hsz5 _ (List.getElem_mem hi6)
  have T7 : Hid (TInv bc B lo sb w7.heap.size w w7 ver n tb cap X6) := S7.out.done (by have := HSX.out.1; omega)
  have HSE : Hid (∀ x' : TX, SzT (k + 9) x'.t → ∀ y ∈ X6.set i x', SzT (k + 9) y.t) := fun x' h => szT_set (fun y hy => (HSZ5.out y hy).mono (by omega)) h
  have hltb : tb < w7.heap.size := T7.out.core.tblt.2
  have hsb2 : sb + 2 ≤ tb := T7.out.core.tblt.1
  have hbcs : bc < sb := T7.out.core.hsb.2.1
  clear s7 hsz5 hnx hK
  conv => arg 2; whnf
  have hinfo : (Try.prog.info? 35).map (fun i => (i.zero, i.size, i.bytes)) = some (some (.agg #[.string ⟨#[]⟩, .int .i64 0]), 2, 24) := by kernel_rfl
  obtain ⟨i2, hi2, hz0, hz1, hz2⟩ := info_parts hinfo
  have HJ0 := Lib.hid hi2
  have HJ1 := Lib.hid hz0
  have HJ2 := Lib.hid hz1
  have HJ3 := Lib.hid hz2
  have hm4 : tb < m4 ∧ m4 ≤ w7.heap.size := ⟨S7.out.hm.1, S7.out.hm.2.1⟩
  clear hi2 hz0 hz1 hz2 hinfo T7
  have HI0 : Hid (∃ X5, SwI bc B lo sb m4 w w7 ver n tb cap X5 i ∧ (∀ y ∈ X5, SzT (k + 9) y.t) ∧ ∀ h : i < X5.length, X5[i].t.cs.length ≤ nc + 0) := ⟨X6, S7.out, fun y hy => (HSZ5.out y hy).mono (by omega), fun h => by rw [HNX.out.1]; omega⟩
  go_wp2_with fail
  go_loopw [7] (fun c wr => ∃ m : Nat, m ≤ 8 ∧ c = .int .i64 m ∧ Hid (∃ X5, SwI bc B lo sb m4 w wr ver n tb cap X5 i ∧ (∀ y ∈ X5, SzT (k + 9) y.t) ∧ ∀ h : i < X5.length, X5[i].t.cs.length ≤ nc + m)) (fun c _ => 8 - (intOf c).toNat)
  case atStart => exact ⟨0, by omega, rfl, HI0⟩
  case round =>
    obtain ⟨m, hm8, rfl, HX⟩ := hrel
    clear HI0 S7 HSZ5 HNX HSX HSE
    obtain ⟨X5, s5, z5, l5⟩ := HX.out
    have hi5 := s5.hi
    have S5 := Lib.hid s5
    have Z5 := Lib.hid z5
    clear s5 z5 HX
    by_cases hlt : m < 8
    · have hlt2 : (m : Int) < 8 := by omega
      obtain ⟨n5, hn5⟩ : ∃ n5, X5[i].t.cs.length = n5 := ⟨_, rfl⟩
      obtain ⟨ca5, hca5⟩ : ∃ ca5, X5[i].ca = ca5 := ⟨_, rfl⟩
      obtain ⟨cc5, hcc5⟩ : ∃ cc5, X5[i].cc = cc5 := ⟨_, rfl⟩
      have hn5m : n5 ≤ nc + m := by rw [← hn5]; exact l5 hi5
      have q1 : wr.cell? ⟨tb, i * 5 + 1, none⟩ = some (.slice ca5 n5 cc5) := by
        rw [← hca5, ← hn5, ← hcc5]; exact (S5.out.core.cellAt i hi5 1 (by omega)).trans rfl
      have hlr : tb < wr.heap.size := S5.out.core.tblt.2
      have HF5 : Hid (X5[i].ca = ca5 ∧ X5[i].cc = cc5 ∧ X5[i].t.cs.length = n5) := ⟨hca5, hcc5, hn5⟩
      clear l5 hn5 hca5 hcc5
      have A3 : Hid (n5 + 1 ≤ maxLen) := by show _ ≤ _; unfold maxLen; omega
      have A4 : Hid ((n5 + 1) * 24 ≤ 140737488355328) := by show _ ≤ _; omega
      have A5 : Hid (∀ s : ByteArray, ∀ u ∈ ([.string s, .int .i64 4] : List Value), u.oneCell' = true) := fun s => clC_one ⟨s, 4⟩
      have A6 : Hid (∀ (s : ByteArray) t (j : Nat) (u : Value), ([.string s, .int .i64 4] : List Value)[j]? = some u → (wr.alloc (.cells #[.string s, .int .i64 4] t)).cell? ((⟨wr.heap.size, 0, none⟩ : Addr).add j) = some u) := fun s t => row_new wr [.string s, .int .i64 4] t
      have A7 : Hid (∀ O : Obj, m4 ≤ (wr.alloc O).heap.size) := fun O => by have := S5.out.hm.2.1; simp; omega
      have HOW : Hid (wr.ownsRow m4 35 2 (.slice ca5 n5 cc5) n5 (colCells X5[i].t.cs)) := by
        have h := S5.out.col
        rw [HF5.out.1, HF5.out.2.1, HF5.out.2.2] at h
        exact h
      have HGR : Hid (∀ (s : ByteArray) (O : Obj) (ca9 : Option Addr) (cc9 : Nat) (w9 : World), s.size ≤ maxLen → w9.ownsRow m4 35 2 (.slice ca9 (n5 + 1) cc9) (n5 + 1) (colCells X5[i].t.cs ++ [.string s, .int .i64 4]) → (wr.alloc O).grownBy w9 (Value.slice ca5 n5 cc5).ownBlock → (∃ X9, SwI bc B lo sb m4 w (w9.setCell ⟨tb, i * 5 + 1, none⟩ (.slice ca9 (n5 + 1) cc9)) ver n tb cap X9 i ∧ (∀ y ∈ X9, SzT (k + 9) y.t) ∧ ∀ h : i < X9.length, X9[i].t.cs.length ≤ nc + (m + 1)) ∧ (∃ vo, w9.cell? ⟨tb, i * 5 + 1, none⟩ = some vo) ∧ w9.frozen? ⟨tb, i * 5 + 1, none⟩ = false ∧ tb < w9.heap.size) := fun s O ca9 cc9 w9 hs h1 h2 => by
        have e : colCells X5[i].t.cs ++ [.string s, .int .i64 4] = colCells (X5[i].t.cs ++ [(⟨s, 4⟩ : CL)]) := by unfold colCells; rw [List.flatMap_append]; rfl
        rw [e, ← HF5.out.2.2] at h1
        rw [← HF5.out.1, ← HF5.out.2.1, ← HF5.out.2.2] at h2
        have hg := S5.out.growCol ⟨s, 4⟩ h1 h2
        have hm := S5.out.hm
        have hrow := S5.out.col.lt
        have hbk : w9.heap[tb]? = wr.heap[tb]? := (h2.block tb (by simp; omega) (fun e => by have := hrow tb e.symm; omega)).trans (((Below.refl wr.heap.size wr).alloc (Nat.le_refl _) O).block tb hlr)
        have hsz := h2.size
        simp only [World.size_alloc] at hsz
        have hzx := Z5.out _ (List.getElem_mem hi5)
        refine ⟨⟨_, by rw [← HF5.out.2.2]; exact hg, szT_set Z5.out ?_, fun h => ?_⟩, ⟨_, (World.cell?_of_block (a := ⟨tb, i * 5 + 1, none⟩) hbk).trans q1⟩, (World.frozen?_of_block (a := ⟨tb, i * 5 + 1, none⟩) hbk).trans (S5.out.core.fz _), by omega⟩
        · refine ⟨?_, hzx.2.1, hzx.2.2.1, hzx.2.2.2.1, fun c hc => ?_⟩
          · simp only [List.length_append, List.length_singleton]; rw [HF5.out.2.2]; omega
          · rcases List.mem_append.1 hc with hc | hc
            · exact hzx.2.2.2.2 c hc
            · rw [List.mem_singleton.1 hc]; exact hs
        · rw [List.getElem_set_self]; simp only [List.length_append, List.length_singleton]; rw [HF5.out.2.2]; omega
      have hmm : m = 0 ∨ m = 1 ∨ m = 2 ∨ m = 3 ∨ m = 4 ∨ m = 5 ∨ m = 6 ∨ m = 7 := by omega
      clear S5 Z5 HF5
      rcases hmm with rfl | rfl | rfl | rfl | rfl | rfl | rfl | rfl
      · go_wp2_with
          (refine wpList_append_own _ rfl _ _ 36 rfl m4 35 i2 (.agg #[.string ⟨#[]⟩, .int .i64 0]) 2 24 Try.underlying36 HJ0.out HJ1.out HJ2.out HJ3.out rfl (by decide) _ _ _ rfl (HOW.out.alloc _) ⟨wr.heap.size, 0, none⟩ 1 1 [.string ⟨#[99, 97]⟩, .int .i64 4] rfl rfl (A6.out _ _) (A5.out _) A3.out A4.out (A7.out _) ?_
           intro v9 w9 hown9 hgr9 _
           obtain ⟨ca9, cc9, ev⟩ := own_slice hown9
           subst ev
           obtain ⟨hX9, ⟨vo, qo⟩, fo, hlo9⟩ := HGR.out ⟨#[99, 97]⟩ _ ca9 cc9 w9 (by simp [ByteArray.size, maxLen]) hown9 hgr9
           have HX9 := Lib.hid hX9
           clear hX9 hown9 hgr9 HOW HGR A3 A4 A5 A6 A7 q1)
        go_roundw
        case rel => exact ⟨1, by omega, by go_num, HX9⟩
        case measure => simp [intOf]
      · go_wp2_with
          (refine wpList_append_own _ rfl _ _ 36 rfl m4 35 i2 (.agg #[.string ⟨#[]⟩, .int .i64 0]) 2 24 Try.underlying36 HJ0.out HJ1.out HJ2.out HJ3.out rfl (by decide) _ _ _ rfl (HOW.out.alloc _) ⟨wr.heap.size, 0, none⟩ 1 1 [.string ⟨#[99, 98]⟩, .int .i64 4] rfl rfl (A6.out _ _) (A5.out _) A3.out A4.out (A7.out _) ?_
           intro v9 w9 hown9 hgr9 _
           obtain ⟨ca9, cc9, ev⟩ := own_slice hown9
           subst ev
           obtain ⟨hX9, ⟨vo, qo⟩, fo, hlo9⟩ := HGR.out ⟨#[99, 98]⟩ _ ca9 cc9 w9 (by simp [ByteArray.size, maxLen]) hown9 hgr9
           have HX9 := Lib.hid hX9
           clear hX9 hown9 hgr9 HOW HGR A3 A4 A5 A6 A7 q1)
        go_roundw
        case rel => exact ⟨2, by omega, by go_num, HX9⟩
        case measure => simp [intOf]
      · go_wp2_with
          (refine wpList_append_own _ rfl _ _ 36 rfl m4 35 i2 (.agg #[.string ⟨#[]⟩, .int .i64 0]) 2 24 Try.underlying36 HJ0.out HJ1.out HJ2.out HJ3.out rfl (by decide) _ _ _ rfl (HOW.out.alloc _) ⟨wr.heap.size, 0, none⟩ 1 1 [.string ⟨#[99, 99]⟩, .int .i64 4] rfl rfl (A6.out _ _) (A5.out _) A3.out A4.out (A7.out _) ?_
           intro v9 w9 hown9 hgr9 _
           obtain ⟨ca9, cc9, ev⟩ := own_slice hown9
           subst ev
           obtain ⟨hX9, ⟨vo, qo⟩, fo, hlo9⟩ := HGR.out ⟨#[99, 99]⟩ _ ca9 cc9 w9 (by simp [ByteArray.size, maxLen]) hown9 hgr9
           have HX9 := Lib.hid hX9
           clear hX9 hown9 hgr9 HOW HGR A3 A4 A5 A6 A7 q1)
        go_roundw
        case rel => exact ⟨3, by omega, by go_num, HX9⟩
        case measure => simp [intOf]
      · go_wp2_with
          (refine wpList_append_own _ rfl _ _ 36 rfl m4 35 i2 (.agg #[.string ⟨#[]⟩, .int .i64 0]) 2 24 Try.underlying36 HJ0.out HJ1.out HJ2.out HJ3.out rfl (by decide) _ _ _ rfl (HOW.out.alloc _) ⟨wr.heap.size, 0, none⟩ 1 1 [.string ⟨#[99, 100]⟩, .int .i64 4] rfl rfl (A6.out _ _) (A5.out _) A3.out A4.out (A7.out _) ?_
           intro v9 w9 hown9 hgr9 _
           obtain ⟨ca9, cc9, ev⟩ := own_slice hown9
           subst ev
           obtain ⟨hX9, ⟨vo, qo⟩, fo, hlo9⟩ := HGR.out ⟨#[99, 100]⟩ _ ca9 cc9 w9 (by simp [ByteArray.size, maxLen]) hown9 hgr9
           have HX9 := Lib.hid hX9
           clear hX9 hown9 hgr9 HOW HGR A3 A4 A5 A6 A7 q1)
        go_roundw
        case rel => exact ⟨4, by omega, by go_num, HX9⟩
        case measure => simp [intOf]
      · go_wp2_with
          (refine wpList_append_own _ rfl _ _ 36 rfl m4 35 i2 (.agg #[.string ⟨#[]⟩, .int .i64 0]) 2 24 Try.underlying36 HJ0.out HJ1.out HJ2.out HJ3.out rfl (by decide) _ _ _ rfl (HOW.out.alloc _) ⟨wr.heap.size, 0, none⟩ 1 1 [.string ⟨#[99, 101]⟩, .int .i64 4] rfl rfl (A6.out _ _) (A5.out _) A3.out A4.out (A7.out _) ?_
           intro v9 w9 hown9 hgr9 _
           obtain ⟨ca9, cc9, ev⟩ := own_slice hown9
           subst ev
           obtain ⟨hX9, ⟨vo, qo⟩, fo, hlo9⟩ := HGR.out ⟨#[99, 101]⟩ _ ca9 cc9 w9 (by simp [ByteArray.size, maxLen]) hown9 hgr9
           have HX9 := Lib.hid hX9
           clear hX9 hown9 hgr9 HOW HGR A3 A4 A5 A6 A7 q1)
        go_roundw
        case rel => exact ⟨5, by omega, by go_num, HX9⟩
        case measure => simp [intOf]
      · go_wp2_with
          (refine wpList_append_own _ rfl _ _ 36 rfl m4 35 i2 (.agg #[.string ⟨#[]⟩, .int .i64 0]) 2 24 Try.underlying36 HJ0.out HJ1.out HJ2.out HJ3.out rfl (by decide) _ _ _ rfl (HOW.out.alloc _) ⟨wr.heap.size, 0, none⟩ 1 1 [.string ⟨#[99, 102]⟩, .int .i64 4] rfl rfl (A6.out _ _) (A5.out _) A3.out A4.out (A7.out _) ?_
           intro v9 w9 hown9 hgr9 _
           obtain ⟨ca9, cc9, ev⟩ := own_slice hown9
           subst ev
           obtain ⟨hX9, ⟨vo, qo⟩, fo, hlo9⟩ := HGR.out ⟨#[99, 102]⟩ _ ca9 cc9 w9 (by simp [ByteArray.size, maxLen]) hown9 hgr9
           have HX9 := Lib.hid hX9
           clear hX9 hown9 hgr9 HOW HGR A3 A4 A5 A6 A7 q1)
        go_roundw
        case rel => exact ⟨6, by omega, by go_num, HX9⟩
        case measure => simp [intOf]
      · go_wp2_with
          (refine wpList_append_own _ rfl _ _ 36 rfl m4 35 i2 (.agg #[.string ⟨#[]⟩, .int .i64 0]) 2 24 Try.underlying36 HJ0.out HJ1.out HJ2.out HJ3.out rfl (by decide) _ _ _ rfl (HOW.out.alloc _) ⟨wr.heap.size, 0, none⟩ 1 1 [.string ⟨#[99, 103]⟩, .int .i64 4] rfl rfl (A6.out _ _) (A5.out _) A3.out A4.out (A7.out _) ?_
           intro v9 w9 hown9 hgr9 _
           obtain ⟨ca9, cc9, ev⟩ := own_slice hown9
           subst ev
           obtain ⟨hX9, ⟨vo, qo⟩, fo, hlo9⟩ := HGR.out ⟨#[99, 103]⟩ _ ca9 cc9 w9 (by simp [ByteArray.size, maxLen]) hown9 hgr9
           have HX9 := Lib.hid hX9
           clear hX9 hown9 hgr9 HOW HGR A3 A4 A5 A6 A7 q1)
        go_roundw
        case rel => exact ⟨7, by omega, by go_num, HX9⟩
        case measure => simp [intOf]
      · go_wp2_with
          (refine wpList_append_own _ rfl _ _ 36 rfl m4 35 i2 (.agg #[.string ⟨#[]⟩, .int .i64 0]) 2 24 Try.underlying36 HJ0.out HJ1.out HJ2.out HJ3.out rfl (by decide) _ _ _ rfl (HOW.out.alloc _) ⟨wr.heap.size, 0, none⟩ 1 1 [.string ⟨#[99, 104]⟩, .int .i64 4] rfl rfl (A6.out _ _) (A5.out _) A3.out A4.out (A7.out _) ?_
           intro v9 w9 hown9 hgr9 _
           obtain ⟨ca9, cc9, ev⟩ := own_slice hown9
           subst ev
           obtain ⟨hX9, ⟨vo, qo⟩, fo, hlo9⟩ := HGR.out ⟨#[99, 104]⟩ _ ca9 cc9 w9 (by simp [ByteArray.size, maxLen]) hown9 hgr9
           have HX9 := Lib.hid hX9
           clear hX9 hown9 hgr9 HOW HGR A3 A4 A5 A6 A7 q1)
        go_roundw
        case rel => exact ⟨8, by omega, by go_num, HX9⟩
        case measure => simp [intOf]
    · have hm : m = 8 := by omega
      subst hm
      have HE : Hid (SpEnd bc B lo sb (k + 9) w wr) := ⟨ver, n, tb, cap, _, _, S5.out.done (by have := l5 hi5; omega), hn1, by omega, Z5.out⟩
      clear S5 Z5 l5
      go_wp2_with fail
      have hK := HK.out
      apply hK
      exact HE.out
end Go.Proofs.Ytjcbmeannhafjaa

/- SpoilSchema of a case: ScSpoilF. -/
namespace Go.Proofs.Ytjcbmeannhafjaa

open Go.RowKit Go.Deep

set_option linter.unusedSimpArgs false in
set_option maxRecDepth 100000 in
set_option maxHeartbeats 16000000 in
theorem sp_way9 {bc B lo sb k m4 n tb cap i nc cc : Nat} {ca : Option Addr} {w w7 : World} {ver : Int} {X6 : List TX} {K : Act → World → Prop} (H : SwHyp bc B lo sb k m4 w w7 ver n tb cap X6 i nc cc ca) (x_1 x_2 x_4 x_7 x_8 x_9 x_10 x_11 x_12 x_13 x_14 x_15 x_16 x_17 x_18 x_19 x_20 x_21 x_22 x_23 x_24 x_25 x_26 x_27 x_28 x_29 x_30 x_31 x_32 x_33 x_34 x_35 x_36 x_37 x_38 x_39 x_40 x_41 x_42 x_43 x_44 x_45 x_46 x_47 x_48 x_49 x_50 x_51 x_52 x_53 x_54 x_55 x_57 x_58 x_59 x_60 x_61 x_62 x_63 x_64 x_65 x_66 x_67 x_68 x_69 x_70 x_71 x_72 x_73 x_74 x_75 x_76 x_77 x_78 x_79 x_80 x_81 x_82 x_83 x_84 x_85 x_86 x_87 x_88 x_89 x_90 x_91 x_92 x_93 x_94 x_95 x_96 x_97 x_98 x_99 x_100 x_101 x_102 x_103 x_104 x_105 x_106 x_107 x_108 x_109 x_110 x_111 x_112 x_113 x_114 x_115 x_116 x_117 x_118 x_119 x_120 x_121 x_122 x_123 x_124 x_125 x_126 x_127 x_128 x_129 x_130 x_131 x_132 x_133 x_134 x_135 x_136 x_137 x_138 x_139 x_140 x_141 x_142 x_143 x_144 x_145 x_146 x_147 x_148 x_149 x_150 x_151 x_152 x_153 x_154 x_155 x_156 x_157 x_158 x_159 x_160 x_161 x_162 x_163 x_164 x_165 x_166 x_167 x_168 x_169 x_170 x_171 x_172 x_173 x_174 x_175 x_176 x_177 x_178 x_179 x_180 x_181 x_182 x_183 x_184 x_185 x_186 x_187 x_188 x_189 x_190 x_191 x_192 x_193 x_194 x_195 x_196 x_197 x_198 x_199 x_200 x_201 x_202 : Value) (hK : ∀ (u7 u57 u58 u59 u60 u61 u62 u63 u64 u65 u66 u67 u68 u69 u70 u71 u72 u73 u74 u75 u76 u77 u78 u79 u80 u81 u82 u83 u84 u85 u86 u87 u88 u89 u90 u91 u92 u93 u94 u95 u96 u97 u98 u99 u100 u101 u102 u103 u104 u105 u106 u107 u108 u109 u110 u111 u112 u113 u114 u115 u116 u117 u118 u119 u120 u121 u122 u123 u124 u125 u126 u127 u128 u129 u130 u131 u132 u133 u134 u135 u136 u137 u138 u139 u140 u141 u142 u143 u144 u145 u146 u147 u148 u149 u150 u151 u152 u153 u154 u155 u156 u157 u158 u159 u160 u161 u162 u163 u164 u165 u166 u167 u168 u169 u170 u171 u172 u173 u174 u175 u176 u177 u178 u179 u180 u181 u182 u183 u184 u185 u186 u187 u188 u189 u190 u191 u192 u193 u194 u195 u196 u197 u198 u199 u200 u201 : Value) (W : World), SpEnd bc B lo sb (k + 9) w W → K ⟨#[.pointer (some ⟨bc, 0, none⟩), x_1, x_2, .pointer (some ⟨sb, 0, none⟩), x_4, .pointer (some ⟨tb, i * 5, none⟩), .int .i64 (9 : Nat), u7, x_8, x_9, x_10, x_11, x_12, x_13, x_14, x_15, x_16, x_17, x_18, x_19, x_20, x_21, x_22, x_23, x_24, x_25, x_26, x_27, x_28, x_29, x_30, x_31, x_32, x_33, x_34, x_35, x_36, x_37, x_38, x_39, x_40, x_41, x_42, x_43, x_44, x_45, x_46, x_47, x_48, x_49, x_50, x_51, x_52, x_53, x_54, x_55, .int .i64 (9 : Nat), u57, u58, u59, u60, u61, u62, u63, u64, u65, u66, u67, u68, u69, u70, u71, u72, u73, u74, u75, u76, u77, u78, u79, u80, u81, u82, u83, u84, u85, u86, u87, u88, u89, u90, u91, u92, u93, u94, u95, u96, u97, u98, u99, u100, u101, u102, u103, u104, u105, u106, u107, u108, u109, u110, u111, u112, u113, u114, u115, u116, u117, u118, u119, u120, u121, u122, u123, u124, u125, u126, u127, u128, u129, u130, u131, u132, u133, u134, u135, u136, u137, u138, u139, u140, u141, u142, u143, u144, u145, u146, u147, u148, u149, u150, u151, u152, u153, u154, u155, u156, u157, u158, u159, u160, u161, u162, u163, u164, u165, u166, u167, u168, u169, u170, u171, u172, u173, u174, u175, u176, u177, u178, u179, u180, u181, u182, u183, u184, u185, u186, u187, u188, u189, u190, u191, u192, u193, u194, u195, u196, u197, u198, u199, u200, u201, x_202], []⟩ W) : Code.wp Try.prog swBlock (Exit.then K (bodyPost Try.prog Try.f9 (SpSPost bc B lo (k + 9) w))) ⟨#[.pointer (some ⟨bc, 0, none⟩), x_1, x_2, .pointer (some ⟨sb, 0, none⟩), x_4, .pointer (some ⟨tb, i * 5, none⟩), .int .i64 (9 : Nat), x_7, x_8, x_9, x_10, x_11, x_12, x_13, x_14, x_15, x_16, x_17, x_18, x_19, x_20, x_21, x_22, x_23, x_24, x_25, x_26, x_27, x_28, x_29, x_30, x_31, x_32, x_33, x_34, x_35, x_36, x_37, x_38, x_39, x_40, x_41, x_42, x_43, x_44, x_45, x_46, x_47, x_48, x_49, x_50, x_51, x_52, x_53, x_54, x_55, .int .i64 (9 : Nat), x_57, x_58, x_59, x_60, x_61, x_62, x_63, x_64, x_65, x_66, x_67, x_68, x_69, x_70, x_71, x_72, x_73, x_74, x_75, x_76, x_77, x_78, x_79, x_80, x_81, x_82, x_83, x_84, x_85, x_86, x_87, x_88, x_89, x_90, x_91, x_92, x_93, x_94, x_95, x_96, x_97, x_98, x_99, x_100, x_101, x_102, x_103, x_104, x_105, x_106, x_107, x_108, x_109, x_110, x_111, x_112, x_113, x_114, x_115, x_116, x_117, x_118, x_119, x_120, x_121, x_122, x_123, x_124, x_125, x_126, x_127, x_128, x_129, x_130, x_131, x_132, x_133, x_134, x_135, x_136, x_137, x_138, x_139, x_140, x_141, x_142, x_143, x_144, x_145, x_146, x_147, x_148, x_149, x_150, x_151, x_152, x_153, x_154, x_155, x_156, x_157, x_158, x_159, x_160, x_161, x_162, x_163, x_164, x_165, x_166, x_167, x_168, x_169, x_170, x_171, x_172, x_173, x_174, x_175, x_176, x_177, x_178, x_179, x_180, x_181, x_182, x_183, x_184, x_185, x_186, x_187, x_188, x_189, x_190, x_191, x_192, x_193, x_194, x_195, x_196, x_197, x_198, x_199, x_200, x_201, x_202], []⟩ w7 := by
  obtain ⟨hk, hn1, hnk, hi6, s7, hsz5, hnx, hnck⟩ := H
  have S7 := Lib.hid s7
  have HSZ5 := Lib.hid hsz5
  have HNX := Lib.hid hnx
  have HK := Lib.hid hK
  have HSX : Hid (SzT k X6[i].t) := hsz5 _ (List.getElem_mem hi6)
  have T7 : Hid (TInv bc B lo sb w7.heap.size w w7 ver n tb cap X6) := S7.out.done (by have := HSX.out.1; omega)
  have HSE : Hid (∀ x' : TX, SzT (k + 9) x'.t → ∀ y ∈ X6.set i x', SzT (k + 9) y.t) := fun x' h => szT_set (fun y hy => (HSZ5.out y hy).mono (by omega)) h
  have hltb : tb < w7.heap.size := T7.out.core.tblt.2
  have hsb2 : sb + 2 ≤ tb := T7.out.core.tblt.1
  have hbcs : bc < sb := T7.out.core.hsb.2.1
  clear s7 hsz5 hnx hK
  conv => arg 2; whnf
  have hinfo : (Try.prog.info? 77).map (fun i => (i.zero, i.size, i.bytes)) = some (some (.agg #[.int .i64 0, .int .i64 0, .int .i64 0, .int .i64 0, .int .i64 0, .int .i64 0, .string ⟨#[]⟩, .int .i64 0, .int .i64 0, .int .i64 0, .int .i64 0, .string ⟨#[]⟩, .slice none 0 0]), 13, 136) := by kernel_rfl
  obtain ⟨i2, hi2, hz0, hz1, hz2⟩ := info_parts hinfo
  have HJ0 := Lib.hid hi2
  have HJ1 := Lib.hid hz0
  have HJ2 := Lib.hid hz1
  have HJ3 := Lib.hid hz2
  clear hi2 hz0 hz1 hz2 hinfo
  obtain ⟨L, hL, hLp, hLc⟩ := pdS_te (T7.out.at hi6).chks
  obtain ⟨np, hnp⟩ : ∃ np, X6[i].t.ck.length = np := ⟨_, rfl⟩
  obtain ⟨pa, hpa⟩ : ∃ pa, X6[i].pa = pa := ⟨_, rfl⟩
  obtain ⟨pc, hpc⟩ : ∃ pc, X6[i].pc = pc := ⟨_, rfl⟩
  have HLL : Hid (L.length = np) := by show _ = _; rw [← hnp, ← hL, List.length_map]
  have c4 : w7.cell? ⟨tb, i * 5 + 4, none⟩ = some (.slice pa np pc) := by
    rw [← hpa, ← hnp, ← hpc]; exact (T7.out.core.cellAt i hi6 4 (by omega)).trans rfl
  have hnpk : np ≤ k := by rw [← hnp]; exact HSX.out.2.2.1
  have HRN : Hid (pa = none → np = 0 ∧ pc = 0) := fun e => by
    have h := (T7.out.at hi6).chks.1
    rw [hpa, hnp, hpc] at h
    exact h.nil e
  rw [hpa] at hLc
  have HLP := Lib.hid hLp
  have HLC := Lib.hid hLc
  have HRL : Hid ((teCells L).length = np * 13) := by show _ = _; rw [length_teCells, HLL.out]
  have HRO := Lib.hid (teCells_one L)
  have N2 : Hid (w7.ownsRow w7.heap.size 77 13 (.slice none 0 0) 0 []) := ⟨rfl, .inl ⟨rfl, rfl⟩⟩
  have A1 : Hid (0 + np ≤ maxLen) := by show _ ≤ _; unfold maxLen; omega
  have A2 : Hid ((0 + np) * 136 ≤ 140737488355328) := by show _ ≤ _; omega
  have A3 : Hid (np + 1 ≤ maxLen) := by show _ ≤ _; unfold maxLen; omega
  have A4 : Hid ((np + 1) * 136 ≤ 140737488355328) := by show _ ≤ _; omega
  clear hL hLp hLc hnp hpa hpc
  go_wp2_with
    (refine wpList_append_src rfl _ _ 38 rfl w7.heap.size 77 i2 (.agg #[.int .i64 0, .int .i64 0, .int .i64 0, .int .i64 0, .int .i64 0, .int .i64 0, .string ⟨#[]⟩, .int .i64 0, .int .i64 0, .int .i64 0, .int .i64 0, .string ⟨#[]⟩, .slice none 0 0]) 13 136 Try.underlying38 HJ0.out HJ1.out HJ2.out HJ3.out rfl (by decide) _ _ _ rfl N2.out pa np pc (teCells L) rfl HRN.out HRL.out HLC.out HRO.out A1.out A2.out (Nat.le_refl _) ?_
     intro v8 w8 hown hgr
     obtain ⟨r8, c8, ev⟩ := own_slice hown
     subst ev
     rw [Nat.zero_add, List.nil_append] at hown
     simp only [Nat.zero_add]
     have Ow8 : Hid (w8.ownsRow w7.heap.size 77 13 (.slice r8 np c8) np (teCells L)) := hown
     have B8 : Hid (Below w7.heap.size w7 w8) := (Below.refl _ _).grown hgr (Nat.le_refl _) (fun kk e => by cases e)
     have hz8 := B8.out.size
     have O8 : Hid (CaseOk bc B w8) := S7.out.core.ok.below B8.out S7.out.core.ok.lt.2
     clear hown hgr N2 A1 A2 HRL HRO HLC c4)
  have hlob : lo ≤ w8.heap.size := by have := T7.out.hM; omega
  have hblo : bc < lo := T7.out.hM.2.2
  have HSP := Lib.hid (cSpoil_any bc B lo hblo 1 (PT.mk 1 0 ⟨0, 0, ⟨0, 0, ⟨#[]⟩⟩⟩ ⟨0, 0, ⟨0, 0, ⟨#[]⟩⟩⟩ []) (by decide) (by decide) lo none 0 w8 O8.out hlob (PdS.nil _ _))
  simp only [pdV, PT.op, PT.cmp, PT.l, PT.r, PT.args, List.length_nil] at HSP
  refine HSP.out.mono ?_
  rintro e w9 ⟨q, qa, qc, rfl, hqp, hm, ho⟩
  have HQP : Hid (PdS (fun b => w8.heap.size ≤ b) w9 q.args qa qc) := hqp.weak fun b hb => by omega
  have M9 : Hid (Mv bc w7 w9) := (Mv.of_below B8.out).trans hm
  have Ow9 : Hid (w9.ownsRow w7.heap.size 77 13 (.slice r8 np c8) np (teCells L)) := own_blkW Ow8.out fun kk h1 h2 => hm.block kk h2 (by omega)
  have hz9 := hm.size
  have T9 := Lib.hid (T7.out.step M9.out ho)
  have HRW : Hid (∀ kk, (Value.slice r8 np c8).ownBlock = some kk → kk < w8.heap.size) := fun kk e => (Ow8.out.lt kk e).2
  have A5 : Hid (∀ u ∈ ([.int .i64 q.op, .int .i64 q.cmp, .int .i64 q.l.k, .int .i64 q.l.i, .int .i64 q.l.v.k, .int .i64 q.l.v.n, .string q.l.v.s, .int .i64 q.r.k, .int .i64 q.r.i, .int .i64 q.r.v.k, .int .i64 q.r.v.n, .string q.r.v.s, .slice qa q.args.length qc] : List Value), u.oneCell' = true) := te_one ⟨q, qa, qc⟩
  have A6 : Hid (∀ t (j : Nat) (u : Value), ([.int .i64 q.op, .int .i64 q.cmp, .int .i64 q.l.k, .int .i64 q.l.i, .int .i64 q.l.v.k, .int .i64 q.l.v.n, .string q.l.v.s, .int .i64 q.r.k, .int .i64 q.r.i, .int .i64 q.r.v.k, .int .i64 q.r.v.n, .string q.r.v.s, .slice qa q.args.length qc] : List Value)[j]? = some u → (w9.alloc (.cells #[.int .i64 q.op, .int .i64 q.cmp, .int .i64 q.l.k, .int .i64 q.l.i, .int .i64 q.l.v.k, .int .i64 q.l.v.n, .string q.l.v.s, .int .i64 q.r.k, .int .i64 q.r.i, .int .i64 q.r.v.k, .int .i64 q.r.v.n, .string q.r.v.s, .slice qa q.args.length qc] t)).cell? ((⟨w9.heap.size, 0, none⟩ : Addr).add j) = some u) := fun t => te_new w9 ⟨q, qa, qc⟩ t
  have A7 : Hid (∀ O : Obj, w7.heap.size ≤ (w9.alloc O).heap.size) := fun O => by simp; omega
  simp only [pdV]
  clear hm ho HSP Ow8 O8 hqp
  go_wp2_with
      (refine wpList_append_own _ rfl _ _ 38 rfl w7.heap.size 77 i2 (.agg #[.int .i64 0, .int .i64 0, .int .i64 0, .int .i64 0, .int .i64 0, .int .i64 0, .string ⟨#[]⟩, .int .i64 0, .int .i64 0, .int .i64 0, .int .i64 0, .string ⟨#[]⟩, .slice none 0 0]) 13 136 Try.underlying38 HJ0.out HJ1.out HJ2.out HJ3.out rfl (by decide) _ _ _ rfl (Ow9.out.alloc _) ⟨w9.heap.size, 0, none⟩ 1 1 [.int .i64 q.op, .int .i64 q.cmp, .int .i64 q.l.k, .int .i64 q.l.i, .int .i64 q.l.v.k, .int .i64 q.l.v.n, .string q.l.v.s, .int .i64 q.r.k, .int .i64 q.r.i, .int .i64 q.r.v.k, .int .i64 q.r.v.n, .string q.r.v.s, .slice qa q.args.length qc] rfl rfl (A6.out _) A5.out A3.out A4.out (A7.out _) ?_
       intro v11 w11 hown9 hgr9 _
       obtain ⟨r9, c9, ev⟩ := own_slice hown9
       subst ev
       have hE := w11_chks (x := ⟨q, qa, qc⟩) T9.out hi6 (by omega) hown9 hgr9 (fun kk e => (Ow9.out.lt kk e).1) HRW.out hz8 HLL.out (fun y hy => (HLP.out y hy).keep M9.out.size (fun kk hp hk' => M9.out.block kk hk' (by have := hp.1; omega))) HQP.out (by omega)
       obtain ⟨hE1, vo, qo, fo, hlo8⟩ := hE
       have HE : Hid (SpEnd bc B lo sb (k + 9) w (w11.setCell ⟨tb, i * 5 + 4, none⟩ (.slice r9 (np + 1) c9))) := ⟨ver, n, tb, cap, _, _, hE1, hn1, by omega, HSE.out _ ⟨(HSX.out.mono (by omega)).1, (HSX.out.mono (by omega)).2.1, by have := HLL.out; simp [List.length_map]; omega, (HSX.out.mono (by omega)).2.2.2⟩⟩
       clear hE1 hown9 hgr9 Ow9 T9)
  have hK := HK.out
  apply hK
  exact HE.out

set_option linter.unusedSimpArgs false in
set_option maxRecDepth 100000 in
set_option maxHeartbeats 16000000 in
theorem sp_way10 {bc B lo sb k m4 n tb cap i nc cc : Nat} {ca : Option Addr} {w w7 : World} {ver : Int} {X6 : List TX} {K : Act → World → Prop} (H : SwHyp bc B lo sb k m4 w w7 ver n tb cap X6 i nc cc ca) (x_1 x_2 x_4 x_7 x_8 x_9 x_10 x_11 x_12 x_13 x_14 x_15 x_16 x_17 x_18 x_19 x_20 x_21 x_22 x_23 x_24 x_25 x_26 x_27 x_28 x_29 x_30 x_31 x_32 x_33 x_34 x_35 x_36 x_37 x_38 x_39 x_40 x_41 x_42 x_43 x_44 x_45 x_46 x_47 x_48 x_49 x_50 x_51 x_52 x_53 x_54 x_55 x_57 x_58 x_59 x_60 x_61 x_62 x_63 x_64 x_65 x_66 x_67 x_68 x_69 x_70 x_71 x_72 x_73 x_74 x_75 x_76 x_77 x_78 x_79 x_80 x_81 x_82 x_83 x_84 x_85 x_86 x_87 x_88 x_89 x_90 x_91 x_92 x_93 x_94 x_95 x_96 x_97 x_98 x_99 x_100 x_101 x_102 x_103 x_104 x_105 x_106 x_107 x_108 x_109 x_110 x_111 x_112 x_113 x_114 x_115 x_116 x_117 x_118 x_119 x_120 x_121 x_122 x_123 x_124 x_125 x_126 x_127 x_128 x_129 x_130 x_131 x_132 x_133 x_134 x_135 x_136 x_137 x_138 x_139 x_140 x_141 x_142 x_143 x_144 x_145 x_146 x_147 x_148 x_149 x_150 x_151 x_152 x_153 x_154 x_155 x_156 x_157 x_158 x_159 x_160 x_161 x_162 x_163 x_164 x_165 x_166 x_167 x_168 x_169 x_170 x_171 x_172 x_173 x_174 x_175 x_176 x_177 x_178 x_179 x_180 x_181 x_182 x_183 x_184 x_185 x_186 x_187 x_188 x_189 x_190 x_191 x_192 x_193 x_194 x_195 x_196 x_197 x_198 x_199 x_200 x_201 x_202 : Value) (hK : ∀ (u7 u57 u58 u59 u60 u61 u62 u63 u64 u65 u66 u67 u68 u69 u70 u71 u72 u73 u74 u75 u76 u77 u78 u79 u80 u81 u82 u83 u84 u85 u86 u87 u88 u89 u90 u91 u92 u93 u94 u95 u96 u97 u98 u99 u100 u101 u102 u103 u104 u105 u106 u107 u108 u109 u110 u111 u112 u113 u114 u115 u116 u117 u118 u119 u120 u121 u122 u123 u124 u125 u126 u127 u128 u129 u130 u131 u132 u133 u134 u135 u136 u137 u138 u139 u140 u141 u142 u143 u144 u145 u146 u147 u148 u149 u150 u151 u152 u153 u154 u155 u156 u157 u158 u159 u160 u161 u162 u163 u164 u165 u166 u167 u168 u169 u170 u171 u172 u173 u174 u175 u176 u177 u178 u179 u180 u181 u182 u183 u184 u185 u186 u187 u188 u189 u190 u191 u192 u193 u194 u195 u196 u197 u198 u199 u200 u201 : Value) (W : World), SpEnd bc B lo sb (k + 9) w W → K ⟨#[.pointer (some ⟨bc, 0, none⟩), x_1, x_2, .pointer (some ⟨sb, 0, none⟩), x_4, .pointer (some ⟨tb, i * 5, none⟩), .int .i64 (10 : Nat), u7, x_8, x_9, x_10, x_11, x_12, x_13, x_14, x_15, x_16, x_17, x_18, x_19, x_20, x_21, x_22, x_23, x_24, x_25, x_26, x_27, x_28, x_29, x_30, x_31, x_32, x_33, x_34, x_35, x_36, x_37, x_38, x_39, x_40, x_41, x_42, x_43, x_44, x_45, x_46, x_47, x_48, x_49, x_50, x_51, x_52, x_53, x_54, x_55, .int .i64 (10 : Nat), u57, u58, u59, u60, u61, u62, u63, u64, u65, u66, u67, u68, u69, u70, u71, u72, u73, u74, u75, u76, u77, u78, u79, u80, u81, u82, u83, u84, u85, u86, u87, u88, u89, u90, u91, u92, u93, u94, u95, u96, u97, u98, u99, u100, u101, u102, u103, u104, u105, u106, u107, u108, u109, u110, u111, u112, u113, u114, u115, u116, u117, u118, u119, u120, u121, u122, u123, u124, u125, u126, u127, u128, u129, u130, u131, u132, u133, u134, u135, u136, u137, u138, u139, u140, u141, u142, u143, u144, u145, u146, u147, u148, u149, u150, u151, u152, u153, u154, u155, u156, u157, u158, u159, u160, u161, u162, u163, u164, u165, u166, u167, u168, u169, u170, u171, u172, u173, u174, u175, u176, u177, u178, u179, u180, u181, u182, u183, u184, u185, u186, u187, u188, u189, u190, u191, u192, u193, u194, u195, u196, u197, u198, u199, u200, u201, x_202], []⟩ W) : Code.wp Try.prog swBlock (Exit.then K (bodyPost Try.prog Try.f9 (SpSPost bc B lo (k + 9) w))) ⟨#[.pointer (some ⟨bc, 0, none⟩), x_1, x_2, .pointer (some ⟨sb, 0, none⟩), x_4, .pointer (some ⟨tb, i * 5, none⟩), .int .i64 (10 : Nat), x_7, x_8, x_9, x_10, x_11, x_12, x_13, x_14, x_15, x_16, x_17, x_18, x_19, x_20, x_21, x_22, x_23, x_24, x_25, x_26, x_27, x_28, x_29, x_30, x_31, x_32, x_33, x_34, x_35, x_36, x_37, x_38, x_39, x_40, x_41, x_42, x_43, x_44, x_45, x_46, x_47, x_48, x_49, x_50, x_51, x_52, x_53, x_54, x_55, .int .i64 (10 : Nat), x_57, x_58, x_59, x_60, x_61, x_62, x_63, x_64, x_65, x_66, x_67, x_68, x_69, x_70, x_71, x_72, x_73, x_74, x_75, x_76, x_77, x_78, x_79, x_80, x_81, x_82, x_83, x_84, x_85, x_86, x_87, x_88, x_89, x_90, x_91, x_92, x_93, x_94, x_95, x_96, x_97, x_98, x_99, x_100, x_101, x_102, x_103, x_104, x_105, x_106, x_107, x_108, x_109, x_110, x_111, x_112, x_113, x_114, x_115, x_116, x_117, x_118, x_119, x_120, x_121, x_122, x_123, x_124, x_125, x_126, x_127, x_128, x_129, x_130, x_131, x_132, x_133, x_134, x_135, x_136, x_137, x_138, x_139, x_140, x_141, x_142, x_143, x_144, x_145, x_146, x_147, x_148, x_149, x_150, x_151, x_152, x_153, x_154, x_155, x_156, x_157, x_158, x_159, x_160, x_161, x_162, x_163, x_164, x_165, x_166, x_167, x_168, x_169, x_170, x_171, x_172, x_173, x_174, x_175, x_176, x_177, x_178, x_179, x_180, x_181, x_182, x_183, x_184, x_185, x_186, x_187, x_188, x_189, x_190, x_191, x_192, x_193, x_194, x_195, x_196, x_197, x_198, x_199, x_200, x_201, x_202], []⟩ w7 := by
  obtain ⟨hk, hn1, hnk, hi6, s7, hsz5, hnx, hnck⟩ := H
  have S7 := Lib.hid s7
  have HSZ5 := Lib.hid hsz5
  have HNX := Lib.hid hnx
  have HK := Lib.hid hK
  have HSX : Hid (SzT k X6[i].t) := hsz5 _ (List.getElem_mem hi6)
  have T7 : Hid (TInv bc B lo sb w7.heap.size w w7 ver n tb cap X6) := S7.out.done (by have := HSX.out.1; omega)
  have HSE : Hid (∀ x' : TX, SzT (k + 9) x'.t → ∀ y ∈ X6.set i x', SzT (k + 9) y.t) := fun x' h => szT_set (fun y hy => (HSZ5.out y hy).mono (by omega)) h
  have hltb : tb < w7.heap.size := T7.out.core.tblt.2
  have hsb2 : sb + 2 ≤ tb := T7.out.core.tblt.1
  have hbcs : bc < sb := T7.out.core.hsb.2.1
  clear s7 hsz5 hnx hK
  conv => arg 2; whnf
  have hinfo : (Try.prog.info? 40).map (fun i => (i.zero, i.size, i.bytes)) = some (some (.agg #[.string ⟨#[]⟩, .slice none 0 0, .int .i64 0, .slice none 0 0, .slice none 0 0]), 5, 96) := by kernel_rfl
  obtain ⟨i2, hi2, hz0, hz1, hz2⟩ := info_parts hinfo
  have HJ0 := Lib.hid hi2
  have HJ1 := Lib.hid hz0
  have HJ2 := Lib.hid hz1
  have HJ3 := Lib.hid hz2
  have HI0 : Hid (∃ n9 tb9 cap9 X9, TInv bc B lo sb w7.heap.size w w7 ver n9 tb9 cap9 X9 ∧ 1 ≤ n9 ∧ n9 ≤ k + 9 ∧ ∀ y ∈ X9, SzT (k + 9) y.t) := ⟨n, tb, cap, X6, T7.out, hn1, by omega, fun y hy => (HSZ5.out y hy).mono (by omega)⟩
  clear hi2 hz0 hz1 hz2 hinfo S7 HSZ5 HNX HSX HSE T7 hi6
  go_wp2_with fail
  go_loopw [57] (fun _ wr => Hid (∃ n9 tb9 cap9 X9, TInv bc B lo sb w7.heap.size w wr ver n9 tb9 cap9 X9 ∧ 1 ≤ n9 ∧ n9 ≤ k + 9 ∧ ∀ y ∈ X9, SzT (k + 9) y.t)) (fun _ wr => 9 - lenAt wr sb)
  case atStart => exact HI0
  case round =>
    obtain ⟨n9, tb1, cap1, X9, t9, h91, h92, z9⟩ := hrel.out
    have T9 := Lib.hid t9
    have Z9 := Lib.hid z9
    have q1 := t9.core.s1
    have HM0 : Hid (lenAt wr sb = n9) := by show _ = _; unfold lenAt; rw [q1]
    have hsw : sb < wr.heap.size := by have := t9.core.szW; omega
    clear hrel t9 z9 HI0
    by_cases h8 : n9 ≤ 8
    · have h82 : (n9 : Int) ≤ 8 := by omega
      have h90 : 0 < n9 := by omega
      have h902 : (0 : Int) < n9 := by omega
      go_upto_region 12 with fail
      refine wp_region_held_drew (S := fun _ => True) (by kernel_rfl) trivial (fun hHeld => ?_)
      obtain ⟨wd, hwd⟩ : ∃ wd, wr.drew = wd := ⟨_, rfl⟩
      have hbw : Below wr.heap.size wr wd := by rw [← hwd]; exact (Below.refl _ _).drew
      have TD := Lib.hid (T9.out.below hbw)
      rw [hwd]
      have q1 := TD.out.core.s1
      have hx0 : 0 < X9.length := by rw [TD.out.core.len]; omega
      have hsd : sb < wd.heap.size := by have := TD.out.core.szW; omega
      have htd : tb1 < wd.heap.size := TD.out.core.tblt.2
      obtain ⟨s0, a1, n1, c1, z2, a3, n3, c3, a4, n4, c4, hcl⟩ : ∃ s0 a1 n1 c1 z2 a3 n3 c3 a4 n4 c4, X9[0].cells = [.string s0, .slice a1 n1 c1, .int .i64 z2, .slice a3 n3 c3, .slice a4 n4 c4] := ⟨_, _, _, _, _, _, _, _, _, _, _, rfl⟩
      have k0 : wd.cell? ⟨tb1, 0, none⟩ = some (.string s0) := (TD.out.core.cellAt 0 hx0 0 (by omega)).trans (by rw [hcl]; rfl)
      have k1 : wd.cell? ⟨tb1, 1, none⟩ = some (.slice a1 n1 c1) := (TD.out.core.cellAt 0 hx0 1 (by omega)).trans (by rw [hcl]; rfl)
      have k2 : wd.cell? ⟨tb1, 2, none⟩ = some (.int .i64 z2) := (TD.out.core.cellAt 0 hx0 2 (by omega)).trans (by rw [hcl]; rfl)
      have k3 : wd.cell? ⟨tb1, 3, none⟩ = some (.slice a3 n3 c3) := (TD.out.core.cellAt 0 hx0 3 (by omega)).trans (by rw [hcl]; rfl)
      have k4 : wd.cell? ⟨tb1, 4, none⟩ = some (.slice a4 n4 c4) := (TD.out.core.cellAt 0 hx0 4 (by omega)).trans (by rw [hcl]; rfl)
      have A3 : Hid (n9 + 1 ≤ maxLen) := by show _ ≤ _; unfold maxLen; omega
      have A4 : Hid ((n9 + 1) * 96 ≤ 140737488355328) := by show _ ≤ _; omega
      have A5 : Hid (∀ u ∈ ([.string s0, .slice a1 n1 c1, .int .i64 z2, .slice a3 n3 c3, .slice a4 n4 c4] : List Value), u.oneCell' = true) := by show ∀ u ∈ _, _; rw [← hcl]; exact tx_one _
      have A6 : Hid (∀ t (j : Nat) (u : Value), ([.string s0, .slice a1 n1 c1, .int .i64 z2, .slice a3 n3 c3, .slice a4 n4 c4] : List Value)[j]? = some u → (wd.alloc (.cells #[.string s0, .slice a1 n1 c1, .int .i64 z2, .slice a3 n3 c3, .slice a4 n4 c4] t)).cell? ((⟨wd.heap.size, 0, none⟩ : Addr).add j) = some u) := fun t => row_new wd [.string s0, .slice a1 n1 c1, .int .i64 z2, .slice a3 n3 c3, .slice a4 n4 c4] t
      have A7 : Hid (∀ O : Obj, sb + 2 ≤ (wd.alloc O).heap.size) := fun O => by have := TD.out.core.szW; simp; omega
      have HGR : Hid (∀ (v4 : Value) (O : Obj) (w4 : World), w4.ownsRow (sb + 2) 40 5 v4 (n9 + 1) (txCells X9 ++ [.string s0, .slice a1 n1 c1, .int .i64 z2, .slice a3 n3 c3, .slice a4 n4 c4]) → (wd.alloc O).grownBy w4 (Value.slice (some ⟨tb1, 0, none⟩) n9 cap1).ownBlock → (v4.ownBlock = (Value.slice (some ⟨tb1, 0, none⟩) n9 cap1).ownBlock ∨ v4.ownBlock = some (wd.alloc O).heap.size) → ∃ g cap4, v4 = .slice (some ⟨g, 0, none⟩) (n9 + 1) cap4 ∧ (∃ n9' tb9 cap9 X9', TInv bc B lo sb w7.heap.size w (w4.setCell ⟨sb, 1, none⟩ (.slice (some ⟨g, 0, none⟩) (n9 + 1) cap4)) ver n9' tb9 cap9 X9' ∧ 1 ≤ n9' ∧ n9' ≤ k + 9 ∧ ∀ y ∈ X9', SzT (k + 9) y.t) ∧ (∃ vq, w4.cell? ⟨sb, 1, none⟩ = some vq) ∧ w4.frozen? ⟨sb, 1, none⟩ = false ∧ sb < w4.heap.size ∧ lenAt (w4.setCell ⟨sb, 1, none⟩ (.slice (some ⟨g, 0, none⟩) (n9 + 1) cap4)) sb = n9 + 1) := fun v4 O w4 h1 h2 h3 => by
        rw [← hcl, ← txCells_snoc] at h1
        obtain ⟨g, cap4, rfl, h1⟩ := own_some (by omega) h1
        have hat : g = tb1 ∨ wd.heap.size ≤ g := by
          rcases h3 with h | h
          · exact .inl (by simpa [Value.ownBlock] using h)
          · exact .inr (by simp [Value.ownBlock] at h; omega)
        have hg : (wd.alloc O).grownBy w4 (some tb1) := h2
        have hT := TD.out.growT (TD.out.at hx0) h1 hg hat
        have hlt := TD.out.core.tblt
        have hbk : w4.heap[sb]? = wd.heap[sb]? := (hg.block sb (by simp; omega) (by simp; omega)).trans (((Below.refl wd.heap.size wd).alloc (Nat.le_refl _) O).block sb hsd)
        have hsz := hg.size
        simp only [World.size_alloc] at hsz
        refine ⟨g, cap4, rfl, ⟨_, _, _, _, hT, by omega, by omega, fun y hy => ?_⟩, ⟨_, (World.cell?_of_block (a := ⟨sb, 1, none⟩) hbk).trans q1⟩, (World.frozen?_of_block (a := ⟨sb, 1, none⟩) hbk).trans (TD.out.core.sf 1), by omega, by unfold lenAt; rw [hT.core.s1]⟩
        rcases List.mem_append.1 hy with hy | hy
        · exact Z9.out y hy
        · rw [List.mem_singleton.1 hy]; exact Z9.out _ (List.getElem_mem hx0)
      clear hwd hbw hcl T9 Z9
      refine wpAnyH_takeD (i := 0) (d := 61) (v := ?_) rfl rfl (by kernel_rfl) (by kernel_rfl) (by kernel_rfl) (fun _ _ _ h => h) (Or.inl ⟨by rfl, ?_⟩) (by assumption) ?_; rotate_left
      · intro W hSw; (try dsimp only at hSw); go_simp; (try with_reducible rfl)
      (try simp only [List.set_cons_zero, List.set_cons_succ])
      refine wpAnyH_takeD (i := 2) (d := 63) (v := ?_) rfl rfl (by kernel_rfl) (by kernel_rfl) (by kernel_rfl) (fun _ _ _ h => h) (Or.inl ⟨by rfl, ?_⟩) (by assumption) ?_; rotate_left
      · intro W hSw; (try dsimp only at hSw); go_simp; (try with_reducible rfl)
      (try simp only [List.set_cons_zero, List.set_cons_succ])
      refine wpAnyH_ready (rs := [1, 3]) (by kernel_rfl) (by simp) ?_
      refine (AllReadyH.cons rfl (fun K hK => ?_) (AllReadyH.cons rfl (fun K hK => ?_) AllReadyH.nil))
      · go_simp
        clear hHeld
        refine hK.out _ _ trivial (fun hHeld => ?_)
        clear hK K
        (try simp only [List.set_cons_zero, List.set_cons_succ])
        refine wpAnyH_ready (rs := [3]) (by kernel_rfl) (by simp) ?_
        refine (AllReadyH.cons rfl (fun K hK => ?_) AllReadyH.nil)
        go_simp
        clear hHeld
        refine hK.out _ _ trivial (fun hHeld => ?_)
        clear hK K
        (try simp only [List.set_cons_zero, List.set_cons_succ])
        refine wpAnyH_takeD (i := 4) (d := 65) (v := ?_) rfl rfl (by kernel_rfl) (by kernel_rfl) (by kernel_rfl) (fun _ _ _ h => h) (Or.inl ⟨by rfl, ?_⟩) (by assumption) ?_; rotate_left
        · intro W hSw; (try dsimp only at hSw); go_simp; (try with_reducible rfl)
        (try simp only [List.set_cons_zero, List.set_cons_succ])
        refine wpAnyH_ready (rs := [5]) (by kernel_rfl) (by simp) ?_
        refine (AllReadyH.cons rfl (fun K hK => ?_) AllReadyH.nil)
        go_simp
        clear hHeld
        refine hK.out _ _ trivial (fun hHeld => ?_)
        clear hK K
        (try simp only [List.set_cons_zero, List.set_cons_succ])
        refine wpAnyH_ready (rs := [6]) (by kernel_rfl) (by simp) ?_
        refine (AllReadyH.cons rfl (fun K hK => ?_) AllReadyH.nil)
        go_simp
        clear hHeld
        refine hK.out _ _ trivial (fun hHeld => ?_)
        clear hK K
        (try simp only [List.set_cons_zero, List.set_cons_succ])
        refine wpAnyH_ready (rs := [7]) (by kernel_rfl) (by simp) ?_
        refine AllReadyH.cons rfl (fun K hK => ?_) AllReadyH.nil
        refine step_append_own rfl _ _ 23 rfl (sb + 2) 40 i2 (.agg #[.string ⟨#[]⟩, .slice none 0 0, .int .i64 0, .slice none 0 0, .slice none 0 0]) 5 96 Try.underlying23 HJ0.out HJ1.out HJ2.out HJ3.out rfl (by decide) (.slice (some ⟨tb1, 0, none⟩) n9 cap1) n9 (txCells X9) rfl (TD.out.core.own.alloc _) ⟨wd.heap.size, 0, none⟩ 1 1 [.string s0, .slice a1 n1 c1, .int .i64 z2, .slice a3 n3 c3, .slice a4 n4 c4] rfl rfl (A6.out _) A5.out A3.out A4.out (A7.out _) ?_
        intro v4 w4 hown4 hgr4 hat4
        obtain ⟨g, cap4, rfl, hT4, hq4, hf4, hl4, hm4⟩ := HGR.out v4 _ w4 hown4 hgr4 hat4
        obtain ⟨vq, hq4⟩ := hq4
        have HT4 := Lib.hid hT4
        have HM4 := Lib.hid hm4
        clear hown4 hgr4 hat4 hT4 hm4 HGR A3 A4 A5 A6 A7
        refine hK.out _ _ trivial (fun hHeld => ?_)
        clear hK K
        (try simp only [List.set_cons_zero, List.set_cons_succ])
        refine wpAnyH_takeD (i := 8) (d := 69) (v := ?_) rfl rfl (by kernel_rfl) (by kernel_rfl) (by kernel_rfl) (fun _ _ _ h => h) (Or.inl ⟨by rfl, ?_⟩) (by assumption) ?_; rotate_left
        · intro W hSw; (try dsimp only at hSw); go_simp; (try with_reducible rfl)
        (try simp only [List.set_cons_zero, List.set_cons_succ])
        refine wpAnyH_ready (rs := [9]) (by kernel_rfl) (by simp) ?_
        refine AllReadyH.cons rfl (fun K hK => ?_) AllReadyH.nil
        go_simp
        refine hK.out _ _ trivial (fun hHeld => ?_)
        clear hK K
        (try simp only [List.set_cons_zero, List.set_cons_succ])
        refine wpAnyH_done (by kernel_rfl) ?_ _
        go_wp2_with fail
        go_roundw
        case rel => exact HT4
        case measure => rw [HM4.out, HM0.out]; omega
      · go_simp
        clear hHeld
        refine hK.out _ _ trivial (fun hHeld => ?_)
        clear hK K
        (try simp only [List.set_cons_zero, List.set_cons_succ])
        refine wpAnyH_takeD (i := 4) (d := 65) (v := ?_) rfl rfl (by kernel_rfl) (by kernel_rfl) (by kernel_rfl) (fun _ _ _ h => h) (Or.inl ⟨by rfl, ?_⟩) (by assumption) ?_; rotate_left
        · intro W hSw; (try dsimp only at hSw); go_simp; (try with_reducible rfl)
        (try simp only [List.set_cons_zero, List.set_cons_succ])
        refine wpAnyH_ready (rs := [1, 5]) (by kernel_rfl) (by simp) ?_
        refine (AllReadyH.cons rfl (fun K hK => ?_) (AllReadyH.cons rfl (fun K hK => ?_) AllReadyH.nil))
        · go_simp
          clear hHeld
          refine hK.out _ _ trivial (fun hHeld => ?_)
          clear hK K
          (try simp only [List.set_cons_zero, List.set_cons_succ])
          refine wpAnyH_ready (rs := [5]) (by kernel_rfl) (by simp) ?_
          refine (AllReadyH.cons rfl (fun K hK => ?_) AllReadyH.nil)
          go_simp
          clear hHeld
          refine hK.out _ _ trivial (fun hHeld => ?_)
          clear hK K
          (try simp only [List.set_cons_zero, List.set_cons_succ])
          refine wpAnyH_ready (rs := [6]) (by kernel_rfl) (by simp) ?_
          refine (AllReadyH.cons rfl (fun K hK => ?_) AllReadyH.nil)
          go_simp
          clear hHeld
          refine hK.out _ _ trivial (fun hHeld => ?_)
          clear hK K
          (try simp only [List.set_cons_zero, List.set_cons_succ])
          refine wpAnyH_ready (rs := [7]) (by kernel_rfl) (by simp) ?_
          refine AllReadyH.cons rfl (fun K hK => ?_) AllReadyH.nil
          refine step_append_own rfl _ _ 23 rfl (sb + 2) 40 i2 (.agg #[.string ⟨#[]⟩, .slice none 0 0, .int .i64 0, .slice none 0 0, .slice none 0 0]) 5 96 Try.underlying23 HJ0.out HJ1.out HJ2.out HJ3.out rfl (by decide) (.slice (some ⟨tb1, 0, none⟩) n9 cap1) n9 (txCells X9) rfl (TD.out.core.own.alloc _) ⟨wd.heap.size, 0, none⟩ 1 1 [.string s0, .slice a1 n1 c1, .int .i64 z2, .slice a3 n3 c3, .slice a4 n4 c4] rfl rfl (A6.out _) A5.out A3.out A4.out (A7.out _) ?_
          intro v4 w4 hown4 hgr4 hat4
          obtain ⟨g, cap4, rfl, hT4, hq4, hf4, hl4, hm4⟩ := HGR.out v4 _ w4 hown4 hgr4 hat4
          obtain ⟨vq, hq4⟩ := hq4
          have HT4 := Lib.hid hT4
          have HM4 := Lib.hid hm4
          clear hown4 hgr4 hat4 hT4 hm4 HGR A3 A4 A5 A6 A7
          refine hK.out _ _ trivial (fun hHeld => ?_)
          clear hK K
          (try simp only [List.set_cons_zero, List.set_cons_succ])
          refine wpAnyH_takeD (i := 8) (d := 69) (v := ?_) rfl rfl (by kernel_rfl) (by kernel_rfl) (by kernel_rfl) (fun _ _ _ h => h) (Or.inl ⟨by rfl, ?_⟩) (by assumption) ?_; rotate_left
          · intro W hSw; (try dsimp only at hSw); go_simp; (try with_reducible rfl)
          (try simp only [List.set_cons_zero, List.set_cons_succ])
          refine wpAnyH_ready (rs := [9]) (by kernel_rfl) (by simp) ?_
          refine AllReadyH.cons rfl (fun K hK => ?_) AllReadyH.nil
          go_simp
          refine hK.out _ _ trivial (fun hHeld => ?_)
          clear hK K
          (try simp only [List.set_cons_zero, List.set_cons_succ])
          refine wpAnyH_done (by kernel_rfl) ?_ _
          go_wp2_with fail
          go_roundw
          case rel => exact HT4
          case measure => rw [HM4.out, HM0.out]; omega
        · go_simp
          clear hHeld
          refine hK.out _ _ trivial (fun hHeld => ?_)
          clear hK K
          (try simp only [List.set_cons_zero, List.set_cons_succ])
          refine wpAnyH_ready (rs := [1, 6]) (by kernel_rfl) (by simp) ?_
          refine (AllReadyH.cons rfl (fun K hK => ?_) (AllReadyH.cons rfl (fun K hK => ?_) AllReadyH.nil))
          · go_simp
            clear hHeld
            refine hK.out _ _ trivial (fun hHeld => ?_)
            clear hK K
            (try simp only [List.set_cons_zero, List.set_cons_succ])
            refine wpAnyH_ready (rs := [6]) (by kernel_rfl) (by simp) ?_
            refine (AllReadyH.cons rfl (fun K hK => ?_) AllReadyH.nil)
            go_simp
            clear hHeld
            refine hK.out _ _ trivial (fun hHeld => ?_)
            clear hK K
            (try simp only [List.set_cons_zero, List.set_cons_succ])
            refine wpAnyH_ready (rs := [7]) (by kernel_rfl) (by simp) ?_
            refine AllReadyH.cons rfl (fun K hK => ?_) AllReadyH.nil
            refine step_append_own rfl _ _ 23 rfl (sb + 2) 40 i2 (.agg #[.string ⟨#[]⟩, .slice none 0 0, .int .i64 0, .slice none 0 0, .slice none 0 0]) 5 96 Try.underlying23 HJ0.out HJ1.out HJ2.out HJ3.out rfl (by decide) (.slice (some ⟨tb1, 0, none⟩) n9 cap1) n9 (txCells X9) rfl (TD.out.core.own.alloc _) ⟨wd.heap.size, 0, none⟩ 1 1 [.string s0, .slice a1 n1 c1, .int .i64 z2, .slice a3 n3 c3, .slice a4 n4 c4] rfl rfl (A6.out _) A5.out A3.out A4.out (A7.out _) ?_
            intro v4 w4 hown4 hgr4 hat4
            obtain ⟨g, cap4, rfl, hT4, hq4, hf4, hl4, hm4⟩ := HGR.out v4 _ w4 hown4 hgr4 hat4
            obtain ⟨vq, hq4⟩ := hq4
            have HT4 := Lib.hid hT4
            have HM4 := Lib.hid hm4
            clear hown4 hgr4 hat4 hT4 hm4 HGR A3 A4 A5 A6 A7
            refine hK.out _ _ trivial (fun hHeld => ?_)
            clear hK K
            (try simp only [List.set_cons_zero, List.set_cons_succ])
            refine wpAnyH_takeD (i := 8) (d := 69) (v := ?_) rfl rfl (by kernel_rfl) (by kernel_rfl) (by kernel_rfl) (fun _ _ _ h => h) (Or.inl ⟨by rfl, ?_⟩) (by assumption) ?_; rotate_left
            · intro W hSw; (try dsimp only at hSw); go_simp; (try with_reducible rfl)
            (try simp only [List.set_cons_zero, List.set_cons_succ])
            refine wpAnyH_ready (rs := [9]) (by kernel_rfl) (by simp) ?_
            refine AllReadyH.cons rfl (fun K hK => ?_) AllReadyH.nil
            go_simp
            refine hK.out _ _ trivial (fun hHeld => ?_)
            clear hK K
            (try simp only [List.set_cons_zero, List.set_cons_succ])
            refine wpAnyH_done (by kernel_rfl) ?_ _
            go_wp2_with fail
            go_roundw
            case rel => exact HT4
            case measure => rw [HM4.out, HM0.out]; omega
          · go_simp
            clear hHeld
            refine hK.out _ _ trivial (fun hHeld => ?_)
            clear hK K
            (try simp only [List.set_cons_zero, List.set_cons_succ])
            refine wpAnyH_ready (rs := [1]) (by kernel_rfl) (by simp) ?_
            refine (AllReadyH.cons rfl (fun K hK => ?_) AllReadyH.nil)
            go_simp
            clear hHeld
            refine hK.out _ _ trivial (fun hHeld => ?_)
            clear hK K
            (try simp only [List.set_cons_zero, List.set_cons_succ])
            refine wpAnyH_ready (rs := [7]) (by kernel_rfl) (by simp) ?_
            refine AllReadyH.cons rfl (fun K hK => ?_) AllReadyH.nil
            refine step_append_own rfl _ _ 23 rfl (sb + 2) 40 i2 (.agg #[.string ⟨#[]⟩, .slice none 0 0, .int .i64 0, .slice none 0 0, .slice none 0 0]) 5 96 Try.underlying23 HJ0.out HJ1.out HJ2.out HJ3.out rfl (by decide) (.slice (some ⟨tb1, 0, none⟩) n9 cap1) n9 (txCells X9) rfl (TD.out.core.own.alloc _) ⟨wd.heap.size, 0, none⟩ 1 1 [.string s0, .slice a1 n1 c1, .int .i64 z2, .slice a3 n3 c3, .slice a4 n4 c4] rfl rfl (A6.out _) A5.out A3.out A4.out (A7.out _) ?_
            intro v4 w4 hown4 hgr4 hat4
            obtain ⟨g, cap4, rfl, hT4, hq4, hf4, hl4, hm4⟩ := HGR.out v4 _ w4 hown4 hgr4 hat4
            obtain ⟨vq, hq4⟩ := hq4
            have HT4 := Lib.hid hT4
            have HM4 := Lib.hid hm4
            clear hown4 hgr4 hat4 hT4 hm4 HGR A3 A4 A5 A6 A7
            refine hK.out _ _ trivial (fun hHeld => ?_)
            clear hK K
            (try simp only [List.set_cons_zero, List.set_cons_succ])
            refine wpAnyH_takeD (i := 8) (d := 69) (v := ?_) rfl rfl (by kernel_rfl) (by kernel_rfl) (by kernel_rfl) (fun _ _ _ h => h) (Or.inl ⟨by rfl, ?_⟩) (by assumption) ?_; rotate_left
            · intro W hSw; (try dsimp only at hSw); go_simp; (try with_reducible rfl)
            (try simp only [List.set_cons_zero, List.set_cons_succ])
            refine wpAnyH_ready (rs := [9]) (by kernel_rfl) (by simp) ?_
            refine AllReadyH.cons rfl (fun K hK => ?_) AllReadyH.nil
            go_simp
            refine hK.out _ _ trivial (fun hHeld => ?_)
            clear hK K
            (try simp only [List.set_cons_zero, List.set_cons_succ])
            refine wpAnyH_done (by kernel_rfl) ?_ _
            go_wp2_with fail
            go_roundw
            case rel => exact HT4
            case measure => rw [HM4.out, HM0.out]; omega
    · have h82 : decide ((n9 : Int) ≤ 8) = false := by simp; omega
      have HE : Hid (SpEnd bc B lo sb (k + 9) w wr) := ⟨ver, n9, tb1, cap1, _, _, T9.out, h91, h92, Z9.out⟩
      clear T9 Z9
      go_wp2_with fail
      have hK := HK.out
      apply hK
      exact HE.out
end Go.Proofs.Ytjcbmeannhafjaa
