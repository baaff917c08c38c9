
/- SpoilSchema of a case: ScSpoilB. -/
import Derived.Test.YtjcbmeannhafjaaScSpMem

namespace Go.Proofs.Ytjcbmeannhafjaa

open Go.RowKit Go.Deep

set_option linter.unusedSimpArgs false in
set_option maxRecDepth 100000 in
set_option maxHeartbeats 16000000 in
theorem sp_way0 {bc B lo sb k m4 n tb cap i nc cc : Nat} {ca : Option Addr} {w w7 : World} {ver : Int} {X6 : List TX} {K : Act → World → Prop} (H : SwHyp bc B lo sb k m4 w w7 ver n tb cap X6 i nc cc ca) (x_1 x_2 x_4 x_7 x_8 x_9 x_10 x_11 x_12 x_13 x_14 x_15 x_16 x_17 x_18 x_19 x_20 x_21 x_22 x_23 x_24 x_25 x_26 x_27 x_28 x_29 x_30 x_31 x_32 x_33 x_34 x_35 x_36 x_37 x_38 x_39 x_40 x_41 x_42 x_43 x_44 x_45 x_46 x_47 x_48 x_49 x_50 x_51 x_52 x_53 x_54 x_55 x_57 x_58 x_59 x_60 x_61 x_62 x_63 x_64 x_65 x_66 x_67 x_68 x_69 x_70 x_71 x_72 x_73 x_74 x_75 x_76 x_77 x_78 x_79 x_80 x_81 x_82 x_83 x_84 x_85 x_86 x_87 x_88 x_89 x_90 x_91 x_92 x_93 x_94 x_95 x_96 x_97 x_98 x_99 x_100 x_101 x_102 x_103 x_104 x_105 x_106 x_107 x_108 x_109 x_110 x_111 x_112 x_113 x_114 x_115 x_116 x_117 x_118 x_119 x_120 x_121 x_122 x_123 x_124 x_125 x_126 x_127 x_128 x_129 x_130 x_131 x_132 x_133 x_134 x_135 x_136 x_137 x_138 x_139 x_140 x_141 x_142 x_143 x_144 x_145 x_146 x_147 x_148 x_149 x_150 x_151 x_152 x_153 x_154 x_155 x_156 x_157 x_158 x_159 x_160 x_161 x_162 x_163 x_164 x_165 x_166 x_167 x_168 x_169 x_170 x_171 x_172 x_173 x_174 x_175 x_176 x_177 x_178 x_179 x_180 x_181 x_182 x_183 x_184 x_185 x_186 x_187 x_188 x_189 x_190 x_191 x_192 x_193 x_194 x_195 x_196 x_197 x_198 x_199 x_200 x_201 x_202 : Value) (hK : ∀ (u7 u57 u58 u59 u60 u61 u62 u63 u64 u65 u66 u67 u68 u69 u70 u71 u72 u73 u74 u75 u76 u77 u78 u79 u80 u81 u82 u83 u84 u85 u86 u87 u88 u89 u90 u91 u92 u93 u94 u95 u96 u97 u98 u99 u100 u101 u102 u103 u104 u105 u106 u107 u108 u109 u110 u111 u112 u113 u114 u115 u116 u117 u118 u119 u120 u121 u122 u123 u124 u125 u126 u127 u128 u129 u130 u131 u132 u133 u134 u135 u136 u137 u138 u139 u140 u141 u142 u143 u144 u145 u146 u147 u148 u149 u150 u151 u152 u153 u154 u155 u156 u157 u158 u159 u160 u161 u162 u163 u164 u165 u166 u167 u168 u169 u170 u171 u172 u173 u174 u175 u176 u177 u178 u179 u180 u181 u182 u183 u184 u185 u186 u187 u188 u189 u190 u191 u192 u193 u194 u195 u196 u197 u198 u199 u200 u201 : Value) (W : World), SpEnd bc B lo sb (k + 9) w W → K ⟨#[.pointer (some ⟨bc, 0, none⟩), x_1, x_2, .pointer (some ⟨sb, 0, none⟩), x_4, .pointer (some ⟨tb, i * 5, none⟩), .int .i64 (0 : Nat), u7, x_8, x_9, x_10, x_11, x_12, x_13, x_14, x_15, x_16, x_17, x_18, x_19, x_20, x_21, x_22, x_23, x_24, x_25, x_26, x_27, x_28, x_29, x_30, x_31, x_32, x_33, x_34, x_35, x_36, x_37, x_38, x_39, x_40, x_41, x_42, x_43, x_44, x_45, x_46, x_47, x_48, x_49, x_50, x_51, x_52, x_53, x_54, x_55, .int .i64 (0 : Nat), u57, u58, u59, u60, u61, u62, u63, u64, u65, u66, u67, u68, u69, u70, u71, u72, u73, u74, u75, u76, u77, u78, u79, u80, u81, u82, u83, u84, u85, u86, u87, u88, u89, u90, u91, u92, u93, u94, u95, u96, u97, u98, u99, u100, u101, u102, u103, u104, u105, u106, u107, u108, u109, u110, u111, u112, u113, u114, u115, u116, u117, u118, u119, u120, u121, u122, u123, u124, u125, u126, u127, u128, u129, u130, u131, u132, u133, u134, u135, u136, u137, u138, u139, u140, u141, u142, u143, u144, u145, u146, u147, u148, u149, u150, u151, u152, u153, u154, u155, u156, u157, u158, u159, u160, u161, u162, u163, u164, u165, u166, u167, u168, u169, u170, u171, u172, u173, u174, u175, u176, u177, u178, u179, u180, u181, u182, u183, u184, u185, u186, u187, u188, u189, u190, u191, u192, u193, u194, u195, u196, u197, u198, u199, u200, u201, x_202], []⟩ W) : Code.wp Try.prog swBlock (Exit.then K (bodyPost Try.prog Try.f9 (SpSPost bc B lo (k + 9) w))) ⟨#[.pointer (some ⟨bc, 0, none⟩), x_1, x_2, .pointer (some ⟨sb, 0, none⟩), x_4, .pointer (some ⟨tb, i * 5, none⟩), .int .i64 (0 : Nat), x_7, x_8, x_9, x_10, x_11, x_12, x_13, x_14, x_15, x_16, x_17, x_18, x_19, x_20, x_21, x_22, x_23, x_24, x_25, x_26, x_27, x_28, x_29, x_30, x_31, x_32, x_33, x_34, x_35, x_36, x_37, x_38, x_39, x_40, x_41, x_42, x_43, x_44, x_45, x_46, x_47, x_48, x_49, x_50, x_51, x_52, x_53, x_54, x_55, .int .i64 (0 : Nat), x_57, x_58, x_59, x_60, x_61, x_62, x_63, x_64, x_65, x_66, x_67, x_68, x_69, x_70, x_71, x_72, x_73, x_74, x_75, x_76, x_77, x_78, x_79, x_80, x_81, x_82, x_83, x_84, x_85, x_86, x_87, x_88, x_89, x_90, x_91, x_92, x_93, x_94, x_95, x_96, x_97, x_98, x_99, x_100, x_101, x_102, x_103, x_104, x_105, x_106, x_107, x_108, x_109, x_110, x_111, x_112, x_113, x_114, x_115, x_116, x_117, x_118, x_119, x_120, x_121, x_122, x_123, x_124, x_125, x_126, x_127, x_128, x_129, x_130, x_131, x_132, x_133, x_134, x_135, x_136, x_137, x_138, x_139, x_140, x_141, x_142, x_143, x_144, x_145, x_146, x_147, x_148, x_149, x_150, x_151, x_152, x_153, x_154, x_155, x_156, x_157, x_158, x_159, x_160, x_161, x_162, x_163, x_164, x_165, x_166, x_167, x_168, x_169, x_170, x_171, x_172, x_173, x_174, x_175, x_176, x_177, x_178, x_179, x_180, x_181, x_182, x_183, x_184, x_185, x_186, x_187, x_188, x_189, x_190, x_191, x_192, x_193, x_194, x_195, x_196, x_197, x_198, x_199, x_200, x_201, x_202], []⟩ w7 := by
  obtain ⟨hk, hn1, hnk, hi6, s7, hsz5, hnx, hnck⟩ := H
  have S7 := Lib.hid s7
  have HSZ5 := Lib.hid hsz5
  have HNX := Lib.hid hnx
  have HK := Lib.hid hK
  have HSX : Hid (SzT k X6[i].t) := hsz5 _ (List.getElem_mem hi6)
  have T7 : Hid (TInv bc B lo sb w7.heap.size w w7 ver n tb cap X6) := S7.out.done (by have := HSX.out.1; omega)
  have HSE : Hid (∀ x' : TX, SzT (k + 9) x'.t → ∀ y ∈ X6.set i x', SzT (k + 9) y.t) := fun x' h => szT_set (fun y hy => (HSZ5.out y hy).mono (by omega)) h
  have hltb : tb < w7.heap.size := T7.out.core.tblt.2
  have hsb2 : sb + 2 ≤ tb := T7.out.core.tblt.1
  have hbcs : bc < sb := T7.out.core.hsb.2.1
  clear s7 hsz5 hnx hK
  conv => arg 2; whnf
  have HI8 := Lib.hid (fun O => cInt_any bc B 8 (w7.alloc O) (by omega) (by omega) (S7.out.core.ok.alloc O))
  go_wp2_with fail
  refine (HI8.out _).mono ?_
  rintro e w8 ⟨r, rfl, hr0, hr1, hm, ho⟩
  obtain ⟨j, rfl⟩ : ∃ j : Nat, r = j := ⟨r.toNat, by omega⟩
  have hj8 : j < 8 := by omega
  have hj8' : (j : Int) < 8 := by omega
  have hrow : ∃ s : ByteArray, w8.cell? ⟨w7.heap.size, j, none⟩ = some (.string s) ∧ s.size ≤ maxLen := by
    have hh : j = 0 ∨ j = 1 ∨ j = 2 ∨ j = 3 ∨ j = 4 ∨ j = 5 ∨ j = 6 ∨ j = 7 := by omega
    rcases hh with rfl | rfl | rfl | rfl | rfl | rfl | rfl | rfl <;> exact ⟨_, (hm.cell (p := ⟨w7.heap.size, _, none⟩) (by simp) (show w7.heap.size ≠ bc by omega)).trans (by go_simp; rfl), by simp [ByteArray.size, maxLen]⟩
  obtain ⟨s, hs, hss⟩ := hrow
  have T8 := Lib.hid ((T7.out.below ((Below.refl _ _).alloc (Nat.le_refl _) _)).step hm ho)
  have hzc : w7.heap.size < w8.heap.size := by have := hm.size; simp only [World.size_alloc] at this; omega
  clear hm ho HI8 hr0 hr1 T7
  obtain ⟨vo, qo⟩ : ∃ v, w8.cell? ⟨tb, i * 5, none⟩ = some v := ⟨_, (T8.out.core.cellAt i hi6 0 (by omega)).trans rfl⟩
  have fo := T8.out.core.fz (i * 5)
  have HE : Hid (SpEnd bc B lo sb (k + 9) w (w8.setCell ⟨tb, i * 5, none⟩ (.string s))) := ⟨ver, n, tb, cap, _, _, T8.out.setName hi6 s, hn1, by omega, HSE.out _ ((show SzT (k + 9) { X6[i].t with s := s } from ⟨by have := HSX.out.1; show X6[i].t.cs.length ≤ _; omega, by have := HSX.out.2.1; show X6[i].t.rs.length ≤ _; omega, by have := HSX.out.2.2.1; show X6[i].t.ck.length ≤ _; omega, hss, HSX.out.2.2.2.2⟩))⟩
  have hlo8 : tb < w8.heap.size := T8.out.core.tblt.2
  clear HSZ5 HSE HSX S7 HNX T8 
  go_wp2_with fail
  have hK := HK.out
  apply hK
  exact HE.out

set_option linter.unusedSimpArgs false in
set_option maxRecDepth 100000 in
set_option maxHeartbeats 16000000 in
theorem sp_way3 {bc B lo sb k m4 n tb cap i nc cc : Nat} {ca : Option Addr} {w w7 : World} {ver : Int} {X6 : List TX} {K : Act → World → Prop} (H : SwHyp bc B lo sb k m4 w w7 ver n tb cap X6 i nc cc ca) (x_1 x_2 x_4 x_7 x_8 x_9 x_10 x_11 x_12 x_13 x_14 x_15 x_16 x_17 x_18 x_19 x_20 x_21 x_22 x_23 x_24 x_25 x_26 x_27 x_28 x_29 x_30 x_31 x_32 x_33 x_34 x_35 x_36 x_37 x_38 x_39 x_40 x_41 x_42 x_43 x_44 x_45 x_46 x_47 x_48 x_49 x_50 x_51 x_52 x_53 x_54 x_55 x_57 x_58 x_59 x_60 x_61 x_62 x_63 x_64 x_65 x_66 x_67 x_68 x_69 x_70 x_71 x_72 x_73 x_74 x_75 x_76 x_77 x_78 x_79 x_80 x_81 x_82 x_83 x_84 x_85 x_86 x_87 x_88 x_89 x_90 x_91 x_92 x_93 x_94 x_95 x_96 x_97 x_98 x_99 x_100 x_101 x_102 x_103 x_104 x_105 x_106 x_107 x_108 x_109 x_110 x_111 x_112 x_113 x_114 x_115 x_116 x_117 x_118 x_119 x_120 x_121 x_122 x_123 x_124 x_125 x_126 x_127 x_128 x_129 x_130 x_131 x_132 x_133 x_134 x_135 x_136 x_137 x_138 x_139 x_140 x_141 x_142 x_143 x_144 x_145 x_146 x_147 x_148 x_149 x_150 x_151 x_152 x_153 x_154 x_155 x_156 x_157 x_158 x_159 x_160 x_161 x_162 x_163 x_164 x_165 x_166 x_167 x_168 x_169 x_170 x_171 x_172 x_173 x_174 x_175 x_176 x_177 x_178 x_179 x_180 x_181 x_182 x_183 x_184 x_185 x_186 x_187 x_188 x_189 x_190 x_191 x_192 x_193 x_194 x_195 x_196 x_197 x_198 x_199 x_200 x_201 x_202 : Value) (hK : ∀ (u7 u57 u58 u59 u60 u61 u62 u63 u64 u65 u66 u67 u68 u69 u70 u71 u72 u73 u74 u75 u76 u77 u78 u79 u80 u81 u82 u83 u84 u85 u86 u87 u88 u89 u90 u91 u92 u93 u94 u95 u96 u97 u98 u99 u100 u101 u102 u103 u104 u105 u106 u107 u108 u109 u110 u111 u112 u113 u114 u115 u116 u117 u118 u119 u120 u121 u122 u123 u124 u125 u126 u127 u128 u129 u130 u131 u132 u133 u134 u135 u136 u137 u138 u139 u140 u141 u142 u143 u144 u145 u146 u147 u148 u149 u150 u151 u152 u153 u154 u155 u156 u157 u158 u159 u160 u161 u162 u163 u164 u165 u166 u167 u168 u169 u170 u171 u172 u173 u174 u175 u176 u177 u178 u179 u180 u181 u182 u183 u184 u185 u186 u187 u188 u189 u190 u191 u192 u193 u194 u195 u196 u197 u198 u199 u200 u201 : Value) (W : World), SpEnd bc B lo sb (k + 9) w W → K ⟨#[.pointer (some ⟨bc, 0, none⟩), x_1, x_2, .pointer (some ⟨sb, 0, none⟩), x_4, .pointer (some ⟨tb, i * 5, none⟩), .int .i64 (3 : Nat), u7, x_8, x_9, x_10, x_11, x_12, x_13, x_14, x_15, x_16, x_17, x_18, x_19, x_20, x_21, x_22, x_23, x_24, x_25, x_26, x_27, x_28, x_29, x_30, x_31, x_32, x_33, x_34, x_35, x_36, x_37, x_38, x_39, x_40, x_41, x_42, x_43, x_44, x_45, x_46, x_47, x_48, x_49, x_50, x_51, x_52, x_53, x_54, x_55, .int .i64 (3 : Nat), u57, u58, u59, u60, u61, u62, u63, u64, u65, u66, u67, u68, u69, u70, u71, u72, u73, u74, u75, u76, u77, u78, u79, u80, u81, u82, u83, u84, u85, u86, u87, u88, u89, u90, u91, u92, u93, u94, u95, u96, u97, u98, u99, u100, u101, u102, u103, u104, u105, u106, u107, u108, u109, u110, u111, u112, u113, u114, u115, u116, u117, u118, u119, u120, u121, u122, u123, u124, u125, u126, u127, u128, u129, u130, u131, u132, u133, u134, u135, u136, u137, u138, u139, u140, u141, u142, u143, u144, u145, u146, u147, u148, u149, u150, u151, u152, u153, u154, u155, u156, u157, u158, u159, u160, u161, u162, u163, u164, u165, u166, u167, u168, u169, u170, u171, u172, u173, u174, u175, u176, u177, u178, u179, u180, u181, u182, u183, u184, u185, u186, u187, u188, u189, u190, u191, u192, u193, u194, u195, u196, u197, u198, u199, u200, u201, x_202], []⟩ W) : Code.wp Try.prog swBlock (Exit.then K (bodyPost Try.prog Try.f9 (SpSPost bc B lo (k + 9) w))) ⟨#[.pointer (some ⟨bc, 0, none⟩), x_1, x_2, .pointer (some ⟨sb, 0, none⟩), x_4, .pointer (some ⟨tb, i * 5, none⟩), .int .i64 (3 : Nat), x_7, x_8, x_9, x_10, x_11, x_12, x_13, x_14, x_15, x_16, x_17, x_18, x_19, x_20, x_21, x_22, x_23, x_24, x_25, x_26, x_27, x_28, x_29, x_30, x_31, x_32, x_33, x_34, x_35, x_36, x_37, x_38, x_39, x_40, x_41, x_42, x_43, x_44, x_45, x_46, x_47, x_48, x_49, x_50, x_51, x_52, x_53, x_54, x_55, .int .i64 (3 : Nat), x_57, x_58, x_59, x_60, x_61, x_62, x_63, x_64, x_65, x_66, x_67, x_68, x_69, x_70, x_71, x_72, x_73, x_74, x_75, x_76, x_77, x_78, x_79, x_80, x_81, x_82, x_83, x_84, x_85, x_86, x_87, x_88, x_89, x_90, x_91, x_92, x_93, x_94, x_95, x_96, x_97, x_98, x_99, x_100, x_101, x_102, x_103, x_104, x_105, x_106, x_107, x_108, x_109, x_110, x_111, x_112, x_113, x_114, x_115, x_116, x_117, x_118, x_119, x_120, x_121, x_122, x_123, x_124, x_125, x_126, x_127, x_128, x_129, x_130, x_131, x_132, x_133, x_134, x_135, x_136, x_137, x_138, x_139, x_140, x_141, x_142, x_143, x_144, x_145, x_146, x_147, x_148, x_149, x_150, x_151, x_152, x_153, x_154, x_155, x_156, x_157, x_158, x_159, x_160, x_161, x_162, x_163, x_164, x_165, x_166, x_167, x_168, x_169, x_170, x_171, x_172, x_173, x_174, x_175, x_176, x_177, x_178, x_179, x_180, x_181, x_182, x_183, x_184, x_185, x_186, x_187, x_188, x_189, x_190, x_191, x_192, x_193, x_194, x_195, x_196, x_197, x_198, x_199, x_200, x_201, x_202], []⟩ w7 := by
  obtain ⟨hk, hn1, hnk, hi6, s7, hsz5, hnx, hnck⟩ := H
  have S7 := Lib.hid s7
  have HSZ5 := Lib.hid hsz5
  have HNX := Lib.hid hnx
  have HK := Lib.hid hK
  have HSX : Hid (SzT k X6[i].t) := hsz5 _ (List.getElem_mem hi6)
  have T7 : Hid (TInv bc B lo sb w7.heap.size w w7 ver n tb cap X6) := S7.out.done (by have := HSX.out.1; omega)
  have HSE : Hid (∀ x' : TX, SzT (k + 9) x'.t → ∀ y ∈ X6.set i x', SzT (k + 9) y.t) := fun x' h => szT_set (fun y hy => (HSZ5.out y hy).mono (by omega)) h
  have hltb : tb < w7.heap.size := T7.out.core.tblt.2
  have hsb2 : sb + 2 ≤ tb := T7.out.core.tblt.1
  have hbcs : bc < sb := T7.out.core.hsb.2.1
  clear s7 hsz5 hnx hK
  conv => arg 2; whnf
  have HNU := Lib.hid (cNumb_any bc B w7 S7.out.core.ok)
  go_wp2_with fail
  refine HNU.out.mono ?_
  rintro e w8 ⟨z, rfl, hm, ho⟩
  have T8 := Lib.hid (T7.out.step hm ho)
  clear hm ho HNU T7
  obtain ⟨vo, qo⟩ : ∃ v, w8.cell? ⟨tb, i * 5 + 2, none⟩ = some v := ⟨_, (T8.out.core.cellAt i hi6 2 (by omega)).trans rfl⟩
  have fo := T8.out.core.fz (i * 5 + 2)
  have HE : Hid (SpEnd bc B lo sb (k + 9) w (w8.setCell ⟨tb, i * 5 + 2, none⟩ (.int .i64 z))) := ⟨ver, n, tb, cap, _, _, T8.out.setKey hi6 z, hn1, by omega, HSE.out _ ((show SzT (k + 9) { X6[i].t with key := z } from HSX.out.mono (by omega)))⟩
  have hlo8 : tb < w8.heap.size := T8.out.core.tblt.2
  clear HSZ5 HSE HSX S7 HNX T8 
  go_wp2_with fail
  have hK := HK.out
  apply hK
  exact HE.out

set_option linter.unusedSimpArgs false in
set_option maxRecDepth 100000 in
set_option maxHeartbeats 16000000 in
theorem sp_way4 {bc B lo sb k m4 n tb cap i nc cc : Nat} {ca : Option Addr} {w w7 : World} {ver : Int} {X6 : List TX} {K : Act → World → Prop} (H : SwHyp bc B lo sb k m4 w w7 ver n tb cap X6 i nc cc ca) (x_1 x_2 x_4 x_7 x_8 x_9 x_10 x_11 x_12 x_13 x_14 x_15 x_16 x_17 x_18 x_19 x_20 x_21 x_22 x_23 x_24 x_25 x_26 x_27 x_28 x_29 x_30 x_31 x_32 x_33 x_34 x_35 x_36 x_37 x_38 x_39 x_40 x_41 x_42 x_43 x_44 x_45 x_46 x_47 x_48 x_49 x_50 x_51 x_52 x_53 x_54 x_55 x_57 x_58 x_59 x_60 x_61 x_62 x_63 x_64 x_65 x_66 x_67 x_68 x_69 x_70 x_71 x_72 x_73 x_74 x_75 x_76 x_77 x_78 x_79 x_80 x_81 x_82 x_83 x_84 x_85 x_86 x_87 x_88 x_89 x_90 x_91 x_92 x_93 x_94 x_95 x_96 x_97 x_98 x_99 x_100 x_101 x_102 x_103 x_104 x_105 x_106 x_107 x_108 x_109 x_110 x_111 x_112 x_113 x_114 x_115 x_116 x_117 x_118 x_119 x_120 x_121 x_122 x_123 x_124 x_125 x_126 x_127 x_128 x_129 x_130 x_131 x_132 x_133 x_134 x_135 x_136 x_137 x_138 x_139 x_140 x_141 x_142 x_143 x_144 x_145 x_146 x_147 x_148 x_149 x_150 x_151 x_152 x_153 x_154 x_155 x_156 x_157 x_158 x_159 x_160 x_161 x_162 x_163 x_164 x_165 x_166 x_167 x_168 x_169 x_170 x_171 x_172 x_173 x_174 x_175 x_176 x_177 x_178 x_179 x_180 x_181 x_182 x_183 x_184 x_185 x_186 x_187 x_188 x_189 x_190 x_191 x_192 x_193 x_194 x_195 x_196 x_197 x_198 x_199 x_200 x_201 x_202 : Value) (hK : ∀ (u7 u57 u58 u59 u60 u61 u62 u63 u64 u65 u66 u67 u68 u69 u70 u71 u72 u73 u74 u75 u76 u77 u78 u79 u80 u81 u82 u83 u84 u85 u86 u87 u88 u89 u90 u91 u92 u93 u94 u95 u96 u97 u98 u99 u100 u101 u102 u103 u104 u105 u106 u107 u108 u109 u110 u111 u112 u113 u114 u115 u116 u117 u118 u119 u120 u121 u122 u123 u124 u125 u126 u127 u128 u129 u130 u131 u132 u133 u134 u135 u136 u137 u138 u139 u140 u141 u142 u143 u144 u145 u146 u147 u148 u149 u150 u151 u152 u153 u154 u155 u156 u157 u158 u159 u160 u161 u162 u163 u164 u165 u166 u167 u168 u169 u170 u171 u172 u173 u174 u175 u176 u177 u178 u179 u180 u181 u182 u183 u184 u185 u186 u187 u188 u189 u190 u191 u192 u193 u194 u195 u196 u197 u198 u199 u200 u201 : Value) (W : World), SpEnd bc B lo sb (k + 9) w W → K ⟨#[.pointer (some ⟨bc, 0, none⟩), x_1, x_2, .pointer (some ⟨sb, 0, none⟩), x_4, .pointer (some ⟨tb, i * 5, none⟩), .int .i64 (4 : Nat), u7, x_8, x_9, x_10, x_11, x_12, x_13, x_14, x_15, x_16, x_17, x_18, x_19, x_20, x_21, x_22, x_23, x_24, x_25, x_26, x_27, x_28, x_29, x_30, x_31, x_32, x_33, x_34, x_35, x_36, x_37, x_38, x_39, x_40, x_41, x_42, x_43, x_44, x_45, x_46, x_47, x_48, x_49, x_50, x_51, x_52, x_53, x_54, x_55, .int .i64 (4 : Nat), u57, u58, u59, u60, u61, u62, u63, u64, u65, u66, u67, u68, u69, u70, u71, u72, u73, u74, u75, u76, u77, u78, u79, u80, u81, u82, u83, u84, u85, u86, u87, u88, u89, u90, u91, u92, u93, u94, u95, u96, u97, u98, u99, u100, u101, u102, u103, u104, u105, u106, u107, u108, u109, u110, u111, u112, u113, u114, u115, u116, u117, u118, u119, u120, u121, u122, u123, u124, u125, u126, u127, u128, u129, u130, u131, u132, u133, u134, u135, u136, u137, u138, u139, u140, u141, u142, u143, u144, u145, u146, u147, u148, u149, u150, u151, u152, u153, u154, u155, u156, u157, u158, u159, u160, u161, u162, u163, u164, u165, u166, u167, u168, u169, u170, u171, u172, u173, u174, u175, u176, u177, u178, u179, u180, u181, u182, u183, u184, u185, u186, u187, u188, u189, u190, u191, u192, u193, u194, u195, u196, u197, u198, u199, u200, u201, x_202], []⟩ W) : Code.wp Try.prog swBlock (Exit.then K (bodyPost Try.prog Try.f9 (SpSPost bc B lo (k + 9) w))) ⟨#[.pointer (some ⟨bc, 0, none⟩), x_1, x_2, .pointer (some ⟨sb, 0, none⟩), x_4, .pointer (some ⟨tb, i * 5, none⟩), .int .i64 (4 : Nat), x_7, x_8, x_9, x_10, x_11, x_12, x_13, x_14, x_15, x_16, x_17, x_18, x_19, x_20, x_21, x_22, x_23, x_24, x_25, x_26, x_27, x_28, x_29, x_30, x_31, x_32, x_33, x_34, x_35, x_36, x_37, x_38, x_39, x_40, x_41, x_42, x_43, x_44, x_45, x_46, x_47, x_48, x_49, x_50, x_51, x_52, x_53, x_54, x_55, .int .i64 (4 : Nat), x_57, x_58, x_59, x_60, x_61, x_62, x_63, x_64, x_65, x_66, x_67, x_68, x_69, x_70, x_71, x_72, x_73, x_74, x_75, x_76, x_77, x_78, x_79, x_80, x_81, x_82, x_83, x_84, x_85, x_86, x_87, x_88, x_89, x_90, x_91, x_92, x_93, x_94, x_95, x_96, x_97, x_98, x_99, x_100, x_101, x_102, x_103, x_104, x_105, x_106, x_107, x_108, x_109, x_110, x_111, x_112, x_113, x_114, x_115, x_116, x_117, x_118, x_119, x_120, x_121, x_122, x_123, x_124, x_125, x_126, x_127, x_128, x_129, x_130, x_131, x_132, x_133, x_134, x_135, x_136, x_137, x_138, x_139, x_140, x_141, x_142, x_143, x_144, x_145, x_146, x_147, x_148, x_149, x_150, x_151, x_152, x_153, x_154, x_155, x_156, x_157, x_158, x_159, x_160, x_161, x_162, x_163, x_164, x_165, x_166, x_167, x_168, x_169, x_170, x_171, x_172, x_173, x_174, x_175, x_176, x_177, x_178, x_179, x_180, x_181, x_182, x_183, x_184, x_185, x_186, x_187, x_188, x_189, x_190, x_191, x_192, x_193, x_194, x_195, x_196, x_197, x_198, x_199, x_200, x_201, x_202], []⟩ w7 := by
  obtain ⟨hk, hn1, hnk, hi6, s7, hsz5, hnx, hnck⟩ := H
  have S7 := Lib.hid s7
  have HSZ5 := Lib.hid hsz5
  have HNX := Lib.hid hnx
  have HK := Lib.hid hK
  have HSX : Hid (SzT k X6[i].t) := hsz5 _ (List.getElem_mem hi6)
  have T7 : Hid (TInv bc B lo sb w7.heap.size w w7 ver n tb cap X6) := S7.out.done (by have := HSX.out.1; omega)
  have HSE : Hid (∀ x' : TX, SzT (k + 9) x'.t → ∀ y ∈ X6.set i x', SzT (k + 9) y.t) := fun x' h => szT_set (fun y hy => (HSZ5.out y hy).mono (by omega)) h
  have hltb : tb < w7.heap.size := T7.out.core.tblt.2
  have hsb2 : sb + 2 ≤ tb := T7.out.core.tblt.1
  have hbcs : bc < sb := T7.out.core.hsb.2.1
  clear s7 hsz5 hnx hK
  conv => arg 2; whnf
  obtain ⟨vo, qo⟩ : ∃ v, w7.cell? ⟨tb, i * 5 + 1, none⟩ = some v := ⟨_, (T7.out.core.cellAt i hi6 1 (by omega)).trans rfl⟩
  have fo := T7.out.core.fz (i * 5 + 1)
  have HE : Hid (SpEnd bc B lo sb (k + 9) w (w7.setCell ⟨tb, i * 5 + 1, none⟩ (.slice none 0 0))) := ⟨ver, n, tb, cap, _, _, T7.out.noCols hi6, hn1, by omega, HSE.out _ ((show SzT (k + 9) { X6[i].t with cs := [] } from ⟨Nat.zero_le _, (HSX.out.mono (by omega)).2.1, (HSX.out.mono (by omega)).2.2.1, HSX.out.2.2.2.1, fun c hc => by simp at hc⟩))⟩
  have hlo8 : tb < w7.heap.size := T7.out.core.tblt.2
  clear HSZ5 HSE HSX S7 HNX T7 
  go_wp2_with fail
  have hK := HK.out
  apply hK
  exact HE.out

set_option linter.unusedSimpArgs false in
set_option maxRecDepth 100000 in
set_option maxHeartbeats 16000000 in
theorem sp_way8 {bc B lo sb k m4 n tb cap i nc cc : Nat} {ca : Option Addr} {w w7 : World} {ver : Int} {X6 : List TX} {K : Act → World → Prop} (H : SwHyp bc B lo sb k m4 w w7 ver n tb cap X6 i nc cc ca) (x_1 x_2 x_4 x_7 x_8 x_9 x_10 x_11 x_12 x_13 x_14 x_15 x_16 x_17 x_18 x_19 x_20 x_21 x_22 x_23 x_24 x_25 x_26 x_27 x_28 x_29 x_30 x_31 x_32 x_33 x_34 x_35 x_36 x_37 x_38 x_39 x_40 x_41 x_42 x_43 x_44 x_45 x_46 x_47 x_48 x_49 x_50 x_51 x_52 x_53 x_54 x_55 x_57 x_58 x_59 x_60 x_61 x_62 x_63 x_64 x_65 x_66 x_67 x_68 x_69 x_70 x_71 x_72 x_73 x_74 x_75 x_76 x_77 x_78 x_79 x_80 x_81 x_82 x_83 x_84 x_85 x_86 x_87 x_88 x_89 x_90 x_91 x_92 x_93 x_94 x_95 x_96 x_97 x_98 x_99 x_100 x_101 x_102 x_103 x_104 x_105 x_106 x_107 x_108 x_109 x_110 x_111 x_112 x_113 x_114 x_115 x_116 x_117 x_118 x_119 x_120 x_121 x_122 x_123 x_124 x_125 x_126 x_127 x_128 x_129 x_130 x_131 x_132 x_133 x_134 x_135 x_136 x_137 x_138 x_139 x_140 x_141 x_142 x_143 x_144 x_145 x_146 x_147 x_148 x_149 x_150 x_151 x_152 x_153 x_154 x_155 x_156 x_157 x_158 x_159 x_160 x_161 x_162 x_163 x_164 x_165 x_166 x_167 x_168 x_169 x_170 x_171 x_172 x_173 x_174 x_175 x_176 x_177 x_178 x_179 x_180 x_181 x_182 x_183 x_184 x_185 x_186 x_187 x_188 x_189 x_190 x_191 x_192 x_193 x_194 x_195 x_196 x_197 x_198 x_199 x_200 x_201 x_202 : Value) (hK : ∀ (u7 u57 u58 u59 u60 u61 u62 u63 u64 u65 u66 u67 u68 u69 u70 u71 u72 u73 u74 u75 u76 u77 u78 u79 u80 u81 u82 u83 u84 u85 u86 u87 u88 u89 u90 u91 u92 u93 u94 u95 u96 u97 u98 u99 u100 u101 u102 u103 u104 u105 u106 u107 u108 u109 u110 u111 u112 u113 u114 u115 u116 u117 u118 u119 u120 u121 u122 u123 u124 u125 u126 u127 u128 u129 u130 u131 u132 u133 u134 u135 u136 u137 u138 u139 u140 u141 u142 u143 u144 u145 u146 u147 u148 u149 u150 u151 u152 u153 u154 u155 u156 u157 u158 u159 u160 u161 u162 u163 u164 u165 u166 u167 u168 u169 u170 u171 u172 u173 u174 u175 u176 u177 u178 u179 u180 u181 u182 u183 u184 u185 u186 u187 u188 u189 u190 u191 u192 u193 u194 u195 u196 u197 u198 u199 u200 u201 : Value) (W : World), SpEnd bc B lo sb (k + 9) w W → K ⟨#[.pointer (some ⟨bc, 0, none⟩), x_1, x_2, .pointer (some ⟨sb, 0, none⟩), x_4, .pointer (some ⟨tb, i * 5, none⟩), .int .i64 (8 : Nat), u7, x_8, x_9, x_10, x_11, x_12, x_13, x_14, x_15, x_16, x_17, x_18, x_19, x_20, x_21, x_22, x_23, x_24, x_25, x_26, x_27, x_28, x_29, x_30, x_31, x_32, x_33, x_34, x_35, x_36, x_37, x_38, x_39, x_40, x_41, x_42, x_43, x_44, x_45, x_46, x_47, x_48, x_49, x_50, x_51, x_52, x_53, x_54, x_55, .int .i64 (8 : Nat), u57, u58, u59, u60, u61, u62, u63, u64, u65, u66, u67, u68, u69, u70, u71, u72, u73, u74, u75, u76, u77, u78, u79, u80, u81, u82, u83, u84, u85, u86, u87, u88, u89, u90, u91, u92, u93, u94, u95, u96, u97, u98, u99, u100, u101, u102, u103, u104, u105, u106, u107, u108, u109, u110, u111, u112, u113, u114, u115, u116, u117, u118, u119, u120, u121, u122, u123, u124, u125, u126, u127, u128, u129, u130, u131, u132, u133, u134, u135, u136, u137, u138, u139, u140, u141, u142, u143, u144, u145, u146, u147, u148, u149, u150, u151, u152, u153, u154, u155, u156, u157, u158, u159, u160, u161, u162, u163, u164, u165, u166, u167, u168, u169, u170, u171, u172, u173, u174, u175, u176, u177, u178, u179, u180, u181, u182, u183, u184, u185, u186, u187, u188, u189, u190, u191, u192, u193, u194, u195, u196, u197, u198, u199, u200, u201, x_202], []⟩ W) : Code.wp Try.prog swBlock (Exit.then K (bodyPost Try.prog Try.f9 (SpSPost bc B lo (k + 9) w))) ⟨#[.pointer (some ⟨bc, 0, none⟩), x_1, x_2, .pointer (some ⟨sb, 0, none⟩), x_4, .pointer (some ⟨tb, i * 5, none⟩), .int .i64 (8 : Nat), x_7, x_8, x_9, x_10, x_11, x_12, x_13, x_14, x_15, x_16, x_17, x_18, x_19, x_20, x_21, x_22, x_23, x_24, x_25, x_26, x_27, x_28, x_29, x_30, x_31, x_32, x_33, x_34, x_35, x_36, x_37, x_38, x_39, x_40, x_41, x_42, x_43, x_44, x_45, x_46, x_47, x_48, x_49, x_50, x_51, x_52, x_53, x_54, x_55, .int .i64 (8 : Nat), x_57, x_58, x_59, x_60, x_61, x_62, x_63, x_64, x_65, x_66, x_67, x_68, x_69, x_70, x_71, x_72, x_73, x_74, x_75, x_76, x_77, x_78, x_79, x_80, x_81, x_82, x_83, x_84, x_85, x_86, x_87, x_88, x_89, x_90, x_91, x_92, x_93, x_94, x_95, x_96, x_97, x_98, x_99, x_100, x_101, x_102, x_103, x_104, x_105, x_106, x_107, x_108, x_109, x_110, x_111, x_112, x_113, x_114, x_115, x_116, x_117, x_118, x_119, x_120, x_121, x_122, x_123, x_124, x_125, x_126, x_127, x_128, x_129, x_130, x_131, x_132, x_133, x_134, x_135, x_136, x_137, x_138, x_139, x_140, x_141, x_142, x_143, x_144, x_145, x_146, x_147, x_148, x_149, x_150, x_151, x_152, x_153, x_154, x_155, x_156, x_157, x_158, x_159, x_160, x_161, x_162, x_163, x_164, x_165, x_166, x_167, x_168, x_169, x_170, x_171, x_172, x_173, x_174, x_175, x_176, x_177, x_178, x_179, x_180, x_181, x_182, x_183, x_184, x_185, x_186, x_187, x_188, x_189, x_190, x_191, x_192, x_193, x_194, x_195, x_196, x_197, x_198, x_199, x_200, x_201, x_202], []⟩ w7 := by
  obtain ⟨hk, hn1, hnk, hi6, s7, hsz5, hnx, hnck⟩ := H
  have S7 := Lib.hid s7
  have HSZ5 := Lib.hid hsz5
  have HNX := Lib.hid hnx
  have HK := Lib.hid hK
  have HSX : Hid (SzT k X6[i].t) := hsz5 _ (List.getElem_mem hi6)
  have T7 : Hid (TInv bc B lo sb w7.heap.size w w7 ver n tb cap X6) := S7.out.done (by have := HSX.out.1; omega)
  have HSE : Hid (∀ x' : TX, SzT (k + 9) x'.t → ∀ y ∈ X6.set i x', SzT (k + 9) y.t) := fun x' h => szT_set (fun y hy => (HSZ5.out y hy).mono (by omega)) h
  have hltb : tb < w7.heap.size := T7.out.core.tblt.2
  have hsb2 : sb + 2 ≤ tb := T7.out.core.tblt.1
  have hbcs : bc < sb := T7.out.core.hsb.2.1
  clear s7 hsz5 hnx hK
  conv => arg 2; whnf
  have hinfo : (Try.prog.info? 73).map (fun i => (i.zero, i.size, i.bytes)) = some (some (.agg #[.slice none 0 0, .int .i64 0]), 2, 32) := by kernel_rfl
  obtain ⟨i2, hi2, hz0, hz1, hz2⟩ := info_parts hinfo
  have HJ0 := Lib.hid hi2
  have HJ1 := Lib.hid hz0
  have HJ2 := Lib.hid hz1
  have HJ3 := Lib.hid hz2
  clear hi2 hz0 hz1 hz2 hinfo
  obtain ⟨w8, hr, hown, hgr⟩ := run_make_full (P := Try.prog) w7 w7.heap.size 37 73 i2 (.agg #[.slice none 0 0, .int .i64 0]) 2 Try.underlying37 HJ0.out HJ1.out HJ2.out .i64 .i64 5 (by rw [HJ3.out]; omega) (by unfold maxLen; omega) (Nat.le_refl _)
  have hmk : (Instr.makeSlice 37 (.int .i64 5) (.int .i64 5)).run Try.prog w7 = .ok (.slice (some ⟨w7.heap.size, 0, none⟩) 5 5) w8 := hr
  have B8 := (Below.refl w7.heap.size w7).grown hgr (Nat.le_refl _) (fun kk e => by cases e)
  have T8 := Lib.hid (T7.out.below B8)
  have hown2 : w8.ownsRow w7.heap.size 73 2 (.slice (some ⟨w7.heap.size, 0, none⟩) (List.replicate 5 (⟨none, 0, ⟨[], 0⟩⟩ : RX)).length 5) (List.replicate 5 (⟨none, 0, ⟨[], 0⟩⟩ : RX)).length (rxCells (List.replicate 5 (⟨none, 0, ⟨[], 0⟩⟩ : RX))) := by rw [show rxCells (List.replicate 5 (⟨none, 0, ⟨[], 0⟩⟩ : RX)) = (madeCells (Value.agg #[.slice none 0 0, .int .i64 0]).cells (5 * 2)).toList from by kernel_rfl]; exact hown
  have hE := T8.out.setRefs hi6 hltb hown2 (fun y hy => by rw [List.eq_of_mem_replicate hy]; exact SlR.nil _ _ _) (by simp)
  obtain ⟨vo, qo⟩ : ∃ v, w8.cell? ⟨tb, i * 5 + 3, none⟩ = some v := ⟨_, (T8.out.core.cellAt i hi6 3 (by omega)).trans rfl⟩
  have fo := T8.out.core.fz (i * 5 + 3)
  have hlo8 : tb < w8.heap.size := T8.out.core.tblt.2
  have HE : Hid (SpEnd bc B lo sb (k + 9) w (w8.setCell ⟨tb, i * 5 + 3, none⟩ (.slice (some ⟨w7.heap.size, 0, none⟩) 5 5))) := ⟨ver, n, tb, cap, _, _, hE, hn1, by omega, HSE.out _ ⟨(HSX.out.mono (by omega)).1, by simp [List.length_map], (HSX.out.mono (by omega)).2.2⟩⟩
  clear hE hown hown2 hgr hr B8 T8 T7
  go_wp2_with fail
  have hK := HK.out
  apply hK
  exact HE.out
end Go.Proofs.Ytjcbmeannhafjaa

/- SpoilSchema of a case: ScSpoilC. -/
namespace Go.Proofs.Ytjcbmeannhafjaa

open Go.RowKit Go.Deep

set_option linter.unusedSimpArgs false in
set_option maxRecDepth 100000 in
set_option maxHeartbeats 16000000 in
theorem sp_way1 {bc B lo sb k m4 n tb cap i nc cc : Nat} {ca : Option Addr} {w w7 : World} {ver : Int} {X6 : List TX} {K : Act → World → Prop} (H : SwHyp bc B lo sb k m4 w w7 ver n tb cap X6 i nc cc ca) (hnp : 0 < nc) (x_1 x_2 x_4 x_7 x_8 x_9 x_10 x_11 x_12 x_13 x_14 x_15 x_16 x_17 x_18 x_19 x_20 x_21 x_22 x_23 x_24 x_25 x_26 x_27 x_28 x_29 x_30 x_31 x_32 x_33 x_34 x_35 x_36 x_37 x_38 x_39 x_40 x_41 x_42 x_43 x_44 x_45 x_46 x_47 x_48 x_49 x_50 x_51 x_52 x_53 x_54 x_55 x_57 x_58 x_59 x_60 x_61 x_62 x_63 x_64 x_65 x_66 x_67 x_68 x_69 x_70 x_71 x_72 x_73 x_74 x_75 x_76 x_77 x_78 x_79 x_80 x_81 x_82 x_83 x_84 x_85 x_86 x_87 x_88 x_89 x_90 x_91 x_92 x_93 x_94 x_95 x_96 x_97 x_98 x_99 x_100 x_101 x_102 x_103 x_104 x_105 x_106 x_107 x_108 x_109 x_110 x_111 x_112 x_113 x_114 x_115 x_116 x_117 x_118 x_119 x_120 x_121 x_122 x_123 x_124 x_125 x_126 x_127 x_128 x_129 x_130 x_131 x_132 x_133 x_134 x_135 x_136 x_137 x_138 x_139 x_140 x_141 x_142 x_143 x_144 x_145 x_146 x_147 x_148 x_149 x_150 x_151 x_152 x_153 x_154 x_155 x_156 x_157 x_158 x_159 x_160 x_161 x_162 x_163 x_164 x_165 x_166 x_167 x_168 x_169 x_170 x_171 x_172 x_173 x_174 x_175 x_176 x_177 x_178 x_179 x_180 x_181 x_182 x_183 x_184 x_185 x_186 x_187 x_188 x_189 x_190 x_191 x_192 x_193 x_194 x_195 x_196 x_197 x_198 x_199 x_200 x_201 x_202 : Value) (hK : ∀ (u7 u57 u58 u59 u60 u61 u62 u63 u64 u65 u66 u67 u68 u69 u70 u71 u72 u73 u74 u75 u76 u77 u78 u79 u80 u81 u82 u83 u84 u85 u86 u87 u88 u89 u90 u91 u92 u93 u94 u95 u96 u97 u98 u99 u100 u101 u102 u103 u104 u105 u106 u107 u108 u109 u110 u111 u112 u113 u114 u115 u116 u117 u118 u119 u120 u121 u122 u123 u124 u125 u126 u127 u128 u129 u130 u131 u132 u133 u134 u135 u136 u137 u138 u139 u140 u141 u142 u143 u144 u145 u146 u147 u148 u149 u150 u151 u152 u153 u154 u155 u156 u157 u158 u159 u160 u161 u162 u163 u164 u165 u166 u167 u168 u169 u170 u171 u172 u173 u174 u175 u176 u177 u178 u179 u180 u181 u182 u183 u184 u185 u186 u187 u188 u189 u190 u191 u192 u193 u194 u195 u196 u197 u198 u199 u200 u201 : Value) (W : World), SpEnd bc B lo sb (k + 9) w W → K ⟨#[.pointer (some ⟨bc, 0, none⟩), x_1, x_2, .pointer (some ⟨sb, 0, none⟩), x_4, .pointer (some ⟨tb, i * 5, none⟩), .int .i64 (1 : Nat), u7, x_8, x_9, x_10, x_11, x_12, x_13, x_14, x_15, x_16, x_17, x_18, x_19, x_20, x_21, x_22, x_23, x_24, x_25, x_26, x_27, x_28, x_29, x_30, x_31, x_32, x_33, x_34, x_35, x_36, x_37, x_38, x_39, x_40, x_41, x_42, x_43, x_44, x_45, x_46, x_47, x_48, x_49, x_50, x_51, x_52, x_53, x_54, x_55, .int .i64 (1 : Nat), u57, u58, u59, u60, u61, u62, u63, u64, u65, u66, u67, u68, u69, u70, u71, u72, u73, u74, u75, u76, u77, u78, u79, u80, u81, u82, u83, u84, u85, u86, u87, u88, u89, u90, u91, u92, u93, u94, u95, u96, u97, u98, u99, u100, u101, u102, u103, u104, u105, u106, u107, u108, u109, u110, u111, u112, u113, u114, u115, u116, u117, u118, u119, u120, u121, u122, u123, u124, u125, u126, u127, u128, u129, u130, u131, u132, u133, u134, u135, u136, u137, u138, u139, u140, u141, u142, u143, u144, u145, u146, u147, u148, u149, u150, u151, u152, u153, u154, u155, u156, u157, u158, u159, u160, u161, u162, u163, u164, u165, u166, u167, u168, u169, u170, u171, u172, u173, u174, u175, u176, u177, u178, u179, u180, u181, u182, u183, u184, u185, u186, u187, u188, u189, u190, u191, u192, u193, u194, u195, u196, u197, u198, u199, u200, u201, x_202], []⟩ W) : Code.wp Try.prog swBlock (Exit.then K (bodyPost Try.prog Try.f9 (SpSPost bc B lo (k + 9) w))) ⟨#[.pointer (some ⟨bc, 0, none⟩), x_1, x_2, .pointer (some ⟨sb, 0, none⟩), x_4, .pointer (some ⟨tb, i * 5, none⟩), .int .i64 (1 : Nat), x_7, x_8, x_9, x_10, x_11, x_12, x_13, x_14, x_15, x_16, x_17, x_18, x_19, x_20, x_21, x_22, x_23, x_24, x_25, x_26, x_27, x_28, x_29, x_30, x_31, x_32, x_33, x_34, x_35, x_36, x_37, x_38, x_39, x_40, x_41, x_42, x_43, x_44, x_45, x_46, x_47, x_48, x_49, x_50, x_51, x_52, x_53, x_54, x_55, .int .i64 (1 : Nat), x_57, x_58, x_59, x_60, x_61, x_62, x_63, x_64, x_65, x_66, x_67, x_68, x_69, x_70, x_71, x_72, x_73, x_74, x_75, x_76, x_77, x_78, x_79, x_80, x_81, x_82, x_83, x_84, x_85, x_86, x_87, x_88, x_89, x_90, x_91, x_92, x_93, x_94, x_95, x_96, x_97, x_98, x_99, x_100, x_101, x_102, x_103, x_104, x_105, x_106, x_107, x_108, x_109, x_110, x_111, x_112, x_113, x_114, x_115, x_116, x_117, x_118, x_119, x_120, x_121, x_122, x_123, x_124, x_125, x_126, x_127, x_128, x_129, x_130, x_131, x_132, x_133, x_134, x_135, x_136, x_137, x_138, x_139, x_140, x_141, x_142, x_143, x_144, x_145, x_146, x_147, x_148, x_149, x_150, x_151, x_152, x_153, x_154, x_155, x_156, x_157, x_158, x_159, x_160, x_161, x_162, x_163, x_164, x_165, x_166, x_167, x_168, x_169, x_170, x_171, x_172, x_173, x_174, x_175, x_176, x_177, x_178, x_179, x_180, x_181, x_182, x_183, x_184, x_185, x_186, x_187, x_188, x_189, x_190, x_191, x_192, x_193, x_194, x_195, x_196, x_197, x_198, x_199, x_200, x_201, x_202], []⟩ w7 := by
  obtain ⟨hk, hn1, hnk, hi6, s7, hsz5, hnx, hnck⟩ := H
  have S7 := Lib.hid s7
  have HSZ5 := Lib.hid hsz5
  have HNX := Lib.hid hnx
  have HK := Lib.hid hK
  have HSX : Hid (SzT k X6[i].t) := hsz5 _ (List.getElem_mem hi6)
  have T7 : Hid (TInv bc B lo sb w7.heap.size w w7 ver n tb cap X6) := S7.out.done (by have := HSX.out.1; omega)
  have HSE : Hid (∀ x' : TX, SzT (k + 9) x'.t → ∀ y ∈ X6.set i x', SzT (k + 9) y.t) := fun x' h => szT_set (fun y hy => (HSZ5.out y hy).mono (by omega)) h
  have hltb : tb < w7.heap.size := T7.out.core.tblt.2
  have hsb2 : sb + 2 ≤ tb := T7.out.core.tblt.1
  have hbcs : bc < sb := T7.out.core.hsb.2.1
  clear s7 hsz5 hnx hK
  conv => arg 2; whnf
  obtain ⟨cb, cc2, hcae⟩ : ∃ cb cc2, Value.slice ca nc cc = .slice (some ⟨cb, 0, none⟩) nc cc2 := by
    have h := S7.out.col
    rw [HNX.out.1, HNX.out.2.1, HNX.out.2.2] at h
    obtain ⟨g, c2, e, _⟩ := own_some hnp h
    exact ⟨g, c2, e⟩
  simp only [Value.slice.injEq, true_and] at hcae
  obtain ⟨rfl, rfl⟩ := hcae
  have hcbm : m4 ≤ cb ∧ cb < w7.heap.size := by
    have h := S7.out.col
    rw [HNX.out.2.1] at h
    exact h.lt cb rfl
  have hm4 : tb < m4 ∧ m4 ≤ w7.heap.size := ⟨S7.out.hm.1, S7.out.hm.2.1⟩
  have HKs : Hid (∀ W, Mv bc w7 W → W.cell? ⟨tb, i * 5 + 1, none⟩ = some (.slice (some ⟨cb, 0, none⟩) nc cc)) := fun W hm => by
    rw [hm.cell (p := ⟨tb, i * 5 + 1, none⟩) hltb (show tb ≠ bc by omega), S7.out.core.cellAt i hi6 1 (by omega)]
    show some (Value.slice X6[i].ca X6[i].t.cs.length X6[i].cc) = _
    rw [HNX.out.1, HNX.out.2.1, HNX.out.2.2]
  have HO7 : Hid (CaseOk bc B w7) := S7.out.core.ok
  have hnck2 : (nc : Int) ≤ 100 := by omega
  have q1 := HKs.out w7 (Mv.refl _ _)
  clear T7
  go_upto_region 16 with fail
  clear q1
  refine wp_region_held_drew (S := fun W => W.cell? ⟨tb, i * 5 + 1, none⟩ = some (.slice (some ⟨cb, 0, none⟩) nc cc)) (by kernel_rfl) (HKs.out _ ((Mv.refl _ _).drewN 1)) (fun hHeld => ?_)
  obtain ⟨wd, hwd⟩ : ∃ wd, w7.drew = wd := ⟨_, rfl⟩
  have BW : Hid (Mv bc w7 wd) := by rw [← hwd]; exact (Mv.refl _ _).drewN 1
  have OW : Hid (CaseOk bc B wd) := by rw [← hwd]; exact HO7.out.below ((Below.refl _ _).drew) HO7.out.lt.2
  have hzd : w7.heap.size ≤ wd.heap.size := BW.out.size
  rw [hwd] at hHeld ⊢
  clear hwd
  refine wpAnyH_takeD (i := 0) (d := 82) (v := ?_) rfl rfl (by kernel_rfl) (by kernel_rfl) (by kernel_rfl) (fun _ _ _ h => h) (Or.inl ⟨by rfl, ?_⟩) (by assumption) ?_; rotate_left
  · intro W hSw; (try dsimp only at hSw); go_simp; (try with_reducible rfl)
  (try simp only [List.set_cons_zero, List.set_cons_succ])
  refine wpAnyH_takeD (i := 1) (d := 83) (v := ?_) rfl rfl (by kernel_rfl) (by kernel_rfl) (by kernel_rfl) (fun _ _ _ h => h) (Or.inl ⟨by rfl, ?_⟩) (by assumption) ?_; rotate_left
  · intro W hSw; (try dsimp only at hSw); go_simp; (try with_reducible rfl)
  (try simp only [List.set_cons_zero, List.set_cons_succ])
  refine wpAnyH_takeD (i := 2) (d := 84) (v := ?_) rfl rfl (by kernel_rfl) (by kernel_rfl) (by kernel_rfl) (fun _ _ _ h => h) (Or.inl ⟨by rfl, ?_⟩) (by assumption) ?_; rotate_left
  · intro W hSw; (try dsimp only at hSw); go_simp; (try with_reducible rfl)
  (try simp only [List.set_cons_zero, List.set_cons_succ])
  refine wpAnyH_takeD (i := 3) (d := 85) (v := ?_) rfl rfl (by kernel_rfl) (by kernel_rfl) (by kernel_rfl) (fun _ _ _ h => h) (Or.inl ⟨by rfl, ?_⟩) (by assumption) ?_; rotate_left
  · intro W hSw; (try dsimp only at hSw); go_simp; (try with_reducible rfl)
  (try simp only [List.set_cons_zero, List.set_cons_succ])
  refine wpAnyH_takeD (i := 4) (d := 86) (v := ?_) rfl rfl (by kernel_rfl) (by kernel_rfl) (by kernel_rfl) (fun _ _ _ h => h) (Or.inl ⟨by rfl, ?_⟩) (by assumption) ?_; rotate_left
  · intro W hSw; (try dsimp only at hSw); go_simp; (try with_reducible rfl)
  (try simp only [List.set_cons_zero, List.set_cons_succ])
  refine wpAnyH_takeD (i := 5) (d := 87) (v := ?_) rfl rfl (by kernel_rfl) (by kernel_rfl) (by kernel_rfl) (fun _ _ _ h => h) (Or.inl ⟨by rfl, ?_⟩) (by assumption) ?_; rotate_left
  · intro W hSw; (try dsimp only at hSw); go_simp; (try with_reducible rfl)
  (try simp only [List.set_cons_zero, List.set_cons_succ])
  refine wpAnyH_takeD (i := 6) (d := 88) (v := ?_) rfl rfl (by kernel_rfl) (by kernel_rfl) (by kernel_rfl) (fun _ _ _ h => h) (Or.inl ⟨by rfl, ?_⟩) (by assumption) ?_; rotate_left
  · intro W hSw; (try dsimp only at hSw); go_simp; (try with_reducible rfl)
  (try simp only [List.set_cons_zero, List.set_cons_succ])
  refine wpAnyH_takeD (i := 7) (d := 89) (v := ?_) rfl rfl (by kernel_rfl) (by kernel_rfl) (by kernel_rfl) (fun _ _ _ h => h) (Or.inl ⟨by rfl, ?_⟩) (by assumption) ?_; rotate_left
  · intro W hSw; (try dsimp only at hSw); go_simp; (try with_reducible rfl)
  (try simp only [List.set_cons_zero, List.set_cons_succ])
  refine wpAnyH_takeD (i := 8) (d := 90) (v := ?_) rfl rfl (by kernel_rfl) (by kernel_rfl) (by kernel_rfl) (fun _ _ _ h => h) (Or.inl ⟨by rfl, ?_⟩) (by assumption) ?_; rotate_left
  · intro W hSw; (try dsimp only at hSw); go_simp; (try with_reducible rfl)
  (try simp only [List.set_cons_zero, List.set_cons_succ])
  refine wpAnyH_takeD (i := 9) (d := 91) (v := ?_) rfl rfl (by kernel_rfl) (by kernel_rfl) (by kernel_rfl) (fun _ _ _ h => h) (Or.inl ⟨by rfl, ?_⟩) (by assumption) ?_; rotate_left
  · intro W hSw; (try dsimp only at hSw); go_simp; (try with_reducible rfl)
  (try simp only [List.set_cons_zero, List.set_cons_succ])
  refine wpAnyH_takeD (i := 12) (d := 94) (v := ?_) rfl rfl (by kernel_rfl) (by kernel_rfl) (by kernel_rfl) (fun _ _ _ h => h) (Or.inl ⟨by rfl, ?_⟩) (by assumption) ?_; rotate_left
  · intro W hSw; (try dsimp only at hSw); go_simp; (try with_reducible rfl)
  (try simp only [List.set_cons_zero, List.set_cons_succ])
  have HC10 := Lib.hid (cInt_any bc B (nc : Int) wd (by omega) (by omega) OW.out)
  refine wpAnyH_ready (rs := [10, 11]) (by kernel_rfl) (by simp) ?_
  refine (AllReadyH.cons rfl (fun K hK => ?_) (AllReadyH.cons rfl (fun K hK => ?_) AllReadyH.nil))
  · go_simp
    refine HC10.out.mono ?_
    rintro e wa ⟨r, rfl, hr0, hr1, hm, ho⟩
    obtain ⟨q, rfl⟩ : ∃ q : Nat, r = q := ⟨r.toNat, by omega⟩
    have hqn : q < nc := by omega
    have hqn2 : (q : Int) < nc := by omega
    replace BW := Lib.hid (BW.out.trans hm)
    replace OW := Lib.hid ho
    have hza := hm.size
    clear hr0 hr1 hm ho hHeld HC10
    refine hK.out _ _ (HKs.out _ BW.out) (fun hHeld => ?_)
    clear hK K
    (try simp only [List.set_cons_zero, List.set_cons_succ])
    have HC13 := Lib.hid (cInt_any bc B 4 wa (by omega) (by omega) OW.out)
    refine wpAnyH_ready (rs := [11, 13]) (by kernel_rfl) (by simp) ?_
    refine (AllReadyH.cons rfl (fun K hK => ?_) (AllReadyH.cons rfl (fun K hK => ?_) AllReadyH.nil))
    · go_simp
      obtain ⟨wl, hwl⟩ : ∃ wl, wa.alloc (.cells #[.string ⟨#[]⟩, .string ⟨#[105, 100]⟩, .string ⟨#[120, 32, 121]⟩, .string ⟨#[255]⟩] 9) = wl := ⟨_, rfl⟩
      obtain ⟨bl, hbl⟩ : ∃ bl, wa.heap.size = bl := ⟨_, rfl⟩
      have hbw : Below wa.heap.size wa wl := by rw [← hwl]; exact (Below.refl _ _).alloc (Nat.le_refl _) _
      have hbl2 : bl < wl.heap.size := by rw [← hwl, ← hbl]; simp
      have hzl : wa.heap.size ≤ wl.heap.size := hbw.size
      have l0 : wl.cell? ⟨bl, 0, none⟩ = some (.string ⟨#[]⟩) := by subst hwl; subst hbl; go_simp
      have l1 : wl.cell? ⟨bl, 1, none⟩ = some (.string ⟨#[105, 100]⟩) := by subst hwl; subst hbl; go_simp
      have l2 : wl.cell? ⟨bl, 2, none⟩ = some (.string ⟨#[120, 32, 121]⟩) := by subst hwl; subst hbl; go_simp
      have l3 : wl.cell? ⟨bl, 3, none⟩ = some (.string ⟨#[255]⟩) := by subst hwl; subst hbl; go_simp
      have hblc : bl ≠ bc := by have := OW.out.lt; omega
      have HROW : Hid (∀ W, Mv bc wl W → ∀ p, p < 4 → ∃ s : ByteArray, W.cell? ⟨bl, p, none⟩ = some (.string s) ∧ s.size ≤ maxLen) := fun W hm p hp => by
        have hh : p = 0 ∨ p = 1 ∨ p = 2 ∨ p = 3 := by omega
        rcases hh with rfl | rfl | rfl | rfl
        · exact ⟨_, (hm.cell (p := ⟨bl, 0, none⟩) hbl2 hblc).trans l0, by simp [ByteArray.size, maxLen]⟩
        · exact ⟨_, (hm.cell (p := ⟨bl, 1, none⟩) hbl2 hblc).trans l1, by simp [ByteArray.size, maxLen]⟩
        · exact ⟨_, (hm.cell (p := ⟨bl, 2, none⟩) hbl2 hblc).trans l2, by simp [ByteArray.size, maxLen]⟩
        · exact ⟨_, (hm.cell (p := ⟨bl, 3, none⟩) hbl2 hblc).trans l3, by simp [ByteArray.size, maxLen]⟩
      replace BW := Lib.hid (BW.out.trans (Mv.of_below hbw))
      replace OW := Lib.hid (OW.out.below hbw OW.out.lt.2)
      rw [hwl, hbl]
      clear hHeld hwl hbl hbw l0 l1 l2 l3
      refine hK.out _ _ (HKs.out _ BW.out) (fun hHeld => ?_)
      clear hK K
      (try simp only [List.set_cons_zero, List.set_cons_succ])
      have HC13 := Lib.hid (cInt_any bc B 4 wl (by omega) (by omega) OW.out)
      refine wpAnyH_ready (rs := [13]) (by kernel_rfl) (by simp) ?_
      refine (AllReadyH.cons rfl (fun K hK => ?_) AllReadyH.nil)
      go_simp
      refine HC13.out.mono ?_
      rintro e wb ⟨r, rfl, hr0, hr1, hm, ho⟩
      obtain ⟨p, rfl⟩ : ∃ p : Nat, r = p := ⟨r.toNat, by omega⟩
      have hp4 : p < 4 := by omega
      have hp42 : (p : Int) < 4 := by omega
      replace BW := Lib.hid (BW.out.trans hm)
      replace OW := Lib.hid ho
      have hzb := hm.size
      replace HROW : Hid (∀ W, Mv bc wb W → ∀ p, p < 4 → ∃ s : ByteArray, W.cell? ⟨bl, p, none⟩ = some (.string s) ∧ s.size ≤ maxLen) := fun W h2 => HROW.out W (hm.trans h2)
      clear hr0 hr1 hm ho hHeld HC13
      refine hK.out _ _ (HKs.out _ BW.out) (fun hHeld => ?_)
      clear hK K
      (try simp only [List.set_cons_zero, List.set_cons_succ])
      have S8 := Lib.hid (S7.out.step BW.out OW.out)
      obtain ⟨s, qs, hss⟩ := HROW.out wb (Mv.refl _ _) p hp4
      refine wpAnyH_takeD (i := 14) (d := 96) (v := ?_) rfl rfl (by kernel_rfl) (by kernel_rfl) (by kernel_rfl) (fun _ _ _ h => h) (Or.inl ⟨by rfl, ?_⟩) (by assumption) ?_; rotate_left
      · intro W hSw; (try dsimp only at hSw); go_simp; (try with_reducible rfl)
      (try simp only [List.set_cons_zero, List.set_cons_succ])
      refine wpAnyH_ready (rs := [15]) (by kernel_rfl) (by simp) ?_
      refine (AllReadyH.cons rfl (fun K hK => ?_) AllReadyH.nil)
      go_simp
      clear hHeld
      refine hK.out _ _ (HKs.out _ BW.out) (fun hHeld => ?_)
      clear hK K
      (try simp only [List.set_cons_zero, List.set_cons_succ])
      refine wpAnyH_takeD (i := 16) (d := 98) (v := ?_) rfl rfl (by kernel_rfl) (by kernel_rfl) (by kernel_rfl) (fun _ _ _ h => h) (Or.inl ⟨by rfl, ?_⟩) (by assumption) ?_; rotate_left
      · intro W hSw; (try dsimp only at hSw); go_simp; (try with_reducible rfl)
      (try simp only [List.set_cons_zero, List.set_cons_succ])
      refine wpAnyH_takeD (i := 17) (d := 99) (v := ?_) rfl rfl (by kernel_rfl) (by kernel_rfl) (by kernel_rfl) (fun _ _ _ h => h) (Or.inl ⟨by rfl, ?_⟩) (by assumption) ?_; rotate_left
      · intro W hSw; (try dsimp only at hSw); go_simp; (try with_reducible rfl)
      (try simp only [List.set_cons_zero, List.set_cons_succ])
      obtain ⟨vo, qo⟩ : ∃ v, wb.cell? ⟨cb, q * 2, none⟩ = some v := by
        have h := S8.out.col
        rw [HNX.out.2.1] at h
        refine ⟨_, (h.cellAt (q * 2) (by rw [HNX.out.1]; omega)).trans (List.getElem?_eq_getElem (by rw [flat_len clC 2 clC_len, HNX.out.1]; omega))⟩
      have fo : wb.frozen? ⟨cb, q * 2, none⟩ = false := by
        have h := S8.out.col
        rw [HNX.out.2.1] at h
        exact h.frozenAt _
      have hlo8 : cb < wb.heap.size := by have := S8.out.core.tblt; have := BW.out.size; omega
      have hqc : q < X6[i].t.cs.length := by rw [HNX.out.1]; exact hqn
      have HE : Hid (SpEnd bc B lo sb (k + 9) w (wb.setCell ⟨cb, q * 2, none⟩ (.string s))) := col_end S8.out HNX.out.2.1 hqc 0 (by omega) (.string s) ⟨s, X6[i].t.cs[q].k⟩ rfl hn1 hnk HSZ5.out hss (by omega)
      have HKE : Hid ((wb.setCell ⟨cb, q * 2, none⟩ (.string s)).cell? ⟨tb, i * 5 + 1, none⟩ = some (.slice (some ⟨cb, 0, none⟩) nc cc)) := (World.cell?_of_block (a := ⟨tb, i * 5 + 1, none⟩) (Below.heap_setCell _ _ _ _ (show tb ≠ cb by omega))).trans (HKs.out _ BW.out)
      refine wpAnyH_ready (rs := [18]) (by kernel_rfl) (by simp) ?_
      refine (AllReadyH.cons rfl (fun K hK => ?_) AllReadyH.nil)
      go_simp
      clear hHeld
      refine hK.out _ _ HKE.out (fun hHeld => ?_)
      clear hK K
      (try simp only [List.set_cons_zero, List.set_cons_succ])
      clear hHeld
      refine wpAnyH_done (by kernel_rfl) ?_ _
      clear HSZ5 HSE HSX S7 S8 HNX HKs HKE
      go_wp2_with fail
      have hK := HK.out
      apply hK
      exact HE.out
    · go_simp
      refine HC13.out.mono ?_
      rintro e wb ⟨r, rfl, hr0, hr1, hm, ho⟩
      obtain ⟨p, rfl⟩ : ∃ p : Nat, r = p := ⟨r.toNat, by omega⟩
      have hp4 : p < 4 := by omega
      have hp42 : (p : Int) < 4 := by omega
      replace BW := Lib.hid (BW.out.trans hm)
      replace OW := Lib.hid ho
      have hzb := hm.size
      clear hr0 hr1 hm ho hHeld HC13
      refine hK.out _ _ (HKs.out _ BW.out) (fun hHeld => ?_)
      clear hK K
      (try simp only [List.set_cons_zero, List.set_cons_succ])
      refine wpAnyH_ready (rs := [11]) (by kernel_rfl) (by simp) ?_
      refine (AllReadyH.cons rfl (fun K hK => ?_) AllReadyH.nil)
      go_simp
      obtain ⟨wl, hwl⟩ : ∃ wl, wb.alloc (.cells #[.string ⟨#[]⟩, .string ⟨#[105, 100]⟩, .string ⟨#[120, 32, 121]⟩, .string ⟨#[255]⟩] 9) = wl := ⟨_, rfl⟩
      obtain ⟨bl, hbl⟩ : ∃ bl, wb.heap.size = bl := ⟨_, rfl⟩
      have hbw : Below wb.heap.size wb wl := by rw [← hwl]; exact (Below.refl _ _).alloc (Nat.le_refl _) _
      have hbl2 : bl < wl.heap.size := by rw [← hwl, ← hbl]; simp
      have hzl : wb.heap.size ≤ wl.heap.size := hbw.size
      have l0 : wl.cell? ⟨bl, 0, none⟩ = some (.string ⟨#[]⟩) := by subst hwl; subst hbl; go_simp
      have l1 : wl.cell? ⟨bl, 1, none⟩ = some (.string ⟨#[105, 100]⟩) := by subst hwl; subst hbl; go_simp
      have l2 : wl.cell? ⟨bl, 2, none⟩ = some (.string ⟨#[120, 32, 121]⟩) := by subst hwl; subst hbl; go_simp
      have l3 : wl.cell? ⟨bl, 3, none⟩ = some (.string ⟨#[255]⟩) := by subst hwl; subst hbl; go_simp
      have hblc : bl ≠ bc := by have := OW.out.lt; omega
      have HROW : Hid (∀ W, Mv bc wl W → ∀ p, p < 4 → ∃ s : ByteArray, W.cell? ⟨bl, p, none⟩ = some (.string s) ∧ s.size ≤ maxLen) := fun W hm p hp => by
        have hh : p = 0 ∨ p = 1 ∨ p = 2 ∨ p = 3 := by omega
        rcases hh with rfl | rfl | rfl | rfl
        · exact ⟨_, (hm.cell (p := ⟨bl, 0, none⟩) hbl2 hblc).trans l0, by simp [ByteArray.size, maxLen]⟩
        · exact ⟨_, (hm.cell (p := ⟨bl, 1, none⟩) hbl2 hblc).trans l1, by simp [ByteArray.size, maxLen]⟩
        · exact ⟨_, (hm.cell (p := ⟨bl, 2, none⟩) hbl2 hblc).trans l2, by simp [ByteArray.size, maxLen]⟩
        · exact ⟨_, (hm.cell (p := ⟨bl, 3, none⟩) hbl2 hblc).trans l3, by simp [ByteArray.size, maxLen]⟩
      replace BW := Lib.hid (BW.out.trans (Mv.of_below hbw))
      replace OW := Lib.hid (OW.out.below hbw OW.out.lt.2)
      rw [hwl, hbl]
      clear hHeld hwl hbl hbw l0 l1 l2 l3
      refine hK.out _ _ (HKs.out _ BW.out) (fun hHeld => ?_)
      clear hK K
      (try simp only [List.set_cons_zero, List.set_cons_succ])
      have S8 := Lib.hid (S7.out.step BW.out OW.out)
      obtain ⟨s, qs, hss⟩ := HROW.out wl (Mv.refl _ _) p hp4
      refine wpAnyH_takeD (i := 14) (d := 96) (v := ?_) rfl rfl (by kernel_rfl) (by kernel_rfl) (by kernel_rfl) (fun _ _ _ h => h) (Or.inl ⟨by rfl, ?_⟩) (by assumption) ?_; rotate_left
      · intro W hSw; (try dsimp only at hSw); go_simp; (try with_reducible rfl)
      (try simp only [List.set_cons_zero, List.set_cons_succ])
      refine wpAnyH_ready (rs := [15]) (by kernel_rfl) (by simp) ?_
      refine (AllReadyH.cons rfl (fun K hK => ?_) AllReadyH.nil)
      go_simp
      clear hHeld
      refine hK.out _ _ (HKs.out _ BW.out) (fun hHeld => ?_)
      clear hK K
      (try simp only [List.set_cons_zero, List.set_cons_succ])
      refine wpAnyH_takeD (i := 16) (d := 98) (v := ?_) rfl rfl (by kernel_rfl) (by kernel_rfl) (by kernel_rfl) (fun _ _ _ h => h) (Or.inl ⟨by rfl, ?_⟩) (by assumption) ?_; rotate_left
      · intro W hSw; (try dsimp only at hSw); go_simp; (try with_reducible rfl)
      (try simp only [List.set_cons_zero, List.set_cons_succ])
      refine wpAnyH_takeD (i := 17) (d := 99) (v := ?_) rfl rfl (by kernel_rfl) (by kernel_rfl) (by kernel_rfl) (fun _ _ _ h => h) (Or.inl ⟨by rfl, ?_⟩) (by assumption) ?_; rotate_left
      · intro W hSw; (try dsimp only at hSw); go_simp; (try with_reducible rfl)
      (try simp only [List.set_cons_zero, List.set_cons_succ])
      obtain ⟨vo, qo⟩ : ∃ v, wl.cell? ⟨cb, q * 2, none⟩ = some v := by
        have h := S8.out.col
        rw [HNX.out.2.1] at h
        refine ⟨_, (h.cellAt (q * 2) (by rw [HNX.out.1]; omega)).trans (List.getElem?_eq_getElem (by rw [flat_len clC 2 clC_len, HNX.out.1]; omega))⟩
      have fo : wl.frozen? ⟨cb, q * 2, none⟩ = false := by
        have h := S8.out.col
        rw [HNX.out.2.1] at h
        exact h.frozenAt _
      have hlo8 : cb < wl.heap.size := by have := S8.out.core.tblt; have := BW.out.size; omega
      have hqc : q < X6[i].t.cs.length := by rw [HNX.out.1]; exact hqn
      have HE : Hid (SpEnd bc B lo sb (k + 9) w (wl.setCell ⟨cb, q * 2, none⟩ (.string s))) := col_end S8.out HNX.out.2.1 hqc 0 (by omega) (.string s) ⟨s, X6[i].t.cs[q].k⟩ rfl hn1 hnk HSZ5.out hss (by omega)
      have HKE : Hid ((wl.setCell ⟨cb, q * 2, none⟩ (.string s)).cell? ⟨tb, i * 5 + 1, none⟩ = some (.slice (some ⟨cb, 0, none⟩) nc cc)) := (World.cell?_of_block (a := ⟨tb, i * 5 + 1, none⟩) (Below.heap_setCell _ _ _ _ (show tb ≠ cb by omega))).trans (HKs.out _ BW.out)
      refine wpAnyH_ready (rs := [18]) (by kernel_rfl) (by simp) ?_
      refine (AllReadyH.cons rfl (fun K hK => ?_) AllReadyH.nil)
      go_simp
      clear hHeld
      refine hK.out _ _ HKE.out (fun hHeld => ?_)
      clear hK K
      (try simp only [List.set_cons_zero, List.set_cons_succ])
      clear hHeld
      refine wpAnyH_done (by kernel_rfl) ?_ _
      clear HSZ5 HSE HSX S7 S8 HNX HKs HKE
      go_wp2_with fail
      have hK := HK.out
      apply hK
      exact HE.out
  · go_simp
    obtain ⟨wl, hwl⟩ : ∃ wl, wd.alloc (.cells #[.string ⟨#[]⟩, .string ⟨#[105, 100]⟩, .string ⟨#[120, 32, 121]⟩, .string ⟨#[255]⟩] 9) = wl := ⟨_, rfl⟩
    obtain ⟨bl, hbl⟩ : ∃ bl, wd.heap.size = bl := ⟨_, rfl⟩
    have hbw : Below wd.heap.size wd wl := by rw [← hwl]; exact (Below.refl _ _).alloc (Nat.le_refl _) _
    have hbl2 : bl < wl.heap.size := by rw [← hwl, ← hbl]; simp
    have hzl : wd.heap.size ≤ wl.heap.size := hbw.size
    have l0 : wl.cell? ⟨bl, 0, none⟩ = some (.string ⟨#[]⟩) := by subst hwl; subst hbl; go_simp
    have l1 : wl.cell? ⟨bl, 1, none⟩ = some (.string ⟨#[105, 100]⟩) := by subst hwl; subst hbl; go_simp
    have l2 : wl.cell? ⟨bl, 2, none⟩ = some (.string ⟨#[120, 32, 121]⟩) := by subst hwl; subst hbl; go_simp
    have l3 : wl.cell? ⟨bl, 3, none⟩ = some (.string ⟨#[255]⟩) := by subst hwl; subst hbl; go_simp
    have hblc : bl ≠ bc := by have := OW.out.lt; omega
    have HROW : Hid (∀ W, Mv bc wl W → ∀ p, p < 4 → ∃ s : ByteArray, W.cell? ⟨bl, p, none⟩ = some (.string s) ∧ s.size ≤ maxLen) := fun W hm p hp => by
      have hh : p = 0 ∨ p = 1 ∨ p = 2 ∨ p = 3 := by omega
      rcases hh with rfl | rfl | rfl | rfl
      · exact ⟨_, (hm.cell (p := ⟨bl, 0, none⟩) hbl2 hblc).trans l0, by simp [ByteArray.size, maxLen]⟩
      · exact ⟨_, (hm.cell (p := ⟨bl, 1, none⟩) hbl2 hblc).trans l1, by simp [ByteArray.size, maxLen]⟩
      · exact ⟨_, (hm.cell (p := ⟨bl, 2, none⟩) hbl2 hblc).trans l2, by simp [ByteArray.size, maxLen]⟩
      · exact ⟨_, (hm.cell (p := ⟨bl, 3, none⟩) hbl2 hblc).trans l3, by simp [ByteArray.size, maxLen]⟩
    replace BW := Lib.hid (BW.out.trans (Mv.of_below hbw))
    replace OW := Lib.hid (OW.out.below hbw OW.out.lt.2)
    rw [hwl, hbl]
    clear hHeld hwl hbl hbw l0 l1 l2 l3
    refine hK.out _ _ (HKs.out _ BW.out) (fun hHeld => ?_)
    clear hK K
    (try simp only [List.set_cons_zero, List.set_cons_succ])
    have HC10 := Lib.hid (cInt_any bc B (nc : Int) wl (by omega) (by omega) OW.out)
    refine wpAnyH_ready (rs := [10]) (by kernel_rfl) (by simp) ?_
    refine (AllReadyH.cons rfl (fun K hK => ?_) AllReadyH.nil)
    go_simp
    refine HC10.out.mono ?_
    rintro e wa ⟨r, rfl, hr0, hr1, hm, ho⟩
    obtain ⟨q, rfl⟩ : ∃ q : Nat, r = q := ⟨r.toNat, by omega⟩
    have hqn : q < nc := by omega
    have hqn2 : (q : Int) < nc := by omega
    replace BW := Lib.hid (BW.out.trans hm)
    replace OW := Lib.hid ho
    have hza := hm.size
    replace HROW : Hid (∀ W, Mv bc wa W → ∀ p, p < 4 → ∃ s : ByteArray, W.cell? ⟨bl, p, none⟩ = some (.string s) ∧ s.size ≤ maxLen) := fun W h2 => HROW.out W (hm.trans h2)
    clear hr0 hr1 hm ho hHeld HC10
    refine hK.out _ _ (HKs.out _ BW.out) (fun hHeld => ?_)
    clear hK K
    (try simp only [List.set_cons_zero, List.set_cons_succ])
    have HC13 := Lib.hid (cInt_any bc B 4 wa (by omega) (by omega) OW.out)
    refine wpAnyH_ready (rs := [13]) (by kernel_rfl) (by simp) ?_
    refine (AllReadyH.cons rfl (fun K hK => ?_) AllReadyH.nil)
    go_simp
    refine HC13.out.mono ?_
    rintro e wb ⟨r, rfl, hr0, hr1, hm, ho⟩
    obtain ⟨p, rfl⟩ : ∃ p : Nat, r = p := ⟨r.toNat, by omega⟩
    have hp4 : p < 4 := by omega
    have hp42 : (p : Int) < 4 := by omega
    replace BW := Lib.hid (BW.out.trans hm)
    replace OW := Lib.hid ho
    have hzb := hm.size
    replace HROW : Hid (∀ W, Mv bc wb W → ∀ p, p < 4 → ∃ s : ByteArray, W.cell? ⟨bl, p, none⟩ = some (.string s) ∧ s.size ≤ maxLen) := fun W h2 => HROW.out W (hm.trans h2)
    clear hr0 hr1 hm ho hHeld HC13
    refine hK.out _ _ (HKs.out _ BW.out) (fun hHeld => ?_)
    clear hK K
    (try simp only [List.set_cons_zero, List.set_cons_succ])
    have S8 := Lib.hid (S7.out.step BW.out OW.out)
    obtain ⟨s, qs, hss⟩ := HROW.out wb (Mv.refl _ _) p hp4
    refine wpAnyH_takeD (i := 14) (d := 96) (v := ?_) rfl rfl (by kernel_rfl) (by kernel_rfl) (by kernel_rfl) (fun _ _ _ h => h) (Or.inl ⟨by rfl, ?_⟩) (by assumption) ?_; rotate_left
    · intro W hSw; (try dsimp only at hSw); go_simp; (try with_reducible rfl)
    (try simp only [List.set_cons_zero, List.set_cons_succ])
    refine wpAnyH_ready (rs := [15]) (by kernel_rfl) (by simp) ?_
    refine (AllReadyH.cons rfl (fun K hK => ?_) AllReadyH.nil)
    go_simp
    clear hHeld
    refine hK.out _ _ (HKs.out _ BW.out) (fun hHeld => ?_)
    clear hK K
    (try simp only [List.set_cons_zero, List.set_cons_succ])
    refine wpAnyH_takeD (i := 16) (d := 98) (v := ?_) rfl rfl (by kernel_rfl) (by kernel_rfl) (by kernel_rfl) (fun _ _ _ h => h) (Or.inl ⟨by rfl, ?_⟩) (by assumption) ?_; rotate_left
    · intro W hSw; (try dsimp only at hSw); go_simp; (try with_reducible rfl)
    (try simp only [List.set_cons_zero, List.set_cons_succ])
    refine wpAnyH_takeD (i := 17) (d := 99) (v := ?_) rfl rfl (by kernel_rfl) (by kernel_rfl) (by kernel_rfl) (fun _ _ _ h => h) (Or.inl ⟨by rfl, ?_⟩) (by assumption) ?_; rotate_left
    · intro W hSw; (try dsimp only at hSw); go_simp; (try with_reducible rfl)
    (try simp only [List.set_cons_zero, List.set_cons_succ])
    obtain ⟨vo, qo⟩ : ∃ v, wb.cell? ⟨cb, q * 2, none⟩ = some v := by
      have h := S8.out.col
      rw [HNX.out.2.1] at h
      refine ⟨_, (h.cellAt (q * 2) (by rw [HNX.out.1]; omega)).trans (List.getElem?_eq_getElem (by rw [flat_len clC 2 clC_len, HNX.out.1]; omega))⟩
    have fo : wb.frozen? ⟨cb, q * 2, none⟩ = false := by
      have h := S8.out.col
      rw [HNX.out.2.1] at h
      exact h.frozenAt _
    have hlo8 : cb < wb.heap.size := by have := S8.out.core.tblt; have := BW.out.size; omega
    have hqc : q < X6[i].t.cs.length := by rw [HNX.out.1]; exact hqn
    have HE : Hid (SpEnd bc B lo sb (k + 9) w (wb.setCell ⟨cb, q * 2, none⟩ (.string s))) := col_end S8.out HNX.out.2.1 hqc 0 (by omega) (.string s) ⟨s, X6[i].t.cs[q].k⟩ rfl hn1 hnk HSZ5.out hss (by omega)
    have HKE : Hid ((wb.setCell ⟨cb, q * 2, none⟩ (.string s)).cell? ⟨tb, i * 5 + 1, none⟩ = some (.slice (some ⟨cb, 0, none⟩) nc cc)) := (World.cell?_of_block (a := ⟨tb, i * 5 + 1, none⟩) (Below.heap_setCell _ _ _ _ (show tb ≠ cb by omega))).trans (HKs.out _ BW.out)
    refine wpAnyH_ready (rs := [18]) (by kernel_rfl) (by simp) ?_
    refine (AllReadyH.cons rfl (fun K hK => ?_) AllReadyH.nil)
    go_simp
    clear hHeld
    refine hK.out _ _ HKE.out (fun hHeld => ?_)
    clear hK K
    (try simp only [List.set_cons_zero, List.set_cons_succ])
    clear hHeld
    refine wpAnyH_done (by kernel_rfl) ?_ _
    clear HSZ5 HSE HSX S7 S8 HNX HKs HKE
    go_wp2_with fail
    have hK := HK.out
    apply hK
    exact HE.out
end Go.Proofs.Ytjcbmeannhafjaa

/- SpoilSchema of a case: ScSpoilE. -/
namespace Go.Proofs.Ytjcbmeannhafjaa

open Go.RowKit Go.Deep

set_option linter.unusedSimpArgs false in
set_option maxRecDepth 100000 in
set_option maxHeartbeats 16000000 in
theorem sp_way6 {bc B lo sb k m4 n tb cap i nc cc : Nat} {ca : Option Addr} {w w7 : World} {ver : Int} {X6 : List TX} {K : Act → World → Prop} (H : SwHyp bc B lo sb k m4 w w7 ver n tb cap X6 i nc cc ca) (x_1 x_2 x_4 x_7 x_8 x_9 x_10 x_11 x_12 x_13 x_14 x_15 x_16 x_17 x_18 x_19 x_20 x_21 x_22 x_23 x_24 x_25 x_26 x_27 x_28 x_29 x_30 x_31 x_32 x_33 x_34 x_35 x_36 x_37 x_38 x_39 x_40 x_41 x_42 x_43 x_44 x_45 x_46 x_47 x_48 x_49 x_50 x_51 x_52 x_53 x_54 x_55 x_57 x_58 x_59 x_60 x_61 x_62 x_63 x_64 x_65 x_66 x_67 x_68 x_69 x_70 x_71 x_72 x_73 x_74 x_75 x_76 x_77 x_78 x_79 x_80 x_81 x_82 x_83 x_84 x_85 x_86 x_87 x_88 x_89 x_90 x_91 x_92 x_93 x_94 x_95 x_96 x_97 x_98 x_99 x_100 x_101 x_102 x_103 x_104 x_105 x_106 x_107 x_108 x_109 x_110 x_111 x_112 x_113 x_114 x_115 x_116 x_117 x_118 x_119 x_120 x_121 x_122 x_123 x_124 x_125 x_126 x_127 x_128 x_129 x_130 x_131 x_132 x_133 x_134 x_135 x_136 x_137 x_138 x_139 x_140 x_141 x_142 x_143 x_144 x_145 x_146 x_147 x_148 x_149 x_150 x_151 x_152 x_153 x_154 x_155 x_156 x_157 x_158 x_159 x_160 x_161 x_162 x_163 x_164 x_165 x_166 x_167 x_168 x_169 x_170 x_171 x_172 x_173 x_174 x_175 x_176 x_177 x_178 x_179 x_180 x_181 x_182 x_183 x_184 x_185 x_186 x_187 x_188 x_189 x_190 x_191 x_192 x_193 x_194 x_195 x_196 x_197 x_198 x_199 x_200 x_201 x_202 : Value) (hK : ∀ (u7 u57 u58 u59 u60 u61 u62 u63 u64 u65 u66 u67 u68 u69 u70 u71 u72 u73 u74 u75 u76 u77 u78 u79 u80 u81 u82 u83 u84 u85 u86 u87 u88 u89 u90 u91 u92 u93 u94 u95 u96 u97 u98 u99 u100 u101 u102 u103 u104 u105 u106 u107 u108 u109 u110 u111 u112 u113 u114 u115 u116 u117 u118 u119 u120 u121 u122 u123 u124 u125 u126 u127 u128 u129 u130 u131 u132 u133 u134 u135 u136 u137 u138 u139 u140 u141 u142 u143 u144 u145 u146 u147 u148 u149 u150 u151 u152 u153 u154 u155 u156 u157 u158 u159 u160 u161 u162 u163 u164 u165 u166 u167 u168 u169 u170 u171 u172 u173 u174 u175 u176 u177 u178 u179 u180 u181 u182 u183 u184 u185 u186 u187 u188 u189 u190 u191 u192 u193 u194 u195 u196 u197 u198 u199 u200 u201 : Value) (W : World), SpEnd bc B lo sb (k + 9) w W → K ⟨#[.pointer (some ⟨bc, 0, none⟩), x_1, x_2, .pointer (some ⟨sb, 0, none⟩), x_4, .pointer (some ⟨tb, i * 5, none⟩), .int .i64 (6 : Nat), u7, x_8, x_9, x_10, x_11, x_12, x_13, x_14, x_15, x_16, x_17, x_18, x_19, x_20, x_21, x_22, x_23, x_24, x_25, x_26, x_27, x_28, x_29, x_30, x_31, x_32, x_33, x_34, x_35, x_36, x_37, x_38, x_39, x_40, x_41, x_42, x_43, x_44, x_45, x_46, x_47, x_48, x_49, x_50, x_51, x_52, x_53, x_54, x_55, .int .i64 (6 : Nat), u57, u58, u59, u60, u61, u62, u63, u64, u65, u66, u67, u68, u69, u70, u71, u72, u73, u74, u75, u76, u77, u78, u79, u80, u81, u82, u83, u84, u85, u86, u87, u88, u89, u90, u91, u92, u93, u94, u95, u96, u97, u98, u99, u100, u101, u102, u103, u104, u105, u106, u107, u108, u109, u110, u111, u112, u113, u114, u115, u116, u117, u118, u119, u120, u121, u122, u123, u124, u125, u126, u127, u128, u129, u130, u131, u132, u133, u134, u135, u136, u137, u138, u139, u140, u141, u142, u143, u144, u145, u146, u147, u148, u149, u150, u151, u152, u153, u154, u155, u156, u157, u158, u159, u160, u161, u162, u163, u164, u165, u166, u167, u168, u169, u170, u171, u172, u173, u174, u175, u176, u177, u178, u179, u180, u181, u182, u183, u184, u185, u186, u187, u188, u189, u190, u191, u192, u193, u194, u195, u196, u197, u198, u199, u200, u201, x_202], []⟩ W) : Code.wp Try.prog swBlock (Exit.then K (bodyPost Try.prog Try.f9 (SpSPost bc B lo (k + 9) w))) ⟨#[.pointer (some ⟨bc, 0, none⟩), x_1, x_2, .pointer (some ⟨sb, 0, none⟩), x_4, .pointer (some ⟨tb, i * 5, none⟩), .int .i64 (6 : Nat), x_7, x_8, x_9, x_10, x_11, x_12, x_13, x_14, x_15, x_16, x_17, x_18, x_19, x_20, x_21, x_22, x_23, x_24, x_25, x_26, x_27, x_28, x_29, x_30, x_31, x_32, x_33, x_34, x_35, x_36, x_37, x_38, x_39, x_40, x_41, x_42, x_43, x_44, x_45, x_46, x_47, x_48, x_49, x_50, x_51, x_52, x_53, x_54, x_55, .int .i64 (6 : Nat), x_57, x_58, x_59, x_60, x_61, x_62, x_63, x_64, x_65, x_66, x_67, x_68, x_69, x_70, x_71, x_72, x_73, x_74, x_75, x_76, x_77, x_78, x_79, x_80, x_81, x_82, x_83, x_84, x_85, x_86, x_87, x_88, x_89, x_90, x_91, x_92, x_93, x_94, x_95, x_96, x_97, x_98, x_99, x_100, x_101, x_102, x_103, x_104, x_105, x_106, x_107, x_108, x_109, x_110, x_111, x_112, x_113, x_114, x_115, x_116, x_117, x_118, x_119, x_120, x_121, x_122, x_123, x_124, x_125, x_126, x_127, x_128, x_129, x_130, x_131, x_132, x_133, x_134, x_135, x_136, x_137, x_138, x_139, x_140, x_141, x_142, x_143, x_144, x_145, x_146, x_147, x_148, x_149, x_150, x_151, x_152, x_153, x_154, x_155, x_156, x_157, x_158, x_159, x_160, x_161, x_162, x_163, x_164, x_165, x_166, x_167, x_168, x_169, x_170, x_171, x_172, x_173, x_174, x_175, x_176, x_177, x_178, x_179, x_180, x_181, x_182, x_183, x_184, x_185, x_186, x_187, x_188, x_189, x_190, x_191, x_192, x_193, x_194, x_195, x_196, x_197, x_198, x_199, x_200, x_201, x_202], []⟩ w7 := by
  obtain ⟨hk, hn1, hnk, hi6, s7, hsz5, hnx, hnck⟩ := H
  have S7 := Lib.hid s7
  have HSZ5 := Lib.hid hsz5
  have HNX := Lib.hid hnx
  have HK := Lib.hid hK
  have HSX : Hid (SzT k X6[i].t) := hsz5 _ (List.getElem_mem hi6)
  have T7 : Hid (TInv bc B lo sb w7.heap.size w w7 ver n tb cap X6) := S7.out.done (by have := HSX.out.1; omega)
  have HSE : Hid (∀ x' : TX, SzT (k + 9) x'.t → ∀ y ∈ X6.set i x', SzT (k + 9) y.t) := fun x' h => szT_set (fun y hy => (HSZ5.out y hy).mono (by omega)) h
  have hltb : tb < w7.heap.size := T7.out.core.tblt.2
  have hsb2 : sb + 2 ≤ tb := T7.out.core.tblt.1
  have hbcs : bc < sb := T7.out.core.hsb.2.1
  clear s7 hsz5 hnx hK
  conv => arg 2; whnf
  have hinfo : (Try.prog.info? 73).map (fun i => (i.zero, i.size, i.bytes)) = some (some (.agg #[.slice none 0 0, .int .i64 0]), 2, 32) := by kernel_rfl
  obtain ⟨i2, hi2, hz0, hz1, hz2⟩ := info_parts hinfo
  have HJ0 := Lib.hid hi2
  have HJ1 := Lib.hid hz0
  have HJ2 := Lib.hid hz1
  have HJ3 := Lib.hid hz2
  clear hi2 hz0 hz1 hz2 hinfo
  obtain ⟨Yr, hYr, hYi, hYc⟩ := rx_of (T7.out.at hi6).refs
  obtain ⟨nr, hnr⟩ : ∃ nr, X6[i].t.rs.length = nr := ⟨_, rfl⟩
  obtain ⟨ra, hra⟩ : ∃ ra, X6[i].ra = ra := ⟨_, rfl⟩
  obtain ⟨rc, hrc⟩ : ∃ rc, X6[i].rc = rc := ⟨_, rfl⟩
  have HYL : Hid (Yr.length = nr) := by show _ = _; rw [← hnr, ← hYr, List.length_map]
  have c3 : w7.cell? ⟨tb, i * 5 + 3, none⟩ = some (.slice ra nr rc) := by
    rw [← hra, ← hnr, ← hrc]; exact (T7.out.core.cellAt i hi6 3 (by omega)).trans rfl
  have hnrk : nr ≤ k := by rw [← hnr]; exact HSX.out.2.1
  have HRN : Hid (ra = none → nr = 0 ∧ rc = 0) := fun e => by
    have h := (T7.out.at hi6).refs
    rw [hra, hnr, hrc, e] at h
    exact (SlR.of_nil h).2
  rw [hra] at hYc
  have HYI := Lib.hid hYi
  have HYC := Lib.hid hYc
  have HRL : Hid ((rxCells Yr).length = nr * 2) := by show _ = _; rw [flat_len RX.cells 2 rx_len, HYL.out]
  have HRO := Lib.hid (flat_one RX.cells rx_one Yr)
  have N2 : Hid (w7.ownsRow w7.heap.size 73 2 (.slice none 0 0) 0 []) := ⟨rfl, .inl ⟨rfl, rfl⟩⟩
  have A1 : Hid (0 + nr ≤ maxLen) := by show _ ≤ _; unfold maxLen; omega
  have A2 : Hid ((0 + nr) * 32 ≤ 140737488355328) := by show _ ≤ _; omega
  have A3 : Hid (nr + 1 ≤ maxLen) := by show _ ≤ _; unfold maxLen; omega
  have A4 : Hid ((nr + 1) * 32 ≤ 140737488355328) := by show _ ≤ _; omega
  clear hYr hYi hYc hnr hra hrc
  have A5 : Hid (∀ z2 b, ∀ u ∈ ([.slice (some ⟨b, 0, none⟩) 1 1, .int .i64 z2] : List Value), u.oneCell' = true) := by
    show ∀ z2 b, ∀ u ∈ _, _
    intro z2 b u hu
    simp only [List.mem_cons, List.not_mem_nil, or_false] at hu
    rcases hu with rfl | rfl <;> rfl
  go_wp2_with
    (refine wpList_append_src rfl _ _ 37 rfl w7.heap.size 73 i2 (.agg #[.slice none 0 0, .int .i64 0]) 2 32 Try.underlying37 HJ0.out HJ1.out HJ2.out HJ3.out rfl (by decide) _ _ _ rfl N2.out ra nr rc (rxCells Yr) rfl HRN.out HRL.out HYC.out HRO.out A1.out A2.out (Nat.le_refl _) ?_
     intro v8 w8 hown hgr
     obtain ⟨r8, c8, ev⟩ := own_slice hown
     subst ev
     rw [Nat.zero_add, List.nil_append] at hown
     simp only [Nat.zero_add]
     have Ow8 : Hid (w8.ownsRow w7.heap.size 73 2 (.slice r8 nr c8) nr (rxCells Yr)) := hown
     have B8 : Hid (Below w7.heap.size w7 w8) := (Below.refl _ _).grown hgr (Nat.le_refl _) (fun kk e => by cases e)
     have hz8 := B8.out.size
     have O8 : Hid (CaseOk bc B w8) := S7.out.core.ok.below B8.out S7.out.core.ok.lt.2
     clear hown hgr N2 A1 A2 HRL HRO HYC c3)
  have HN1 := Lib.hid (cNumb_any bc B w8 O8.out)
  refine HN1.out.mono ?_
  rintro e w9 ⟨z1, rfl, hm, ho⟩
  have M9 : Hid (Mv bc w7 w9) := (Mv.of_below B8.out).trans hm
  have Ow9 : Hid (w9.ownsRow w7.heap.size 73 2 (.slice r8 nr c8) nr (rxCells Yr)) := own_blkW Ow8.out fun kk h1 h2 => hm.block kk h2 (by omega)
  have O9 := Lib.hid ho
  have hz9 := hm.size
  obtain ⟨wl, hwl⟩ : ∃ wl, w9.alloc (.cells #[.int .i64 z1] 3) = wl := ⟨_, rfl⟩
  obtain ⟨bl, hbl⟩ : ∃ bl, w9.heap.size = bl := ⟨_, rfl⟩
  have hbw : Below w9.heap.size w9 wl := by rw [← hwl]; exact (Below.refl _ _).alloc (Nat.le_refl _) _
  have hbl2 : bl < wl.heap.size := by rw [← hwl, ← hbl]; simp
  have hblge : w9.heap.size ≤ bl := by omega
  have l0 : wl.cell? ⟨bl, 0, none⟩ = some (.int .i64 z1) := by subst hwl; subst hbl; go_simp
  have OL : Hid (CaseOk bc B wl) := O9.out.below hbw O9.out.lt.2
  have HN2 := Lib.hid (cNumb_any bc B wl OL.out)
  have ML : Hid (Mv bc w7 wl) := M9.out.trans (Mv.of_below hbw)
  have OwL : Hid (wl.ownsRow w7.heap.size 73 2 (.slice r8 nr c8) nr (rxCells Yr)) := own_blkW Ow9.out fun kk h1 h2 => hbw.block kk h2
  have hzl : w9.heap.size ≤ wl.heap.size := hbw.size
  have hrl : ∀ kk, (Value.slice r8 nr c8).ownBlock = some kk → kk < bl := fun kk e => by have := (Ow9.out.lt kk e).2; omega
  have HRL2 := Lib.hid hrl
  have HWL := Lib.hid hwl
  have HBL := Lib.hid hbl
  have HL0 := Lib.hid l0
  clear hm ho HN1 Ow8 Ow9 O9 hbw l0 hwl hbl hrl O8
  go_wp2_with fail
  rw [HWL.out, HBL.out]
  clear HWL
  refine HN2.out.mono ?_
  rintro e w10 ⟨z2, rfl, hm, ho⟩
  have M10 : Hid (Mv bc w7 w10) := ML.out.trans hm
  have Ow10 : Hid (w10.ownsRow w7.heap.size 73 2 (.slice r8 nr c8) nr (rxCells Yr)) := own_blkW OwL.out fun kk h1 h2 => hm.block kk h2 (by omega)
  have O10 := Lib.hid ho
  have hz10 := hm.size
  have hblc : bl ≠ bc := by omega
  have HL1 : Hid (w10.cell? ⟨bl, 0, none⟩ = some (.int .i64 z1)) := (hm.cell (p := ⟨bl, 0, none⟩) hbl2 hblc).trans HL0.out
  have A6 : Hid (∀ t (j : Nat) (u : Value), ([.slice (some ⟨bl, 0, none⟩) 1 1, .int .i64 z2] : List Value)[j]? = some u → (w10.alloc (.cells #[.slice (some ⟨bl, 0, none⟩) 1 1, .int .i64 z2] t)).cell? ((⟨w10.heap.size, 0, none⟩ : Addr).add j) = some u) := fun t => row_new w10 [.slice (some ⟨bl, 0, none⟩) 1 1, .int .i64 z2] t
  have A7 : Hid (∀ O : Obj, w7.heap.size ≤ (w10.alloc O).heap.size) := fun O => by simp; omega
  have T10 := Lib.hid (T7.out.step M10.out O10.out)
  clear hm ho HN2 OwL OL ML HL0
  go_wp2_with
      (refine wpList_append_own _ rfl _ _ 37 rfl w7.heap.size 73 i2 (.agg #[.slice none 0 0, .int .i64 0]) 2 32 Try.underlying37 HJ0.out HJ1.out HJ2.out HJ3.out rfl (by decide) _ _ _ rfl (Ow10.out.alloc _) ⟨w10.heap.size, 0, none⟩ 1 1 [.slice (some ⟨bl, 0, none⟩) 1 1, .int .i64 z2] rfl rfl (A6.out _) (A5.out _ _) A3.out A4.out (A7.out _) ?_
       intro v11 w11 hown9 hgr9 _
       obtain ⟨r9, c9, ev⟩ := own_slice hown9
       subst ev
       have hE := w11_refs T10.out hi6 (by omega) hown9 hgr9 (fun kk e => ⟨(Ow10.out.lt kk e).1, HRL2.out kk e⟩) HYL.out (fun y hy => (HYI.out y hy).keep M10.out.size (fun kk hp hk' => M10.out.block kk hk' (by have := hp.1; have := T7.out.hM; omega))) HL1.out ⟨by omega, by omega⟩ (by omega)
       obtain ⟨hE1, vo, qo, fo, hlo8⟩ := hE
       have HE : Hid (SpEnd bc B lo sb (k + 9) w (w11.setCell ⟨tb, i * 5 + 3, none⟩ (.slice r9 (nr + 1) c9))) := ⟨ver, n, tb, cap, _, _, hE1, hn1, by omega, HSE.out _ ⟨(HSX.out.mono (by omega)).1, by have := HYL.out; simp [List.length_map]; omega, (HSX.out.mono (by omega)).2.2⟩⟩
       clear hE1 hown9 hgr9 Ow10 T10)
  have hK := HK.out
  apply hK
  exact HE.out

set_option linter.unusedSimpArgs false in
set_option maxRecDepth 100000 in
set_option maxHeartbeats 16000000 in
theorem sp_way7 {bc B lo sb k m4 n tb cap i nc cc : Nat} {ca : Option Addr} {w w7 : World} {ver : Int} {X6 : List TX} {K : Act → World → Prop} (H : SwHyp bc B lo sb k m4 w w7 ver n tb cap X6 i nc cc ca) (x_1 x_2 x_4 x_7 x_8 x_9 x_10 x_11 x_12 x_13 x_14 x_15 x_16 x_17 x_18 x_19 x_20 x_21 x_22 x_23 x_24 x_25 x_26 x_27 x_28 x_29 x_30 x_31 x_32 x_33 x_34 x_35 x_36 x_37 x_38 x_39 x_40 x_41 x_42 x_43 x_44 x_45 x_46 x_47 x_48 x_49 x_50 x_51 x_52 x_53 x_54 x_55 x_57 x_58 x_59 x_60 x_61 x_62 x_63 x_64 x_65 x_66 x_67 x_68 x_69 x_70 x_71 x_72 x_73 x_74 x_75 x_76 x_77 x_78 x_79 x_80 x_81 x_82 x_83 x_84 x_85 x_86 x_87 x_88 x_89 x_90 x_91 x_92 x_93 x_94 x_95 x_96 x_97 x_98 x_99 x_100 x_101 x_102 x_103 x_104 x_105 x_106 x_107 x_108 x_109 x_110 x_111 x_112 x_113 x_114 x_115 x_116 x_117 x_118 x_119 x_120 x_121 x_122 x_123 x_124 x_125 x_126 x_127 x_128 x_129 x_130 x_131 x_132 x_133 x_134 x_135 x_136 x_137 x_138 x_139 x_140 x_141 x_142 x_143 x_144 x_145 x_146 x_147 x_148 x_149 x_150 x_151 x_152 x_153 x_154 x_155 x_156 x_157 x_158 x_159 x_160 x_161 x_162 x_163 x_164 x_165 x_166 x_167 x_168 x_169 x_170 x_171 x_172 x_173 x_174 x_175 x_176 x_177 x_178 x_179 x_180 x_181 x_182 x_183 x_184 x_185 x_186 x_187 x_188 x_189 x_190 x_191 x_192 x_193 x_194 x_195 x_196 x_197 x_198 x_199 x_200 x_201 x_202 : Value) (hK : ∀ (u7 u57 u58 u59 u60 u61 u62 u63 u64 u65 u66 u67 u68 u69 u70 u71 u72 u73 u74 u75 u76 u77 u78 u79 u80 u81 u82 u83 u84 u85 u86 u87 u88 u89 u90 u91 u92 u93 u94 u95 u96 u97 u98 u99 u100 u101 u102 u103 u104 u105 u106 u107 u108 u109 u110 u111 u112 u113 u114 u115 u116 u117 u118 u119 u120 u121 u122 u123 u124 u125 u126 u127 u128 u129 u130 u131 u132 u133 u134 u135 u136 u137 u138 u139 u140 u141 u142 u143 u144 u145 u146 u147 u148 u149 u150 u151 u152 u153 u154 u155 u156 u157 u158 u159 u160 u161 u162 u163 u164 u165 u166 u167 u168 u169 u170 u171 u172 u173 u174 u175 u176 u177 u178 u179 u180 u181 u182 u183 u184 u185 u186 u187 u188 u189 u190 u191 u192 u193 u194 u195 u196 u197 u198 u199 u200 u201 : Value) (W : World), SpEnd bc B lo sb (k + 9) w W → K ⟨#[.pointer (some ⟨bc, 0, none⟩), x_1, x_2, .pointer (some ⟨sb, 0, none⟩), x_4, .pointer (some ⟨tb, i * 5, none⟩), .int .i64 (7 : Nat), u7, x_8, x_9, x_10, x_11, x_12, x_13, x_14, x_15, x_16, x_17, x_18, x_19, x_20, x_21, x_22, x_23, x_24, x_25, x_26, x_27, x_28, x_29, x_30, x_31, x_32, x_33, x_34, x_35, x_36, x_37, x_38, x_39, x_40, x_41, x_42, x_43, x_44, x_45, x_46, x_47, x_48, x_49, x_50, x_51, x_52, x_53, x_54, x_55, .int .i64 (7 : Nat), u57, u58, u59, u60, u61, u62, u63, u64, u65, u66, u67, u68, u69, u70, u71, u72, u73, u74, u75, u76, u77, u78, u79, u80, u81, u82, u83, u84, u85, u86, u87, u88, u89, u90, u91, u92, u93, u94, u95, u96, u97, u98, u99, u100, u101, u102, u103, u104, u105, u106, u107, u108, u109, u110, u111, u112, u113, u114, u115, u116, u117, u118, u119, u120, u121, u122, u123, u124, u125, u126, u127, u128, u129, u130, u131, u132, u133, u134, u135, u136, u137, u138, u139, u140, u141, u142, u143, u144, u145, u146, u147, u148, u149, u150, u151, u152, u153, u154, u155, u156, u157, u158, u159, u160, u161, u162, u163, u164, u165, u166, u167, u168, u169, u170, u171, u172, u173, u174, u175, u176, u177, u178, u179, u180, u181, u182, u183, u184, u185, u186, u187, u188, u189, u190, u191, u192, u193, u194, u195, u196, u197, u198, u199, u200, u201, x_202], []⟩ W) : Code.wp Try.prog swBlock (Exit.then K (bodyPost Try.prog Try.f9 (SpSPost bc B lo (k + 9) w))) ⟨#[.pointer (some ⟨bc, 0, none⟩), x_1, x_2, .pointer (some ⟨sb, 0, none⟩), x_4, .pointer (some ⟨tb, i * 5, none⟩), .int .i64 (7 : Nat), x_7, x_8, x_9, x_10, x_11, x_12, x_13, x_14, x_15, x_16, x_17, x_18, x_19, x_20, x_21, x_22, x_23, x_24, x_25, x_26, x_27, x_28, x_29, x_30, x_31, x_32, x_33, x_34, x_35, x_36, x_37, x_38, x_39, x_40, x_41, x_42, x_43, x_44, x_45, x_46, x_47, x_48, x_49, x_50, x_51, x_52, x_53, x_54, x_55, .int .i64 (7 : Nat), x_57, x_58, x_59, x_60, x_61, x_62, x_63, x_64, x_65, x_66, x_67, x_68, x_69, x_70, x_71, x_72, x_73, x_74, x_75, x_76, x_77, x_78, x_79, x_80, x_81, x_82, x_83, x_84, x_85, x_86, x_87, x_88, x_89, x_90, x_91, x_92, x_93, x_94, x_95, x_96, x_97, x_98, x_99, x_100, x_101, x_102, x_103, x_104, x_105, x_106, x_107, x_108, x_109, x_110, x_111, x_112, x_113, x_114, x_115, x_116, x_117, x_118, x_119, x_120, x_121, x_122, x_123, x_124, x_125, x_126, x_127, x_128, x_129, x_130, x_131, x_132, x_133, x_134, x_135, x_136, x_137, x_138, x_139, x_140, x_141, x_142, x_143, x_144, x_145, x_146, x_147, x_148, x_149, x_150, x_151, x_152, x_153, x_154, x_155, x_156, x_157, x_158, x_159, x_160, x_161, x_162, x_163, x_164, x_165, x_166, x_167, x_168, x_169, x_170, x_171, x_172, x_173, x_174, x_175, x_176, x_177, x_178, x_179, x_180, x_181, x_182, x_183, x_184, x_185, x_186, x_187, x_188, x_189, x_190, x_191, x_192, x_193, x_194, x_195, x_196, x_197, x_198, x_199, x_200, x_201, x_202], []⟩ w7 := by
  obtain ⟨hk, hn1, hnk, hi6, s7, hsz5, hnx, hnck⟩ := H
  have S7 := Lib.hid s7
  have HSZ5 := Lib.hid hsz5
  have HNX := Lib.hid hnx
  have HK := Lib.hid hK
  have HSX : Hid (SzT k X6[i].t) := hsz5 _ (List.getElem_mem hi6)
  have T7 : Hid (TInv bc B lo sb w7.heap.size w w7 ver n tb cap X6) := S7.out.done (by have := HSX.out.1; omega)
  have HSE : Hid (∀ x' : TX, SzT (k + 9) x'.t → ∀ y ∈ X6.set i x', SzT (k + 9) y.t) := fun x' h => szT_set (fun y hy => (HSZ5.out y hy).mono (by omega)) h
  have hltb : tb < w7.heap.size := T7.out.core.tblt.2
  have hsb2 : sb + 2 ≤ tb := T7.out.core.tblt.1
  have hbcs : bc < sb := T7.out.core.hsb.2.1
  clear s7 hsz5 hnx hK
  conv => arg 2; whnf
  have hinfo : (Try.prog.info? 73).map (fun i => (i.zero, i.size, i.bytes)) = some (some (.agg #[.slice none 0 0, .int .i64 0]), 2, 32) := by kernel_rfl
  obtain ⟨i2, hi2, hz0, hz1, hz2⟩ := info_parts hinfo
  have HJ0 := Lib.hid hi2
  have HJ1 := Lib.hid hz0
  have HJ2 := Lib.hid hz1
  have HJ3 := Lib.hid hz2
  clear hi2 hz0 hz1 hz2 hinfo
  obtain ⟨Yr, hYr, hYi, hYc⟩ := rx_of (T7.out.at hi6).refs
  obtain ⟨nr, hnr⟩ : ∃ nr, X6[i].t.rs.length = nr := ⟨_, rfl⟩
  obtain ⟨ra, hra⟩ : ∃ ra, X6[i].ra = ra := ⟨_, rfl⟩
  obtain ⟨rc, hrc⟩ : ∃ rc, X6[i].rc = rc := ⟨_, rfl⟩
  have HYL : Hid (Yr.length = nr) := by show _ = _; rw [← hnr, ← hYr, List.length_map]
  have c3 : w7.cell? ⟨tb, i * 5 + 3, none⟩ = some (.slice ra nr rc) := by
    rw [← hra, ← hnr, ← hrc]; exact (T7.out.core.cellAt i hi6 3 (by omega)).trans rfl
  have hnrk : nr ≤ k := by rw [← hnr]; exact HSX.out.2.1
  have HRN : Hid (ra = none → nr = 0 ∧ rc = 0) := fun e => by
    have h := (T7.out.at hi6).refs
    rw [hra, hnr, hrc, e] at h
    exact (SlR.of_nil h).2
  rw [hra] at hYc
  have HYI := Lib.hid hYi
  have HYC := Lib.hid hYc
  have HRL : Hid ((rxCells Yr).length = nr * 2) := by show _ = _; rw [flat_len RX.cells 2 rx_len, HYL.out]
  have HRO := Lib.hid (flat_one RX.cells rx_one Yr)
  have N2 : Hid (w7.ownsRow w7.heap.size 73 2 (.slice none 0 0) 0 []) := ⟨rfl, .inl ⟨rfl, rfl⟩⟩
  have A1 : Hid (0 + nr ≤ maxLen) := by show _ ≤ _; unfold maxLen; omega
  have A2 : Hid ((0 + nr) * 32 ≤ 140737488355328) := by show _ ≤ _; omega
  have A3 : Hid (nr + 1 ≤ maxLen) := by show _ ≤ _; unfold maxLen; omega
  have A4 : Hid ((nr + 1) * 32 ≤ 140737488355328) := by show _ ≤ _; omega
  clear hYr hYi hYc hnr hra hrc
  have HFIN : Hid (∀ (t : TypeId) (v' : Value) (w9 : World), w9.ownsRow w7.heap.size 73 2 v' (nr + 1) (rxCells Yr ++ [.slice none 0 0, .int .i64 0]) → True) := fun _ _ _ _ => trivial
  go_wp2_with (first
    | (refine wpList_append_src rfl _ _ 37 rfl w7.heap.size 73 i2 (.agg #[.slice none 0 0, .int .i64 0]) 2 32 Try.underlying37 HJ0.out HJ1.out HJ2.out HJ3.out rfl (by decide) _ _ _ rfl N2.out ra nr rc (rxCells Yr) rfl HRN.out HRL.out HYC.out HRO.out A1.out A2.out (Nat.le_refl _) ?_
       intro v8 w8 hown hgr
       obtain ⟨r8, c8, ev⟩ := own_slice hown
       subst ev
       rw [Nat.zero_add, List.nil_append] at hown
       simp only [Nat.zero_add]
       have Ow8 : Hid (w8.ownsRow w7.heap.size 73 2 (.slice r8 nr c8) nr (rxCells Yr)) := hown
       have B8 : Hid (Below w7.heap.size w7 w8) := (Below.refl _ _).grown hgr (Nat.le_refl _) (fun kk e => by cases e)
       have hz8 := B8.out.size
       have A5 : Hid (∀ u ∈ ([.slice none 0 0, .int .i64 0] : List Value), u.oneCell' = true) := by
         show ∀ u ∈ _, _
         intro u hu
         simp only [List.mem_cons, List.not_mem_nil, or_false] at hu
         rcases hu with rfl | rfl <;> rfl
       have A6 : Hid (∀ t (j : Nat) (u : Value), ([.slice none 0 0, .int .i64 0] : List Value)[j]? = some u → (w8.alloc (.cells #[.slice none 0 0, .int .i64 0] t)).cell? ((⟨w8.heap.size, 0, none⟩ : Addr).add j) = some u) := fun t => row_new w8 [.slice none 0 0, .int .i64 0] t
       have A7 : Hid (∀ O : Obj, w7.heap.size ≤ (w8.alloc O).heap.size) := fun O => by simp; omega
       clear hown hgr N2 A1 A2 HRL HRO HYC c3)
    | (refine wpList_append_own _ rfl _ _ 37 rfl w7.heap.size 73 i2 (.agg #[.slice none 0 0, .int .i64 0]) 2 32 Try.underlying37 HJ0.out HJ1.out HJ2.out HJ3.out rfl (by decide) _ _ _ rfl (Ow8.out.alloc _) ⟨w8.heap.size, 0, none⟩ 1 1 [.slice none 0 0, .int .i64 0] rfl rfl (A6.out _) A5.out A3.out A4.out (A7.out _) ?_
       intro v9 w9 hown9 hgr9 _
       obtain ⟨r9, c9, ev⟩ := own_slice hown9
       subst ev
       have B9 : Hid (Below w7.heap.size w7 w9) := B8.out.trans (((Below.refl w7.heap.size w8).alloc hz8 _).grown hgr9 (by simp; omega) (fun kk e => (Ow8.out.lt kk e).1))
       have hE := w9_refs T7.out hi6 B9.out hown9 HYL.out HYI.out (by omega)
       obtain ⟨vo, qo⟩ : ∃ v, w9.cell? ⟨tb, i * 5 + 3, none⟩ = some v := ⟨_, ((T7.out.below B9.out).core.cellAt i hi6 3 (by omega)).trans rfl⟩
       have fo := (T7.out.below B9.out).core.fz (i * 5 + 3)
       have hlo8 : tb < w9.heap.size := (T7.out.below B9.out).core.tblt.2
       have HE : Hid (SpEnd bc B lo sb (k + 9) w (w9.setCell ⟨tb, i * 5 + 3, none⟩ (.slice r9 (nr + 1) c9))) := ⟨ver, n, tb, cap, _, _, hE, hn1, by omega, HSE.out _ ⟨(HSX.out.mono (by omega)).1, by have := HYL.out; simp [List.length_map]; omega, (HSX.out.mono (by omega)).2.2⟩⟩
       clear hE hown9 hgr9 B8 B9 Ow8))
  have hK := HK.out
  apply hK
  exact HE.out
end Go.Proofs.Ytjcbmeannhafjaa
