
/- SpoilSchema of a case: ScSpoil. -/
import Derived.Test.YtjcbmeannhafjaaScSpoilB

import Derived.Test.YtjcbmeannhafjaaScSpoilD

namespace Go.Proofs.Ytjcbmeannhafjaa

open Go.RowKit Go.Deep

set_option maxRecDepth 100000 in
theorem sp_switch {bc B lo sb k m4 n tb cap i nc cc : Nat} {ca : Option Addr} {w w7 : World} {ver : Int} {X6 : List TX} {K : Act → World → Prop} (H : SwHyp bc B lo sb k m4 w w7 ver n tb cap X6 i nc cc ca) {q : Nat} (hq10 : q ≤ 10) (hq12 : q = 1 ∨ q = 2 → 0 < nc) (x_1 x_2 x_4 x_7 x_8 x_9 x_10 x_11 x_12 x_13 x_14 x_15 x_16 x_17 x_18 x_19 x_20 x_21 x_22 x_23 x_24 x_25 x_26 x_27 x_28 x_29 x_30 x_31 x_32 x_33 x_34 x_35 x_36 x_37 x_38 x_39 x_40 x_41 x_42 x_43 x_44 x_45 x_46 x_47 x_48 x_49 x_50 x_51 x_52 x_53 x_54 x_55 x_57 x_58 x_59 x_60 x_61 x_62 x_63 x_64 x_65 x_66 x_67 x_68 x_69 x_70 x_71 x_72 x_73 x_74 x_75 x_76 x_77 x_78 x_79 x_80 x_81 x_82 x_83 x_84 x_85 x_86 x_87 x_88 x_89 x_90 x_91 x_92 x_93 x_94 x_95 x_96 x_97 x_98 x_99 x_100 x_101 x_102 x_103 x_104 x_105 x_106 x_107 x_108 x_109 x_110 x_111 x_112 x_113 x_114 x_115 x_116 x_117 x_118 x_119 x_120 x_121 x_122 x_123 x_124 x_125 x_126 x_127 x_128 x_129 x_130 x_131 x_132 x_133 x_134 x_135 x_136 x_137 x_138 x_139 x_140 x_141 x_142 x_143 x_144 x_145 x_146 x_147 x_148 x_149 x_150 x_151 x_152 x_153 x_154 x_155 x_156 x_157 x_158 x_159 x_160 x_161 x_162 x_163 x_164 x_165 x_166 x_167 x_168 x_169 x_170 x_171 x_172 x_173 x_174 x_175 x_176 x_177 x_178 x_179 x_180 x_181 x_182 x_183 x_184 x_185 x_186 x_187 x_188 x_189 x_190 x_191 x_192 x_193 x_194 x_195 x_196 x_197 x_198 x_199 x_200 x_201 x_202 : Value) (hK : ∀ (u7 u57 u58 u59 u60 u61 u62 u63 u64 u65 u66 u67 u68 u69 u70 u71 u72 u73 u74 u75 u76 u77 u78 u79 u80 u81 u82 u83 u84 u85 u86 u87 u88 u89 u90 u91 u92 u93 u94 u95 u96 u97 u98 u99 u100 u101 u102 u103 u104 u105 u106 u107 u108 u109 u110 u111 u112 u113 u114 u115 u116 u117 u118 u119 u120 u121 u122 u123 u124 u125 u126 u127 u128 u129 u130 u131 u132 u133 u134 u135 u136 u137 u138 u139 u140 u141 u142 u143 u144 u145 u146 u147 u148 u149 u150 u151 u152 u153 u154 u155 u156 u157 u158 u159 u160 u161 u162 u163 u164 u165 u166 u167 u168 u169 u170 u171 u172 u173 u174 u175 u176 u177 u178 u179 u180 u181 u182 u183 u184 u185 u186 u187 u188 u189 u190 u191 u192 u193 u194 u195 u196 u197 u198 u199 u200 u201 : Value) (W : World), SpEnd bc B lo sb (k + 9) w W → K ⟨#[.pointer (some ⟨bc, 0, none⟩), x_1, x_2, .pointer (some ⟨sb, 0, none⟩), x_4, .pointer (some ⟨tb, i * 5, none⟩), .int .i64 q, u7, x_8, x_9, x_10, x_11, x_12, x_13, x_14, x_15, x_16, x_17, x_18, x_19, x_20, x_21, x_22, x_23, x_24, x_25, x_26, x_27, x_28, x_29, x_30, x_31, x_32, x_33, x_34, x_35, x_36, x_37, x_38, x_39, x_40, x_41, x_42, x_43, x_44, x_45, x_46, x_47, x_48, x_49, x_50, x_51, x_52, x_53, x_54, x_55, .int .i64 q, u57, u58, u59, u60, u61, u62, u63, u64, u65, u66, u67, u68, u69, u70, u71, u72, u73, u74, u75, u76, u77, u78, u79, u80, u81, u82, u83, u84, u85, u86, u87, u88, u89, u90, u91, u92, u93, u94, u95, u96, u97, u98, u99, u100, u101, u102, u103, u104, u105, u106, u107, u108, u109, u110, u111, u112, u113, u114, u115, u116, u117, u118, u119, u120, u121, u122, u123, u124, u125, u126, u127, u128, u129, u130, u131, u132, u133, u134, u135, u136, u137, u138, u139, u140, u141, u142, u143, u144, u145, u146, u147, u148, u149, u150, u151, u152, u153, u154, u155, u156, u157, u158, u159, u160, u161, u162, u163, u164, u165, u166, u167, u168, u169, u170, u171, u172, u173, u174, u175, u176, u177, u178, u179, u180, u181, u182, u183, u184, u185, u186, u187, u188, u189, u190, u191, u192, u193, u194, u195, u196, u197, u198, u199, u200, u201, x_202], []⟩ W) : Code.wp Try.prog swBlock (Exit.then K (bodyPost Try.prog Try.f9 (SpSPost bc B lo (k + 9) w))) ⟨#[.pointer (some ⟨bc, 0, none⟩), x_1, x_2, .pointer (some ⟨sb, 0, none⟩), x_4, .pointer (some ⟨tb, i * 5, none⟩), .int .i64 q, x_7, x_8, x_9, x_10, x_11, x_12, x_13, x_14, x_15, x_16, x_17, x_18, x_19, x_20, x_21, x_22, x_23, x_24, x_25, x_26, x_27, x_28, x_29, x_30, x_31, x_32, x_33, x_34, x_35, x_36, x_37, x_38, x_39, x_40, x_41, x_42, x_43, x_44, x_45, x_46, x_47, x_48, x_49, x_50, x_51, x_52, x_53, x_54, x_55, .int .i64 q, x_57, x_58, x_59, x_60, x_61, x_62, x_63, x_64, x_65, x_66, x_67, x_68, x_69, x_70, x_71, x_72, x_73, x_74, x_75, x_76, x_77, x_78, x_79, x_80, x_81, x_82, x_83, x_84, x_85, x_86, x_87, x_88, x_89, x_90, x_91, x_92, x_93, x_94, x_95, x_96, x_97, x_98, x_99, x_100, x_101, x_102, x_103, x_104, x_105, x_106, x_107, x_108, x_109, x_110, x_111, x_112, x_113, x_114, x_115, x_116, x_117, x_118, x_119, x_120, x_121, x_122, x_123, x_124, x_125, x_126, x_127, x_128, x_129, x_130, x_131, x_132, x_133, x_134, x_135, x_136, x_137, x_138, x_139, x_140, x_141, x_142, x_143, x_144, x_145, x_146, x_147, x_148, x_149, x_150, x_151, x_152, x_153, x_154, x_155, x_156, x_157, x_158, x_159, x_160, x_161, x_162, x_163, x_164, x_165, x_166, x_167, x_168, x_169, x_170, x_171, x_172, x_173, x_174, x_175, x_176, x_177, x_178, x_179, x_180, x_181, x_182, x_183, x_184, x_185, x_186, x_187, x_188, x_189, x_190, x_191, x_192, x_193, x_194, x_195, x_196, x_197, x_198, x_199, x_200, x_201, x_202], []⟩ w7 := by
  have hqq : q = 0 ∨ q = 1 ∨ q = 2 ∨ q = 3 ∨ q = 4 ∨ q = 5 ∨ q = 6 ∨ q = 7 ∨ q = 8 ∨ q = 9 ∨ q = 10 := by omega
  rcases hqq with rfl | rfl | rfl | rfl | rfl | rfl | rfl | rfl | rfl | rfl | rfl
  · exact sp_way0 H _ _ _ _ _ _ _ _ _ _ _ _ _ _ _ _ _ _ _ _ _ _ _ _ _ _ _ _ _ _ _ _ _ _ _ _ _ _ _ _ _ _ _ _ _ _ _ _ _ _ _ _ _ _ _ _ _ _ _ _ _ _ _ _ _ _ _ _ _ _ _ _ _ _ _ _ _ _ _ _ _ _ _ _ _ _ _ _ _ _ _ _ _ _ _ _ _ _ _ _ _ _ _ _ _ _ _ _ _ _ _ _ _ _ _ _ _ _ _ _ _ _ _ _ _ _ _ _ _ _ _ _ _ _ _ _ _ _ _ _ _ _ _ _ _ _ _ _ _ _ _ _ _ _ _ _ _ _ _ _ _ _ _ _ _ _ _ _ _ _ _ _ _ _ _ _ _ _ _ _ _ _ _ _ _ _ _ _ _ _ _ _ _ _ _ _ _ _ hK
  · exact sp_way1 H (hq12 (by omega)) _ _ _ _ _ _ _ _ _ _ _ _ _ _ _ _ _ _ _ _ _ _ _ _ _ _ _ _ _ _ _ _ _ _ _ _ _ _ _ _ _ _ _ _ _ _ _ _ _ _ _ _ _ _ _ _ _ _ _ _ _ _ _ _ _ _ _ _ _ _ _ _ _ _ _ _ _ _ _ _ _ _ _ _ _ _ _ _ _ _ _ _ _ _ _ _ _ _ _ _ _ _ _ _ _ _ _ _ _ _ _ _ _ _ _ _ _ _ _ _ _ _ _ _ _ _ _ _ _ _ _ _ _ _ _ _ _ _ _ _ _ _ _ _ _ _ _ _ _ _ _ _ _ _ _ _ _ _ _ _ _ _ _ _ _ _ _ _ _ _ _ _ _ _ _ _ _ _ _ _ _ _ _ _ _ _ _ _ _ _ _ _ _ _ _ _ _ _ hK
  · exact sp_way2 H (hq12 (by omega)) _ _ _ _ _ _ _ _ _ _ _ _ _ _ _ _ _ _ _ _ _ _ _ _ _ _ _ _ _ _ _ _ _ _ _ _ _ _ _ _ _ _ _ _ _ _ _ _ _ _ _ _ _ _ _ _ _ _ _ _ _ _ _ _ _ _ _ _ _ _ _ _ _ _ _ _ _ _ _ _ _ _ _ _ _ _ _ _ _ _ _ _ _ _ _ _ _ _ _ _ _ _ _ _ _ _ _ _ _ _ _ _ _ _ _ _ _ _ _ _ _ _ _ _ _ _ _ _ _ _ _ _ _ _ _ _ _ _ _ _ _ _ _ _ _ _ _ _ _ _ _ _ _ _ _ _ _ _ _ _ _ _ _ _ _ _ _ _ _ _ _ _ _ _ _ _ _ _ _ _ _ _ _ _ _ _ _ _ _ _ _ _ _ _ _ _ _ _ hK
  · exact sp_way3 H _ _ _ _ _ _ _ _ _ _ _ _ _ _ _ _ _ _ _ _ _ _ _ _ _ _ _ _ _ _ _ _ _ _ _ _ _ _ _ _ _ _ _ _ _ _ _ _ _ _ _ _ _ _ _ _ _ _ _ _ _ _ _ _ _ _ _ _ _ _ _ _ _ _ _ _ _ _ _ _ _ _ _ _ _ _ _ _ _ _ _ _ _ _ _ _ _ _ _ _ _ _ _ _ _ _ _ _ _ _ _ _ _ _ _ _ _ _ _ _ _ _ _ _ _ _ _ _ _ _ _ _ _ _ _ _ _ _ _ _ _ _ _ _ _ _ _ _ _ _ _ _ _ _ _ _ _ _ _ _ _ _ _ _ _ _ _ _ _ _ _ _ _ _ _ _ _ _ _ _ _ _ _ _ _ _ _ _ _ _ _ _ _ _ _ _ _ _ hK
  · exact sp_way4 H _ _ _ _ _ _ _ _ _ _ _ _ _ _ _ _ _ _ _ _ _ _ _ _ _ _ _ _ _ _ _ _ _ _ _ _ _ _ _ _ _ _ _ _ _ _ _ _ _ _ _ _ _ _ _ _ _ _ _ _ _ _ _ _ _ _ _ _ _ _ _ _ _ _ _ _ _ _ _ _ _ _ _ _ _ _ _ _ _ _ _ _ _ _ _ _ _ _ _ _ _ _ _ _ _ _ _ _ _ _ _ _ _ _ _ _ _ _ _ _ _ _ _ _ _ _ _ _ _ _ _ _ _ _ _ _ _ _ _ _ _ _ _ _ _ _ _ _ _ _ _ _ _ _ _ _ _ _ _ _ _ _ _ _ _ _ _ _ _ _ _ _ _ _ _ _ _ _ _ _ _ _ _ _ _ _ _ _ _ _ _ _ _ _ _ _ _ _ hK
  · exact sp_way5 H _ _ _ _ _ _ _ _ _ _ _ _ _ _ _ _ _ _ _ _ _ _ _ _ _ _ _ _ _ _ _ _ _ _ _ _ _ _ _ _ _ _ _ _ _ _ _ _ _ _ _ _ _ _ _ _ _ _ _ _ _ _ _ _ _ _ _ _ _ _ _ _ _ _ _ _ _ _ _ _ _ _ _ _ _ _ _ _ _ _ _ _ _ _ _ _ _ _ _ _ _ _ _ _ _ _ _ _ _ _ _ _ _ _ _ _ _ _ _ _ _ _ _ _ _ _ _ _ _ _ _ _ _ _ _ _ _ _ _ _ _ _ _ _ _ _ _ _ _ _ _ _ _ _ _ _ _ _ _ _ _ _ _ _ _ _ _ _ _ _ _ _ _ _ _ _ _ _ _ _ _ _ _ _ _ _ _ _ _ _ _ _ _ _ _ _ _ _ hK
  · exact sp_way6 H _ _ _ _ _ _ _ _ _ _ _ _ _ _ _ _ _ _ _ _ _ _ _ _ _ _ _ _ _ _ _ _ _ _ _ _ _ _ _ _ _ _ _ _ _ _ _ _ _ _ _ _ _ _ _ _ _ _ _ _ _ _ _ _ _ _ _ _ _ _ _ _ _ _ _ _ _ _ _ _ _ _ _ _ _ _ _ _ _ _ _ _ _ _ _ _ _ _ _ _ _ _ _ _ _ _ _ _ _ _ _ _ _ _ _ _ _ _ _ _ _ _ _ _ _ _ _ _ _ _ _ _ _ _ _ _ _ _ _ _ _ _ _ _ _ _ _ _ _ _ _ _ _ _ _ _ _ _ _ _ _ _ _ _ _ _ _ _ _ _ _ _ _ _ _ _ _ _ _ _ _ _ _ _ _ _ _ _ _ _ _ _ _ _ _ _ _ _ hK
  · exact sp_way7 H _ _ _ _ _ _ _ _ _ _ _ _ _ _ _ _ _ _ _ _ _ _ _ _ _ _ _ _ _ _ _ _ _ _ _ _ _ _ _ _ _ _ _ _ _ _ _ _ _ _ _ _ _ _ _ _ _ _ _ _ _ _ _ _ _ _ _ _ _ _ _ _ _ _ _ _ _ _ _ _ _ _ _ _ _ _ _ _ _ _ _ _ _ _ _ _ _ _ _ _ _ _ _ _ _ _ _ _ _ _ _ _ _ _ _ _ _ _ _ _ _ _ _ _ _ _ _ _ _ _ _ _ _ _ _ _ _ _ _ _ _ _ _ _ _ _ _ _ _ _ _ _ _ _ _ _ _ _ _ _ _ _ _ _ _ _ _ _ _ _ _ _ _ _ _ _ _ _ _ _ _ _ _ _ _ _ _ _ _ _ _ _ _ _ _ _ _ _ hK
  · exact sp_way8 H _ _ _ _ _ _ _ _ _ _ _ _ _ _ _ _ _ _ _ _ _ _ _ _ _ _ _ _ _ _ _ _ _ _ _ _ _ _ _ _ _ _ _ _ _ _ _ _ _ _ _ _ _ _ _ _ _ _ _ _ _ _ _ _ _ _ _ _ _ _ _ _ _ _ _ _ _ _ _ _ _ _ _ _ _ _ _ _ _ _ _ _ _ _ _ _ _ _ _ _ _ _ _ _ _ _ _ _ _ _ _ _ _ _ _ _ _ _ _ _ _ _ _ _ _ _ _ _ _ _ _ _ _ _ _ _ _ _ _ _ _ _ _ _ _ _ _ _ _ _ _ _ _ _ _ _ _ _ _ _ _ _ _ _ _ _ _ _ _ _ _ _ _ _ _ _ _ _ _ _ _ _ _ _ _ _ _ _ _ _ _ _ _ _ _ _ _ _ hK
  · exact sp_way9 H _ _ _ _ _ _ _ _ _ _ _ _ _ _ _ _ _ _ _ _ _ _ _ _ _ _ _ _ _ _ _ _ _ _ _ _ _ _ _ _ _ _ _ _ _ _ _ _ _ _ _ _ _ _ _ _ _ _ _ _ _ _ _ _ _ _ _ _ _ _ _ _ _ _ _ _ _ _ _ _ _ _ _ _ _ _ _ _ _ _ _ _ _ _ _ _ _ _ _ _ _ _ _ _ _ _ _ _ _ _ _ _ _ _ _ _ _ _ _ _ _ _ _ _ _ _ _ _ _ _ _ _ _ _ _ _ _ _ _ _ _ _ _ _ _ _ _ _ _ _ _ _ _ _ _ _ _ _ _ _ _ _ _ _ _ _ _ _ _ _ _ _ _ _ _ _ _ _ _ _ _ _ _ _ _ _ _ _ _ _ _ _ _ _ _ _ _ _ hK
  · exact sp_way10 H _ _ _ _ _ _ _ _ _ _ _ _ _ _ _ _ _ _ _ _ _ _ _ _ _ _ _ _ _ _ _ _ _ _ _ _ _ _ _ _ _ _ _ _ _ _ _ _ _ _ _ _ _ _ _ _ _ _ _ _ _ _ _ _ _ _ _ _ _ _ _ _ _ _ _ _ _ _ _ _ _ _ _ _ _ _ _ _ _ _ _ _ _ _ _ _ _ _ _ _ _ _ _ _ _ _ _ _ _ _ _ _ _ _ _ _ _ _ _ _ _ _ _ _ _ _ _ _ _ _ _ _ _ _ _ _ _ _ _ _ _ _ _ _ _ _ _ _ _ _ _ _ _ _ _ _ _ _ _ _ _ _ _ _ _ _ _ _ _ _ _ _ _ _ _ _ _ _ _ _ _ _ _ _ _ _ _ _ _ _ _ _ _ _ _ _ _ _ hK

set_option linter.unusedSimpArgs false in
set_option maxRecDepth 100000 in
set_option maxHeartbeats 16000000 in
theorem cSpoilS_any (bc B lo k : Nat) (hk : k ≤ 100) (hlo : bc < lo) (v : Value) (s : SC) (w : World) (ho : CaseOk bc B w) (hlow : lo ≤ w.heap.size) (hs : Sc (fun b => lo ≤ b) w v s) (hz : SzS k s) : Calls Try.prog 9 #[.pointer (some ⟨bc, 0, none⟩), v] w (SpSPost bc B lo (k + 9) w) := by
  have hbl := ho.lt
  obtain ⟨tv, rfl, hs⟩ := hs
  obtain ⟨ver, ts⟩ := s
  obtain ⟨a, c, rfl, hf⟩ := hs.shape
  dsimp only at hs hf
  obtain ⟨X, hX, hXo, hXc⟩ := tx_ofG hs
  change SzS k ⟨ver, ts⟩ at hz
  have hXl : X.length = ts.length := by rw [← hX, List.length_map]
  obtain ⟨n, hn⟩ : ∃ n, ts.length = n := ⟨_, rfl⟩
  have HSZ : Hid (∀ x ∈ X, SzT k x.t) := fun x hx => hz.2.2 x.t (by show x.t ∈ ts; rw [← hX]; exact List.mem_map_of_mem hx)
  have hn1 : 1 ≤ n := by rw [← hn]; exact hz.1
  have hnk : n ≤ k := by rw [← hn]; exact hz.2.1
  rw [hn] at hXl
  obtain ⟨ad, rfl⟩ : ∃ ad, a = some ad := by
    cases a with
    | none => have := (hf.nil rfl).1; change ts.length = 0 at this; omega
    | some ad => exact ⟨ad, rfl⟩
  have hcells := hXc ad rfl
  simp only at hn ⊢
  rw [hn]
  obtain ⟨wq, hwq⟩ : ∃ wq, (w.alloc (.cells #[.int .i64 ver, .slice (some ad) n c] 25)).alloc (.cells #[.int .i64 0, .slice none 0 0] 25) = wq := ⟨_, rfl⟩
  have HB0 : Below w.heap.size w wq := by rw [← hwq]; exact ((Below.refl _ _).alloc (Nat.le_refl _) _).alloc (by simp) _
  have hzq : wq.heap.size = w.heap.size + 2 := by rw [← hwq]; simp
  have c1 : wq.cell? ⟨w.heap.size, 1, none⟩ = some (.slice (some ad) n c) := by subst hwq; go_simp
  have f1 : wq.frozen? ⟨w.heap.size, 1, none⟩ = false := by subst hwq; go_simp
  have HC : Hid (∀ j u, (txCells X)[j]? = some u → wq.cell? (ad.add j) = some u) := fun j u hj => by
    have h := hcells j u hj
    have hb : (ad.add j).block < w.heap.size := World.block_lt_of_cell? _ _ h
    exact (HB0.cell (p := ad.add j) hb).trans h
  have HLX : Hid ((txCells X).length = n * 5) := by show _ = _; rw [length_txCells, hXl]
  have HOX := Lib.hid (txs_one X)
  have N1 : Hid (wq.ownsRow wq.heap.size 40 5 (.slice none 0 0) 0 []) := ⟨rfl, .inl ⟨rfl, rfl⟩⟩
  have A1 : Hid (0 + n ≤ maxLen) := by show _ ≤ _; unfold maxLen; omega
  have A2 : Hid ((0 + n) * 96 ≤ 140737488355328) := by show _ ≤ _; omega
  have hinfo : (Try.prog.info? 40).map (fun i => (i.zero, i.size, i.bytes)) = some (some (.agg #[.string ⟨#[]⟩, .slice none 0 0, .int .i64 0, .slice none 0 0, .slice none 0 0]), 5, 96) := by kernel_rfl
  obtain ⟨i0, hi, hz0, hz1, hz2⟩ := info_parts hinfo
  have HI0 := Lib.hid hi
  have HZ0 := Lib.hid hz0
  have HZ1 := Lib.hid hz1
  have HZ2 := Lib.hid hz2
  have HT : Hid (∀ (v' : Value) (w1 : World), w1.ownsRow wq.heap.size 40 5 v' (0 + n) ([] ++ txCells X) → wq.grownBy w1 (Value.slice none 0 0).ownBlock → ∃ tb cap, v' = .slice (some ⟨tb, 0, none⟩) n cap ∧ TInv bc B lo w.heap.size w1.heap.size w (w1.setCell ⟨w.heap.size, 1, none⟩ (.slice (some ⟨tb, 0, none⟩) n cap)) ver n tb cap X ∧ w1.cell? ⟨w.heap.size, 1, none⟩ = some (.slice (some ad) n c) ∧ w1.frozen? ⟨w.heap.size, 1, none⟩ = false ∧ wq.heap.size < w1.heap.size) := fun v' w1 h1 h2 => by
    rw [Nat.zero_add, List.nil_append] at h1
    obtain ⟨g, cap, rfl, h1⟩ := own_some (by omega) h1
    have hgl := h1.lt g rfl
    have hbk := h2.block w.heap.size (by omega) (fun e => by cases e)
    exact ⟨g, cap, rfl, tinv_new ho hlo hlow hwq hXo hXl h1 h2, (World.cell?_of_block (a := ⟨w.heap.size, 1, none⟩) hbk).trans c1, (World.frozen?_of_block (a := ⟨w.heap.size, 1, none⟩) hbk).trans f1, by omega⟩
  have hsbl : w.heap.size < wq.heap.size := by omega
  clear hs hf hX hXo hXc hz hXl hcells hi hz0 hz1 hz2 hinfo HB0 hn ho
  go_enter Try.func9, Try.ntmps9
  go_upto_region 1 with fail
  try rw [hwq]
  clear hwq
  go_upto_region 2 with
    (at_builtin
     refine wpList_append_own _ rfl _ _ 23 rfl wq.heap.size 40 i0 (.agg #[.string ⟨#[]⟩, .slice none 0 0, .int .i64 0, .slice none 0 0, .slice none 0 0]) 5 96 Try.underlying23 HI0.out HZ0.out HZ1.out HZ2.out rfl (by decide) _ _ _ rfl N1.out ad n c (txCells X) rfl HLX.out HC.out HOX.out A1.out A2.out (Nat.le_refl _) ?_
     intro v1 w1 hown hgr _
     obtain ⟨tb, cap, rfl, hT, d1, g1, hz1⟩ := HT.out v1 w1 hown hgr
     have HTI := Lib.hid hT
     clear hown hgr hT HT)
  obtain ⟨w2, hw2⟩ : ∃ w2, w1.setCell ⟨w.heap.size, 1, none⟩ (.slice (some ⟨tb, 0, none⟩) n cap) = w2 := ⟨_, rfl⟩
  have hs2 : w2.heap.size = w1.heap.size := by rw [← hw2]; simp
  rw [hw2] at HTI ⊢
  obtain ⟨sb, hsb⟩ : ∃ sb, w.heap.size = sb := ⟨_, rfl⟩
  have hM1 : w1.heap.size = w2.heap.size := hs2.symm
  rw [hM1] at HTI
  rw [hsb] at HTI c1 f1 hsbl hzq d1 g1 hw2
  have HSB := Lib.hid hsb
  rw [hsb]
  clear hw2 hs2 hM1 hsb c1 f1 d1 g1 HC HLX HOX N1 A1 A2 HI0 HZ0 HZ1 HZ2
  have hsz2 : sb + 2 < w2.heap.size := HTI.out.core.szW
  have HKS : Hid (∀ W, Mv bc w2 W → CaseOk bc B W → TInv bc B lo sb w2.heap.size w W ver n tb cap X) := fun W hm ho => HTI.out.step hm ho
  have HK2 : Hid (∀ W, Mv bc w2 W → W.cell? ⟨sb, 1, none⟩ = some (.slice (some ⟨tb, 0, none⟩) n cap)) := fun W hm => (hm.cell (p := ⟨sb, 1, none⟩) (show sb < _ by omega) (show sb ≠ bc by have := HTI.out.core.hsb; omega)).trans HTI.out.core.s1
  have q1 := HTI.out.core.s1
  have dn : ((n : Int) == 0) = false := by simp; omega
  have HB6 := Lib.hid (cBool_6 bc B w2 HTI.out.core.ok)
  go_wp2_with fail
  refine HB6.out.mono ?_
  rintro e w3 ⟨b, rfl, hm, ho⟩
  have T3 := Lib.hid (HKS.out w3 hm ho)
  have M3 := Lib.hid hm
  have hs3 := hm.size
  clear hm ho HB6 dn q1
  cases b with
  | true =>
    have HNU := Lib.hid (cNumb_any bc B w3 T3.out.core.ok)
    go_wp2_with fail
    refine HNU.out.mono ?_
    rintro e w4 ⟨x, rfl, hm, ho⟩
    have T4 := Lib.hid (T3.out.step hm ho)
    clear hm ho HNU
    have q0 := T4.out.core.s0
    have q1 := T4.out.core.s1
    have f0 := T4.out.core.sf 0
    obtain ⟨x0, e0⟩ := T4.out.core.r0
    obtain ⟨x1, e1⟩ := T4.out.core.r1
    have g0 := T4.out.core.rf 0
    have g1 := T4.out.core.rf 1
    have T5 := Lib.hid (T4.out.setVer x)
    have hs4 := T4.out.core.szW
    go_wp2_with fail
    refine bodyPost_ret (v := .agg #[.int .i64 x, .slice (some ⟨tb, 0, none⟩) n cap]) (by simp [results, Try.results9, go_sem, *]) rfl ?_
    exact spEnd_ret T5.out hn1 (by omega) (fun y hy => (HSZ.out y hy).mono (by omega))
  | false =>
    have HK3 : Hid (∀ W, Mv bc w3 W → W.cell? ⟨sb, 1, none⟩ = some (.slice (some ⟨tb, 0, none⟩) n cap)) := fun W hm => HK2.out W (M3.out.trans hm)
    have HO3 : Hid (CaseOk bc B w3) := T3.out.core.ok
    have q1 := HK3.out w3 (Mv.refl _ _)
    have hnb : (n : Int) ≤ 100 := by omega
    go_upto_region 5 with fail
    clear q1
    refine wp_region_held_drew (S := fun W => W.cell? ⟨sb, 1, none⟩ = some (.slice (some ⟨tb, 0, none⟩) n cap)) (by kernel_rfl) (HK3.out _ ((Mv.refl _ _).drewN 1)) (fun hHeld => ?_)
    obtain ⟨wd, hwd⟩ : ∃ wd, w3.drew = wd := ⟨_, rfl⟩
    have BW : Hid (Mv bc w3 wd) := by rw [← hwd]; exact (Mv.refl _ _).drewN 1
    have OW : Hid (CaseOk bc B wd) := by rw [← hwd]; exact HO3.out.below ((Below.refl _ _).drew) HO3.out.lt.2
    have hzd : w3.heap.size ≤ wd.heap.size := BW.out.size
    rw [hwd] at hHeld ⊢
    clear hwd
    refine wpAnyH_takeD (i := 0) (d := 24) (v := ?_) rfl rfl (by kernel_rfl) (by kernel_rfl) (by kernel_rfl) (fun _ _ _ h => h) (Or.inl ⟨by rfl, ?_⟩) (by assumption) ?_; rotate_left
    · intro W hSw; (try dsimp only at hSw); go_simp; (try with_reducible rfl)
    (try simp only [List.set_cons_zero, List.set_cons_succ])
    refine wpAnyH_takeD (i := 1) (d := 25) (v := ?_) rfl rfl (by kernel_rfl) (by kernel_rfl) (by kernel_rfl) (fun _ _ _ h => h) (Or.inl ⟨by rfl, ?_⟩) (by assumption) ?_; rotate_left
    · intro W hSw; (try dsimp only at hSw); go_simp; (try with_reducible rfl)
    (try simp only [List.set_cons_zero, List.set_cons_succ])
    refine wpAnyH_takeD (i := 2) (d := 26) (v := ?_) rfl rfl (by kernel_rfl) (by kernel_rfl) (by kernel_rfl) (fun _ _ _ h => h) (Or.inl ⟨by rfl, ?_⟩) (by assumption) ?_; rotate_left
    · intro W hSw; (try dsimp only at hSw); go_simp; (try with_reducible rfl)
    (try simp only [List.set_cons_zero, List.set_cons_succ])
    refine wpAnyH_takeD (i := 3) (d := 27) (v := ?_) rfl rfl (by kernel_rfl) (by kernel_rfl) (by kernel_rfl) (fun _ _ _ h => h) (Or.inl ⟨by rfl, ?_⟩) (by assumption) ?_; rotate_left
    · intro W hSw; (try dsimp only at hSw); go_simp; (try with_reducible rfl)
    (try simp only [List.set_cons_zero, List.set_cons_succ])
    refine wpAnyH_takeD (i := 4) (d := 28) (v := ?_) rfl rfl (by kernel_rfl) (by kernel_rfl) (by kernel_rfl) (fun _ _ _ h => h) (Or.inl ⟨by rfl, ?_⟩) (by assumption) ?_; rotate_left
    · intro W hSw; (try dsimp only at hSw); go_simp; (try with_reducible rfl)
    (try simp only [List.set_cons_zero, List.set_cons_succ])
    refine wpAnyH_takeD (i := 5) (d := 29) (v := ?_) rfl rfl (by kernel_rfl) (by kernel_rfl) (by kernel_rfl) (fun _ _ _ h => h) (Or.inl ⟨by rfl, ?_⟩) (by assumption) ?_; rotate_left
    · intro W hSw; (try dsimp only at hSw); go_simp; (try with_reducible rfl)
    (try simp only [List.set_cons_zero, List.set_cons_succ])
    have HCALL := Lib.hid (cInt_any bc B (n : Int) wd (by omega) (by omega) OW.out)
    refine wpAnyH_ready (rs := [6]) (by kernel_rfl) (by simp) ?_
    refine (AllReadyH.cons rfl (fun K hK => ?_) AllReadyH.nil)
    go_simp
    refine HCALL.out.mono ?_
    rintro e w4 ⟨r, rfl, hr0, hr1, hm, ho⟩
    clear hHeld HCALL
    replace BW := Lib.hid (BW.out.trans hm)
    replace OW := Lib.hid ho
    have hz_w4 := hm.size
    obtain ⟨i, rfl⟩ : ∃ q : Nat, r = q := ⟨r.toNat, by omega⟩
    have hin : i < n := by omega
    have hin2 : (i : Int) < n := by omega
    clear hr0 hr1
    clear hm ho
    refine hK.out _ _ (HK3.out _ BW.out) (fun hHeld => ?_)
    clear hK K
    (try simp only [List.set_cons_zero, List.set_cons_succ])
    refine wpAnyH_takeD (i := 7) (d := 31) (v := ?_) rfl rfl (by kernel_rfl) (by kernel_rfl) (by kernel_rfl) (fun _ _ _ h => h) (Or.inl ⟨by rfl, ?_⟩) (by assumption) ?_; rotate_left
    · intro W hSw; (try dsimp only at hSw); go_simp; (try with_reducible rfl)
    (try simp only [List.set_cons_zero, List.set_cons_succ])
    refine wpAnyH_takeD (i := 8) (d := 5) (v := ?_) rfl rfl (by kernel_rfl) (by kernel_rfl) (by kernel_rfl) (fun _ _ _ h => h) (Or.inl ⟨by rfl, ?_⟩) (by assumption) ?_; rotate_left
    · intro W hSw; (try dsimp only at hSw); go_simp; (try with_reducible rfl)
    (try simp only [List.set_cons_zero, List.set_cons_succ])
    clear hHeld
    refine wpAnyH_done (by kernel_rfl) ?_ _
    have T4 := Lib.hid (T3.out.step BW.out OW.out)
    have hiX : i < X.length := by rw [T4.out.core.len]; exact hin
    obtain ⟨x, hx⟩ : ∃ x, X[i] = x := ⟨_, rfl⟩
    obtain ⟨nc, hnc⟩ : ∃ nc, x.t.cs.length = nc := ⟨_, rfl⟩
    have hnck : nc ≤ k := by rw [← hnc, ← hx]; exact (HSZ.out _ (List.getElem_mem hiX)).1
    have q1 : w4.cell? ⟨tb, i * 5 + 1, none⟩ = some (.slice x.ca nc x.cc) := by
      have h := T4.out.core.cellAt i hiX 1 (by omega)
      rw [h, hx, ← hnc]; rfl
    have hxo : x.Ok (P0 lo sb tb w2.heap.size) w4 := by rw [← hx]; exact T4.out.oks _ (List.getElem_mem hiX)
    have hcl := hxo.cols
    rw [hnc] at hcl
    have HNIL : Hid (x.ca = none → nc = 0 ∧ x.cc = 0) := fun e => by
      rw [e] at hcl
      have := SlR.of_nil hcl
      exact this.2
    have HLX : Hid ((colCells x.t.cs).length = nc * 2) := by show _ = _; rw [flat_len clC 2 clC_len, hnc]
    have HC : Hid (∀ p, x.ca = some p → ∀ j u, (colCells x.t.cs)[j]? = some u → w4.cell? (p.add j) = some u) := cl_of hcl
    have HOX := Lib.hid (flat_one clC clC_one x.t.cs)
    have N1 : Hid (w4.ownsRow w4.heap.size 35 2 (.slice none 0 0) 0 []) := ⟨rfl, .inl ⟨rfl, rfl⟩⟩
    have A1 : Hid (0 + nc ≤ maxLen) := by show _ ≤ _; unfold maxLen; omega
    have A2 : Hid ((0 + nc) * 24 ≤ 140737488355328) := by show _ ≤ _; omega
    have hinfo : (Try.prog.info? 35).map (fun i => (i.zero, i.size, i.bytes)) = some (some (.agg #[.string ⟨#[]⟩, .int .i64 0]), 2, 24) := by kernel_rfl
    obtain ⟨i1, hi, hz0, hz1', hz2⟩ := info_parts hinfo
    have HI1 := Lib.hid hi
    have HY0 := Lib.hid hz0
    have HY1 := Lib.hid hz1'
    have HY2 := Lib.hid hz2
    have HSW : Hid (∀ (v' : Value) (w5 : World), w5.ownsRow w4.heap.size 35 2 v' (0 + nc) ([] ++ colCells x.t.cs) → w4.grownBy w5 (Value.slice none 0 0).ownBlock → ∃ ca cc, v' = .slice ca nc cc ∧ SwI bc B lo sb w4.heap.size w (w5.setCell ⟨tb, i * 5 + 1, none⟩ (.slice ca nc cc)) ver n tb cap (X.set i { x with ca := ca, cc := cc }) i ∧ w5.cell? ⟨tb, i * 5 + 1, none⟩ = some (.slice x.ca nc x.cc) ∧ w5.frozen? ⟨tb, i * 5 + 1, none⟩ = false) := fun v' w5 h1 h2 => by
      rw [Nat.zero_add, List.nil_append] at h1
      have hb := (Below.refl w4.heap.size w4).grown h2 (Nat.le_refl _) (fun kk e => by cases e)
      have hbt := hb.block tb T4.out.core.tblt.2
      obtain ⟨ca, cc, rfl⟩ := own_slice h1
      refine ⟨ca, cc, rfl, ?_, (World.cell?_of_block (a := ⟨tb, i * 5 + 1, none⟩) hbt).trans q1, (World.frozen?_of_block (a := ⟨tb, i * 5 + 1, none⟩) hbt).trans (T4.out.core.fz _)⟩
      subst hx
      subst hnc
      exact sw_new T4.out hiX hb h1
    have HSZ4 : Hid (∀ ca cc, ∀ y ∈ X.set i { x with ca := ca, cc := cc }, SzT k y.t) := fun ca cc => szT_set HSZ.out (show SzT k x.t from by rw [← hx]; exact HSZ.out _ (List.getElem_mem hiX))
    have HXC : Hid (∀ ca cc (h : i < (X.set i { x with ca := ca, cc := cc }).length), (X.set i { x with ca := ca, cc := cc })[i] = { x with ca := ca, cc := cc }) := fun ca cc h => List.getElem_set_self _
    clear hi hz0 hz1' hz2 hinfo hxo hcl hnc hx
    go_upto_region 7 with
      (refine wpList_append_src rfl _ _ 36 rfl w4.heap.size 35 i1 (.agg #[.string ⟨#[]⟩, .int .i64 0]) 2 24 Try.underlying36 HI1.out HY0.out HY1.out HY2.out rfl (by decide) _ _ _ rfl N1.out x.ca nc x.cc (colCells x.t.cs) rfl HNIL.out HLX.out HC.out HOX.out A1.out A2.out (Nat.le_refl _) ?_
       intro v5 w5 hown hgr
       obtain ⟨ca, cc, rfl, hS, d1, g1⟩ := HSW.out v5 w5 hown hgr
       have HSI := Lib.hid hS
       have HSZ5 := Lib.hid (HSZ4.out ca cc)
       have HXC5 := Lib.hid (HXC.out ca cc)
       clear hown hgr hS HSW HSZ4 HXC q1)
    obtain ⟨w6, hw6⟩ : ∃ w6, w5.setCell ⟨tb, i * 5 + 1, none⟩ (.slice ca nc cc) = w6 := ⟨_, rfl⟩
    rw [hw6] at HSI ⊢
    obtain ⟨y, hy⟩ : ∃ y : TX, { x with ca := ca, cc := cc } = y := ⟨_, rfl⟩
    have HYC : Hid (y.ca = ca ∧ y.cc = cc ∧ y.t = x.t) := by rw [← hy]; exact ⟨rfl, rfl, rfl⟩
    rw [hy] at HSI HSZ5 HXC5
    have HXL : Hid (x.t.cs.length = nc) := by show _ = _; have := HLX.out; rw [flat_len clC 2 clC_len] at this; omega
    obtain ⟨X6, hX6⟩ : ∃ X6, X.set i y = X6 := ⟨_, rfl⟩
    rw [hX6] at HSI HSZ5 HXC5
    have hi6 : i < X6.length := HSI.out.hi
    have HXY : Hid (X6[i] = y) := HXC5.out hi6
    clear hw6 hy hX6 HXC5 HSZ HC HNIL HLX HOX N1 A1 A2 T4 BW OW T3 M3 HK3 HK2 HKS HTI d1 g1 HO3
    have HI11 := Lib.hid (cInt_any bc B 11 w6 (by omega) (by omega) HSI.out.core.ok)
    go_wp2_with fail
    refine HI11.out.mono ?_
    rintro e w7 ⟨r, rfl, hr0, hr1, hm, ho⟩
    obtain ⟨kk, rfl⟩ : ∃ q : Nat, r = q := ⟨r.toNat, by omega⟩
    have hkk : kk ≤ 10 := by omega
    have S7 := Lib.hid (HSI.out.step hm ho)
    have c1 : w7.cell? ⟨tb, i * 5 + 1, none⟩ = some (.slice ca nc cc) := by
      have h := S7.out.core.cellAt i hi6 1 (by omega)
      rw [h, HXY.out]
      show some (Value.slice y.ca y.t.cs.length y.cc) = _
      rw [HYC.out.1, HYC.out.2.1, HYC.out.2.2, HXL.out]
    clear hr0 hr1 hm ho HI11 HSI
    go_upto_region 8 with fail
    go_cut [55] (fun s55 wx => ∃ b : Bool, s55 = .bool b ∧ (b = false → (kk = 1 ∨ kk = 2) → 0 < nc) ∧ wx = w7)
    case first =>
      by_cases h0 : nc = 0
      · subst h0
        have hcs : kk = 1 ∨ kk = 2 ∨ (kk ≠ 1 ∧ kk ≠ 2) := by omega
        rcases hcs with rfl | rfl | ⟨h1, h2⟩
        · go_wp2_with fail
          go_meet
          exact ⟨true, rfl, fun e => (by cases e), rfl⟩
        · go_wp2_with fail
          go_meet
          exact ⟨true, rfl, fun e => (by cases e), rfl⟩
        · have e1 : ((kk : Int) == 1) = false := by simp; omega
          have e2 : ((kk : Int) == 2) = false := by simp; omega
          have H12 : Hid (¬ (kk = 1 ∨ kk = 2)) := by show ¬ _; omega
          clear h1 h2
          go_wp2_with fail
          go_meet
          exact ⟨false, rfl, fun _ h => absurd h H12.out, rfl⟩
      · have e0 : ((nc : Int) == 0) = false := by simp; omega
        have H0 : Hid (0 < nc) := by show _ < _; omega
        clear h0
        go_wp2_with fail
        go_meet
        exact ⟨false, rfl, fun _ _ => H0.out, rfl⟩
    case rest =>
    obtain ⟨bb, rfl, hbb, rfl⟩ := hcut
    obtain ⟨w7, rfl⟩ : ∃ x, x = wc := ⟨wc, rfl⟩
    go_upto_if 55 with fail
    go_cut [6] (fun s6 wx => ∃ q : Nat, s6 = .int .i64 q ∧ q ≤ 10 ∧ ((q = 1 ∨ q = 2) → 0 < nc) ∧ wx = w7)
    case first =>
      have HBB := Lib.hid hbb
      clear hbb c1
      cases bb with
      | true =>
        go_wp2_with fail
        go_meet
        exact ⟨5, by go_num, by omega, fun h => by omega, rfl⟩
      | false =>
        go_wp2_with fail
        go_meet
        exact ⟨kk, rfl, hkk, HBB.out (by trivial), rfl⟩
    case rest =>
    obtain ⟨q, rfl, hq10, hq12, rfl⟩ := hcut
    obtain ⟨w7, rfl⟩ : ∃ x, x = wc := ⟨wc, rfl⟩
    clear hbb
    have HNX : Hid (X6[i].t.cs.length = nc ∧ X6[i].ca = ca ∧ X6[i].cc = cc) := by rw [HXY.out, HYC.out.1, HYC.out.2.1, HYC.out.2.2]; exact ⟨HXL.out, rfl, rfl⟩
    have HQ12 := Lib.hid hq12
    clear hkk c1 HXY HYC HXL hiX hz_w4 hzd hs3 hin2 hnb hsz2 hzq hsbl hz1 hq12 HSB
    go_upto_block 0 with fail
    refine sp_switch (m4 := w4.heap.size) ⟨hk, hn1, hnk, hi6, S7.out, HSZ5.out, HNX.out, hnck⟩ hq10 HQ12.out _ _ _ _ _ _ _ _ _ _ _ _ _ _ _ _ _ _ _ _ _ _ _ _ _ _ _ _ _ _ _ _ _ _ _ _ _ _ _ _ _ _ _ _ _ _ _ _ _ _ _ _ _ _ _ _ _ _ _ _ _ _ _ _ _ _ _ _ _ _ _ _ _ _ _ _ _ _ _ _ _ _ _ _ _ _ _ _ _ _ _ _ _ _ _ _ _ _ _ _ _ _ _ _ _ _ _ _ _ _ _ _ _ _ _ _ _ _ _ _ _ _ _ _ _ _ _ _ _ _ _ _ _ _ _ _ _ _ _ _ _ _ _ _ _ _ _ _ _ _ _ _ _ _ _ _ _ _ _ _ _ _ _ _ _ _ _ _ _ _ _ _ _ _ _ _ _ _ _ _ _ _ _ _ _ _ _ _ _ _ _ _ _ _ _ _ _ _ ?_
    intro u7 u57 u58 u59 u60 u61 u62 u63 u64 u65 u66 u67 u68 u69 u70 u71 u72 u73 u74 u75 u76 u77 u78 u79 u80 u81 u82 u83 u84 u85 u86 u87 u88 u89 u90 u91 u92 u93 u94 u95 u96 u97 u98 u99 u100 u101 u102 u103 u104 u105 u106 u107 u108 u109 u110 u111 u112 u113 u114 u115 u116 u117 u118 u119 u120 u121 u122 u123 u124 u125 u126 u127 u128 u129 u130 u131 u132 u133 u134 u135 u136 u137 u138 u139 u140 u141 u142 u143 u144 u145 u146 u147 u148 u149 u150 u151 u152 u153 u154 u155 u156 u157 u158 u159 u160 u161 u162 u163 u164 u165 u166 u167 u168 u169 u170 u171 u172 u173 u174 u175 u176 u177 u178 u179 u180 u181 u182 u183 u184 u185 u186 u187 u188 u189 u190 u191 u192 u193 u194 u195 u196 u197 u198 u199 u200 u201 W hcut
    obtain ⟨w9, rfl⟩ : ∃ x, x = W := ⟨W, rfl⟩
    clear S7 HSZ5 HNX HQ12
    obtain ⟨ver9, n9, tb9, cap9, M9, X9, T9, h19, h29, h39⟩ := hcut
    have HT9 := Lib.hid T9
    have HS9 := Lib.hid h39
    clear T9 h39
    have q0 := HT9.out.core.s0
    have q1 := HT9.out.core.s1
    obtain ⟨x0, e0⟩ := HT9.out.core.r0
    obtain ⟨x1, e1⟩ := HT9.out.core.r1
    have g0 := HT9.out.core.rf 0
    have g1 := HT9.out.core.rf 1
    have hs4 := HT9.out.core.szW
    go_wp2_with fail
    refine bodyPost_ret (v := .agg #[.int .i64 ver9, .slice (some ⟨tb9, 0, none⟩) n9 cap9]) (by simp [results, Try.results9, go_sem, *]) rfl ?_
    exact spEnd_ret HT9.out h19 h29 HS9.out
end Go.Proofs.Ytjcbmeannhafjaa
