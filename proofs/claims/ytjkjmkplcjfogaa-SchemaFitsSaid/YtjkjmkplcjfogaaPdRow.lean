
/- Rows of a case, and values of kinds. -/
import Derived.Test.YtjkjmkplcjfogaaPdCase

import Derived.Test.YtjkjmkplcjfogaaPdMath

namespace Go.Proofs.Ytjkjmkplcjfogaa

open Go.RowKit Go.Deep

theorem okKs_get {l : List Int} (h : okKs l = true) {k : Nat} (hk : k < l.length) : l[k] = 3 ∨ l[k] = 4 ∨ l[k] = 5 := by
  unfold okKs at h
  exact okK_yes (List.all_eq_true.1 h _ (List.getElem_mem hk))
/-- What the loops that build a row know. -/
structure RwInv (bc B base : Nat) (w0 : World) (v : Value) (l : List V) (w : World) : Prop where
  own : w.ownsRow base 24 3 v l.length (cellsOf l)
  mv : Mv bc w0 w
  ok : CaseOk bc B w
theorem RwInv.step {bc B base : Nat} {w0 : World} {v : Value} {l : List V} {w w' : World} (h : RwInv bc B base w0 v l w) (hm : Mv bc w w') (ho : CaseOk bc B w') (hb : bc < base) : RwInv bc B base w0 v l w' :=
  ⟨own_mv h.own hm hb, h.mv.trans hm, ho⟩
theorem cells3 (w : World) (k n : Int) (s : ByteArray) (t : TypeId) : ∀ (j : Nat) (u : Value), ([.int .i64 k, .int .i64 n, .string s] : List Value)[j]? = some u → (w.alloc (.cells #[.int .i64 k, .int .i64 n, .string s] t)).cell? ((⟨w.heap.size, 0, none⟩ : Addr).add j) = some u := by
  intro j u hj
  have ha : (⟨w.heap.size, 0, none⟩ : Addr).add j = ⟨w.heap.size, j, none⟩ := by unfold Addr.add; split <;> simp_all
  rw [ha]
  have := World.cell?_alloc_mark w #[.int .i64 k, .int .i64 n, .string s] t (0, 0) j
  refine this.trans ?_
  rw [← hj]; simp
theorem one3 (k n : Int) (s : ByteArray) : ∀ u ∈ ([.int .i64 k, .int .i64 n, .string s] : List Value), u.oneCell' = true := by
  intro u hu
  simp only [List.mem_cons, List.not_mem_nil, or_false] at hu
  rcases hu with rfl | rfl | rfl <;> rfl
theorem RwInv.app {bc B base : Nat} {w0 : World} {v v' : Value} {l : List V} {w w' : World} {O : Obj} (h : RwInv bc B base w0 v l w) (x : V) (hbase : w0.heap.size ≤ base) (hB : B ≤ base)
    (ho : w'.ownsRow base 24 3 v' (l.length + 1) (cellsOf l ++ [.int .i64 x.k, .int .i64 x.n, .string x.s])) (hg : (w.alloc O).grownBy w' v.ownBlock) : RwInv bc B base w0 v' (l ++ [x]) w' := by
  have hlt := h.own.lt
  obtain ⟨k, n, s⟩ := x
  exact ⟨by rw [cellsOf_snoc]; simpa using ho, (h.mv.alloc O).grown hg hbase (fun kk e => (hlt kk e).1), (h.ok.alloc O).grown hg hB (fun kk e => (hlt kk e).1)⟩

def RowPost (bc B : Nat) (K : List Int) (w : World) (e : Ending) (w' : World) : Prop := ∃ (v : Value) (l : List V), e = .returned v ∧ l.length = K.length ∧ RowT w.heap.size w' v l ∧ Mv bc w w' ∧ CaseOk bc B w'

set_option maxRecDepth 100000 in
set_option maxHeartbeats 4000000 in
theorem cRow_any (bc B lo : Nat) (K : List Int) (kv : Value) (w : World) (h : CaseOk bc B w) (hK : okKs K = true) (hkl : K.length ≤ 5) (hkv : IntsG lo w kv K) (hlo : bc < lo) : Calls Try.prog 15 #[.pointer (some ⟨bc, 0, none⟩), kv, .int .i64 0, .int .i64 3] w (RowPost bc B K w) := by
  have hinfo : (Try.prog.info? 24).map (fun i => (i.zero, i.size, i.bytes)) = some (some (.agg #[.int .i64 0, .int .i64 0, .string ⟨#[]⟩]), 3, 32) := by kernel_rfl
  obtain ⟨i0, hi, hz0, hz1, hz2⟩ := info_parts hinfo
  have HI := Lib.hid hi
  have HZ0 := Lib.hid hz0
  have HZ1 := Lib.hid hz1
  have HZ2 := Lib.hid hz2
  have hbl := h.lt
  have HKV := Lib.hid hkv
  have HK := Lib.hid hK
  obtain ⟨ka, kc, rfl⟩ := hkv.shape
  obtain ⟨m, hm⟩ : ∃ m, K.length = m := ⟨_, rfl⟩
  have HM := Lib.hid hm
  rw [hm] at hkl ⊢
  have HO := Lib.hid h
  clear hi hz0 hz1 hz2 hinfo h hK hkv hm
  go_enter Try.func15, Try.ntmps15
  go_wp2_with fail
  go_loopw [9, 14] (fun v i wr => ∃ (k : Nat) (l : List V), k ≤ m ∧ Hid (l.length = k) ∧ i = .int .i64 k ∧ Hid (RwInv bc B w.heap.size w v l wr)) (fun _ i _ => m - (intOf i).toNat)
  case atStart => exact ⟨0, [], by omega, rfl, rfl, ⟨⟨by simp [cellsOf], .inl ⟨rfl, rfl⟩⟩, Mv.refl _ _, HO.out⟩⟩
  case round =>
    obtain ⟨k, l, hk, HL, rfl, HX0⟩ := hrel
    clear HO
    obtain ⟨va, vc, hv5⟩ := own_slice HX0.out.own
    subst hv5
    by_cases hlt : k < m
    · have hlt' : (k : Int) < m := by omega
      have hkn : k < K.length := by rw [HM.out]; exact hlt
      have hk0 : (0 : Int) ≤ k := by omega
      obtain ⟨a', c', e', hf', hcell⟩ := HKV.out.mv HX0.out.mv hlo
      simp only [Value.slice.injEq] at e'
      obtain ⟨rfl, -, rfl⟩ := e'
      obtain ⟨kb, koff, rfl, -, hkb, c0⟩ := hcell k hkn
      have h345 := okKs_get HK.out hkn
      generalize K[k] = kk at *
      have HB1 := Lib.hid (cBool_5 bc B wr HX0.out.ok)
      have hl5 : l.length < 5 := by have := HL.out; omega
      clear hcell hf'
      go_wp2_with fail
      refine HB1.out.mono ?_
      rintro e w1 ⟨x1, rfl, hm1, ho1⟩
      have HX1 : Hid (RwInv bc B w.heap.size w (.slice va l.length vc) l w1) := HX0.out.step hm1 ho1 (by omega)
      have HB2 := Lib.hid (cBool_5 bc B w1 ho1)
      clear hm1 ho1 HB1 c0
      cases x1 with
      | true =>
        have A1 : Hid (l.length + 1 ≤ maxLen) := by show _ ≤ _; unfold maxLen; omega
        have A2 : Hid ((l.length + 1) * 32 ≤ 140737488355328) := by show _ ≤ _; omega
        have hsW : w.heap.size ≤ w1.heap.size := HX1.out.mv.size
        have A3 : Hid (∀ O : Obj, w.heap.size ≤ (w1.alloc O).heap.size) := fun O => by simp; omega
        have A4 : Hid (∀ t (j : Nat) (u : Value), ([.int .i64 2, .int .i64 0, .string ⟨#[]⟩] : List Value)[j]? = some u → (w1.alloc (.cells #[.int .i64 2, .int .i64 0, .string ⟨#[]⟩] t)).cell? ((⟨w1.heap.size, 0, none⟩ : Addr).add j) = some u) := fun t => cells3 w1 2 0 ⟨#[]⟩ t
        have A5 : Hid (∀ u ∈ ([.int .i64 2, .int .i64 0, .string ⟨#[]⟩] : List Value), u.oneCell' = true) := one3 _ _ _
        have A6 : Hid (∀ (O : Obj) (v' : Value) (w2 : World), w2.ownsRow w.heap.size 24 3 v' (l.length + 1) (cellsOf l ++ [.int .i64 2, .int .i64 0, .string ⟨#[]⟩]) → (w1.alloc O).grownBy w2 (Value.slice va l.length vc).ownBlock → RwInv bc B w.heap.size w v' (l ++ [⟨2, 0, ⟨#[]⟩⟩]) w2) := fun O v' w2 h1 h2 => HX1.out.app ⟨2, 0, ⟨#[]⟩⟩ (Nat.le_refl _) hbl.2 h1 h2
        go_wp2_with (at_builtin; refine wpList_append_own _ rfl _ _ 38 rfl w.heap.size 24 i0 (.agg #[.int .i64 0, .int .i64 0, .string ⟨#[]⟩]) 3 32 Try.underlying38 HI.out HZ0.out HZ1.out HZ2.out rfl (by decide) _ _ _ rfl (HX1.out.own.alloc _) ⟨w1.heap.size, 0, none⟩ 1 1 [.int .i64 2, .int .i64 0, .string ⟨#[]⟩] rfl rfl (A4.out _) A5.out A1.out A2.out (A3.out _) ?_; intro v' w2 hown2 hgr _; have HX := Lib.hid (A6.out _ v' w2 hown2 hgr); clear hown2 hgr)
        go_roundw
        case rel => exact ⟨k + 1, l ++ [⟨2, 0, ⟨#[]⟩⟩], by omega, by (show _ = _); have := HL.out; simp; omega, by go_num, HX⟩
        case measure => simp [intOf]; omega
      | false =>
        go_wp2_with fail
        refine HB2.out.mono ?_
        rintro e w3 ⟨x2, rfl, hm2, ho2⟩
        have HX2 : Hid (RwInv bc B w.heap.size w (.slice va l.length vc) l w3) := HX1.out.step hm2 ho2 (by omega)
        have HVV := Lib.hid (cValue_any bc B kk w3 h345 ho2)
        clear hm2 ho2 HB2 HX1
        cases x2 with
        | true =>
          have A1 : Hid (l.length + 1 ≤ maxLen) := by show _ ≤ _; unfold maxLen; omega
          have A2 : Hid ((l.length + 1) * 32 ≤ 140737488355328) := by show _ ≤ _; omega
          have hsW : w.heap.size ≤ w3.heap.size := HX2.out.mv.size
          have A3 : Hid (∀ O : Obj, w.heap.size ≤ (w3.alloc O).heap.size) := fun O => by simp; omega
          have A4 : Hid (∀ t (j : Nat) (u : Value), ([.int .i64 1, .int .i64 0, .string ⟨#[]⟩] : List Value)[j]? = some u → (w3.alloc (.cells #[.int .i64 1, .int .i64 0, .string ⟨#[]⟩] t)).cell? ((⟨w3.heap.size, 0, none⟩ : Addr).add j) = some u) := fun t => cells3 w3 1 0 ⟨#[]⟩ t
          have A5 : Hid (∀ u ∈ ([.int .i64 1, .int .i64 0, .string ⟨#[]⟩] : List Value), u.oneCell' = true) := one3 _ _ _
          have A6 : Hid (∀ (O : Obj) (v' : Value) (w2 : World), w2.ownsRow w.heap.size 24 3 v' (l.length + 1) (cellsOf l ++ [.int .i64 1, .int .i64 0, .string ⟨#[]⟩]) → (w3.alloc O).grownBy w2 (Value.slice va l.length vc).ownBlock → RwInv bc B w.heap.size w v' (l ++ [⟨1, 0, ⟨#[]⟩⟩]) w2) := fun O v' w2 h1 h2 => HX2.out.app ⟨1, 0, ⟨#[]⟩⟩ (Nat.le_refl _) hbl.2 h1 h2
          go_wp2_with (at_builtin; refine wpList_append_own _ rfl _ _ 38 rfl w.heap.size 24 i0 (.agg #[.int .i64 0, .int .i64 0, .string ⟨#[]⟩]) 3 32 Try.underlying38 HI.out HZ0.out HZ1.out HZ2.out rfl (by decide) _ _ _ rfl (HX2.out.own.alloc _) ⟨w3.heap.size, 0, none⟩ 1 1 [.int .i64 1, .int .i64 0, .string ⟨#[]⟩] rfl rfl (A4.out _) A5.out A1.out A2.out (A3.out _) ?_; intro v' w2 hown2 hgr _; have HX := Lib.hid (A6.out _ v' w2 hown2 hgr); clear hown2 hgr)
          go_roundw
          case rel => exact ⟨k + 1, l ++ [⟨1, 0, ⟨#[]⟩⟩], by omega, by (show _ = _); have := HL.out; simp; omega, by go_num, HX⟩
          case measure => simp [intOf]; omega
        | false =>
          go_wp2_with fail
          refine HVV.out.mono ?_
          rintro e w4 ⟨vn, vs, rfl, -, -, -, hm3, ho3⟩
          have HX3 : Hid (RwInv bc B w.heap.size w (.slice va l.length vc) l w4) := HX2.out.step hm3 ho3 (by omega)
          clear hm3 ho3 HX2 HVV
          have A1 : Hid (l.length + 1 ≤ maxLen) := by show _ ≤ _; unfold maxLen; omega
          have A2 : Hid ((l.length + 1) * 32 ≤ 140737488355328) := by show _ ≤ _; omega
          have hsW : w.heap.size ≤ w4.heap.size := HX3.out.mv.size
          have A3 : Hid (∀ O : Obj, w.heap.size ≤ (w4.alloc O).heap.size) := fun O => by simp; omega
          have A4 : Hid (∀ t (j : Nat) (u : Value), ([.int .i64 kk, .int .i64 vn, .string vs] : List Value)[j]? = some u → (w4.alloc (.cells #[.int .i64 kk, .int .i64 vn, .string vs] t)).cell? ((⟨w4.heap.size, 0, none⟩ : Addr).add j) = some u) := fun t => cells3 w4 kk vn vs t
          have A5 : Hid (∀ u ∈ ([.int .i64 kk, .int .i64 vn, .string vs] : List Value), u.oneCell' = true) := one3 _ _ _
          have A6 : Hid (∀ (O : Obj) (v' : Value) (w2 : World), w2.ownsRow w.heap.size 24 3 v' (l.length + 1) (cellsOf l ++ [.int .i64 kk, .int .i64 vn, .string vs]) → (w4.alloc O).grownBy w2 (Value.slice va l.length vc).ownBlock → RwInv bc B w.heap.size w v' (l ++ [⟨kk, vn, vs⟩]) w2) := fun O v' w2 h1 h2 => HX3.out.app ⟨kk, vn, vs⟩ (Nat.le_refl _) hbl.2 h1 h2
          go_wp2_with (at_builtin; refine wpList_append_own _ rfl _ _ 38 rfl w.heap.size 24 i0 (.agg #[.int .i64 0, .int .i64 0, .string ⟨#[]⟩]) 3 32 Try.underlying38 HI.out HZ0.out HZ1.out HZ2.out rfl (by decide) _ _ _ rfl (HX3.out.own.alloc _) ⟨w4.heap.size, 0, none⟩ 1 1 [.int .i64 kk, .int .i64 vn, .string vs] rfl rfl (A4.out _) A5.out A1.out A2.out (A3.out _) ?_; intro v' w2 hown2 hgr _; have HX := Lib.hid (A6.out _ v' w2 hown2 hgr); clear hown2 hgr)
          go_roundw
          case rel => exact ⟨k + 1, l ++ [⟨kk, vn, vs⟩], by omega, by (show _ = _); have := HL.out; simp; omega, by go_num, HX⟩
          case measure => simp [intOf]; omega
    · have hkm : k = m := by omega
      go_wp2_with fail
      go_ret
      exact ⟨_, l, rfl, by have := HL.out; rw [HM.out]; omega, rowT_own HX0.out.own (by have := HL.out; omega), HX0.out.mv, HX0.out.ok⟩

/-- Values that fit kinds. -/
def FitV (l : List V) (K : List Int) : Prop := l.length = K.length ∧ ∀ j (h : j < l.length) (h' : j < K.length), l[j].k = K[j] ∧ realV l[j] = true
def ValsPost (bc B : Nat) (K : List Int) (w : World) (e : Ending) (w' : World) : Prop := ∃ (v : Value) (l : List V), e = .returned v ∧ FitV l K ∧ RowT w.heap.size w' v l ∧ Mv bc w w' ∧ CaseOk bc B w'
theorem fit_app {l : List V} {K : List Int} {k : Nat} (h : FitV l (K.take k)) (hk : k < K.length) (x : V) (hx : x.k = K[k]) (hr : realV x = true) : FitV (l ++ [x]) (K.take (k + 1)) := by
  obtain ⟨h1, h2⟩ := h
  rw [List.length_take] at h1
  refine ⟨by simp; omega, fun j hj hj' => ?_⟩
  by_cases e : j < l.length
  · have := h2 j e (by simp; omega)
    rw [List.getElem_append_left e]
    simpa using this
  · have e2 : j = k := by simp at hj; omega
    subst e2
    have e3 : l.length = j := by omega
    rw [List.getElem_append_right (by omega)]
    simp only [e3, Nat.sub_self, List.getElem_cons_zero, List.getElem_take]
    exact ⟨hx, hr⟩

end Go.Proofs.Ytjkjmkplcjfogaa
