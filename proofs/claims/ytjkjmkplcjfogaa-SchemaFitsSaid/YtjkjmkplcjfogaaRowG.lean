
/- Rows of a case at any key and mode. -/
import Derived.Test.YtjkjmkplcjfogaaPdRow

namespace Go.Proofs.Ytjkjmkplcjfogaa

open Go.RowKit Go.Deep

set_option maxHeartbeats 400000 in
theorem cBool_n (bc B : Nat) (n : Int) (w : World) (hn : 1 ≤ n) (hn2 : n ≤ 100) (h : CaseOk bc B w) : Calls Try.prog 48 #[.pointer (some ⟨bc, 0, none⟩), .int .i64 n] w (BoolPost bc B w) := by
  have HI := Lib.hid (cInt_any bc B n w (by omega) (by omega) h)
  clear h
  go_enter Try.func48, Try.ntmps48
  go_wp2_with fail
  refine HI.out.mono ?_
  rintro e w1 ⟨r, rfl, hr0, hr1, hm, ho⟩
  clear HI
  go_wp2_with fail
  go_ret
  exact ⟨_, rfl, hm, ho⟩

def fitB (ck : Int) (i : Nat) (key mode : Int) (v : V) : Bool := vldB v.k v.n v.s && (v.k == ck || (v.k == 2 && (decide (key ≤ i) && mode != 1)) || (v.k == 1 && (decide (key ≤ i) && mode == 3)))
/-- All cells fit their columns. -/
def FitP (K : List Int) (key mode : Int) (l : List V) : Prop := ∀ j (h : j < l.length) (h' : j < K.length), fitB K[j] j key mode l[j] = true
theorem FitP.app {K : List Int} {key mode : Int} {l : List V} (h : FitP K key mode l) {k : Nat} (hk : l.length = k) (hkK : k < K.length) {x : V} (hx : fitB K[k] k key mode x = true) : FitP K key mode (l ++ [x]) := by
  intro j hj hj'
  by_cases e : j < l.length
  · rw [List.getElem_append_left e]; exact h j e hj'
  · have e2 : j = l.length := by simp at hj; omega
    subst e2
    subst hk
    rw [List.getElem_append_right (by omega)]
    simpa using hx
theorem fit_val {k n : Int} {s : ByteArray} (i : Nat) (key mode : Int) (h : vldB k n s = true) : fitB k i key mode ⟨k, n, s⟩ = true := by
  unfold fitB; rw [h]; simp
theorem fit_hid {ck : Int} {i : Nat} {key mode : Int} (h : key ≤ (i : Int)) (hm : mode ≠ 1) : fitB ck i key mode ⟨2, 0, ⟨#[]⟩⟩ = true := by
  unfold fitB; rw [show vldB 2 0 ⟨#[]⟩ = true from rfl]; simp [h, hm]
theorem fit_mis {ck : Int} {i : Nat} {key mode : Int} (h : key ≤ (i : Int)) (hm : mode = 3) : fitB ck i key mode ⟨1, 0, ⟨#[]⟩⟩ = true := by
  unfold fitB; rw [show vldB 1 0 ⟨#[]⟩ = true from rfl]; simp [h, hm]
/-- A row is returned that the call owns, and that fits. -/
def RowGPost (bc B : Nat) (K : List Int) (key mode : Int) (w : World) (e : Ending) (w' : World) : Prop := ∃ (v : Value) (l : List V), e = .returned v ∧ l.length = K.length ∧ FitP K key mode l ∧ w'.ownsRow w.heap.size 24 3 v l.length (cellsOf l) ∧ Mv bc w w' ∧ CaseOk bc B w'

set_option maxRecDepth 100000 in
set_option maxHeartbeats 4000000 in
theorem cRowG_any (bc B lo : Nat) (K : List Int) (kv : Value) (key mode : Int) (w : World) (h : CaseOk bc B w) (hK : okKs K = true) (hkl : K.length ≤ 8) (hkv : IntsG lo w kv K) (hlo : bc < lo) (hmode : mode = 1 ∨ mode = 2 ∨ mode = 3) : Calls Try.prog 15 #[.pointer (some ⟨bc, 0, none⟩), kv, .int .i64 key, .int .i64 mode] w (RowGPost bc B K key mode w) := by
  have hinfo : (Try.prog.info? 24).map (fun i => (i.zero, i.size, i.bytes)) = some (some (.agg #[.int .i64 0, .int .i64 0, .string ⟨#[]⟩]), 3, 32) := by kernel_rfl
  obtain ⟨i0, hi, hz0, hz1, hz2⟩ := info_parts hinfo
  have HI := Lib.hid hi
  have HZ0 := Lib.hid hz0
  have HZ1 := Lib.hid hz1
  have HZ2 := Lib.hid hz2
  have hbl := h.lt
  have HKV := Lib.hid hkv
  have HK := Lib.hid hK
  have HMO := Lib.hid hmode
  obtain ⟨ka, kc, rfl⟩ := hkv.shape
  obtain ⟨m, hm⟩ : ∃ m, K.length = m := ⟨_, rfl⟩
  have HM := Lib.hid hm
  rw [hm] at hkl ⊢
  have HO := Lib.hid h
  clear hi hz0 hz1 hz2 hinfo h hK hkv hm hmode
  go_enter Try.func15, Try.ntmps15
  go_wp2_with fail
  go_loopw [9, 14] (fun v i wr => ∃ (k : Nat) (l : List V), k ≤ m ∧ Hid (l.length = k) ∧ i = .int .i64 k ∧ Hid (RwInv bc B w.heap.size w v l wr) ∧ Hid (FitP K key mode l)) (fun _ i _ => m - (intOf i).toNat)
  case atStart => exact ⟨0, [], by omega, rfl, rfl, ⟨⟨by simp [cellsOf], .inl ⟨rfl, rfl⟩⟩, Mv.refl _ _, HO.out⟩, fun j h => absurd h (by simp)⟩
  case round =>
    obtain ⟨k, l, hk, HL, rfl, HX0, HF⟩ := hrel
    clear HO
    obtain ⟨va, vc, hv5⟩ := own_slice HX0.out.own
    subst hv5
    by_cases hlt : k < m
    · have hlt' : (k : Int) < m := by omega
      have hkn : k < K.length := by rw [HM.out]; exact hlt
      obtain ⟨a', c', e', hf', hcell⟩ := HKV.out.mv HX0.out.mv hlo
      simp only [Value.slice.injEq] at e'
      obtain ⟨rfl, -, rfl⟩ := e'
      obtain ⟨kb, koff, rfl, -, hkb, c0⟩ := hcell k hkn
      have h345 := okKs_get HK.out hkn
      have HFV : Hid (∀ n s, vldB K[k] n s = true → FitP K key mode (l ++ [⟨K[k], n, s⟩])) := fun n s hv => HF.out.app HL.out hkn (fit_val _ _ _ hv)
      have HFH : Hid (key ≤ (k : Int) → mode ≠ 1 → FitP K key mode (l ++ [⟨2, 0, ⟨#[]⟩⟩])) := fun h1 h2 => HF.out.app HL.out hkn (fit_hid h1 h2)
      have HFM : Hid (key ≤ (k : Int) → mode = 3 → FitP K key mode (l ++ [⟨1, 0, ⟨#[]⟩⟩])) := fun h1 h2 => HF.out.app HL.out hkn (fit_mis h1 h2)
      generalize K[k] = kk at *
      have HB1 := Lib.hid (cBool_n bc B 5 wr (by omega) (by omega) HX0.out.ok)
      have hl5 : l.length < 8 := by have := HL.out; omega
      clear hcell hf' HF
      by_cases hge : key ≤ (k : Int)
      · have g1 : decide (key ≤ (k : Int)) = true := by simpa using hge
        have HGE := Lib.hid hge
        clear hge
        rcases HMO.out with rfl | rfl | rfl
        · clear HB1
          have HVV := Lib.hid (cValue_any bc B kk wr h345 HX0.out.ok)
          go_wp2_with fail
          refine HVV.out.mono ?_
          rintro e w4 ⟨vn, vs, rfl, hvv, -, -, hm3, ho3⟩
          have HX3 : Hid (RwInv bc B w.heap.size w (.slice va l.length vc) l w4) := HX0.out.step hm3 ho3 (by omega)
          have HFX := Lib.hid (HFV.out _ _ hvv)
          clear hm3 ho3 HX0 HVV hvv HFV HFH HFM
          have A1 : Hid (l.length + 1 ≤ maxLen) := by show _ ≤ _; unfold maxLen; omega
          have A2 : Hid ((l.length + 1) * 32 ≤ 140737488355328) := by show _ ≤ _; omega
          have hsW : w.heap.size ≤ w4.heap.size := HX3.out.mv.size
          have A3 : Hid (∀ O : Obj, w.heap.size ≤ (w4.alloc O).heap.size) := fun O => by simp; omega
          have A4 : Hid (∀ t (j : Nat) (u : Value), ([.int .i64 kk, .int .i64 vn, .string vs] : List Value)[j]? = some u → (w4.alloc (.cells #[.int .i64 kk, .int .i64 vn, .string vs] t)).cell? ((⟨w4.heap.size, 0, none⟩ : Addr).add j) = some u) := fun t => cells3 w4 kk vn vs t
          have A5 : Hid (∀ u ∈ ([.int .i64 kk, .int .i64 vn, .string vs] : List Value), u.oneCell' = true) := one3 _ _ _
          have A6 : Hid (∀ (O : Obj) (v' : Value) (w2 : World), w2.ownsRow w.heap.size 24 3 v' (l.length + 1) (cellsOf l ++ [.int .i64 kk, .int .i64 vn, .string vs]) → (w4.alloc O).grownBy w2 (Value.slice va l.length vc).ownBlock → RwInv bc B w.heap.size w v' (l ++ [⟨kk, vn, vs⟩]) w2) := fun O v' w2 h1 h2 => HX3.out.app ⟨kk, vn, vs⟩ (Nat.le_refl _) hbl.2 h1 h2
          go_wp2_with (at_builtin; refine wpList_append_own _ rfl _ _ 38 rfl w.heap.size 24 i0 (.agg #[.int .i64 0, .int .i64 0, .string ⟨#[]⟩]) 3 32 Try.underlying38 HI.out HZ0.out HZ1.out HZ2.out rfl (by decide) _ _ _ rfl (HX3.out.own.alloc _) ⟨w4.heap.size, 0, none⟩ 1 1 [.int .i64 kk, .int .i64 vn, .string vs] rfl rfl (A4.out _) A5.out A1.out A2.out (A3.out _) ?_; intro v' w2 hown2 hgr _; have HX := Lib.hid (A6.out _ v' w2 hown2 hgr); clear hown2 hgr)
          go_roundw
          case rel => exact ⟨k + 1, l ++ [⟨kk, vn, vs⟩], by omega, by (show _ = _); have := HL.out; simp; omega, by go_num, HX, HFX⟩
          case measure => simp [intOf]; omega
        · go_wp2_with fail
          refine HB1.out.mono ?_
          rintro e w1 ⟨x1, rfl, hm1, ho1⟩
          have HX1 : Hid (RwInv bc B w.heap.size w (.slice va l.length vc) l w1) := HX0.out.step hm1 ho1 (by omega)
          have HB2 := Lib.hid (cBool_n bc B 5 w1 (by omega) (by omega) ho1)
          clear hm1 ho1 HB1 c0 HX0
          cases x1 with
          | true =>
            have HFX := Lib.hid (HFH.out HGE.out (by omega))
            clear HFV HFH HFM
            have A1 : Hid (l.length + 1 ≤ maxLen) := by show _ ≤ _; unfold maxLen; omega
            have A2 : Hid ((l.length + 1) * 32 ≤ 140737488355328) := by show _ ≤ _; omega
            have hsW : w.heap.size ≤ w1.heap.size := HX1.out.mv.size
            have A3 : Hid (∀ O : Obj, w.heap.size ≤ (w1.alloc O).heap.size) := fun O => by simp; omega
            have A4 : Hid (∀ t (j : Nat) (u : Value), ([.int .i64 2, .int .i64 0, .string ⟨#[]⟩] : List Value)[j]? = some u → (w1.alloc (.cells #[.int .i64 2, .int .i64 0, .string ⟨#[]⟩] t)).cell? ((⟨w1.heap.size, 0, none⟩ : Addr).add j) = some u) := fun t => cells3 w1 2 0 ⟨#[]⟩ t
            have A5 : Hid (∀ u ∈ ([.int .i64 2, .int .i64 0, .string ⟨#[]⟩] : List Value), u.oneCell' = true) := one3 _ _ _
            have A6 : Hid (∀ (O : Obj) (v' : Value) (w2 : World), w2.ownsRow w.heap.size 24 3 v' (l.length + 1) (cellsOf l ++ [.int .i64 2, .int .i64 0, .string ⟨#[]⟩]) → (w1.alloc O).grownBy w2 (Value.slice va l.length vc).ownBlock → RwInv bc B w.heap.size w v' (l ++ [⟨2, 0, ⟨#[]⟩⟩]) w2) := fun O v' w2 h1 h2 => HX1.out.app ⟨2, 0, ⟨#[]⟩⟩ (Nat.le_refl _) hbl.2 h1 h2
            go_wp2_with (at_builtin; refine wpList_append_own _ rfl _ _ 38 rfl w.heap.size 24 i0 (.agg #[.int .i64 0, .int .i64 0, .string ⟨#[]⟩]) 3 32 Try.underlying38 HI.out HZ0.out HZ1.out HZ2.out rfl (by decide) _ _ _ rfl (HX1.out.own.alloc _) ⟨w1.heap.size, 0, none⟩ 1 1 [.int .i64 2, .int .i64 0, .string ⟨#[]⟩] rfl rfl (A4.out _) A5.out A1.out A2.out (A3.out _) ?_; intro v' w2 hown2 hgr _; have HX := Lib.hid (A6.out _ v' w2 hown2 hgr); clear hown2 hgr)
            go_roundw
            case rel => exact ⟨k + 1, l ++ [⟨2, 0, ⟨#[]⟩⟩], by omega, by (show _ = _); have := HL.out; simp; omega, by go_num, HX, HFX⟩
            case measure => simp [intOf]; omega
          | false =>
            clear HB2
            have HVV := Lib.hid (cValue_any bc B kk w1 h345 HX1.out.ok)
            go_wp2_with fail
            refine HVV.out.mono ?_
            rintro e w4 ⟨vn, vs, rfl, hvv, -, -, hm3, ho3⟩
            have HX3 : Hid (RwInv bc B w.heap.size w (.slice va l.length vc) l w4) := HX1.out.step hm3 ho3 (by omega)
            have HFX := Lib.hid (HFV.out _ _ hvv)
            clear hm3 ho3 HX1 HVV hvv HFV HFH HFM
            have A1 : Hid (l.length + 1 ≤ maxLen) := by show _ ≤ _; unfold maxLen; omega
            have A2 : Hid ((l.length + 1) * 32 ≤ 140737488355328) := by show _ ≤ _; omega
            have hsW : w.heap.size ≤ w4.heap.size := HX3.out.mv.size
            have A3 : Hid (∀ O : Obj, w.heap.size ≤ (w4.alloc O).heap.size) := fun O => by simp; omega
            have A4 : Hid (∀ t (j : Nat) (u : Value), ([.int .i64 kk, .int .i64 vn, .string vs] : List Value)[j]? = some u → (w4.alloc (.cells #[.int .i64 kk, .int .i64 vn, .string vs] t)).cell? ((⟨w4.heap.size, 0, none⟩ : Addr).add j) = some u) := fun t => cells3 w4 kk vn vs t
            have A5 : Hid (∀ u ∈ ([.int .i64 kk, .int .i64 vn, .string vs] : List Value), u.oneCell' = true) := one3 _ _ _
            have A6 : Hid (∀ (O : Obj) (v' : Value) (w2 : World), w2.ownsRow w.heap.size 24 3 v' (l.length + 1) (cellsOf l ++ [.int .i64 kk, .int .i64 vn, .string vs]) → (w4.alloc O).grownBy w2 (Value.slice va l.length vc).ownBlock → RwInv bc B w.heap.size w v' (l ++ [⟨kk, vn, vs⟩]) w2) := fun O v' w2 h1 h2 => HX3.out.app ⟨kk, vn, vs⟩ (Nat.le_refl _) hbl.2 h1 h2
            go_wp2_with (at_builtin; refine wpList_append_own _ rfl _ _ 38 rfl w.heap.size 24 i0 (.agg #[.int .i64 0, .int .i64 0, .string ⟨#[]⟩]) 3 32 Try.underlying38 HI.out HZ0.out HZ1.out HZ2.out rfl (by decide) _ _ _ rfl (HX3.out.own.alloc _) ⟨w4.heap.size, 0, none⟩ 1 1 [.int .i64 kk, .int .i64 vn, .string vs] rfl rfl (A4.out _) A5.out A1.out A2.out (A3.out _) ?_; intro v' w2 hown2 hgr _; have HX := Lib.hid (A6.out _ v' w2 hown2 hgr); clear hown2 hgr)
            go_roundw
            case rel => exact ⟨k + 1, l ++ [⟨kk, vn, vs⟩], by omega, by (show _ = _); have := HL.out; simp; omega, by go_num, HX, HFX⟩
            case measure => simp [intOf]; omega
        · go_wp2_with fail
          refine HB1.out.mono ?_
          rintro e w1 ⟨x1, rfl, hm1, ho1⟩
          have HX1 : Hid (RwInv bc B w.heap.size w (.slice va l.length vc) l w1) := HX0.out.step hm1 ho1 (by omega)
          have HB2 := Lib.hid (cBool_n bc B 5 w1 (by omega) (by omega) ho1)
          clear hm1 ho1 HB1 c0 HX0
          cases x1 with
          | true =>
            have HFX := Lib.hid (HFH.out HGE.out (by omega))
            clear HFV HFH HFM
            have A1 : Hid (l.length + 1 ≤ maxLen) := by show _ ≤ _; unfold maxLen; omega
            have A2 : Hid ((l.length + 1) * 32 ≤ 140737488355328) := by show _ ≤ _; omega
            have hsW : w.heap.size ≤ w1.heap.size := HX1.out.mv.size
            have A3 : Hid (∀ O : Obj, w.heap.size ≤ (w1.alloc O).heap.size) := fun O => by simp; omega
            have A4 : Hid (∀ t (j : Nat) (u : Value), ([.int .i64 2, .int .i64 0, .string ⟨#[]⟩] : List Value)[j]? = some u → (w1.alloc (.cells #[.int .i64 2, .int .i64 0, .string ⟨#[]⟩] t)).cell? ((⟨w1.heap.size, 0, none⟩ : Addr).add j) = some u) := fun t => cells3 w1 2 0 ⟨#[]⟩ t
            have A5 : Hid (∀ u ∈ ([.int .i64 2, .int .i64 0, .string ⟨#[]⟩] : List Value), u.oneCell' = true) := one3 _ _ _
            have A6 : Hid (∀ (O : Obj) (v' : Value) (w2 : World), w2.ownsRow w.heap.size 24 3 v' (l.length + 1) (cellsOf l ++ [.int .i64 2, .int .i64 0, .string ⟨#[]⟩]) → (w1.alloc O).grownBy w2 (Value.slice va l.length vc).ownBlock → RwInv bc B w.heap.size w v' (l ++ [⟨2, 0, ⟨#[]⟩⟩]) w2) := fun O v' w2 h1 h2 => HX1.out.app ⟨2, 0, ⟨#[]⟩⟩ (Nat.le_refl _) hbl.2 h1 h2
            go_wp2_with (at_builtin; refine wpList_append_own _ rfl _ _ 38 rfl w.heap.size 24 i0 (.agg #[.int .i64 0, .int .i64 0, .string ⟨#[]⟩]) 3 32 Try.underlying38 HI.out HZ0.out HZ1.out HZ2.out rfl (by decide) _ _ _ rfl (HX1.out.own.alloc _) ⟨w1.heap.size, 0, none⟩ 1 1 [.int .i64 2, .int .i64 0, .string ⟨#[]⟩] rfl rfl (A4.out _) A5.out A1.out A2.out (A3.out _) ?_; intro v' w2 hown2 hgr _; have HX := Lib.hid (A6.out _ v' w2 hown2 hgr); clear hown2 hgr)
            go_roundw
            case rel => exact ⟨k + 1, l ++ [⟨2, 0, ⟨#[]⟩⟩], by omega, by (show _ = _); have := HL.out; simp; omega, by go_num, HX, HFX⟩
            case measure => simp [intOf]; omega
          | false =>
            go_wp2_with fail
            refine HB2.out.mono ?_
            rintro e w3 ⟨x2, rfl, hm2, ho2⟩
            have HX2 : Hid (RwInv bc B w.heap.size w (.slice va l.length vc) l w3) := HX1.out.step hm2 ho2 (by omega)
            clear hm2 ho2 HB2 HX1
            cases x2 with
            | true =>
              have HFX := Lib.hid (HFM.out HGE.out (by simp))
              clear HFV HFH HFM
              have A1 : Hid (l.length + 1 ≤ maxLen) := by show _ ≤ _; unfold maxLen; omega
              have A2 : Hid ((l.length + 1) * 32 ≤ 140737488355328) := by show _ ≤ _; omega
              have hsW : w.heap.size ≤ w3.heap.size := HX2.out.mv.size
              have A3 : Hid (∀ O : Obj, w.heap.size ≤ (w3.alloc O).heap.size) := fun O => by simp; omega
              have A4 : Hid (∀ t (j : Nat) (u : Value), ([.int .i64 1, .int .i64 0, .string ⟨#[]⟩] : List Value)[j]? = some u → (w3.alloc (.cells #[.int .i64 1, .int .i64 0, .string ⟨#[]⟩] t)).cell? ((⟨w3.heap.size, 0, none⟩ : Addr).add j) = some u) := fun t => cells3 w3 1 0 ⟨#[]⟩ t
              have A5 : Hid (∀ u ∈ ([.int .i64 1, .int .i64 0, .string ⟨#[]⟩] : List Value), u.oneCell' = true) := one3 _ _ _
              have A6 : Hid (∀ (O : Obj) (v' : Value) (w2 : World), w2.ownsRow w.heap.size 24 3 v' (l.length + 1) (cellsOf l ++ [.int .i64 1, .int .i64 0, .string ⟨#[]⟩]) → (w3.alloc O).grownBy w2 (Value.slice va l.length vc).ownBlock → RwInv bc B w.heap.size w v' (l ++ [⟨1, 0, ⟨#[]⟩⟩]) w2) := fun O v' w2 h1 h2 => HX2.out.app ⟨1, 0, ⟨#[]⟩⟩ (Nat.le_refl _) hbl.2 h1 h2
              go_wp2_with (at_builtin; refine wpList_append_own _ rfl _ _ 38 rfl w.heap.size 24 i0 (.agg #[.int .i64 0, .int .i64 0, .string ⟨#[]⟩]) 3 32 Try.underlying38 HI.out HZ0.out HZ1.out HZ2.out rfl (by decide) _ _ _ rfl (HX2.out.own.alloc _) ⟨w3.heap.size, 0, none⟩ 1 1 [.int .i64 1, .int .i64 0, .string ⟨#[]⟩] rfl rfl (A4.out _) A5.out A1.out A2.out (A3.out _) ?_; intro v' w2 hown2 hgr _; have HX := Lib.hid (A6.out _ v' w2 hown2 hgr); clear hown2 hgr)
              go_roundw
              case rel => exact ⟨k + 1, l ++ [⟨1, 0, ⟨#[]⟩⟩], by omega, by (show _ = _); have := HL.out; simp; omega, by go_num, HX, HFX⟩
              case measure => simp [intOf]; omega
            | false =>
              have HVV := Lib.hid (cValue_any bc B kk w3 h345 HX2.out.ok)
              go_wp2_with fail
              refine HVV.out.mono ?_
              rintro e w4 ⟨vn, vs, rfl, hvv, -, -, hm3, ho3⟩
              have HX3 : Hid (RwInv bc B w.heap.size w (.slice va l.length vc) l w4) := HX2.out.step hm3 ho3 (by omega)
              have HFX := Lib.hid (HFV.out _ _ hvv)
              clear hm3 ho3 HX2 HVV hvv HFV HFH HFM
              have A1 : Hid (l.length + 1 ≤ maxLen) := by show _ ≤ _; unfold maxLen; omega
              have A2 : Hid ((l.length + 1) * 32 ≤ 140737488355328) := by show _ ≤ _; omega
              have hsW : w.heap.size ≤ w4.heap.size := HX3.out.mv.size
              have A3 : Hid (∀ O : Obj, w.heap.size ≤ (w4.alloc O).heap.size) := fun O => by simp; omega
              have A4 : Hid (∀ t (j : Nat) (u : Value), ([.int .i64 kk, .int .i64 vn, .string vs] : List Value)[j]? = some u → (w4.alloc (.cells #[.int .i64 kk, .int .i64 vn, .string vs] t)).cell? ((⟨w4.heap.size, 0, none⟩ : Addr).add j) = some u) := fun t => cells3 w4 kk vn vs t
              have A5 : Hid (∀ u ∈ ([.int .i64 kk, .int .i64 vn, .string vs] : List Value), u.oneCell' = true) := one3 _ _ _
              have A6 : Hid (∀ (O : Obj) (v' : Value) (w2 : World), w2.ownsRow w.heap.size 24 3 v' (l.length + 1) (cellsOf l ++ [.int .i64 kk, .int .i64 vn, .string vs]) → (w4.alloc O).grownBy w2 (Value.slice va l.length vc).ownBlock → RwInv bc B w.heap.size w v' (l ++ [⟨kk, vn, vs⟩]) w2) := fun O v' w2 h1 h2 => HX3.out.app ⟨kk, vn, vs⟩ (Nat.le_refl _) hbl.2 h1 h2
              go_wp2_with (at_builtin; refine wpList_append_own _ rfl _ _ 38 rfl w.heap.size 24 i0 (.agg #[.int .i64 0, .int .i64 0, .string ⟨#[]⟩]) 3 32 Try.underlying38 HI.out HZ0.out HZ1.out HZ2.out rfl (by decide) _ _ _ rfl (HX3.out.own.alloc _) ⟨w4.heap.size, 0, none⟩ 1 1 [.int .i64 kk, .int .i64 vn, .string vs] rfl rfl (A4.out _) A5.out A1.out A2.out (A3.out _) ?_; intro v' w2 hown2 hgr _; have HX := Lib.hid (A6.out _ v' w2 hown2 hgr); clear hown2 hgr)
              go_roundw
              case rel => exact ⟨k + 1, l ++ [⟨kk, vn, vs⟩], by omega, by (show _ = _); have := HL.out; simp; omega, by go_num, HX, HFX⟩
              case measure => simp [intOf]; omega
      · have g1 : decide (key ≤ (k : Int)) = false := by simpa using hge
        clear hge HB1
        have HVV := Lib.hid (cValue_any bc B kk wr h345 HX0.out.ok)
        go_wp2_with fail
        refine HVV.out.mono ?_
        rintro e w4 ⟨vn, vs, rfl, hvv, -, -, hm3, ho3⟩
        have HX3 : Hid (RwInv bc B w.heap.size w (.slice va l.length vc) l w4) := HX0.out.step hm3 ho3 (by omega)
        have HFX := Lib.hid (HFV.out _ _ hvv)
        clear hm3 ho3 HX0 HVV hvv HFV HFH HFM
        have A1 : Hid (l.length + 1 ≤ maxLen) := by show _ ≤ _; unfold maxLen; omega
        have A2 : Hid ((l.length + 1) * 32 ≤ 140737488355328) := by show _ ≤ _; omega
        have hsW : w.heap.size ≤ w4.heap.size := HX3.out.mv.size
        have A3 : Hid (∀ O : Obj, w.heap.size ≤ (w4.alloc O).heap.size) := fun O => by simp; omega
        have A4 : Hid (∀ t (j : Nat) (u : Value), ([.int .i64 kk, .int .i64 vn, .string vs] : List Value)[j]? = some u → (w4.alloc (.cells #[.int .i64 kk, .int .i64 vn, .string vs] t)).cell? ((⟨w4.heap.size, 0, none⟩ : Addr).add j) = some u) := fun t => cells3 w4 kk vn vs t
        have A5 : Hid (∀ u ∈ ([.int .i64 kk, .int .i64 vn, .string vs] : List Value), u.oneCell' = true) := one3 _ _ _
        have A6 : Hid (∀ (O : Obj) (v' : Value) (w2 : World), w2.ownsRow w.heap.size 24 3 v' (l.length + 1) (cellsOf l ++ [.int .i64 kk, .int .i64 vn, .string vs]) → (w4.alloc O).grownBy w2 (Value.slice va l.length vc).ownBlock → RwInv bc B w.heap.size w v' (l ++ [⟨kk, vn, vs⟩]) w2) := fun O v' w2 h1 h2 => HX3.out.app ⟨kk, vn, vs⟩ (Nat.le_refl _) hbl.2 h1 h2
        go_wp2_with (at_builtin; refine wpList_append_own _ rfl _ _ 38 rfl w.heap.size 24 i0 (.agg #[.int .i64 0, .int .i64 0, .string ⟨#[]⟩]) 3 32 Try.underlying38 HI.out HZ0.out HZ1.out HZ2.out rfl (by decide) _ _ _ rfl (HX3.out.own.alloc _) ⟨w4.heap.size, 0, none⟩ 1 1 [.int .i64 kk, .int .i64 vn, .string vs] rfl rfl (A4.out _) A5.out A1.out A2.out (A3.out _) ?_; intro v' w2 hown2 hgr _; have HX := Lib.hid (A6.out _ v' w2 hown2 hgr); clear hown2 hgr)
        go_roundw
        case rel => exact ⟨k + 1, l ++ [⟨kk, vn, vs⟩], by omega, by (show _ = _); have := HL.out; simp; omega, by go_num, HX, HFX⟩
        case measure => simp [intOf]; omega
    · have hkm : k = m := by omega
      go_wp2_with fail
      go_ret
      exact ⟨_, l, rfl, by have := HL.out; rw [HM.out]; omega, HF.out, HX0.out.own, HX0.out.mv, HX0.out.ok⟩
end Go.Proofs.Ytjkjmkplcjfogaa
