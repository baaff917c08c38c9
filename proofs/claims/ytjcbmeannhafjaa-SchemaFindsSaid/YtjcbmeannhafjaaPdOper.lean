
/- Operands of a case. -/
import Derived.Test.YtjcbmeannhafjaaPdRow

namespace Go.Proofs.Ytjcbmeannhafjaa

open Go.RowKit Go.Deep

def Od.cells (o : Od) : List Value := [.int .i64 o.k, .int .i64 o.i, .int .i64 o.v.k, .int .i64 o.v.n, .string o.v.s]
def odCells (L : List Od) : List Value := L.flatMap Od.cells
theorem length_odCells : ∀ L : List Od, (odCells L).length = L.length * 5
  | [] => rfl
  | x :: r => by
    have := length_odCells r
    unfold odCells at this ⊢
    simp [Od.cells, this]; omega
theorem odCells_snoc (L : List Od) (x : Od) : odCells (L ++ [x]) = odCells L ++ x.cells := by unfold odCells; simp
theorem odCells_at : ∀ (L : List Od) (i : Nat) (h : i < L.length) (j : Nat), j < 5 → (odCells L)[i * 5 + j]? = (L[i].cells)[j]?
  | x :: r, 0, _, j, hj => by
    unfold odCells
    rw [List.flatMap_cons, List.getElem?_append_left (by simp [Od.cells]; omega)]
    simp
  | x :: r, i + 1, h, j, hj => by
    have ih := odCells_at r i (by simpa using h) j hj
    have : (i + 1) * 5 + j = 5 + (i * 5 + j) := by omega
    rw [this]
    unfold odCells at ih ⊢
    rw [List.flatMap_cons, List.getElem?_append_right (by simp [Od.cells])]
    simp [Od.cells]
    simpa [Od.cells] using ih
structure OpInv (bc B base : Nat) (w0 : World) (v : Value) (L : List Od) (w : World) : Prop where
  own : w.ownsRow base 75 5 v L.length (odCells L)
  mv : Mv bc w0 w
  ok : CaseOk bc B w
theorem cells5 (w : World) (k i vk vn : Int) (s : ByteArray) (t : TypeId) : ∀ (j : Nat) (u : Value), ([.int .i64 k, .int .i64 i, .int .i64 vk, .int .i64 vn, .string s] : List Value)[j]? = some u → (w.alloc (.cells #[.int .i64 k, .int .i64 i, .int .i64 vk, .int .i64 vn, .string s] t)).cell? ((⟨w.heap.size, 0, none⟩ : Addr).add j) = some u := by
  intro j u hj
  have ha : (⟨w.heap.size, 0, none⟩ : Addr).add j = ⟨w.heap.size, j, none⟩ := by unfold Addr.add; split <;> simp_all
  rw [ha]
  have := World.cell?_alloc_mark w #[.int .i64 k, .int .i64 i, .int .i64 vk, .int .i64 vn, .string s] t (0, 0) j
  refine this.trans ?_
  rw [← hj]; simp
theorem one5 (k i vk vn : Int) (s : ByteArray) : ∀ u ∈ ([.int .i64 k, .int .i64 i, .int .i64 vk, .int .i64 vn, .string s] : List Value), u.oneCell' = true := by
  intro u hu
  simp only [List.mem_cons, List.not_mem_nil, or_false] at hu
  rcases hu with rfl | rfl | rfl | rfl | rfl <;> rfl
theorem OpInv.app {bc B base : Nat} {w0 : World} {v v' : Value} {L : List Od} {w w' : World} {O : Obj} (h : OpInv bc B base w0 v L w) (x : Od) (hbase : w0.heap.size ≤ base) (hB : B ≤ base)
    (ho : w'.ownsRow base 75 5 v' (L.length + 1) (odCells L ++ x.cells)) (hg : (w.alloc O).grownBy w' v.ownBlock) : OpInv bc B base w0 v' (L ++ [x]) w' := by
  have hlt := h.own.lt
  exact ⟨by rw [odCells_snoc]; simpa using ho, (h.mv.alloc O).grown hg hbase (fun kk e => (hlt kk e).1), (h.ok.alloc O).grown hg hB (fun kk e => (hlt kk e).1)⟩
theorem own_mv5 {bc base : Nat} {e : TypeId} {size : Nat} {v : Value} {n : Nat} {xs : List Value} {w w' : World} (h : w.ownsRow base e size v n xs) (hm : Mv bc w w') (hb : bc < base) : w'.ownsRow base e size v n xs := own_mv h hm hb
/-- The cells of an operand in an own row. -/
theorem own_od {w : World} {base : Nat} {v : Value} {L : List Od} (h : w.ownsRow base 75 5 v L.length (odCells L)) (i : Nat) (hi : i < L.length) : ∃ g c, v = .slice (some ⟨g, 0, none⟩) L.length c ∧ (w.cell? ⟨g, i * 5, none⟩ = some (.int .i64 L[i].k) ∧ w.cell? ⟨g, i * 5 + 1, none⟩ = some (.int .i64 L[i].i) ∧ w.cell? ⟨g, i * 5 + 2, none⟩ = some (.int .i64 L[i].v.k) ∧ w.cell? ⟨g, i * 5 + 3, none⟩ = some (.int .i64 L[i].v.n) ∧ w.cell? ⟨g, i * 5 + 4, none⟩ = some (.string L[i].v.s)) := by
  rcases h.2 with ⟨_, h0⟩ | ⟨g, cap, cur, rfl, hg, hgg, hnc, hcm, hcs, htake⟩
  · omega
  · have hlen := length_odCells L
    have hc : ∀ j, j < 5 → w.cell? ⟨g, i * 5 + j, none⟩ = (L[i].cells)[j]? := fun j hj => by
      have := h.cellAt (g := g) (i * 5 + j) (by omega)
      rw [odCells_at L i hi j hj] at this
      exact this
    exact ⟨g, cap, rfl, hc 0 (by omega), hc 1 (by omega), hc 2 (by omega), hc 3 (by omega), hc 4 (by omega)⟩
/-- An operand of a kind. -/
def GoodO (C Q : List Int) (kind : Int) (o : Od) : Prop := ofB C Q o = true ∧ ofK C Q o = kind
theorem good_col {C Q : List Int} {kind : Int} {k : Nat} (h : k < C.length) (hk : C[k] = kind) : GoodO C Q kind ⟨1, k, zV⟩ := by
  constructor
  · show (if (1 : Int) = 1 then inB C.length k && decide (zV = zV) else _) = true
    rw [if_pos rfl, inB_nat]; simp [h]
  · show (if (1 : Int) = 1 then atI C k else _) = kind
    rw [if_pos rfl, atI_in h, hk]
theorem good_par {C Q : List Int} {kind : Int} {k : Nat} (h : k < Q.length) (hk : Q[k] = kind) : GoodO C Q kind ⟨2, k, zV⟩ := by
  constructor
  · show (if (2 : Int) = 1 then _ else if (2 : Int) = 2 then inB Q.length k && decide (zV = zV) else _) = true
    rw [if_neg (by omega), if_pos rfl, inB_nat]; simp [h]
  · show (if (2 : Int) = 1 then _ else if (2 : Int) = 2 then atI Q k else _) = kind
    rw [if_neg (by omega), if_pos rfl, atI_in h, hk]
theorem good_val {C Q : List Int} {kind n : Int} {s : ByteArray} (h : realB kind n s = true) : GoodO C Q kind ⟨3, 0, ⟨kind, n, s⟩⟩ := by
  constructor
  · show (if (3 : Int) = 1 then _ else if (3 : Int) = 2 then _ else if (3 : Int) = 3 then ((0 : Int) == 0 && realV ⟨kind, n, s⟩) else _) = true
    rw [if_neg (by omega), if_neg (by omega), if_pos rfl]; show (_ && realB kind n s) = true; rw [h]; rfl
  · show (if (3 : Int) = 1 then _ else if (3 : Int) = 2 then _ else if (3 : Int) = 3 then kind else _) = kind
    rw [if_neg (by omega), if_neg (by omega), if_pos rfl]
def OperPost (bc B : Nat) (C Q : List Int) (kind : Int) (w : World) (e : Ending) (w' : World) : Prop := ∃ o : Od, e = .returned (.agg #[.int .i64 o.k, .int .i64 o.i, .int .i64 o.v.k, .int .i64 o.v.n, .string o.v.s]) ∧ GoodO C Q kind o ∧ Mv bc w w' ∧ CaseOk bc B w'

set_option maxRecDepth 100000 in
set_option maxHeartbeats 4000000 in
theorem cOperand_any (bc B lo : Nat) (C Q : List Int) (cv qv : Value) (kind : Int) (w : World) (h : CaseOk bc B w) (hkind : kind = 3 ∨ kind = 4 ∨ kind = 5) (hcl : C.length ≤ 5) (hql : Q.length ≤ 5) (hcv : IntsG lo w cv C) (hqv : IntsG lo w qv Q) (hlo : bc < lo) : Calls Try.prog 81 #[.pointer (some ⟨bc, 0, none⟩), cv, qv, .int .i64 kind] w (OperPost bc B C Q kind w) := by
  have hinfo : (Try.prog.info? 75).map (fun i => (i.zero, i.size, i.bytes)) = some (some (.agg #[.int .i64 0, .int .i64 0, .int .i64 0, .int .i64 0, .string ⟨#[]⟩]), 5, 48) := by kernel_rfl
  obtain ⟨i0, hi, hz0, hz1, hz2⟩ := info_parts hinfo
  have HI := Lib.hid hi
  have HZ0 := Lib.hid hz0
  have HZ1 := Lib.hid hz1
  have HZ2 := Lib.hid hz2
  have hbl := h.lt
  have HCV := Lib.hid hcv
  have HQV := Lib.hid hqv
  obtain ⟨ca, cc, rfl⟩ := hcv.shape
  obtain ⟨qa, qc, rfl⟩ := hqv.shape
  obtain ⟨m, hm⟩ : ∃ m, C.length = m := ⟨_, rfl⟩
  obtain ⟨mq, hmq⟩ : ∃ mq, Q.length = mq := ⟨_, rfl⟩
  have HM := Lib.hid hm
  have HMQ := Lib.hid hmq
  rw [hm] at hcl ⊢
  rw [hmq] at hql ⊢
  have HO := Lib.hid h
  have HKIND := Lib.hid hkind
  clear hi hz0 hz1 hz2 hinfo h hcv hqv hm hmq hkind
  go_enter Try.func81, Try.ntmps81
  go_wp2_with fail
  obtain ⟨wq, hwq⟩ : ∃ wq, w.alloc (.cells #[.int .i64 0, .int .i64 0, .int .i64 0, .int .i64 0, .string ⟨#[]⟩] 75) = wq := ⟨_, rfl⟩
  have hbq : Below w.heap.size w wq := by rw [← hwq]; exact (Below.refl _ _).alloc (Nat.le_refl _) _
  have hr0 : wq.cell? ⟨w.heap.size, 0, none⟩ = some (.int .i64 0) := by subst hwq; go_simp
  have hr1 : wq.cell? ⟨w.heap.size, 1, none⟩ = some (.int .i64 0) := by subst hwq; go_simp
  have hr2 : wq.cell? ⟨w.heap.size, 2, none⟩ = some (.int .i64 0) := by subst hwq; go_simp
  have hr3 : wq.cell? ⟨w.heap.size, 3, none⟩ = some (.int .i64 0) := by subst hwq; go_simp
  have hr4 : wq.cell? ⟨w.heap.size, 4, none⟩ = some (.string ⟨#[]⟩) := by subst hwq; go_simp
  have hrf : ∀ j, wq.frozen? ⟨w.heap.size, j, none⟩ = false := fun j => by subst hwq; go_simp
  have hzq : wq.heap.size = w.heap.size + 1 := by rw [← hwq]; simp
  have MW : Hid (Mv bc w wq) := Mv.of_below hbq
  have HOQ : Hid (CaseOk bc B wq) := HO.out.below hbq hbl.2
  have HRC : Hid (∀ W, Mv bc wq W → (W.cell? ⟨w.heap.size, 0, none⟩ = some (.int .i64 0) ∧ W.cell? ⟨w.heap.size, 1, none⟩ = some (.int .i64 0) ∧ W.cell? ⟨w.heap.size, 2, none⟩ = some (.int .i64 0) ∧ W.cell? ⟨w.heap.size, 3, none⟩ = some (.int .i64 0) ∧ W.cell? ⟨w.heap.size, 4, none⟩ = some (.string ⟨#[]⟩)) ∧ ∀ j, W.frozen? ⟨w.heap.size, j, none⟩ = false) := fun W hm => by
    have e : W.heap[w.heap.size]? = wq.heap[w.heap.size]? := hm.block _ (by omega) (by omega)
    have ec : ∀ j, W.cell? ⟨w.heap.size, j, none⟩ = wq.cell? ⟨w.heap.size, j, none⟩ := fun j => World.cell?_of_block (w := wq) (a := ⟨w.heap.size, j, none⟩) e
    exact ⟨⟨(ec 0).trans hr0, (ec 1).trans hr1, (ec 2).trans hr2, (ec 3).trans hr3, (ec 4).trans hr4⟩, fun j => (World.frozen?_of_block (w := wq) (a := ⟨w.heap.size, j, none⟩) e).trans (hrf j)⟩
  have HCQ : Hid (IntsG lo wq (.slice ca m cc) C) := by have := HCV.out.below hbq; rwa [HM.out] at this
  have HQQ : Hid (IntsG lo wq (.slice qa mq qc) Q) := by have := HQV.out.below hbq; rwa [HMQ.out] at this
  rw [hwq]
  clear hwq hr0 hr1 hr2 hr3 hr4 hrf hbq HCV HQV HO

  go_loopw [9, 17] (fun v i wr => ∃ (k : Nat) (L : List Od), k ≤ m ∧ i = .int .i64 k ∧ Hid (L.length ≤ k) ∧ Hid (∀ o ∈ L, GoodO C Q kind o) ∧ Hid (OpInv bc B wq.heap.size wq v L wr)) (fun _ i _ => m - (intOf i).toNat)
  case atStart => exact ⟨0, [], by omega, rfl, by (show _ ≤ _); simp, fun o ho => by simp at ho, ⟨⟨by simp [odCells], .inl ⟨rfl, rfl⟩⟩, Mv.refl _ _, HOQ.out⟩⟩
  case round =>
    obtain ⟨k, L, hk, rfl, HLE, HL, HX0⟩ := hrel
    clear HOQ
    obtain ⟨va, vc, hv5⟩ := own_slice HX0.out.own
    subst hv5
    by_cases hlt : k < m
    · have hlt' : (k : Int) < m := by omega
      have hkn : k < C.length := by rw [HM.out]; exact hlt
      obtain ⟨a', c', e', hf', hcell⟩ := HCQ.out.mv HX0.out.mv hlo
      rw [HM.out] at e'
      simp only [Value.slice.injEq] at e'
      obtain ⟨rfl, -, rfl⟩ := e'
      obtain ⟨kb, koff, rfl, -, hkb, c0⟩ := hcell k hkn
      have HGD : Hid (C[k] = kind → GoodO C Q kind ⟨1, k, zV⟩) := fun e => good_col hkn e
      generalize C[k] = kk at *
      clear hcell hf'
      cases hb : (kk == kind) with
      | true =>
        have HGO : Hid (∀ o ∈ L ++ [⟨1, k, zV⟩], GoodO C Q kind o) := fun o ho => by
          rw [List.mem_append] at ho
          rcases ho with ho | ho
          · exact HL.out o ho
          · simp only [List.mem_singleton] at ho; subst ho; exact HGD.out (by simpa using hb)
        have hl10 : L.length ≤ 10 := by have := HLE.out; omega
        have A1 : Hid (L.length + 1 ≤ maxLen) := by show _ ≤ _; unfold maxLen; omega
        have A2 : Hid ((L.length + 1) * 48 ≤ 140737488355328) := by show _ ≤ _; omega
        have hsW : wq.heap.size ≤ wr.heap.size := HX0.out.mv.size
        have A3 : Hid (∀ O : Obj, wq.heap.size ≤ (wr.alloc O).heap.size) := fun O => by simp; omega
        have A4 : Hid (∀ t (j : Nat) (u : Value), ([.int .i64 1, .int .i64 k, .int .i64 0, .int .i64 0, .string ⟨#[]⟩] : List Value)[j]? = some u → (wr.alloc (.cells #[.int .i64 1, .int .i64 k, .int .i64 0, .int .i64 0, .string ⟨#[]⟩] t)).cell? ((⟨wr.heap.size, 0, none⟩ : Addr).add j) = some u) := fun t => cells5 wr _ _ _ _ _ t
        have A5 : Hid (∀ u ∈ ([.int .i64 1, .int .i64 k, .int .i64 0, .int .i64 0, .string ⟨#[]⟩] : List Value), u.oneCell' = true) := one5 _ _ _ _ _
        have A6 : Hid (∀ (O : Obj) (v' : Value) (w2 : World), w2.ownsRow wq.heap.size 75 5 v' (L.length + 1) (odCells L ++ [.int .i64 1, .int .i64 k, .int .i64 0, .int .i64 0, .string ⟨#[]⟩]) → (wr.alloc O).grownBy w2 (Value.slice va L.length vc).ownBlock → OpInv bc B wq.heap.size wq v' (L ++ [⟨1, k, zV⟩]) w2) := fun O v' w2 h1 h2 => HX0.out.app ⟨1, k, zV⟩ (Nat.le_refl _) (by omega) h1 h2
        go_wp2_with (at_builtin; refine wpList_append_own _ rfl _ _ 140 rfl wq.heap.size 75 i0 (.agg #[.int .i64 0, .int .i64 0, .int .i64 0, .int .i64 0, .string ⟨#[]⟩]) 5 48 Try.underlying140 HI.out HZ0.out HZ1.out HZ2.out rfl (by decide) _ _ _ rfl (HX0.out.own.alloc _) ⟨wr.heap.size, 0, none⟩ 1 1 [.int .i64 1, .int .i64 k, .int .i64 0, .int .i64 0, .string ⟨#[]⟩] rfl rfl (A4.out _) A5.out A1.out A2.out (A3.out _) ?_; intro v' w2 hown2 hgr _; have HX := Lib.hid (A6.out _ v' w2 hown2 hgr); clear hown2 hgr)
        go_roundw
        case rel => exact ⟨k + 1, L ++ [⟨1, k, zV⟩], by omega, by go_num, by (show _ ≤ _); have := HLE.out; simp; omega, HGO, HX⟩
        case measure => simp [intOf]; omega
      | false =>
        go_wp2_with fail
        go_roundw
        case rel => exact ⟨k + 1, L, by omega, by go_num, by (show _ ≤ _); have := HLE.out; omega, HL, HX0⟩
        case measure => simp [intOf]; omega
    · have HL5 : Hid (L.length ≤ 5) := by show _ ≤ _; have := HLE.out; omega
      go_wp2_with fail
      obtain ⟨L1, hL1⟩ : ∃ L1, L = L1 := ⟨_, rfl⟩
      go_loopw [9, 33] (fun v i wr => ∃ (k : Nat) (L : List Od), k ≤ mq ∧ i = .int .i64 k ∧ Hid (L.length ≤ 5 + k) ∧ Hid (∀ o ∈ L, GoodO C Q kind o) ∧ Hid (OpInv bc B wq.heap.size wq v L wr)) (fun _ i _ => mq - (intOf i).toNat)
      case atStart => exact ⟨0, L, by omega, rfl, HL5.out, HL.out, HX0.out⟩
      case round =>
        clear hL1 HL5 HLE HL HX0 hlt hk
        obtain ⟨k, L, hk, rfl, HLE, HL, HX0⟩ := hrel
        obtain ⟨va, vc, hv5⟩ := own_slice HX0.out.own
        subst hv5
        by_cases hlt : k < mq
        · have hlt' : (k : Int) < mq := by omega
          have hkn : k < Q.length := by rw [HMQ.out]; exact hlt
          obtain ⟨a', c', e', hf', hcell⟩ := HQQ.out.mv HX0.out.mv hlo
          rw [HMQ.out] at e'
          simp only [Value.slice.injEq] at e'
          obtain ⟨rfl, -, rfl⟩ := e'
          obtain ⟨kb, koff, rfl, -, hkb, c0⟩ := hcell k hkn
          have HGD : Hid (Q[k] = kind → GoodO C Q kind ⟨2, k, zV⟩) := fun e => good_par hkn e
          generalize Q[k] = kk at *
          clear hcell hf'
          cases hb : (kk == kind) with
          | true =>
            have HGO : Hid (∀ o ∈ L ++ [⟨2, k, zV⟩], GoodO C Q kind o) := fun o ho => by
              rw [List.mem_append] at ho
              rcases ho with ho | ho
              · exact HL.out o ho
              · simp only [List.mem_singleton] at ho; subst ho; exact HGD.out (by simpa using hb)
            have hl10 : L.length ≤ 10 := by have := HLE.out; omega
            have A1 : Hid (L.length + 1 ≤ maxLen) := by show _ ≤ _; unfold maxLen; omega
            have A2 : Hid ((L.length + 1) * 48 ≤ 140737488355328) := by show _ ≤ _; omega
            have hsW : wq.heap.size ≤ wr.heap.size := HX0.out.mv.size
            have A3 : Hid (∀ O : Obj, wq.heap.size ≤ (wr.alloc O).heap.size) := fun O => by simp; omega
            have A4 : Hid (∀ t (j : Nat) (u : Value), ([.int .i64 2, .int .i64 k, .int .i64 0, .int .i64 0, .string ⟨#[]⟩] : List Value)[j]? = some u → (wr.alloc (.cells #[.int .i64 2, .int .i64 k, .int .i64 0, .int .i64 0, .string ⟨#[]⟩] t)).cell? ((⟨wr.heap.size, 0, none⟩ : Addr).add j) = some u) := fun t => cells5 wr _ _ _ _ _ t
            have A5 : Hid (∀ u ∈ ([.int .i64 2, .int .i64 k, .int .i64 0, .int .i64 0, .string ⟨#[]⟩] : List Value), u.oneCell' = true) := one5 _ _ _ _ _
            have A6 : Hid (∀ (O : Obj) (v' : Value) (w2 : World), w2.ownsRow wq.heap.size 75 5 v' (L.length + 1) (odCells L ++ [.int .i64 2, .int .i64 k, .int .i64 0, .int .i64 0, .string ⟨#[]⟩]) → (wr.alloc O).grownBy w2 (Value.slice va L.length vc).ownBlock → OpInv bc B wq.heap.size wq v' (L ++ [⟨2, k, zV⟩]) w2) := fun O v' w2 h1 h2 => HX0.out.app ⟨2, k, zV⟩ (Nat.le_refl _) (by omega) h1 h2
            go_wp2_with (at_builtin; refine wpList_append_own _ rfl _ _ 140 rfl wq.heap.size 75 i0 (.agg #[.int .i64 0, .int .i64 0, .int .i64 0, .int .i64 0, .string ⟨#[]⟩]) 5 48 Try.underlying140 HI.out HZ0.out HZ1.out HZ2.out rfl (by decide) _ _ _ rfl (HX0.out.own.alloc _) ⟨wr.heap.size, 0, none⟩ 1 1 [.int .i64 2, .int .i64 k, .int .i64 0, .int .i64 0, .string ⟨#[]⟩] rfl rfl (A4.out _) A5.out A1.out A2.out (A3.out _) ?_; intro v' w2 hown2 hgr _; have HX := Lib.hid (A6.out _ v' w2 hown2 hgr); clear hown2 hgr)
            go_roundw
            case rel => exact ⟨k + 1, L ++ [⟨2, k, zV⟩], by omega, by go_num, by (show _ ≤ _); have := HLE.out; simp; omega, HGO, HX⟩
            case measure => simp [intOf]; omega
          | false =>
            go_wp2_with fail
            go_roundw
            case rel => exact ⟨k + 1, L, by omega, by go_num, by (show _ ≤ _); have := HLE.out; omega, HL, HX0⟩
            case measure => simp [intOf]; omega
        · obtain ⟨n, hn⟩ : ∃ n, L.length = n := ⟨_, rfl⟩
          have HN := Lib.hid hn
          have hn10 : n ≤ 10 := by have := HLE.out; omega
          have HX1 := HX0
          rw [hn]
          have HCI := Lib.hid (cInt_any bc B ((n : Int) + 1) wr (by omega) (by omega) HX0.out.ok)
          clear hn HLE
          go_wp2_with fail
          refine HCI.out.mono ?_
          rintro e w1 ⟨r, rfl, hr0, hr1, hm1, ho1⟩
          obtain ⟨r, rfl⟩ : ∃ q : Nat, r = q := ⟨r.toNat, by omega⟩
          have hown1 : w1.ownsRow wq.heap.size 75 5 (.slice va L.length vc) L.length (odCells L) := own_mv5 HX1.out.own hm1 (by omega)
          have M1 : Hid (Mv bc wq w1) := HX1.out.mv.trans hm1
          obtain ⟨⟨q0, q1, q2, q3, q4⟩, qf⟩ := HRC.out w1 M1.out
          have z1 : w.heap.size < w1.heap.size := by have := M1.out.size; omega
          by_cases hrn : r < n
          · have hrn' : (r : Int) < n := by omega
            have hrl : r < L.length := by rw [HN.out]; exact hrn
            obtain ⟨g, gc, e0, hcells⟩ := own_od hown1 r hrl
            rw [HN.out] at e0
            simp only [Value.slice.injEq] at e0
            obtain ⟨rfl, -, rfl⟩ := e0
            have HGD : Hid (GoodO C Q kind L[r]) := HL.out _ (List.getElem_mem _)
            obtain ⟨k0, k1, k2, k3, k4⟩ := hcells
            generalize L[r] = x at *
            obtain ⟨xk, xi, ⟨xvk, xvn, xvs⟩⟩ := x
            simp only at k0 k1 k2 k3 k4
            have HO1 := Lib.hid ho1
            clear hr1 hm1 ho1 HCI hown1 HX0 HX1 HL
            go_wp2_with fail
            have hfin : ∀ a0 a1 a2 a3 a4, Mv bc w (((((w1.setCell ⟨w.heap.size, 0, none⟩ a0).setCell ⟨w.heap.size, 1, none⟩ a1).setCell ⟨w.heap.size, 2, none⟩ a2).setCell ⟨w.heap.size, 3, none⟩ a3).setCell ⟨w.heap.size, 4, none⟩ a4) := fun a0 a1 a2 a3 a4 => (((((MW.out.trans M1.out).setNew (Nat.le_refl _) _ _).setNew (Nat.le_refl _) _ _).setNew (Nat.le_refl _) _ _).setNew (Nat.le_refl _) _ _).setNew (Nat.le_refl _) _ _
            have hfok : ∀ a0 a1 a2 a3 a4, CaseOk bc B (((((w1.setCell ⟨w.heap.size, 0, none⟩ a0).setCell ⟨w.heap.size, 1, none⟩ a1).setCell ⟨w.heap.size, 2, none⟩ a2).setCell ⟨w.heap.size, 3, none⟩ a3).setCell ⟨w.heap.size, 4, none⟩ a4) := fun a0 a1 a2 a3 a4 => ((((HO1.out.setNew hbl.2 _ _).setNew hbl.2 _ _).setNew hbl.2 _ _).setNew hbl.2 _ _).setNew hbl.2 _ _
            refine bodyPost_ret (v := .agg #[.int .i64 xk, .int .i64 xi, .int .i64 xvk, .int .i64 xvn, .string xvs]) ?_ rfl ?_
            · simp [results, Try.results81, go_sem, q0, q1, q2, q3, q4]
            · exact ⟨⟨xk, xi, ⟨xvk, xvn, xvs⟩⟩, rfl, HGD.out, hfin _ _ _ _ _, hfok _ _ _ _ _⟩
          · have drn : decide ((r : Int) < n) = false := by simp; omega
            have HVV := Lib.hid (cValue_any bc B kind w1 HKIND.out ho1)
            clear hr1 hm1 ho1 HCI hown1 HX0 HX1 HL q0 q1 q2 q3 q4 qf
            go_wp2_with fail
            refine HVV.out.mono ?_
            rintro e w2 ⟨vn, vs, rfl, hvld, -, -, hm2, ho2⟩
            have HG : Hid (GoodO C Q kind ⟨3, 0, ⟨kind, vn, vs⟩⟩) := good_val (by unfold realB; rw [hvld]; have := HKIND.out; simp; omega)
            have M2 : Hid (Mv bc wq w2) := M1.out.trans hm2
            have HO2 := Lib.hid ho2
            obtain ⟨⟨q0, q1, q2, q3, q4⟩, qf⟩ := HRC.out w2 M2.out
            have z2 : w.heap.size < w2.heap.size := by have := M2.out.size; omega
            clear hm2 ho2 hvld HVV
            go_wp2_with fail
            have hfin : ∀ a0 a1 a2 a3 a4, Mv bc w (((((w2.setCell ⟨w.heap.size, 0, none⟩ a0).setCell ⟨w.heap.size, 1, none⟩ a1).setCell ⟨w.heap.size, 2, none⟩ a2).setCell ⟨w.heap.size, 3, none⟩ a3).setCell ⟨w.heap.size, 4, none⟩ a4) := fun a0 a1 a2 a3 a4 => (((((MW.out.trans M2.out).setNew (Nat.le_refl _) _ _).setNew (Nat.le_refl _) _ _).setNew (Nat.le_refl _) _ _).setNew (Nat.le_refl _) _ _).setNew (Nat.le_refl _) _ _
            have hfok : ∀ a0 a1 a2 a3 a4, CaseOk bc B (((((w2.setCell ⟨w.heap.size, 0, none⟩ a0).setCell ⟨w.heap.size, 1, none⟩ a1).setCell ⟨w.heap.size, 2, none⟩ a2).setCell ⟨w.heap.size, 3, none⟩ a3).setCell ⟨w.heap.size, 4, none⟩ a4) := fun a0 a1 a2 a3 a4 => ((((HO2.out.setNew hbl.2 _ _).setNew hbl.2 _ _).setNew hbl.2 _ _).setNew hbl.2 _ _).setNew hbl.2 _ _
            refine bodyPost_ret (v := .agg #[.int .i64 3, .int .i64 0, .int .i64 kind, .int .i64 vn, .string vs]) ?_ ?_ ?_
            · simp [results, Try.results81, go_sem, q0, q1, q2, q3, q4]
            · rfl
            · exact ⟨⟨3, 0, ⟨kind, vn, vs⟩⟩, rfl, HG.out, hfin _ _ _ _ _, hfok _ _ _ _ _⟩
end Go.Proofs.Ytjcbmeannhafjaa
