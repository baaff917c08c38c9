/- Walks over partsynccase: Bool, Cells. -/
import Derived.Test.YtkhbephcmcnfjaaCase4
import Derived.Test.YtkhbephcmcnfjaaCopy
namespace Go.Proofs.Ytkhbephcmcnfjaa
open Go.RowKit

def BoolPost (bc B : Nat) (w : World) (e : Ending) (w' : World) : Prop := ∃ x : Bool, e = .returned (.bool x) ∧ Mv bc w w' ∧ CaseOk bc B w'

set_option maxHeartbeats 400000 in
theorem cBool_any (bc B : Nat) (w : World) (h : CaseOk bc B w) : Calls Try.prog 52 #[.pointer (some ⟨bc, 0, none⟩), .int .i64 3] w (BoolPost bc B w) := by
  have HI := Lib.hid (cInt_any bc B 3 w (by omega) (by omega) h)
  clear h
  go_enter Try.func52, Try.ntmps52
  go_wp2_with fail
  refine HI.out.mono ?_
  rintro e w1 ⟨r, rfl, hr0, hr1, hm, ho⟩
  clear HI
  go_wp2_with fail
  go_ret
  exact ⟨_, rfl, hm, ho⟩

/-- A slice value reads as a row whose cells stand in blocks of values from lo on. -/
def RowT (lo : Nat) (w : World) (v : Value) (l : List V) : Prop :=
  ∃ (a : Option Addr) (c : Nat), v = .slice a l.length c ∧ l.length ≤ 4398046511104 ∧
    ∀ i (h : i < l.length), ∃ b off cur fr, a = some ⟨b, off, none⟩ ∧ lo ≤ b ∧ w.heap[b]? = some (.cells cur 42 fr) ∧ CellsV w b (off + i * 3) l[i]
theorem CellsV.same {w w' : World} {b o : Nat} {v : V} (hb : w'.heap[b]? = w.heap[b]?) (h : CellsV w b o v) : CellsV w' b o v :=
  ⟨(World.cell?_of_block (w := w) (a := ⟨b, o, none⟩) hb).trans h.1, (World.cell?_of_block (w := w) (a := ⟨b, o + 1, none⟩) hb).trans h.2.1, (World.cell?_of_block (w := w) (a := ⟨b, o + 2, none⟩) hb).trans h.2.2⟩
theorem RowT.keep {lo : Nat} {w w' : World} {v : Value} {l : List V} (h : RowT lo w v l) (hk : ∀ b cur fr, lo ≤ b → w.heap[b]? = some (.cells cur 42 fr) → w'.heap[b]? = w.heap[b]?) : RowT lo w' v l := by
  obtain ⟨a, c, e, hn, hi⟩ := h
  refine ⟨a, c, e, hn, fun i h' => ?_⟩
  obtain ⟨b, off, cur, fr, ea, hl, hh, hc⟩ := hi i h'
  have hs := hk b cur fr hl hh
  exact ⟨b, off, cur, fr, ea, hl, hs.trans hh, hc.same hs⟩
theorem RowT.mv {lo bc : Nat} {w w' : World} {v : Value} {l : List V} (h : RowT lo w v l) (hm : Mv bc w w') (hb : bc < lo) : RowT lo w' v l :=
  h.keep fun b _ _ hl hh => hm.block b (Array.getElem?_eq_some_iff.1 hh).1 (by omega)
theorem RowT.below {lo : Nat} {w w' : World} {v : Value} {l : List V} (h : RowT lo w v l) (hm : Below w.heap.size w w') : RowT lo w' v l :=
  h.keep fun b _ _ _ hh => hm.block b (Array.getElem?_eq_some_iff.1 hh).1
theorem RowT.rowB {lo : Nat} {w : World} {v : Value} {l : List V} (h : RowT lo w v l) : RowB w.heap.size w v l := by
  obtain ⟨a, c, e, hn, hi⟩ := h
  refine ⟨a, c, e, hn, fun i h' => ?_⟩
  obtain ⟨b, off, cur, fr, ea, hl, hh, hc⟩ := hi i h'
  exact ⟨b, off, ea, (Array.getElem?_eq_some_iff.1 hh).1, hc⟩
theorem RowT.nil (lo : Nat) (w : World) : RowT lo w (.slice none 0 0) [] := ⟨none, 0, rfl, by simp, fun i h => absurd h (by simp)⟩
/-- What the call owns as a row of values reads as one. -/
theorem rowT_own {w : World} {base : Nat} {v : Value} {l : List V} (h : w.ownsRow base 42 3 v l.length (cellsOf l)) (hl : l.length ≤ 4398046511104) : RowT base w v l := by
  rcases h.2 with ⟨rfl, h0⟩ | ⟨g, cap, cur, rfl, hg, hgg, hnc, hcm, hcs, htake⟩
  · have : l = [] := List.eq_nil_of_length_eq_zero h0
    subst this
    exact RowT.nil _ _
  · refine ⟨some ⟨g, 0, none⟩, cap, rfl, hl, fun i hi => ⟨g, 0, cur, (0, 0), rfl, hg, hgg, ?_⟩⟩
    obtain ⟨d0, d1, d2⟩ := cellsOf_at l i hi
    unfold CellsV
    rw [Nat.zero_add]
    exact ⟨(h.cellAt _ (by omega)).trans d0, (h.cellAt _ (by omega)).trans d1, (h.cellAt _ (by omega)).trans d2⟩

theorem Mv.grown {bc base : Nat} {a w w' : World} {row : Option Nat} (h : Mv bc a w) (hg : w.grownBy w' row) (ha : a.heap.size ≤ base) (hr : ∀ k, row = some k → base ≤ k) : Mv bc a w' :=
  ⟨hg.os.trans h.os, hg.tape.trans h.tape, hg.output.trans h.output, Nat.le_trans h.size hg.size, fun k hk hn => (hg.block k (Nat.lt_of_lt_of_le hk h.size) (fun e => by have := hr k e.symm; omega)).trans (h.block k hk hn)⟩
theorem CaseOk.grown {bc B base : Nat} {w w' : World} {row : Option Nat} (h : CaseOk bc B w) (hg : w.grownBy w' row) (hb : B ≤ base) (hr : ∀ k, row = some k → base ≤ k) : CaseOk bc B w' :=
  h.below (B' := B) ⟨hg.os, hg.tape, hg.output, hg.size, fun k hk => hg.block k (by have := h.lt.2; omega) (fun e => by have := hr k e.symm; omega)⟩ (Nat.le_refl _)

def CellsPost (bc B : Nat) (w : World) (e : Ending) (w' : World) : Prop := ∃ (v : Value) (l : List V), e = .returned v ∧ l.length ≤ 2 ∧ RowT w.heap.size w' v l ∧ Mv bc w w' ∧ CaseOk bc B w'

theorem cellsOf_snoc (l : List V) (k n : Int) (s : ByteArray) : cellsOf (l ++ [⟨k, n, s⟩]) = cellsOf l ++ [.int .i64 k, .int .i64 n, .string s] := by
  unfold cellsOf; simp [V.cells]

set_option maxHeartbeats 1000000 in
theorem cCells_any (bc B : Nat) (m : Nat) (w : World) (hm : m ≤ 2) (h : CaseOk bc B w) : Calls Try.prog 34 #[.pointer (some ⟨bc, 0, none⟩), .int .i64 m] w (CellsPost bc B w) := by
  have hinfo : (Try.prog.info? 42).map (fun i => (i.zero, i.size, i.bytes)) = some (some (.agg #[.int .i64 0, .int .i64 0, .string ⟨#[]⟩]), 3, 32) := by kernel_rfl
  obtain ⟨i0, hi, hz0, hz1, hz2⟩ := info_parts hinfo
  have HI := Lib.hid hi
  have HZ0 := Lib.hid hz0
  have HZ1 := Lib.hid hz1
  have HZ2 := Lib.hid hz2
  have HO := Lib.hid h
  have hBl := h.lt
  clear hi hz0 hz1 hz2 hinfo h
  go_enter Try.func34, Try.ntmps34
  go_wp2_with fail
  go_loopg [1, 5] m (fun g i v wr => ∃ (k : Nat) (l : List V), k ≤ g ∧ i = .int .i64 k ∧ Hid (k + l.length = m ∧ wr.ownsRow w.heap.size 42 3 v l.length (cellsOf l) ∧ Mv bc w wr ∧ CaseOk bc B wr))
  case atStart => exact ⟨m, [], by omega, rfl, by simp, ⟨by simp [cellsOf], .inl ⟨rfl, rfl⟩⟩, Mv.refl _ _, HO.out⟩
  case round =>
    obtain ⟨k, l, hk, rfl, hx⟩ := hrel
    by_cases h0 : k = 0
    · subst h0
      go_wp2_with fail
      go_ret
      obtain ⟨h1, h2, h3, h4⟩ := hx.out
      exact ⟨_, l, rfl, by omega, rowT_own h2 (by omega), h3, h4⟩
    · have hkp : 0 < k := by omega
      have hk2 : k ≤ 2 := by have := hx.out.1; omega
      obtain ⟨va, vc, hv5⟩ := own_slice hx.out.2.1
      subst hv5
      have HA := Lib.hid (cAny_any bc B wr hx.out.2.2.2)
      have hws : w.heap.size ≤ wr.heap.size := hx.out.2.2.1.size
      go_wp2_with fail
      refine HA.out.mono ?_
      rintro e w1 ⟨ka, na, sa, rfl, _, _, _, hmv, hok⟩
      have hkr : ∀ kk, Value.ownBlock (.slice va l.length vc) = some kk → w.heap.size ≤ kk ∧ kk < wr.heap.size := hx.out.2.1.lt
      have hown1 : w1.ownsRow w.heap.size 42 3 (.slice va l.length vc) l.length (cellsOf l) := by
        refine hx.out.2.1.kept (row := some bc) ⟨hmv.os, hmv.tape, hmv.output, hmv.size, fun b hb hn => hmv.block b hb (fun e => hn (by rw [e]))⟩ ?_
        cases hob : Value.ownBlock (.slice va l.length vc) with
        | none => exact .inl rfl
        | some kk => right; intro e; simp only [Option.some.injEq] at e; have := (hkr kk hob).1; omega
      have HX1 : Hid (w1.ownsRow w.heap.size 42 3 (.slice va l.length vc) l.length (cellsOf l) ∧ Mv bc w w1 ∧ CaseOk bc B w1) := ⟨hown1, hx.out.2.2.1.trans hmv, hok⟩
      have hws1 : w.heap.size ≤ w1.heap.size := Nat.le_trans hws hmv.size
      have hll : l.length < 2 := by have := hx.out.1; omega
      clear HA hmv hok hown1 hkr
      have A1 : Hid (l.length + 1 ≤ maxLen) := by show _ ≤ _; unfold maxLen; omega
      have A2 : Hid ((l.length + 1) * 32 ≤ 140737488355328) := by show _ ≤ _; omega
      have A3 : Hid (∀ O : Obj, w.heap.size ≤ (w1.alloc O).heap.size) := fun O => by simp; omega
      have A4 : Hid (∀ (t : TypeId) (j : Nat) (u : Value), ([.int .i64 ka, .int .i64 na, .string sa] : List Value)[j]? = some u → (w1.alloc (.cells #[.int .i64 ka, .int .i64 na, .string sa] t)).cell? ((⟨w1.heap.size, 0, none⟩ : Addr).add j) = some u) := by
        intro t j u hj
        have ha : (⟨w1.heap.size, 0, none⟩ : Addr).add j = ⟨w1.heap.size, j, none⟩ := by unfold Addr.add; split <;> simp_all
        rw [ha]
        have := World.cell?_alloc_mark w1 #[.int .i64 ka, .int .i64 na, .string sa] t (0, 0) j
        refine this.trans ?_
        rw [← hj]; simp
      have A5 : Hid (∀ u ∈ ([.int .i64 ka, .int .i64 na, .string sa] : List Value), u.oneCell' = true) := by
        intro u hu
        simp only [List.mem_cons, List.not_mem_nil, or_false] at hu
        rcases hu with rfl | rfl | rfl <;> rfl
      go_wp2_with (at_builtin; refine wpList_append_own _ rfl _ _ 25 rfl w.heap.size 42 i0 (.agg #[.int .i64 0, .int .i64 0, .string ⟨#[]⟩]) 3 32 Try.underlying25 HI.out HZ0.out HZ1.out HZ2.out rfl (by decide) _ _ _ rfl (HX1.out.1.alloc _) ⟨w1.heap.size, 0, none⟩ 1 1 [.int .i64 ka, .int .i64 na, .string sa] rfl rfl (A4.out _) A5.out A1.out A2.out (A3.out _) ?_; intro v' w2 hown2 hgr _; have HOWN := Lib.hid hown2; have HGR := Lib.hid hgr; clear hown2 hgr)
      go_roundg (k - 1)
      case measure => omega
      case rel =>
        have hkr1 := HX1.out.1.lt
        refine ⟨k - 1, l ++ [⟨ka, na, sa⟩], Nat.le_refl _, by go_num, ?_⟩
        refine ⟨by have := hx.out.1; simp; omega, ?_, ?_, ?_⟩
        · rw [cellsOf_snoc]
          have := HOWN.out
          simpa using this
        · exact (HX1.out.2.1.alloc _).grown HGR.out (Nat.le_refl _) (fun kk e => (hkr1 kk e).1)
        · exact (HX1.out.2.2.alloc _).grown HGR.out hBl.2 (fun kk e => (hkr1 kk e).1)
end Go.Proofs.Ytkhbephcmcnfjaa
