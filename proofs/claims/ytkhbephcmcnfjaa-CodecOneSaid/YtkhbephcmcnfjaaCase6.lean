/- Rows of up to thirteen valid cells out of a case. -/
import Derived.Test.YtkhbephcmcnfjaaCase5
import Derived.Test.YtkhbephcmcnfjaaPutRow
namespace Go.Proofs.Ytkhbephcmcnfjaa
open Go.RowKit Go.Deep

def CellsPostN (bc B m : Nat) (w : World) (e : Ending) (w' : World) : Prop := ∃ (v : Value) (l : List V), e = .returned v ∧ l.length = m ∧ vldL l = true ∧ (∀ x ∈ l, InR x) ∧ RowT w.heap.size w' v l ∧ Mv bc w w' ∧ CaseOk bc B w'

set_option maxRecDepth 100000 in
set_option maxHeartbeats 1000000 in
theorem cCells_n (bc B : Nat) (m : Nat) (w : World) (hm : m ≤ 13) (h : CaseOk bc B w) : Calls Try.prog 34 #[.pointer (some ⟨bc, 0, none⟩), .int .i64 m] w (CellsPostN bc B m w) := by
  have hinfo : (Try.prog.info? 42).map (fun i => (i.zero, i.size, i.bytes)) = some (some (.agg #[.int .i64 0, .int .i64 0, .string ⟨#[]⟩]), 3, 32) := by kernel_rfl
  obtain ⟨i0, hi, hz0, hz1, hz2⟩ := info_parts hinfo
  have HI := Lib.hid hi
  have HZ0 := Lib.hid hz0
  have HZ1 := Lib.hid hz1
  have HZ2 := Lib.hid hz2
  have HO := Lib.hid h
  have hBl := h.lt
  clear hi hz0 hz1 hz2 hinfo h
  go_enter Try.func34, Try.ntmps34
  go_wp2_with fail
  go_loopg [1, 5] m (fun g i v wr => ∃ (k : Nat) (l : List V), k ≤ g ∧ i = .int .i64 k ∧ Hid (k + l.length = m ∧ (vldL l = true ∧ ∀ x ∈ l, InR x) ∧ wr.ownsRow w.heap.size 42 3 v l.length (cellsOf l) ∧ Mv bc w wr ∧ CaseOk bc B wr))
  case atStart => exact ⟨m, [], by omega, rfl, by simp, ⟨rfl, fun x h => by simp at h⟩, ⟨by simp [cellsOf], .inl ⟨rfl, rfl⟩⟩, Mv.refl _ _, HO.out⟩
  case round =>
    obtain ⟨k, l, hk, rfl, hx⟩ := hrel
    by_cases h0 : k = 0
    · subst h0
      go_wp2_with fail
      go_ret
      obtain ⟨h1, h0, h2, h3, h4⟩ := hx.out
      exact ⟨_, l, rfl, by omega, h0.1, h0.2, rowT_own h2 (by omega), h3, h4⟩
    · have hkp : 0 < k := by omega
      have hk2 : k ≤ 13 := by have := hx.out.1; omega
      obtain ⟨va, vc, hv5⟩ := own_slice hx.out.2.2.1
      subst hv5
      have HA := Lib.hid (cAny_any bc B wr hx.out.2.2.2.2)
      have hws : w.heap.size ≤ wr.heap.size := hx.out.2.2.2.1.size
      go_wp2_with fail
      refine HA.out.mono ?_
      rintro e w1 ⟨ka, na, sa, rfl, hvl, hr1, hr2, hmv, hok⟩
      have HVL : Hid (vldL (l ++ [⟨ka, na, sa⟩]) = true ∧ ∀ x ∈ l ++ [(⟨ka, na, sa⟩ : V)], InR x) := by
        refine ⟨?_, fun x hx2 => ?_⟩
        · have := hx.out.2.1.1
          unfold vldL at this ⊢
          rw [List.all_append, this]
          simp [hvl]
        · rw [List.mem_append] at hx2
          rcases hx2 with h | h
          · exact hx.out.2.1.2 x h
          · simp only [List.mem_singleton] at h
            subst h
            exact ⟨hr1, hr2⟩
      clear hvl hr1 hr2
      have hkr : ∀ kk, Value.ownBlock (.slice va l.length vc) = some kk → w.heap.size ≤ kk ∧ kk < wr.heap.size := hx.out.2.2.1.lt
      have hown1 : w1.ownsRow w.heap.size 42 3 (.slice va l.length vc) l.length (cellsOf l) := by
        refine hx.out.2.2.1.kept (row := some bc) ⟨hmv.os, hmv.tape, hmv.output, hmv.size, fun b hb hn => hmv.block b hb (fun e => hn (by rw [e]))⟩ ?_
        cases hob : Value.ownBlock (.slice va l.length vc) with
        | none => exact .inl rfl
        | some kk => right; intro e; simp only [Option.some.injEq] at e; have := (hkr kk hob).1; omega
      have HX1 : Hid (w1.ownsRow w.heap.size 42 3 (.slice va l.length vc) l.length (cellsOf l) ∧ Mv bc w w1 ∧ CaseOk bc B w1) := ⟨hown1, hx.out.2.2.2.1.trans hmv, hok⟩
      have hws1 : w.heap.size ≤ w1.heap.size := Nat.le_trans hws hmv.size
      have hll : l.length < 13 := by have := hx.out.1; omega
      clear HA hmv hok hown1 hkr
      have A1 : Hid (l.length + 1 ≤ maxLen) := by show _ ≤ _; unfold maxLen; omega
      have A2 : Hid ((l.length + 1) * 32 ≤ 140737488355328) := by show _ ≤ _; omega
      have A3 : Hid (∀ O : Obj, w.heap.size ≤ (w1.alloc O).heap.size) := fun O => by simp; omega
      have A4 : Hid (∀ (t : TypeId) (j : Nat) (u : Value), ([.int .i64 ka, .int .i64 na, .string sa] : List Value)[j]? = some u → (w1.alloc (.cells #[.int .i64 ka, .int .i64 na, .string sa] t)).cell? ((⟨w1.heap.size, 0, none⟩ : Addr).add j) = some u) := by
        intro t j u hj
        have ha : (⟨w1.heap.size, 0, none⟩ : Addr).add j = ⟨w1.heap.size, j, none⟩ := by unfold Addr.add; split <;> simp_all
        rw [ha]
        have := World.cell?_alloc_mark w1 #[.int .i64 ka, .int .i64 na, .string sa] t (0, 0) j
        refine this.trans ?_
        rw [← hj]; simp
      have A5 : Hid (∀ u ∈ ([.int .i64 ka, .int .i64 na, .string sa] : List Value), u.oneCell' = true) := by
        intro u hu
        simp only [List.mem_cons, List.not_mem_nil, or_false] at hu
        rcases hu with rfl | rfl | rfl <;> rfl
      go_wp2_with (at_builtin; refine wpList_append_own _ rfl _ _ 25 rfl w.heap.size 42 i0 (.agg #[.int .i64 0, .int .i64 0, .string ⟨#[]⟩]) 3 32 Try.underlying25 HI.out HZ0.out HZ1.out HZ2.out rfl (by decide) _ _ _ rfl (HX1.out.1.alloc _) ⟨w1.heap.size, 0, none⟩ 1 1 [.int .i64 ka, .int .i64 na, .string sa] rfl rfl (A4.out _) A5.out A1.out A2.out (A3.out _) ?_; intro v' w2 hown2 hgr _; have HOWN := Lib.hid hown2; have HGR := Lib.hid hgr; clear hown2 hgr)
      go_roundg (k - 1)
      case measure => omega
      case rel =>
        have hkr1 := HX1.out.1.lt
        refine ⟨k - 1, l ++ [⟨ka, na, sa⟩], Nat.le_refl _, by go_num, ?_⟩
        refine ⟨by have := hx.out.1; simp; omega, HVL.out, ?_, ?_, ?_⟩
        · rw [cellsOf_snoc]
          have := HOWN.out
          simpa using this
        · exact (HX1.out.2.1.alloc _).grown HGR.out (Nat.le_refl _) (fun kk e => (hkr1 kk e).1)
        · exact (HX1.out.2.2.alloc _).grown HGR.out hBl.2 (fun kk e => (hkr1 kk e).1)
end Go.Proofs.Ytkhbephcmcnfjaa
