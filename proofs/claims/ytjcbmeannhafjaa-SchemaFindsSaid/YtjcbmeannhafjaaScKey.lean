
/- Key of the program: make and copy; the row may be longer than the key. -/
import Derived.Test.YtjcbmeannhafjaaScRKinds

import Derived.Test.YtjcbmeannhafjaaCopy

namespace Go.Proofs.Ytjcbmeannhafjaa

open Go.RowKit Go.Deep

theorem run_copy_cut {P : Program} (w : World) (dT sT ty elem : TypeId) (t : TypeId) (k n m dCap sCap : Nat) (a : Addr) (cur : Array Value) (cs : List Value)
    (hu : P.underlying dT = some (.slice elem)) (hs : (P.info? elem).map (·.size) = some k) (hn : cs.length = n * k) (hcur : cur.size = n * k) (hm : n ≤ m)
    (hsrc : ∀ j v, cs[j]? = some v → w.cell? (a.add j) = some v) (ha : a.block < w.heap.size) (h1 : ∀ v ∈ cs, v.oneCell' = true) :
    (Builtin.copy_ #[dT, sT] ty #[.slice (some ⟨w.heap.size, 0, none⟩) n dCap, .slice (some a) m sCap]).run P (w.alloc (.cells cur t (0, 0))) =
      .ok (goInt n) (w.alloc (.cells cs.toArray t (0, 0))) := by
  have hold : ∀ x : Addr, x.block < w.heap.size → (w.alloc (.cells cur t (0, 0))).cell? x = w.cell? x := fun x hx => ((Below.refl w.heap.size w).alloc (Nat.le_refl _) _).cell hx
  have hab : ∀ j, (a.add j).block = a.block := fun j => by unfold Addr.add; split <;> rfl
  have hl := run_loadCells_list (P := P) (w.alloc (.cells cur t (0, 0))) a cs (fun j v hj => by rw [hold _ (by rw [hab]; exact ha)]; exact hsrc j v hj)
  have hg : (w.alloc (.cells cur t (0, 0))).heap[w.heap.size]? = some (.cells cur t (0, 0)) := by
    show (w.heap.push (.cells cur t (0, 0)))[w.heap.size]? = _
    simp
  have hst := run_storeCells_at P w.heap.size 0 t cs 0 cur (w.alloc (.cells cur t (0, 0))) hg (by simp; omega) h1
  have e : (cur.toList.take (0 + 0) ++ cs ++ cur.toList.drop (0 + 0 + cs.length)).toArray = cs.toArray := by
    rw [List.drop_eq_nil_of_le (by simp; omega)]; simp
  rw [e, alloc_setRow] at hst
  rw [hn] at hl
  have hmn : min m n = n := Nat.min_eq_right hm
  cases hq : P.info? elem with
  | none => simp [hq] at hs
  | some i =>
    have hi : i.size = k := by simpa [hq] using hs
    simp [Builtin.copy_, run_underlying hu, Builtin.lenOf, Builtin.firstCells, sizeOf, typeInfo, hq, hi, hl, hst, hmn]
theorem run_copy_zero2 {P : Program} (w : World) (dT sT ty elem : TypeId) (k dCap sCap m : Nat) (d a : Option Addr) (hu : P.underlying dT = some (.slice elem)) (hs : (P.info? elem).map (·.size) = some k) :
    (Builtin.copy_ #[dT, sT] ty #[.slice d 0 dCap, .slice a m sCap]).run P w = .ok (goInt 0) w := by
  cases hq : P.info? elem with
  | none => simp [hq] at hs
  | some i =>
    have hi : i.size = k := by simpa [hq] using hs
    have hl : ∀ (x : Addr), (loadCells x 0).run P w = .ok #[] w := fun x => by simpa using run_loadCells_list (P := P) w x [] (by simp)
    cases d <;> cases a <;> simp [Builtin.copy_, run_underlying hu, Builtin.lenOf, Builtin.firstCells, sizeOf, typeInfo, hq, storeCells, hl]
/-- What copying the front of a row into a new one leaves. -/
theorem copy_front (ra : Option Addr) (rn rc kl : Nat) (l : List V) (w : World) (M : Array Value) (hM : M.size = kl * 3) (hr : RowAt w (.slice ra rn rc) l) (hk : kl ≤ rn) (ty : TypeId) :
    (Builtin.copy_ #[45, 45] ty #[.slice (some ⟨w.heap.size, 0, none⟩) kl kl, .slice ra rn rc]).run Try.prog (w.alloc (.cells M 57 (0, 0))) = .ok (goInt kl) (w.alloc (.cells (cellsOf (l.take kl)).toArray 57 (0, 0))) := by
  obtain ⟨a', c', e, hn, hi⟩ := hr
  simp only [Value.slice.injEq] at e
  obtain ⟨rfl, rfl, rfl⟩ := e
  by_cases h0 : kl = 0
  · subst h0
    have hM0 : M = #[] := by apply Array.eq_empty_of_size_eq_zero; simpa using hM
    subst hM0
    exact run_copy_zero2 _ _ _ ty 57 3 _ _ _ _ _ Try.underlying45 info_value
  · obtain ⟨b, o, rfl, hb, _⟩ := hi 0 (by omega)
    have hlk : (l.take kl).length = kl := by simp; omega
    refine run_copy_cut w _ _ ty 57 57 3 kl l.length _ _ ⟨b, o, none⟩ M (cellsOf (l.take kl)) Try.underlying45 info_value (by rw [length_cellsOf, hlk]) hM hk (cellsOf_src w b o _ (fun i h => ?_)) hb (cellsOf_one _)
    obtain ⟨b', o', e, _, hc⟩ := hi i (by omega)
    simp only [Option.some.injEq, Addr.mk.injEq] at e
    obtain ⟨rfl, rfl, _⟩ := e
    simpa using hc
theorem row_front (w : World) (l : List V) (kl : Nat) (hl : l.length = kl) (h : kl ≤ 4398046511104) : RowAt (w.alloc (.cells (cellsOf l).toArray 57 (0, 0))) (.slice (some ⟨w.heap.size, 0, none⟩) kl kl) l := by
  refine ⟨_, kl, by rw [hl], by omega, fun i hi => ⟨w.heap.size, 0, rfl, by simp, ?_⟩⟩
  have hg : ∀ j, (w.alloc (.cells (cellsOf l).toArray 57 (0, 0))).cell? ⟨w.heap.size, j, none⟩ = (cellsOf l)[j]? := fun j => by
    have h := World.cell?_alloc_mark w (cellsOf l).toArray 57 (0, 0) j
    refine h.trans ?_
    simp
  obtain ⟨d0, d1, d2⟩ := cellsOf_at l i hi
  rw [Nat.zero_add]
  exact ⟨(hg _).trans d0, (hg _).trans d1, (hg _).trans d2⟩

set_option linter.unusedSimpArgs false in
set_option maxRecDepth 100000 in
set_option maxHeartbeats 2000000 in
theorem sKey_any {P : Nat → Prop} (v : Value) (s : SC) (i : Int) (ra : Option Addr) (rn rc : Nat) (l : List V) (w : World) (h : Sc P w v s) (hr : RowAt w (.slice ra rn rc) l) : Calls Try.prog 23 #[v, .int .i64 i, .slice ra rn rc] w fun e w' => ∃ v, e = .returned v ∧ RowAt w' v (keyRow s i l) ∧ Below w.heap.size w w' := by
  have hrn : l.length = rn := by obtain ⟨_, _, e, _⟩ := hr; simp only [Value.slice.injEq] at e; exact e.2.1.symm
  have hrf : rn ≤ 4398046511104 := by obtain ⟨_, _, _, h, _⟩ := hr; omega
  have HR := Lib.hid hr
  obtain ⟨kl, hkl⟩ : ∃ kl, min (tbAt s i).key.toNat rn = kl := ⟨_, rfl⟩
  have hkn : kl ≤ rn := by omega
  have hlk : (l.take kl).length = kl := by simp; omega
  unfold keyRow
  rw [hrn, hkl]
  have HKL := Lib.hid hkl
  have HLK := Lib.hid hlk
  have HT := Lib.hid (fun O => sTableAt_any v s i (w.alloc O) (h.below ((Below.refl _ _).alloc (Nat.le_refl _) O)))
  obtain ⟨tv, rfl, hs⟩ := h
  clear hs hr hrn hkl hlk
  go_enter Try.func23, Try.ntmps23
  go_wp2_with fail
  refine (HT.out _).mono ?_
  rintro e w1 ⟨ca, cc, fa, fc, pa, pc, rfl, ht, hb⟩
  have hz := hb.size
  simp only [World.size_alloc] at hz
  have HB : Hid (Below w.heap.size w w1) := ((Below.refl _ _).alloc (Nat.le_refl _) _).trans (hb.mono (by simp))
  clear HT ht hb
  unfold tbV
  have hkl := HKL.out
  generalize (tbAt s i).cs.length = n at *
  generalize (tbAt s i).s = x0 at *
  generalize (tbAt s i).key = key at *
  generalize (tbAt s i).rs.length = x3 at *
  generalize (tbAt s i).ck.length = x4 at *
  have HK2 : Hid (∀ W, Calls Try.prog 44 #[.agg #[.string x0, .slice ca n cc, .int .i64 key, .slice fa x3 fc, .slice pa x4 pc], .int .i64 rn] W fun e w' => e = .returned (.int .i64 (kl : Nat)) ∧ Below W.heap.size W w') := fun W => by
    have h := sKeyLength_any x0 (.slice ca n cc) (.slice fa x3 fc) (.slice pa x4 pc) key rn W
    rw [hkl] at h; exact h
  clear hkl HKL
  go_wp2_with fail
  refine (HK2.out _).mono ?_
  rintro e w2 ⟨rfl, hb⟩
  have hz2 := hb.size
  simp only [World.size_alloc] at hz2
  have B2 : Hid (Below w.heap.size w w2) := (HB.out.alloc (by omega) _).trans (hb.mono (by simp; omega))
  have hk42 : kl ≤ 4398046511104 := by omega
  obtain ⟨M, hM, hmk⟩ := make_row kl hk42 w2
  have hcp := fun ty => copy_front ra rn rc kl l w2 M hM (HR.out.blw B2.out) hkn ty
  obtain ⟨w3, hw3⟩ : ∃ w3, w2.alloc (.cells (cellsOf (l.take kl)).toArray 57 (0, 0)) = w3 := ⟨_, rfl⟩
  have HF : Hid (RowAt w3 (.slice (some ⟨w2.heap.size, 0, none⟩) kl kl) (l.take kl)) := by rw [← hw3]; exact row_front w2 _ kl HLK.out hk42
  have B3 : Hid (Below w.heap.size w w3) := by rw [← hw3]; exact B2.out.alloc B2.out.size _
  rw [hw3] at hcp
  clear hb HK2 hM hw3
  go_wp2_with fail
  go_ret
  exact ⟨_, rfl, HF.out, B3.out⟩
end Go.Proofs.Ytjcbmeannhafjaa
