
/- The schemas of a case: their tables, and what their memory is while they are made. -/
import Derived.Test.YtjcbmeannhafjaaScRKinds

import Derived.Test.YtjcbmeannhafjaaRowG

import Derived.Test.YtjcbmeannhafjaaPdPred

import Derived.Deep.CutRange

import Derived.Deep.CutBlock

import Derived.Deep.DeepCutAuto

import Derived.Test.YtjcbmeannhafjaaScCheck

namespace Go.Proofs.Ytjcbmeannhafjaa

open Go.RowKit Go.Deep

/-- The tables of a case's schema. -/
def tP : TB := ⟨⟨#[112, 114, 111, 106, 101, 99, 116, 115]⟩, [⟨⟨#[105, 100]⟩, 4⟩, ⟨⟨#[111, 119, 110, 101, 114]⟩, 4⟩], 1, [], []⟩
def tT (id : Int) (rs : List RF) (ck : List PT) : TB := ⟨⟨#[116, 97, 115, 107, 115]⟩, [⟨⟨#[105, 100]⟩, id⟩, ⟨⟨#[112, 114, 111, 106, 101, 99, 116]⟩, 4⟩, ⟨⟨#[116, 105, 116, 108, 101]⟩, 5⟩, ⟨⟨#[100, 111, 110, 101]⟩, 3⟩], 1, rs, ck⟩
def tM (rs : List RF) : TB := ⟨⟨#[109, 101, 109, 98, 101, 114, 115]⟩, [⟨⟨#[112, 114, 111, 106, 101, 99, 116]⟩, 4⟩, ⟨⟨#[112, 101, 114, 115, 111, 110]⟩, 4⟩], 2, rs, []⟩
def tA (id : Int) (rs : List RF) : TB := ⟨⟨#[97, 114, 99, 104, 105, 118, 101, 100]⟩, [⟨⟨#[116, 97, 115, 107]⟩, id⟩], 1, rs, []⟩

/-- Memory while a schema is made: its box sb, and the block tb of its tables, which is written. -/
structure SInv (bc B lo : Nat) (w0 : World) (sb tb n : Nat) (ver : Int) (TS : List TB) (W : World) : Prop where
  mv : Mv bc w0 W
  ok : CaseOk bc B W
  hlo : w0.heap.size ≤ lo ∧ B ≤ lo
  htb : lo ≤ tb ∧ tb < W.heap.size ∧ lo ≤ sb ∧ sb < W.heap.size ∧ sb ≠ tb
  s0 : W.cell? ⟨sb, 0, none⟩ = some (.int .i64 ver)
  s1 : W.cell? ⟨sb, 1, none⟩ = some (.slice (some ⟨tb, 0, none⟩) n 4)
  len : TS.length = 4
  tabs : ∀ j (h : j < TS.length), ∃ cv rv pa pc, TbC W tb (j * 5) TS[j] cv rv pa pc ∧ TbP (fun b => lo ≤ b ∧ b ≠ tb) W cv rv pa pc TS[j]
  fz : ∀ o, W.frozen? ⟨tb, o, none⟩ = false
variable {bc B lo sb tb n : Nat} {w0 W W' : World} {ver : Int} {TS : List TB}
theorem SInv.bclt (h : SInv bc B lo w0 sb tb n ver TS W) : bc < lo := by have := h.ok.lt; have := h.hlo; omega
theorem SInv.keep (h : SInv bc B lo w0 sb tb n ver TS W) (hm : Mv bc w0 W') (ho : CaseOk bc B W') (hs : W.heap.size ≤ W'.heap.size) (hk : ∀ k, lo ≤ k → k < W.heap.size → W'.heap[k]? = W.heap[k]?) : SInv bc B lo w0 sb tb n ver TS W' := by
  obtain ⟨t1, t2, t3, t4, t5⟩ := h.htb
  refine ⟨hm, ho, h.hlo, ⟨t1, by omega, t3, by omega, t5⟩, (World.cell?_of_block (hk sb t3 t4)).trans h.s0, (World.cell?_of_block (hk sb t3 t4)).trans h.s1, h.len, fun j hj => ?_, fun o => (World.frozen?_of_block (hk tb t1 t2)).trans (h.fz o)⟩
  obtain ⟨cv, rv, pa, pc, h1, h2⟩ := h.tabs j hj
  exact ⟨cv, rv, pa, pc, h1.same (hk tb t1 t2), h2.keep hs fun k hp hk' => hk k hp.1 hk'⟩
theorem SInv.step (h : SInv bc B lo w0 sb tb n ver TS W) (hm : Mv bc W W') (ho : CaseOk bc B W') : SInv bc B lo w0 sb tb n ver TS W' :=
  h.keep (h.mv.trans hm) ho hm.size fun k hk hk' => hm.block k hk' (by have := h.bclt; omega)
theorem SInv.alloc (h : SInv bc B lo w0 sb tb n ver TS W) (O : Obj) : SInv bc B lo w0 sb tb n ver TS (W.alloc O) :=
  h.keep (h.mv.alloc O) (h.ok.alloc O) (by simp) fun k _ hk' => ((Below.refl W.heap.size W).alloc (Nat.le_refl _) O).block k hk'
theorem SInv.setOld (h : SInv bc B lo w0 sb tb n ver TS W) {b : Nat} (h1 : w0.heap.size ≤ b) (h2 : B ≤ b) (h3 : b < lo) (o : Nat) (v : Value) : SInv bc B lo w0 sb tb n ver TS (W.setCell ⟨b, o, none⟩ v) :=
  h.keep (h.mv.setNew h1 _ _) (h.ok.setNew h2 _ _) (by simp) fun k hk _ => Below.heap_setCell _ _ _ _ (by show k ≠ b; omega)
/-- The references of a table are set. -/
theorem SInv.refs (h : SInv bc B lo w0 sb tb n ver TS W) (j : Nat) (hj : j < TS.length) (rs : List RF) (rv : Value) (hr : SlR refK (fun b => lo ≤ b ∧ b ≠ tb) W rv rs) : SInv bc B lo w0 sb tb n ver (TS.set j { TS[j] with rs := rs }) (W.setCell ⟨tb, j * 5 + 3, none⟩ rv) := by
  obtain ⟨t1, t2, t3, t4, t5⟩ := h.htb
  have hb : ∀ k, k ≠ tb → (W.setCell ⟨tb, j * 5 + 3, none⟩ rv).heap[k]? = W.heap[k]? := fun k hk => Below.heap_setCell _ _ _ _ hk
  have hso : ∀ o, o ≠ j * 5 + 3 → (W.setCell ⟨tb, j * 5 + 3, none⟩ rv).cell? ⟨tb, o, none⟩ = W.cell? ⟨tb, o, none⟩ := fun o ho => World.cell?_setCell_other _ _ _ _ (by simp <;> omega)
  refine ⟨h.mv.setNew (by have := h.hlo; omega) _ _, h.ok.setNew (by have := h.hlo; omega) _ _, h.hlo, ⟨t1, by simpa using t2, t3, by simpa using t4, t5⟩, (World.cell?_of_block (hb sb t5)).trans h.s0, (World.cell?_of_block (hb sb t5)).trans h.s1, by simpa using h.len, fun i hi => ?_, fun o => by rw [World.frozen?_setCell]; exact h.fz o⟩
  have hi' : i < TS.length := by simpa using hi
  obtain ⟨cv, rv', pa, pc, ⟨c0, c1, c2, c3, c4⟩, hp⟩ := h.tabs i hi'
  have hkp : TbP (fun b => lo ≤ b ∧ b ≠ tb) (W.setCell ⟨tb, j * 5 + 3, none⟩ rv) cv rv' pa pc TS[i] := hp.keep (by simp) fun k hp _ => hb k hp.2
  by_cases e : i = j
  · subst e
    rw [List.getElem_set_self]
    refine ⟨cv, rv, pa, pc, ⟨(hso _ (by omega)).trans c0, (hso _ (by omega)).trans c1, (hso _ (by omega)).trans c2, ?_, (hso _ (by omega)).trans c4⟩, hkp.cols, hr.keep (by simp) (fun k hp _ => hb k hp.2), hkp.chks⟩
    exact World.cell?_setCell_same _ _ _ (by rw [c3])
  · rw [List.getElem_set_ne (by omega)]
    exact ⟨cv, rv', pa, pc, ⟨(hso _ (by omega)).trans c0, (hso _ (by omega)).trans c1, (hso _ (by omega)).trans c2, (hso _ (by omega)).trans c3, (hso _ (by omega)).trans c4⟩, hkp⟩
/-- The checks of a table are set. -/
theorem SInv.chks (h : SInv bc B lo w0 sb tb n ver TS W) (j : Nat) (hj : j < TS.length) (ck : List PT) (pa : Option Addr) (pc : Nat) (hr : PdS (fun b => lo ≤ b ∧ b ≠ tb) W ck pa pc) : SInv bc B lo w0 sb tb n ver (TS.set j { TS[j] with ck := ck }) (W.setCell ⟨tb, j * 5 + 4, none⟩ (.slice pa ck.length pc)) := by
  obtain ⟨t1, t2, t3, t4, t5⟩ := h.htb
  have hb : ∀ k, k ≠ tb → (W.setCell ⟨tb, j * 5 + 4, none⟩ (.slice pa ck.length pc)).heap[k]? = W.heap[k]? := fun k hk => Below.heap_setCell _ _ _ _ hk
  have hso : ∀ o, o ≠ j * 5 + 4 → (W.setCell ⟨tb, j * 5 + 4, none⟩ (.slice pa ck.length pc)).cell? ⟨tb, o, none⟩ = W.cell? ⟨tb, o, none⟩ := fun o ho => World.cell?_setCell_other _ _ _ _ (by simp <;> omega)
  refine ⟨h.mv.setNew (by have := h.hlo; omega) _ _, h.ok.setNew (by have := h.hlo; omega) _ _, h.hlo, ⟨t1, by simpa using t2, t3, by simpa using t4, t5⟩, (World.cell?_of_block (hb sb t5)).trans h.s0, (World.cell?_of_block (hb sb t5)).trans h.s1, by simpa using h.len, fun i hi => ?_, fun o => by rw [World.frozen?_setCell]; exact h.fz o⟩
  have hi' : i < TS.length := by simpa using hi
  obtain ⟨cv, rv', pa', pc', ⟨c0, c1, c2, c3, c4⟩, hp⟩ := h.tabs i hi'
  have hkp : TbP (fun b => lo ≤ b ∧ b ≠ tb) (W.setCell ⟨tb, j * 5 + 4, none⟩ (.slice pa ck.length pc)) cv rv' pa' pc' TS[i] := hp.keep (by simp) fun k hp _ => hb k hp.2
  by_cases e : i = j
  · subst e
    rw [List.getElem_set_self]
    refine ⟨cv, rv', pa, pc, ⟨(hso _ (by omega)).trans c0, (hso _ (by omega)).trans c1, (hso _ (by omega)).trans c2, (hso _ (by omega)).trans c3, ?_⟩, hkp.cols, hkp.refs, hr.keep (by simp) (fun k hp _ => hb k hp.2)⟩
    exact World.cell?_setCell_same _ _ _ (by rw [c4])
  · rw [List.getElem_set_ne (by omega)]
    exact ⟨cv, rv', pa', pc', ⟨(hso _ (by omega)).trans c0, (hso _ (by omega)).trans c1, (hso _ (by omega)).trans c2, (hso _ (by omega)).trans c3, (hso _ (by omega)).trans c4⟩, hkp⟩
/-- The schema that is made. -/
theorem SInv.sc (h : SInv bc B lo w0 sb tb n ver TS W) (hn : n ≤ 4) : Sc (fun b => lo ≤ b) W (.agg #[.int .i64 ver, .slice (some ⟨tb, 0, none⟩) n 4]) ⟨ver, TS.take n⟩ := by
  have hl := h.len
  have hln : (TS.take n).length = n := by simp; omega
  refine ⟨_, rfl, _, _, by rw [hln], ⟨by rw [hln]; exact hn, by unfold maxLen; omega, fun e => (by cases e), by rw [hln]; omega⟩, fun j hj => ⟨tb, 0, rfl, h.htb.1, h.htb.2.1, ?_⟩⟩
  have hj' : j < TS.length := by rw [hln] at hj; omega
  obtain ⟨cv, rv, pa, pc, h1, h2⟩ := h.tabs j hj'
  refine ⟨cv, rv, pa, pc, ?_⟩
  rw [Nat.zero_add]
  simp only [List.getElem_take]
  exact ⟨h1, h2.weak fun k hk => hk.1⟩
/-- One new reference in memory. -/
theorem refs_one {P : Nat → Prop} {W : World} {b1 b2 : Nat} {c t : Int} (h1 : W.cell? ⟨b1, 0, none⟩ = some (.int .i64 c)) (h2 : W.cell? ⟨b2, 0, none⟩ = some (.slice (some ⟨b1, 0, none⟩) 1 1)) (h3 : W.cell? ⟨b2, 1, none⟩ = some (.int .i64 t)) (hp1 : P b1) (hp2 : P b2) : SlR refK P W (.slice (some ⟨b2, 0, none⟩) 1 1) [⟨[c], t⟩] := by
  have f1 : SlF (some ⟨b1, 0, none⟩) 1 1 := ⟨Nat.le_refl _, by unfold maxLen; omega, fun e => (by cases e), by omega⟩
  have f2 : SlF (some ⟨b2, 0, none⟩) 1 1 := ⟨Nat.le_refl _, by unfold maxLen; omega, fun e => (by cases e), by omega⟩
  refine ⟨_, _, rfl, f2, fun j hj => ?_⟩
  obtain rfl : j = 0 := by simp at hj; omega
  refine ⟨b2, 0, rfl, hp2, World.block_lt_of_cell? _ _ h2, ⟨_, h2, _, _, rfl, f1, fun i hi => ?_⟩, h3⟩
  obtain rfl : i = 0 := by simp at hi; omega
  exact ⟨b1, 0, rfl, hp1, World.block_lt_of_cell? _ _ h1, h1⟩

theorem SInv.refs2 (h : SInv bc B lo w0 sb tb n ver TS W) (j : Nat) (hj : j < TS.length) (c t : Int) : SInv bc B lo w0 sb tb n ver (TS.set j { TS[j] with rs := [⟨[c], t⟩] })
    (((W.setCell ⟨tb, j * 5 + 3, none⟩ (.slice (some ⟨W.heap.size + 1, 0, none⟩) 1 1)).alloc (.cells #[.int .i64 c] 3)).alloc (.cells #[.slice (some ⟨W.heap.size, 0, none⟩) 1 1, .int .i64 t] 73)) := by
  obtain ⟨t1, t2, t3, t4, t5⟩ := h.htb
  have hA := (h.alloc (.cells #[.int .i64 c] 3)).alloc (.cells #[.slice (some ⟨W.heap.size, 0, none⟩) 1 1, .int .i64 t] 73)
  have hR := hA.refs j hj [⟨[c], t⟩] (.slice (some ⟨W.heap.size + 1, 0, none⟩) 1 1) (refs_one (b1 := W.heap.size) (by go_simp) (by go_simp) (by go_simp) ⟨by omega, by omega⟩ ⟨by omega, by omega⟩)
  rw [World.setCell_alloc_past _ _ _ _ (by simp; omega), World.setCell_alloc_past _ _ _ _ t2] at hR
  exact hR
theorem SInv.chk2 (h : SInv bc B lo w0 sb tb n ver TS W) (j : Nat) (hj : j < TS.length) (p : PT) (a : Option Addr) (c : Nat) (hp : PdS (fun b => lo ≤ b ∧ b ≠ tb) W p.args a c) : SInv bc B lo w0 sb tb n ver (TS.set j { TS[j] with ck := [p] })
    ((W.setCell ⟨tb, j * 5 + 4, none⟩ (.slice (some ⟨W.heap.size, 0, none⟩) 1 1)).alloc (.cells #[.int .i64 p.op, .int .i64 p.cmp, .int .i64 p.l.k, .int .i64 p.l.i, .int .i64 p.l.v.k, .int .i64 p.l.v.n, .string p.l.v.s, .int .i64 p.r.k, .int .i64 p.r.i, .int .i64 p.r.v.k, .int .i64 p.r.v.n, .string p.r.v.s, .slice a p.args.length c] 77)) := by
  obtain ⟨t1, t2, t3, t4, t5⟩ := h.htb
  obtain ⟨W2, hW2⟩ : ∃ W2, W.alloc (.cells #[.int .i64 p.op, .int .i64 p.cmp, .int .i64 p.l.k, .int .i64 p.l.i, .int .i64 p.l.v.k, .int .i64 p.l.v.n, .string p.l.v.s, .int .i64 p.r.k, .int .i64 p.r.i, .int .i64 p.r.v.k, .int .i64 p.r.v.n, .string p.r.v.s, .slice a p.args.length c] 77) = W2 := ⟨_, rfl⟩
  have hA : SInv bc B lo w0 sb tb n ver TS W2 := by rw [← hW2]; exact h.alloc _
  have hp2 : PdS (fun b => lo ≤ b ∧ b ≠ tb) W2 p.args a c := by rw [← hW2]; exact hp.below ((Below.refl _ _).alloc (Nat.le_refl _) _)
  have hz : W.heap.size < W2.heap.size := by rw [← hW2]; simp
  have c0 : W2.cell? ⟨W.heap.size, 0, none⟩ = some (.int .i64 p.op) := by subst hW2; go_simp
  have c1 : W2.cell? ⟨W.heap.size, 1, none⟩ = some (.int .i64 p.cmp) := by subst hW2; go_simp
  have c2 : W2.cell? ⟨W.heap.size, 2, none⟩ = some (.int .i64 p.l.k) := by subst hW2; go_simp
  have c3 : W2.cell? ⟨W.heap.size, 3, none⟩ = some (.int .i64 p.l.i) := by subst hW2; go_simp
  have c4 : W2.cell? ⟨W.heap.size, 4, none⟩ = some (.int .i64 p.l.v.k) := by subst hW2; go_simp
  have c5 : W2.cell? ⟨W.heap.size, 5, none⟩ = some (.int .i64 p.l.v.n) := by subst hW2; go_simp
  have c6 : W2.cell? ⟨W.heap.size, 6, none⟩ = some (.string p.l.v.s) := by subst hW2; go_simp
  have c7 : W2.cell? ⟨W.heap.size, 7, none⟩ = some (.int .i64 p.r.k) := by subst hW2; go_simp
  have c8 : W2.cell? ⟨W.heap.size, 8, none⟩ = some (.int .i64 p.r.i) := by subst hW2; go_simp
  have c9 : W2.cell? ⟨W.heap.size, 9, none⟩ = some (.int .i64 p.r.v.k) := by subst hW2; go_simp
  have c10 : W2.cell? ⟨W.heap.size, 10, none⟩ = some (.int .i64 p.r.v.n) := by subst hW2; go_simp
  have c11 : W2.cell? ⟨W.heap.size, 11, none⟩ = some (.string p.r.v.s) := by subst hW2; go_simp
  have c12 : W2.cell? ⟨W.heap.size, 12, none⟩ = some (.slice a p.args.length c) := by subst hW2; go_simp
  have hS : PdS (fun b => lo ≤ b ∧ b ≠ tb) W2 [p] (some ⟨W.heap.size, 0, none⟩) 1 := by
    refine ⟨⟨by simp, by unfold maxLen; omega, fun e => (by cases e), by simp⟩, .inr ⟨W.heap.size, 0, rfl, ⟨by omega, by omega⟩, hz, ?_⟩⟩
    unfold PdL
    refine ⟨PdC.close (a := a) (c := c) c0 c1 ⟨c2, c3, c4, c5, c6⟩ ⟨c7, c8, c9, c10, c11⟩ c12 hp2, ?_⟩
    unfold PdL
    trivial
  have hR := hA.chks j hj [p] (some ⟨W.heap.size, 0, none⟩) 1 hS
  rw [← hW2, World.setCell_alloc_past _ _ _ _ t2] at hR
  exact hR

set_option maxRecDepth 100000 in
set_option maxHeartbeats 4000000 in
theorem sinv_new (bc B : Nat) (w0 w3 : World) (n : Nat) (id r : Int) (ho : CaseOk bc B w3) (hm : Mv bc w0 w3) : SInv bc B w3.heap.size w0 (w3.heap.size + 1 + 1 + 1 + 1 + 1 + 1 + 1 + 1 + 1 + 1 + 1 + 1 + 1 + 1) (w3.heap.size + 1 + 1 + 1 + 1 + 1 + 1 + 1 + 1 + 1 + 1 + 1 + 1 + 1) n r [tP, tT id [] [], tM [], tA id []]
    ((((((((((((((((w3.alloc (.cells #[.string ⟨#[105, 100]⟩, .int .i64 4] 35)).alloc (.cells #[.string ⟨#[111, 119, 110, 101, 114]⟩, .int .i64 4] 35)).alloc (.cells #[.string ⟨#[105, 100]⟩, .int .i64 4, .string ⟨#[111, 119, 110, 101, 114]⟩, .int .i64 4] 35)).alloc (.cells #[.string ⟨#[105, 100]⟩, .int .i64 id] 35)).alloc (.cells #[.string ⟨#[112, 114, 111, 106, 101, 99, 116]⟩, .int .i64 4] 35)).alloc (.cells #[.string ⟨#[116, 105, 116, 108, 101]⟩, .int .i64 5] 35)).alloc (.cells #[.string ⟨#[100, 111, 110, 101]⟩, .int .i64 3] 35)).alloc (.cells #[.string ⟨#[105, 100]⟩, .int .i64 id, .string ⟨#[112, 114, 111, 106, 101, 99, 116]⟩, .int .i64 4, .string ⟨#[116, 105, 116, 108, 101]⟩, .int .i64 5, .string ⟨#[100, 111, 110, 101]⟩, .int .i64 3] 35)).alloc (.cells #[.string ⟨#[112, 114, 111, 106, 101, 99, 116]⟩, .int .i64 4] 35)).alloc (.cells #[.string ⟨#[112, 101, 114, 115, 111, 110]⟩, .int .i64 4] 35)).alloc (.cells #[.string ⟨#[112, 114, 111, 106, 101, 99, 116]⟩, .int .i64 4, .string ⟨#[112, 101, 114, 115, 111, 110]⟩, .int .i64 4] 35)).alloc (.cells #[.string ⟨#[116, 97, 115, 107]⟩, .int .i64 id] 35)).alloc (.cells #[.string ⟨#[116, 97, 115, 107]⟩, .int .i64 id] 35)).alloc (.cells #[.string ⟨#[112, 114, 111, 106, 101, 99, 116, 115]⟩, .slice (some ⟨w3.heap.size + 1 + 1, 0, none⟩) 2 2, .int .i64 1, .slice none 0 0, .slice none 0 0, .string ⟨#[116, 97, 115, 107, 115]⟩, .slice (some ⟨w3.heap.size + 1 + 1 + 1 + 1 + 1 + 1 + 1, 0, none⟩) 4 4, .int .i64 1, .slice none 0 0, .slice none 0 0, .string ⟨#[109, 101, 109, 98, 101, 114, 115]⟩, .slice (some ⟨w3.heap.size + 1 + 1 + 1 + 1 + 1 + 1 + 1 + 1 + 1 + 1, 0, none⟩) 2 2, .int .i64 2, .slice none 0 0, .slice none 0 0, .string ⟨#[97, 114, 99, 104, 105, 118, 101, 100]⟩, .slice (some ⟨w3.heap.size + 1 + 1 + 1 + 1 + 1 + 1 + 1 + 1 + 1 + 1 + 1 + 1, 0, none⟩) 1 1, .int .i64 1, .slice none 0 0, .slice none 0 0] 40)).alloc (.cells #[.int .i64 r, .slice (some ⟨w3.heap.size + 1 + 1 + 1 + 1 + 1 + 1 + 1 + 1 + 1 + 1 + 1 + 1 + 1, 0, none⟩) n 4] 25))) := by
  have hlt := ho.lt
  obtain ⟨W, hW⟩ : ∃ W, (((((((((((((((w3.alloc (.cells #[.string ⟨#[105, 100]⟩, .int .i64 4] 35)).alloc (.cells #[.string ⟨#[111, 119, 110, 101, 114]⟩, .int .i64 4] 35)).alloc (.cells #[.string ⟨#[105, 100]⟩, .int .i64 4, .string ⟨#[111, 119, 110, 101, 114]⟩, .int .i64 4] 35)).alloc (.cells #[.string ⟨#[105, 100]⟩, .int .i64 id] 35)).alloc (.cells #[.string ⟨#[112, 114, 111, 106, 101, 99, 116]⟩, .int .i64 4] 35)).alloc (.cells #[.string ⟨#[116, 105, 116, 108, 101]⟩, .int .i64 5] 35)).alloc (.cells #[.string ⟨#[100, 111, 110, 101]⟩, .int .i64 3] 35)).alloc (.cells #[.string ⟨#[105, 100]⟩, .int .i64 id, .string ⟨#[112, 114, 111, 106, 101, 99, 116]⟩, .int .i64 4, .string ⟨#[116, 105, 116, 108, 101]⟩, .int .i64 5, .string ⟨#[100, 111, 110, 101]⟩, .int .i64 3] 35)).alloc (.cells #[.string ⟨#[112, 114, 111, 106, 101, 99, 116]⟩, .int .i64 4] 35)).alloc (.cells #[.string ⟨#[112, 101, 114, 115, 111, 110]⟩, .int .i64 4] 35)).alloc (.cells #[.string ⟨#[112, 114, 111, 106, 101, 99, 116]⟩, .int .i64 4, .string ⟨#[112, 101, 114, 115, 111, 110]⟩, .int .i64 4] 35)).alloc (.cells #[.string ⟨#[116, 97, 115, 107]⟩, .int .i64 id] 35)).alloc (.cells #[.string ⟨#[116, 97, 115, 107]⟩, .int .i64 id] 35)).alloc (.cells #[.string ⟨#[112, 114, 111, 106, 101, 99, 116, 115]⟩, .slice (some ⟨w3.heap.size + 1 + 1, 0, none⟩) 2 2, .int .i64 1, .slice none 0 0, .slice none 0 0, .string ⟨#[116, 97, 115, 107, 115]⟩, .slice (some ⟨w3.heap.size + 1 + 1 + 1 + 1 + 1 + 1 + 1, 0, none⟩) 4 4, .int .i64 1, .slice none 0 0, .slice none 0 0, .string ⟨#[109, 101, 109, 98, 101, 114, 115]⟩, .slice (some ⟨w3.heap.size + 1 + 1 + 1 + 1 + 1 + 1 + 1 + 1 + 1 + 1, 0, none⟩) 2 2, .int .i64 2, .slice none 0 0, .slice none 0 0, .string ⟨#[97, 114, 99, 104, 105, 118, 101, 100]⟩, .slice (some ⟨w3.heap.size + 1 + 1 + 1 + 1 + 1 + 1 + 1 + 1 + 1 + 1 + 1 + 1, 0, none⟩) 1 1, .int .i64 1, .slice none 0 0, .slice none 0 0] 40)).alloc (.cells #[.int .i64 r, .slice (some ⟨w3.heap.size + 1 + 1 + 1 + 1 + 1 + 1 + 1 + 1 + 1 + 1 + 1 + 1 + 1, 0, none⟩) n 4] 25)) = W := ⟨_, rfl⟩
  rw [hW]
  have hsz : W.heap.size = w3.heap.size + 1 + 1 + 1 + 1 + 1 + 1 + 1 + 1 + 1 + 1 + 1 + 1 + 1 + 1 + 1 := by rw [← hW]; simp
  have hbw : Below w3.heap.size w3 W := by rw [← hW]; exact ((((((((((((((((Below.refl _ _).alloc (Nat.le_refl _) _).alloc (by simp only [World.size_alloc]; omega) _).alloc (by simp only [World.size_alloc]; omega) _).alloc (by simp only [World.size_alloc]; omega) _).alloc (by simp only [World.size_alloc]; omega) _).alloc (by simp only [World.size_alloc]; omega) _).alloc (by simp only [World.size_alloc]; omega) _).alloc (by simp only [World.size_alloc]; omega) _).alloc (by simp only [World.size_alloc]; omega) _).alloc (by simp only [World.size_alloc]; omega) _).alloc (by simp only [World.size_alloc]; omega) _).alloc (by simp only [World.size_alloc]; omega) _).alloc (by simp only [World.size_alloc]; omega) _).alloc (by simp only [World.size_alloc]; omega) _).alloc (by simp only [World.size_alloc]; omega) _)
  have k2_0 : W.cell? ⟨w3.heap.size + 1 + 1, 0, none⟩ = some (.string ⟨#[105, 100]⟩) := by subst hW; go_simp
  have k2_1 : W.cell? ⟨w3.heap.size + 1 + 1, 1, none⟩ = some (.int .i64 4) := by subst hW; go_simp
  have k2_2 : W.cell? ⟨w3.heap.size + 1 + 1, 2, none⟩ = some (.string ⟨#[111, 119, 110, 101, 114]⟩) := by subst hW; go_simp
  have k2_3 : W.cell? ⟨w3.heap.size + 1 + 1, 3, none⟩ = some (.int .i64 4) := by subst hW; go_simp
  have k7_0 : W.cell? ⟨w3.heap.size + 1 + 1 + 1 + 1 + 1 + 1 + 1, 0, none⟩ = some (.string ⟨#[105, 100]⟩) := by subst hW; go_simp
  have k7_1 : W.cell? ⟨w3.heap.size + 1 + 1 + 1 + 1 + 1 + 1 + 1, 1, none⟩ = some (.int .i64 id) := by subst hW; go_simp
  have k7_2 : W.cell? ⟨w3.heap.size + 1 + 1 + 1 + 1 + 1 + 1 + 1, 2, none⟩ = some (.string ⟨#[112, 114, 111, 106, 101, 99, 116]⟩) := by subst hW; go_simp
  have k7_3 : W.cell? ⟨w3.heap.size + 1 + 1 + 1 + 1 + 1 + 1 + 1, 3, none⟩ = some (.int .i64 4) := by subst hW; go_simp
  have k7_4 : W.cell? ⟨w3.heap.size + 1 + 1 + 1 + 1 + 1 + 1 + 1, 4, none⟩ = some (.string ⟨#[116, 105, 116, 108, 101]⟩) := by subst hW; go_simp
  have k7_5 : W.cell? ⟨w3.heap.size + 1 + 1 + 1 + 1 + 1 + 1 + 1, 5, none⟩ = some (.int .i64 5) := by subst hW; go_simp
  have k7_6 : W.cell? ⟨w3.heap.size + 1 + 1 + 1 + 1 + 1 + 1 + 1, 6, none⟩ = some (.string ⟨#[100, 111, 110, 101]⟩) := by subst hW; go_simp
  have k7_7 : W.cell? ⟨w3.heap.size + 1 + 1 + 1 + 1 + 1 + 1 + 1, 7, none⟩ = some (.int .i64 3) := by subst hW; go_simp
  have k10_0 : W.cell? ⟨w3.heap.size + 1 + 1 + 1 + 1 + 1 + 1 + 1 + 1 + 1 + 1, 0, none⟩ = some (.string ⟨#[112, 114, 111, 106, 101, 99, 116]⟩) := by subst hW; go_simp
  have k10_1 : W.cell? ⟨w3.heap.size + 1 + 1 + 1 + 1 + 1 + 1 + 1 + 1 + 1 + 1, 1, none⟩ = some (.int .i64 4) := by subst hW; go_simp
  have k10_2 : W.cell? ⟨w3.heap.size + 1 + 1 + 1 + 1 + 1 + 1 + 1 + 1 + 1 + 1, 2, none⟩ = some (.string ⟨#[112, 101, 114, 115, 111, 110]⟩) := by subst hW; go_simp
  have k10_3 : W.cell? ⟨w3.heap.size + 1 + 1 + 1 + 1 + 1 + 1 + 1 + 1 + 1 + 1, 3, none⟩ = some (.int .i64 4) := by subst hW; go_simp
  have k12_0 : W.cell? ⟨w3.heap.size + 1 + 1 + 1 + 1 + 1 + 1 + 1 + 1 + 1 + 1 + 1 + 1, 0, none⟩ = some (.string ⟨#[116, 97, 115, 107]⟩) := by subst hW; go_simp
  have k12_1 : W.cell? ⟨w3.heap.size + 1 + 1 + 1 + 1 + 1 + 1 + 1 + 1 + 1 + 1 + 1 + 1, 1, none⟩ = some (.int .i64 id) := by subst hW; go_simp
  have t0 : W.cell? ⟨w3.heap.size + 1 + 1 + 1 + 1 + 1 + 1 + 1 + 1 + 1 + 1 + 1 + 1 + 1, 0, none⟩ = some (.string ⟨#[112, 114, 111, 106, 101, 99, 116, 115]⟩) := by subst hW; go_simp
  have t1 : W.cell? ⟨w3.heap.size + 1 + 1 + 1 + 1 + 1 + 1 + 1 + 1 + 1 + 1 + 1 + 1 + 1, 1, none⟩ = some (.slice (some ⟨w3.heap.size + 1 + 1, 0, none⟩) 2 2) := by subst hW; go_simp
  have t2 : W.cell? ⟨w3.heap.size + 1 + 1 + 1 + 1 + 1 + 1 + 1 + 1 + 1 + 1 + 1 + 1 + 1, 2, none⟩ = some (.int .i64 1) := by subst hW; go_simp
  have t3 : W.cell? ⟨w3.heap.size + 1 + 1 + 1 + 1 + 1 + 1 + 1 + 1 + 1 + 1 + 1 + 1 + 1, 3, none⟩ = some (.slice none 0 0) := by subst hW; go_simp
  have t4 : W.cell? ⟨w3.heap.size + 1 + 1 + 1 + 1 + 1 + 1 + 1 + 1 + 1 + 1 + 1 + 1 + 1, 4, none⟩ = some (.slice none 0 0) := by subst hW; go_simp
  have t5 : W.cell? ⟨w3.heap.size + 1 + 1 + 1 + 1 + 1 + 1 + 1 + 1 + 1 + 1 + 1 + 1 + 1, 5, none⟩ = some (.string ⟨#[116, 97, 115, 107, 115]⟩) := by subst hW; go_simp
  have t6 : W.cell? ⟨w3.heap.size + 1 + 1 + 1 + 1 + 1 + 1 + 1 + 1 + 1 + 1 + 1 + 1 + 1, 6, none⟩ = some (.slice (some ⟨w3.heap.size + 1 + 1 + 1 + 1 + 1 + 1 + 1, 0, none⟩) 4 4) := by subst hW; go_simp
  have t7 : W.cell? ⟨w3.heap.size + 1 + 1 + 1 + 1 + 1 + 1 + 1 + 1 + 1 + 1 + 1 + 1 + 1, 7, none⟩ = some (.int .i64 1) := by subst hW; go_simp
  have t8 : W.cell? ⟨w3.heap.size + 1 + 1 + 1 + 1 + 1 + 1 + 1 + 1 + 1 + 1 + 1 + 1 + 1, 8, none⟩ = some (.slice none 0 0) := by subst hW; go_simp
  have t9 : W.cell? ⟨w3.heap.size + 1 + 1 + 1 + 1 + 1 + 1 + 1 + 1 + 1 + 1 + 1 + 1 + 1, 9, none⟩ = some (.slice none 0 0) := by subst hW; go_simp
  have t10 : W.cell? ⟨w3.heap.size + 1 + 1 + 1 + 1 + 1 + 1 + 1 + 1 + 1 + 1 + 1 + 1 + 1, 10, none⟩ = some (.string ⟨#[109, 101, 109, 98, 101, 114, 115]⟩) := by subst hW; go_simp
  have t11 : W.cell? ⟨w3.heap.size + 1 + 1 + 1 + 1 + 1 + 1 + 1 + 1 + 1 + 1 + 1 + 1 + 1, 11, none⟩ = some (.slice (some ⟨w3.heap.size + 1 + 1 + 1 + 1 + 1 + 1 + 1 + 1 + 1 + 1, 0, none⟩) 2 2) := by subst hW; go_simp
  have t12 : W.cell? ⟨w3.heap.size + 1 + 1 + 1 + 1 + 1 + 1 + 1 + 1 + 1 + 1 + 1 + 1 + 1, 12, none⟩ = some (.int .i64 2) := by subst hW; go_simp
  have t13 : W.cell? ⟨w3.heap.size + 1 + 1 + 1 + 1 + 1 + 1 + 1 + 1 + 1 + 1 + 1 + 1 + 1, 13, none⟩ = some (.slice none 0 0) := by subst hW; go_simp
  have t14 : W.cell? ⟨w3.heap.size + 1 + 1 + 1 + 1 + 1 + 1 + 1 + 1 + 1 + 1 + 1 + 1 + 1, 14, none⟩ = some (.slice none 0 0) := by subst hW; go_simp
  have t15 : W.cell? ⟨w3.heap.size + 1 + 1 + 1 + 1 + 1 + 1 + 1 + 1 + 1 + 1 + 1 + 1 + 1, 15, none⟩ = some (.string ⟨#[97, 114, 99, 104, 105, 118, 101, 100]⟩) := by subst hW; go_simp
  have t16 : W.cell? ⟨w3.heap.size + 1 + 1 + 1 + 1 + 1 + 1 + 1 + 1 + 1 + 1 + 1 + 1 + 1, 16, none⟩ = some (.slice (some ⟨w3.heap.size + 1 + 1 + 1 + 1 + 1 + 1 + 1 + 1 + 1 + 1 + 1 + 1, 0, none⟩) 1 1) := by subst hW; go_simp
  have t17 : W.cell? ⟨w3.heap.size + 1 + 1 + 1 + 1 + 1 + 1 + 1 + 1 + 1 + 1 + 1 + 1 + 1, 17, none⟩ = some (.int .i64 1) := by subst hW; go_simp
  have t18 : W.cell? ⟨w3.heap.size + 1 + 1 + 1 + 1 + 1 + 1 + 1 + 1 + 1 + 1 + 1 + 1 + 1, 18, none⟩ = some (.slice none 0 0) := by subst hW; go_simp
  have t19 : W.cell? ⟨w3.heap.size + 1 + 1 + 1 + 1 + 1 + 1 + 1 + 1 + 1 + 1 + 1 + 1 + 1, 19, none⟩ = some (.slice none 0 0) := by subst hW; go_simp
  have s0 : W.cell? ⟨w3.heap.size + 1 + 1 + 1 + 1 + 1 + 1 + 1 + 1 + 1 + 1 + 1 + 1 + 1 + 1, 0, none⟩ = some (.int .i64 r) := by subst hW; go_simp
  have s1 : W.cell? ⟨w3.heap.size + 1 + 1 + 1 + 1 + 1 + 1 + 1 + 1 + 1 + 1 + 1 + 1 + 1 + 1, 1, none⟩ = some (.slice (some ⟨w3.heap.size + 1 + 1 + 1 + 1 + 1 + 1 + 1 + 1 + 1 + 1 + 1 + 1 + 1, 0, none⟩) n 4) := by subst hW; go_simp
  have fz : ∀ o, W.frozen? ⟨w3.heap.size + 1 + 1 + 1 + 1 + 1 + 1 + 1 + 1 + 1 + 1 + 1 + 1 + 1, o, none⟩ = false := fun o => by subst hW; go_simp
  clear hW
  have c2 : SlR colK (fun b => w3.heap.size ≤ b ∧ b ≠ w3.heap.size + 1 + 1 + 1 + 1 + 1 + 1 + 1 + 1 + 1 + 1 + 1 + 1 + 1) W (.slice (some ⟨w3.heap.size + 1 + 1, 0, none⟩) 2 2) [⟨⟨#[105, 100]⟩, 4⟩, ⟨⟨#[111, 119, 110, 101, 114]⟩, 4⟩] := by
    refine ⟨_, _, rfl, ⟨Nat.le_refl _, by unfold maxLen; simp, fun e => (by cases e), by simp⟩, fun j hj => ⟨w3.heap.size + 1 + 1, 0, rfl, ⟨by omega, by omega⟩, by omega, ?_⟩⟩
    have hj2 : j = 0 ∨ j = 1 := by simp at hj; omega
    rcases hj2 with rfl | rfl
    · exact ⟨k2_0, k2_1⟩
    · exact ⟨k2_2, k2_3⟩
  have c7 : SlR colK (fun b => w3.heap.size ≤ b ∧ b ≠ w3.heap.size + 1 + 1 + 1 + 1 + 1 + 1 + 1 + 1 + 1 + 1 + 1 + 1 + 1) W (.slice (some ⟨w3.heap.size + 1 + 1 + 1 + 1 + 1 + 1 + 1, 0, none⟩) 4 4) [⟨⟨#[105, 100]⟩, id⟩, ⟨⟨#[112, 114, 111, 106, 101, 99, 116]⟩, 4⟩, ⟨⟨#[116, 105, 116, 108, 101]⟩, 5⟩, ⟨⟨#[100, 111, 110, 101]⟩, 3⟩] := by
    refine ⟨_, _, rfl, ⟨Nat.le_refl _, by unfold maxLen; simp, fun e => (by cases e), by simp⟩, fun j hj => ⟨w3.heap.size + 1 + 1 + 1 + 1 + 1 + 1 + 1, 0, rfl, ⟨by omega, by omega⟩, by omega, ?_⟩⟩
    have hj4 : j = 0 ∨ j = 1 ∨ j = 2 ∨ j = 3 := by simp at hj; omega
    rcases hj4 with rfl | rfl | rfl | rfl
    · exact ⟨k7_0, k7_1⟩
    · exact ⟨k7_2, k7_3⟩
    · exact ⟨k7_4, k7_5⟩
    · exact ⟨k7_6, k7_7⟩
  have c10 : SlR colK (fun b => w3.heap.size ≤ b ∧ b ≠ w3.heap.size + 1 + 1 + 1 + 1 + 1 + 1 + 1 + 1 + 1 + 1 + 1 + 1 + 1) W (.slice (some ⟨w3.heap.size + 1 + 1 + 1 + 1 + 1 + 1 + 1 + 1 + 1 + 1, 0, none⟩) 2 2) [⟨⟨#[112, 114, 111, 106, 101, 99, 116]⟩, 4⟩, ⟨⟨#[112, 101, 114, 115, 111, 110]⟩, 4⟩] := by
    refine ⟨_, _, rfl, ⟨Nat.le_refl _, by unfold maxLen; simp, fun e => (by cases e), by simp⟩, fun j hj => ⟨w3.heap.size + 1 + 1 + 1 + 1 + 1 + 1 + 1 + 1 + 1 + 1, 0, rfl, ⟨by omega, by omega⟩, by omega, ?_⟩⟩
    have hj2 : j = 0 ∨ j = 1 := by simp at hj; omega
    rcases hj2 with rfl | rfl
    · exact ⟨k10_0, k10_1⟩
    · exact ⟨k10_2, k10_3⟩
  have c12 : SlR colK (fun b => w3.heap.size ≤ b ∧ b ≠ w3.heap.size + 1 + 1 + 1 + 1 + 1 + 1 + 1 + 1 + 1 + 1 + 1 + 1 + 1) W (.slice (some ⟨w3.heap.size + 1 + 1 + 1 + 1 + 1 + 1 + 1 + 1 + 1 + 1 + 1 + 1, 0, none⟩) 1 1) [⟨⟨#[116, 97, 115, 107]⟩, id⟩] := by
    refine ⟨_, _, rfl, ⟨Nat.le_refl _, by unfold maxLen; simp, fun e => (by cases e), by simp⟩, fun j hj => ⟨w3.heap.size + 1 + 1 + 1 + 1 + 1 + 1 + 1 + 1 + 1 + 1 + 1 + 1, 0, rfl, ⟨by omega, by omega⟩, by omega, ?_⟩⟩
    have hj1 : j = 0 := by simp at hj; omega
    rcases hj1 with rfl
    · exact ⟨k12_0, k12_1⟩
  refine ⟨hm.trans (Mv.of_below hbw), ho.below hbw hlt.2, ⟨hm.size, hlt.2⟩, ⟨by omega, by omega, by omega, by omega, by omega⟩, s0, s1, rfl, fun j hj => ?_, fz⟩
  have hj4 : j = 0 ∨ j = 1 ∨ j = 2 ∨ j = 3 := by simp at hj; omega
  rcases hj4 with rfl | rfl | rfl | rfl
  · exact ⟨_, _, _, _, ⟨t0, t1, t2, t3, t4⟩, c2, SlR.nil _ _ _, PdS.nil _ _⟩
  · exact ⟨_, _, _, _, ⟨t5, t6, t7, t8, t9⟩, c7, SlR.nil _ _ _, PdS.nil _ _⟩
  · exact ⟨_, _, _, _, ⟨t10, t11, t12, t13, t14⟩, c10, SlR.nil _ _ _, PdS.nil _ _⟩
  · exact ⟨_, _, _, _, ⟨t15, t16, t17, t18, t19⟩, c12, SlR.nil _ _ _, PdS.nil _ _⟩
end Go.Proofs.Ytjcbmeannhafjaa

/- The case's Schema. -/
namespace Go.Proofs.Ytjcbmeannhafjaa

open Go.RowKit Go.Deep

theorem cColumn_any (s : ByteArray) (k : Int) (w : World) : Calls Try.prog 31 #[.string s, .int .i64 k] w fun e w' => e = .returned (.agg #[.string s, .int .i64 k]) ∧ w' = w.alloc (.cells #[.string s, .int .i64 k] 35) := by
  go_enter Try.func31, Try.ntmps31
  go_wp2_with fail
  exact bodyPost_ret (v := .agg #[.string s, .int .i64 k]) (by simp [results, Try.results31, go_sem]) rfl ⟨rfl, rfl⟩

/-- Which references and checks a case's schema may have. -/
def refOk (c t : Int) (rs : List RF) : Prop := rs = [] ∨ rs = [⟨[c], t⟩]
def chkOk (id : Int) (ck : List PT) : Prop := ck = [] ∨ ∃ p, ck = [p] ∧ vldP [id, 4, 5, 3] [] p = true ∧ smallP p = true
structure SOk (n : Nat) (id ver : Int) (rs1 rs2 rs3 : List RF) (ck : List PT) : Prop where
  n2 : 2 ≤ n
  n4 : n ≤ 4
  hid : id = 4 ∨ id = 5
  hv : 0 ≤ ver ∧ ver ≤ 2
  r1 : refOk 1 0 rs1
  r2 : refOk 0 0 rs2
  r3 : refOk 0 1 rs3
  h2 : n ≤ 2 → rs2 = []
  h3 : n ≤ 3 → rs3 = []
  hc : chkOk id ck
/-- What Schema returns. -/
def SchPost (bc B : Nat) (w : World) (e : Ending) (w' : World) : Prop :=
  ∃ lo sb tb n id ver rs1 rs2 rs3 ck, e = .returned (.agg #[.int .i64 ver, .slice (some ⟨tb, 0, none⟩) n 4]) ∧ SOk n id ver rs1 rs2 rs3 ck ∧ SInv bc B lo w sb tb n ver [tP, tT id rs1 ck, tM rs2, tA id rs3] w'

theorem kinds_tasks (ver : Int) (n : Nat) (hn : 2 ≤ n) (id : Int) (rs1 rs2 rs3 : List RF) (ck : List PT) : kndT (tbAt ⟨ver, [tP, tT id rs1 ck, tM rs2, tA id rs3].take n⟩ 1) = [id, 4, 5, 3] := by
  obtain ⟨m, rfl⟩ : ∃ m, n = m + 2 := ⟨n - 2, by omega⟩
  have h : (1 : Nat) < ([tP, tT id rs1 ck, tM rs2, tA id rs3].take (m + 2)).length := by simp
  have := tbAt_in (s := ⟨ver, [tP, tT id rs1 ck, tM rs2, tA id rs3].take (m + 2)⟩) (k := 1) h
  rw [show ((1 : Nat) : Int) = 1 from rfl] at this
  rw [this]
  rfl

set_option linter.unusedSimpArgs false in
set_option maxRecDepth 100000 in
set_option maxHeartbeats 8000000 in
theorem cSchema_any (bc B : Nat) (w : World) (h : CaseOk bc B w) : Calls Try.prog 8 #[.pointer (some ⟨bc, 0, none⟩)] w (SchPost bc B w) := by
  have hbl := h.lt
  have HI3 := Lib.hid (fun W (h : CaseOk bc B W) => cInt_any bc B 3 W (by omega) (by omega) h)
  have HB := Lib.hid (fun n (hn : 1 ≤ n) (hn2 : n ≤ 100) W (h : CaseOk bc B W) => cBool_n bc B n W hn hn2 h)
  have HO := Lib.hid h
  clear h
  go_enter Try.func8, Try.ntmps8
  go_wp2_with fail
  refine (HI3.out _ (HO.out.alloc _)).mono ?_
  rintro e w1 ⟨r, rfl, hr0, hr1, hm1, ho1⟩
  obtain ⟨n0, rfl⟩ : ∃ q : Nat, r = q := ⟨r.toNat, by omega⟩
  have hn0 : n0 ≤ 2 := by omega
  have M1 : Hid (Mv bc w w1) := ((Mv.refl _ _).alloc _).trans hm1
  have O1 := Lib.hid ho1
  have hs1 := hm1.size
  simp only [World.size_alloc] at hs1
  have q0 : ∃ v, w1.cell? ⟨w.heap.size, 0, none⟩ = some v := ⟨_, (hm1.cell (p := ⟨w.heap.size, 0, none⟩) (by simp) (show w.heap.size ≠ bc by omega)).trans (by go_simp; rfl)⟩
  have q1 : ∃ v, w1.cell? ⟨w.heap.size, 1, none⟩ = some v := ⟨_, (hm1.cell (p := ⟨w.heap.size, 1, none⟩) (by simp) (show w.heap.size ≠ bc by omega)).trans (by go_simp; rfl)⟩
  have q2 : ∀ o, w1.frozen? ⟨w.heap.size, o, none⟩ = false := fun o => (World.frozen?_of_block (a := ⟨w.heap.size, o, none⟩) (hm1.block w.heap.size (by simp) (by omega))).trans (by go_simp)
  obtain ⟨v0, q0⟩ := q0
  obtain ⟨v1, q1⟩ := q1
  have HQ : Hid (∀ W, Mv bc w1 W → (∃ v, W.cell? ⟨w.heap.size, 0, none⟩ = some v) ∧ (∃ v, W.cell? ⟨w.heap.size, 1, none⟩ = some v) ∧ W.frozen? ⟨w.heap.size, 0, none⟩ = false ∧ W.frozen? ⟨w.heap.size, 1, none⟩ = false) := fun W hm =>
    ⟨⟨_, (hm.cell (p := ⟨w.heap.size, 0, none⟩) (show w.heap.size < _ by omega) (show w.heap.size ≠ bc by omega)).trans q0⟩, ⟨_, (hm.cell (p := ⟨w.heap.size, 1, none⟩) (show w.heap.size < _ by omega) (show w.heap.size ≠ bc by omega)).trans q1⟩, (World.frozen?_of_block (a := ⟨w.heap.size, 0, none⟩) (hm.block w.heap.size (by omega) (by omega))).trans (q2 0), (World.frozen?_of_block (a := ⟨w.heap.size, 1, none⟩) (hm.block w.heap.size (by omega) (by omega))).trans (q2 1)⟩
  clear hm1 ho1 hr0 hr1 q0 q1 q2
  go_wp2_with fail
  refine (HB.out 5 (by omega) (by omega) w1 O1.out).mono ?_
  rintro e w2 ⟨x, rfl, hm2, ho2⟩
  have M2 : Hid (Mv bc w1 w2) := hm2
  have O2 := Lib.hid ho2
  have hs2 := hm2.size
  clear hm2 ho2 O1
  obtain ⟨n, hn⟩ : ∃ n : Nat, 2 + (n0 : Int) = n := ⟨2 + n0, by omega⟩
  have hn2 : 2 ≤ n := by omega
  have hn4 : n ≤ 4 := by omega
  go_upto_if 10 with fail
  clear hn hn0
  go_cut [4] (fun s4 wx => ∃ id : Int, s4 = .int .i64 id ∧ Hid (id = 4 ∨ id = 5) ∧ Hid (wx = w2))
  case first =>
    cases x with
    | true =>
      go_wp2_with fail
      go_meet
      exact ⟨5, rfl, .inr rfl, rfl⟩
    | false =>
      go_wp2_with fail
      go_meet
      exact ⟨4, rfl, .inl rfl, rfl⟩
  case rest =>
  obtain ⟨id, rfl, HID, HWX⟩ := hcut
  rw [HWX.out]
  clear HWX
  go_wp2_with fail
  refine (HI3.out w2 O2.out).mono ?_
  rintro e w3 ⟨r, rfl, hr0, hr1, hm3, ho3⟩
  have HVE : Hid (0 ≤ r ∧ r ≤ 2) := ⟨hr0, by omega⟩
  have M3 : Hid (Mv bc w1 w3) := M2.out.trans hm3
  have O3 := Lib.hid ho3
  have hs3 : w2.heap.size ≤ w3.heap.size := hm3.size
  have hwl : w.heap.size < w3.heap.size := by omega
  clear hm3 ho3 hr0 hr1 O2 M2 HI3
  go_wp2_with (first | (go_at_call 31; refine (cColumn_any _ _ _).mono ?_; rintro e w' ⟨rfl, rfl⟩))
  have HS0 := Lib.hid (sinv_new bc B w w3 n id r O3.out (M1.out.trans M3.out))
  have HQM : Hid (Mv bc w1 w3) := M3.out
  have hb15 : Hid (Below w3.heap.size w3 (((((((((((((((w3.alloc (.cells #[.string ⟨#[105, 100]⟩, .int .i64 4] 35)).alloc (.cells #[.string ⟨#[111, 119, 110, 101, 114]⟩, .int .i64 4] 35)).alloc (.cells #[.string ⟨#[105, 100]⟩, .int .i64 4, .string ⟨#[111, 119, 110, 101, 114]⟩, .int .i64 4] 35)).alloc (.cells #[.string ⟨#[105, 100]⟩, .int .i64 id] 35)).alloc (.cells #[.string ⟨#[112, 114, 111, 106, 101, 99, 116]⟩, .int .i64 4] 35)).alloc (.cells #[.string ⟨#[116, 105, 116, 108, 101]⟩, .int .i64 5] 35)).alloc (.cells #[.string ⟨#[100, 111, 110, 101]⟩, .int .i64 3] 35)).alloc (.cells #[.string ⟨#[105, 100]⟩, .int .i64 id, .string ⟨#[112, 114, 111, 106, 101, 99, 116]⟩, .int .i64 4, .string ⟨#[116, 105, 116, 108, 101]⟩, .int .i64 5, .string ⟨#[100, 111, 110, 101]⟩, .int .i64 3] 35)).alloc (.cells #[.string ⟨#[112, 114, 111, 106, 101, 99, 116]⟩, .int .i64 4] 35)).alloc (.cells #[.string ⟨#[112, 101, 114, 115, 111, 110]⟩, .int .i64 4] 35)).alloc (.cells #[.string ⟨#[112, 114, 111, 106, 101, 99, 116]⟩, .int .i64 4, .string ⟨#[112, 101, 114, 115, 111, 110]⟩, .int .i64 4] 35)).alloc (.cells #[.string ⟨#[116, 97, 115, 107]⟩, .int .i64 id] 35)).alloc (.cells #[.string ⟨#[116, 97, 115, 107]⟩, .int .i64 id] 35)).alloc (.cells #[.string ⟨#[112, 114, 111, 106, 101, 99, 116, 115]⟩, .slice (some ⟨w3.heap.size + 1 + 1, 0, none⟩) 2 2, .int .i64 1, .slice none 0 0, .slice none 0 0, .string ⟨#[116, 97, 115, 107, 115]⟩, .slice (some ⟨w3.heap.size + 1 + 1 + 1 + 1 + 1 + 1 + 1, 0, none⟩) 4 4, .int .i64 1, .slice none 0 0, .slice none 0 0, .string ⟨#[109, 101, 109, 98, 101, 114, 115]⟩, .slice (some ⟨w3.heap.size + 1 + 1 + 1 + 1 + 1 + 1 + 1 + 1 + 1 + 1, 0, none⟩) 2 2, .int .i64 2, .slice none 0 0, .slice none 0 0, .string ⟨#[97, 114, 99, 104, 105, 118, 101, 100]⟩, .slice (some ⟨w3.heap.size + 1 + 1 + 1 + 1 + 1 + 1 + 1 + 1 + 1 + 1 + 1 + 1, 0, none⟩) 1 1, .int .i64 1, .slice none 0 0, .slice none 0 0] 40)).alloc (.cells #[.int .i64 r, .slice (some ⟨w3.heap.size + 1 + 1 + 1 + 1 + 1 + 1 + 1 + 1 + 1 + 1 + 1 + 1 + 1, 0, none⟩) n 4] 25))) := by
    show Below _ _ _
    exact ((((((((((((((((Below.refl _ _).alloc (Nat.le_refl _) _).alloc (by simp only [World.size_alloc]; omega) _).alloc (by simp only [World.size_alloc]; omega) _).alloc (by simp only [World.size_alloc]; omega) _).alloc (by simp only [World.size_alloc]; omega) _).alloc (by simp only [World.size_alloc]; omega) _).alloc (by simp only [World.size_alloc]; omega) _).alloc (by simp only [World.size_alloc]; omega) _).alloc (by simp only [World.size_alloc]; omega) _).alloc (by simp only [World.size_alloc]; omega) _).alloc (by simp only [World.size_alloc]; omega) _).alloc (by simp only [World.size_alloc]; omega) _).alloc (by simp only [World.size_alloc]; omega) _).alloc (by simp only [World.size_alloc]; omega) _).alloc (by simp only [World.size_alloc]; omega) _)
  refine (HB.out 2 (by omega) (by omega) _ HS0.out.ok).mono ?_
  rintro e w4 ⟨x, rfl, hm4, ho4⟩
  have HS4 := Lib.hid (HS0.out.step hm4 ho4)
  have M4 : Hid (Mv bc w1 w4) := (M3.out.trans (Mv.of_below hb15.out)).trans hm4
  have hlo4 : w3.heap.size < w4.heap.size := by have := hm4.size; simp only [World.size_alloc] at this; omega
  clear hm4 ho4 HS0 hb15 HQM
  generalize w3.heap.size + 1 + 1 + 1 + 1 + 1 + 1 + 1 + 1 + 1 + 1 + 1 + 1 + 1 + 1 = sb at *
  generalize w3.heap.size + 1 + 1 + 1 + 1 + 1 + 1 + 1 + 1 + 1 + 1 + 1 + 1 + 1 = tb at *
  generalize hlo : w3.heap.size = lo at *
  have HLO := Lib.hid hlo
  clear hlo O3 M3
  clear HLO
  go_upto_if 40 with fail
  go_cut [] (fun wx => ∃ rs1 : List RF, refOk 1 0 rs1 ∧ Hid (SInv bc B lo w sb tb n r [tP, tT id rs1 [], tM [], tA id []] wx) ∧ Hid (Mv bc w1 wx))
  case first =>
    cases x with
    | false =>
      go_wp2_with fail
      go_meet
      exact ⟨[], .inl rfl, HS4, M4⟩
    | true =>
      obtain ⟨t1, t2, t3, t4, t5⟩ := HS4.out.htb
      have s1 := HS4.out.s1
      have ff := HS4.out.fz 8
      obtain ⟨_, _, _, _, ⟨-, -, -, c3, -⟩, -⟩ := HS4.out.tabs 1 (by simp)
      have hnj : (1 : Int) < n := by omega
      have HX := Lib.hid (HS4.out.refs2 1 (by simp) 1 0)
      have HM : Hid (Mv bc w1 (((w4.setCell ⟨tb, 8, none⟩ (.slice (some ⟨w4.heap.size + 1, 0, none⟩) 1 1)).alloc (.cells #[.int .i64 1] 3)).alloc (.cells #[.slice (some ⟨w4.heap.size, 0, none⟩) 1 1, .int .i64 0] 73))) := ((M4.out.setNew (by omega) _ _).alloc _).alloc _
      go_wp2_with fail
      go_meet
      exact ⟨[⟨[1], 0⟩], .inr rfl, HX.out, HM⟩
  case rest =>
  obtain ⟨w5, rfl⟩ : ∃ x, x = wc := ⟨wc, rfl⟩
  obtain ⟨rs1, hr1, HS5, M5⟩ := hcut
  have HR1 := Lib.hid hr1
  clear HS4 M4 hlo4 hr1
  go_upto_region 9 with fail
  go_cut [53] (fun s53 wx => ∃ b : Bool, s53 = .bool b ∧ (b = true → 2 < n) ∧ Hid (SInv bc B lo w sb tb n r [tP, tT id rs1 [], tM [], tA id []] wx) ∧ Hid (Mv bc w1 wx))
  case first =>
    by_cases hn3 : 2 < n
    · have d1 : decide ((2 : Int) < n) = true := decide_eq_true (by omega)
      have d2 : decide (2 < n) = true := decide_eq_true hn3
      have HBB := Lib.hid (HB.out 3 (by omega) (by omega) w5 HS5.out.ok)
      have HN3 := Lib.hid hn3
      clear hn3
      go_wp2_with fail
      refine HBB.out.mono ?_
      rintro e wx ⟨y, rfl, hmx, hox⟩
      have HX := Lib.hid (HS5.out.step hmx hox)
      have HM := Lib.hid (M5.out.trans hmx)
      clear hmx hox
      go_wp2_with fail
      go_meet
      exact ⟨y, rfl, fun _ => HN3.out, HX, HM⟩
    · have d1 : decide ((2 : Int) < n) = false := decide_eq_false (by omega)
      have d2 : decide (2 < n) = false := decide_eq_false hn3
      clear hn3
      go_wp2_with fail
      go_meet
      exact ⟨false, rfl, fun e => absurd e (by simp), HS5, M5⟩
  case rest =>
  obtain ⟨w6, rfl⟩ : ∃ x, x = wc := ⟨wc, rfl⟩
  obtain ⟨y, rfl, hy, HS6, M6⟩ := hcut
  have HY := Lib.hid hy
  clear HS5 M5 hy
  go_upto_if 53 with fail
  go_cut [] (fun wx => ∃ rs2 : List RF, refOk 0 0 rs2 ∧ (n ≤ 2 → rs2 = []) ∧ Hid (SInv bc B lo w sb tb n r [tP, tT id rs1 [], tM rs2, tA id []] wx) ∧ Hid (Mv bc w1 wx))
  case first =>
    cases y with
    | false =>
      go_wp2_with fail
      go_meet
      exact ⟨[], .inl rfl, fun _ => rfl, HS6, M6⟩
    | true =>
      obtain ⟨t1, t2, t3, t4, t5⟩ := HS6.out.htb
      have s1 := HS6.out.s1
      have ff := HS6.out.fz 13
      obtain ⟨_, _, _, _, ⟨-, -, -, c3, -⟩, -⟩ := HS6.out.tabs 2 (by simp)
      have hnj : (2 : Int) < n := by have := (HY.out (by first | rfl | simp)); omega
      have HX := Lib.hid (HS6.out.refs2 2 (by simp) 0 0)
      have HM : Hid (Mv bc w1 (((w6.setCell ⟨tb, 13, none⟩ (.slice (some ⟨w6.heap.size + 1, 0, none⟩) 1 1)).alloc (.cells #[.int .i64 0] 3)).alloc (.cells #[.slice (some ⟨w6.heap.size, 0, none⟩) 1 1, .int .i64 0] 73))) := ((M6.out.setNew (by omega) _ _).alloc _).alloc _
      go_wp2_with fail
      go_meet
      exact ⟨[⟨[0], 0⟩], .inr rfl, fun h => absurd ((HY.out (by first | rfl | simp))) (by omega), HX.out, HM⟩
  case rest =>
  obtain ⟨w7, rfl⟩ : ∃ x, x = wc := ⟨wc, rfl⟩
  obtain ⟨rs2, hr2, hr2n, HS7, M7⟩ := hcut
  have HR2 := Lib.hid hr2
  have HR2N := Lib.hid hr2n
  clear HS6 M6 HY hr2 hr2n
  go_upto_region 11 with fail
  go_cut [66] (fun s66 wx => ∃ b : Bool, s66 = .bool b ∧ (b = true → 3 < n) ∧ Hid (SInv bc B lo w sb tb n r [tP, tT id rs1 [], tM rs2, tA id []] wx) ∧ Hid (Mv bc w1 wx))
  case first =>
    by_cases hn3 : 3 < n
    · have d1 : decide ((3 : Int) < n) = true := decide_eq_true (by omega)
      have d2 : decide (3 < n) = true := decide_eq_true hn3
      have HBB := Lib.hid (HB.out 3 (by omega) (by omega) w7 HS7.out.ok)
      have HN3 := Lib.hid hn3
      clear hn3
      go_wp2_with fail
      refine HBB.out.mono ?_
      rintro e wx ⟨y, rfl, hmx, hox⟩
      have HX := Lib.hid (HS7.out.step hmx hox)
      have HM := Lib.hid (M7.out.trans hmx)
      clear hmx hox
      go_wp2_with fail
      go_meet
      exact ⟨y, rfl, fun _ => HN3.out, HX, HM⟩
    · have d1 : decide ((3 : Int) < n) = false := decide_eq_false (by omega)
      have d2 : decide (3 < n) = false := decide_eq_false hn3
      clear hn3
      go_wp2_with fail
      go_meet
      exact ⟨false, rfl, fun e => absurd e (by simp), HS7, M7⟩
  case rest =>
  obtain ⟨w8, rfl⟩ : ∃ x, x = wc := ⟨wc, rfl⟩
  obtain ⟨y, rfl, hy, HS8, M8⟩ := hcut
  have HY := Lib.hid hy
  clear HS7 M7 hy
  go_upto_if 66 with fail
  go_cut [] (fun wx => ∃ rs3 : List RF, refOk 0 1 rs3 ∧ (n ≤ 3 → rs3 = []) ∧ Hid (SInv bc B lo w sb tb n r [tP, tT id rs1 [], tM rs2, tA id rs3] wx) ∧ Hid (Mv bc w1 wx))
  case first =>
    cases y with
    | false =>
      go_wp2_with fail
      go_meet
      exact ⟨[], .inl rfl, fun _ => rfl, HS8, M8⟩
    | true =>
      obtain ⟨t1, t2, t3, t4, t5⟩ := HS8.out.htb
      have s1 := HS8.out.s1
      have ff := HS8.out.fz 18
      obtain ⟨_, _, _, _, ⟨-, -, -, c3, -⟩, -⟩ := HS8.out.tabs 3 (by simp)
      have hnj : (3 : Int) < n := by have := (HY.out (by first | rfl | simp)); omega
      have HX := Lib.hid (HS8.out.refs2 3 (by simp) 0 1)
      have HM : Hid (Mv bc w1 (((w8.setCell ⟨tb, 18, none⟩ (.slice (some ⟨w8.heap.size + 1, 0, none⟩) 1 1)).alloc (.cells #[.int .i64 0] 3)).alloc (.cells #[.slice (some ⟨w8.heap.size, 0, none⟩) 1 1, .int .i64 1] 73))) := ((M8.out.setNew (by omega) _ _).alloc _).alloc _
      go_wp2_with fail
      go_meet
      exact ⟨[⟨[0], 1⟩], .inr rfl, fun h => absurd ((HY.out (by first | rfl | simp))) (by omega), HX.out, HM⟩
  case rest =>
  obtain ⟨w9, rfl⟩ : ∃ x, x = wc := ⟨wc, rfl⟩
  obtain ⟨rs3, hr3, hr3n, HS9, M9⟩ := hcut
  have HR3 := Lib.hid hr3
  have HR3N := Lib.hid hr3n
  have HBB := Lib.hid (HB.out 3 (by omega) (by omega) w9 HS9.out.ok)
  clear HS8 M8 HY hr3 hr3n HB
  go_wp2_with fail
  refine HBB.out.mono ?_
  rintro e wt ⟨y, rfl, hm, ho⟩
  have HST := Lib.hid (HS9.out.step hm ho)
  have MT := Lib.hid (M9.out.trans hm)
  clear hm ho HBB HS9 M9
  go_upto_if 75 with fail
  go_cut [] (fun wx => ∃ ck : List PT, chkOk id ck ∧ Hid (SInv bc B lo w sb tb n r [tP, tT id rs1 ck, tM rs2, tA id rs3] wx) ∧ Hid (Mv bc w1 wx))
  case first =>
    cases y with
    | false =>
      go_wp2_with fail
      go_meet
      exact ⟨[], .inl rfl, HST, MT⟩
    | true =>
      obtain ⟨t1, t2, t3, t4, t5⟩ := HST.out.htb
      have hnj : (1 : Int) < n := by omega
      have hbcl := HST.out.bclt
      have HK5 : Hid (∀ W, Mv bc wt W → W.cell? ⟨sb, 0, none⟩ = some (.int .i64 r) ∧ W.cell? ⟨sb, 1, none⟩ = some (.slice (some ⟨tb, 0, none⟩) n 4)) := fun W hm =>
        ⟨(hm.cell (p := ⟨sb, 0, none⟩) t4 (show sb ≠ bc by omega)).trans HST.out.s0, (hm.cell (p := ⟨sb, 1, none⟩) t4 (show sb ≠ bc by omega)).trans HST.out.s1⟩
      have HKK : Hid (∀ W, Below wt.heap.size wt W → Calls Try.prog 19 #[.agg #[.int .i64 r, .slice (some ⟨tb, 0, none⟩) n 4], .int .i64 1] W (KndOwn [id, 4, 5, 3] W)) := fun W hb => by
        have h := rKinds_any _ _ 1 W ((HST.out.sc hn4).below hb)
        rw [kinds_tasks r n hn2 id rs1 rs2 rs3 []] at h
        exact h
      go_upto_region 14 with fail
      refine wp_region_held_drew (S := fun W => W.cell? ⟨sb, 0, none⟩ = some (.int .i64 r) ∧ W.cell? ⟨sb, 1, none⟩ = some (.slice (some ⟨tb, 0, none⟩) n 4)) (by kernel_rfl) (HK5.out _ ((Mv.refl _ _).drewN 1)) (fun hHeld => ?_)
      obtain ⟨wd, hwd⟩ : ∃ wd, wt.drew = wd := ⟨_, rfl⟩
      have hbd : Below wt.heap.size wt wd := by rw [← hwd]; exact (Below.refl _ _).drew
      have HBD := Lib.hid hbd
      have HSD := Lib.hid (HST.out.step (Mv.of_below hbd) (HST.out.ok.below hbd HST.out.ok.lt.2))
      rw [hwd] at hHeld ⊢
      clear hwd hbd
      refine wpAnyH_takeD (i := 0) (d := 76) (v := ?_) rfl rfl (by kernel_rfl) (by kernel_rfl) (by kernel_rfl) (fun _ _ _ h => h) (Or.inl ⟨by rfl, ?_⟩) (by assumption) ?_; rotate_left
      · intro W hSw; (try dsimp only at hSw); go_simp; (try with_reducible rfl)
      (try simp only [List.set_cons_zero, List.set_cons_succ])
      refine wpAnyH_takeD (i := 1) (d := 77) (v := ?_) rfl rfl (by kernel_rfl) (by kernel_rfl) (by kernel_rfl) (fun _ _ _ h => h) (Or.inl ⟨by rfl, ?_⟩) (by assumption) ?_; rotate_left
      · intro W hSw; (try dsimp only at hSw); go_simp; (try with_reducible rfl)
      (try simp only [List.set_cons_zero, List.set_cons_succ])
      refine wpAnyH_takeD (i := 2) (d := 78) (v := ?_) rfl rfl (by kernel_rfl) (by kernel_rfl) (by kernel_rfl) (fun _ _ _ h => h) (Or.inl ⟨by rfl, ?_⟩) (by assumption) ?_; rotate_left
      · intro W hSw; (try dsimp only at hSw); go_simp; (try with_reducible rfl)
      (try simp only [List.set_cons_zero, List.set_cons_succ])
      refine wpAnyH_takeD (i := 3) (d := 79) (v := ?_) rfl rfl (by kernel_rfl) (by kernel_rfl) (by kernel_rfl) (fun _ _ _ h => h) (Or.inl ⟨by rfl, ?_⟩) (by assumption) ?_; rotate_left
      · intro W hSw; (try dsimp only at hSw); go_simp; (try with_reducible rfl)
      (try simp only [List.set_cons_zero, List.set_cons_succ])
      refine wpAnyH_ready (rs := [4]) (by kernel_rfl) (by simp) ?_
      refine AllReadyH.cons rfl (fun K hK => ?_) AllReadyH.nil
      go_simp
      go_at_call 19
      refine (HKK.out _ HBD.out).mono ?_
      rintro e wk ⟨kv, rfl, hko, hkb, -, -⟩
      have HKO : Hid (IntsG lo wk kv [id, 4, 5, 3]) := (intsG_own hko (by simp)).weak (by have := HBD.out.size; omega)
      have HSK := Lib.hid (HSD.out.step (Mv.of_below hkb) (HSD.out.ok.below hkb HSD.out.ok.lt.2))
      have HMK : Hid (Mv bc wt wk) := (Mv.of_below HBD.out).trans (Mv.of_below hkb)
      have hkz := hkb.size
      have hdz := HBD.out.size
      obtain ⟨ka, kc, rfl⟩ := HKO.out.shape
      have HPR := Lib.hid (cPredicate_any bc B lo [id, 4, 5, 3] [] (.slice ka 4 kc) (.slice none 0 0) 1 wk HSK.out.ok (by omega) (by rcases HID.out with rfl | rfl <;> rfl) rfl (by simp) (by simp) HKO.out (IntsG.nil _ _) hbcl)
      clear hHeld hko hkb
      refine hK.out _ _ (HK5.out _ HMK.out) (fun hHeld => ?_)
      clear hK K
      (try simp only [List.set_cons_zero, List.set_cons_succ])
      refine wpAnyH_ready (rs := [5]) (by kernel_rfl) (by simp) ?_
      refine AllReadyH.cons rfl (fun K hK => ?_) AllReadyH.nil
      go_simp
      refine HPR.out.mono ?_
      rintro e wp ⟨p, pa, pc, rfl, hps, hpv, hpm, hm, ho⟩
      have HSP := Lib.hid (HSK.out.step hm ho)
      have HMP : Hid (Mv bc wt wp) := HMK.out.trans hm
      have HPP : Hid (PdS (fun b => lo ≤ b ∧ b ≠ tb) wp p.args pa pc) := hps.weak (fun b hb => ⟨by omega, by omega⟩)
      have HPV : Hid (vldP [id, 4, 5, 3] [] p = true ∧ smallP p = true) := ⟨hpv, hpm⟩
      have hpz := hm.size
      unfold pdV
      clear hps hpv hpm hm ho HPR hHeld
      refine hK.out _ _ (HK5.out _ HMP.out) (fun hHeld => ?_)
      clear hK K
      (try simp only [List.set_cons_zero, List.set_cons_succ])
      refine wpAnyH_ready (rs := [6]) (by kernel_rfl) (by simp) ?_
      refine AllReadyH.cons rfl (fun K hK => ?_) AllReadyH.nil
      go_simp
      have HX := Lib.hid (HSP.out.chk2 1 (by simp) p pa pc HPP.out)
      obtain ⟨wl, hwl⟩ : ∃ wl, wp.alloc (.cells #[.int .i64 p.op, .int .i64 p.cmp, .int .i64 p.l.k, .int .i64 p.l.i, .int .i64 p.l.v.k, .int .i64 p.l.v.n, .string p.l.v.s, .int .i64 p.r.k, .int .i64 p.r.i, .int .i64 p.r.v.k, .int .i64 p.r.v.n, .string p.r.v.s, .slice pa p.args.length pc] 77) = wl := ⟨_, rfl⟩
      have HML : Hid (Mv bc wt wl) := by rw [← hwl]; exact HMP.out.alloc _
      have HWL := Lib.hid hwl
      have HSL : Hid (SInv bc B lo w sb tb n r [tP, tT id rs1 [], tM rs2, tA id rs3] wl) := by rw [← hwl]; exact HSP.out.alloc _
      rw [hwl]
      clear hwl hHeld
      refine hK.out _ _ (HK5.out _ HML.out) (fun hHeld => ?_)
      clear hK K
      (try simp only [List.set_cons_zero, List.set_cons_succ])
      have ff := HSL.out.fz 9
      obtain ⟨_, _, _, _, ⟨-, -, -, -, c4⟩, -⟩ := HSL.out.tabs 1 (by simp)
      obtain ⟨u1, u2, u3, u4, u5⟩ := HSL.out.htb
      refine wpAnyH_takeD (i := 7) (d := 83) (v := ?_) rfl rfl (by kernel_rfl) (by kernel_rfl) (by kernel_rfl) (fun _ _ _ h => h) (Or.inl ⟨by rfl, ?_⟩) (by assumption) ?_; rotate_left
      · intro W hSw; (try dsimp only at hSw); go_simp; (try with_reducible rfl)
      (try simp only [List.set_cons_zero, List.set_cons_succ])
      refine wpAnyH_takeD (i := 8) (d := 84) (v := ?_) rfl rfl (by kernel_rfl) (by kernel_rfl) (by kernel_rfl) (fun _ _ _ h => h) (Or.inl ⟨by rfl, ?_⟩) (by assumption) ?_; rotate_left
      · intro W hSw; (try dsimp only at hSw); go_simp; (try with_reducible rfl)
      (try simp only [List.set_cons_zero, List.set_cons_succ])
      refine wpAnyH_ready (rs := [9]) (by kernel_rfl) (by simp) ?_
      refine AllReadyH.cons rfl (fun K hK => ?_) AllReadyH.nil
      go_simp
      have HXF : Hid (SInv bc B lo w sb tb n r [tP, tT id rs1 [p], tM rs2, tA id rs3] (wl.setCell ⟨tb, 9, none⟩ (.slice (some ⟨wp.heap.size, 0, none⟩) 1 1))) := by
        have e : wl.setCell ⟨tb, 9, none⟩ (.slice (some ⟨wp.heap.size, 0, none⟩) 1 1) = (wp.setCell ⟨tb, 1 * 5 + 4, none⟩ (.slice (some ⟨wp.heap.size, 0, none⟩) 1 1)).alloc (.cells #[.int .i64 p.op, .int .i64 p.cmp, .int .i64 p.l.k, .int .i64 p.l.i, .int .i64 p.l.v.k, .int .i64 p.l.v.n, .string p.l.v.s, .int .i64 p.r.k, .int .i64 p.r.i, .int .i64 p.r.v.k, .int .i64 p.r.v.n, .string p.r.v.s, .slice pa p.args.length pc] 77) := by rw [← HWL.out]; exact World.setCell_alloc_past _ _ _ _ HSP.out.htb.2.1
        rw [e]; exact HX.out
      have HMF : Hid (Mv bc w1 (wl.setCell ⟨tb, 9, none⟩ (.slice (some ⟨wp.heap.size, 0, none⟩) 1 1))) := (MT.out.trans HML.out).setNew (by omega) _ _
      clear HX HWL hHeld
      refine hK.out _ _ ⟨HXF.out.s0, HXF.out.s1⟩ (fun hHeld => ?_)
      clear hK K
      (try simp only [List.set_cons_zero, List.set_cons_succ])
      clear hHeld
      refine wpAnyH_done (by kernel_rfl) ?_ _
      go_wp2_with fail
      go_meet
      exact ⟨[p], .inr ⟨p, rfl, HPV.out⟩, HXF, HMF⟩
  case rest =>
  obtain ⟨wz, rfl⟩ : ∃ x, x = wc := ⟨wc, rfl⟩
  obtain ⟨ck, hck, HSZ, MZ⟩ := hcut
  have HCK := Lib.hid hck
  obtain ⟨⟨v0, q0⟩, ⟨v1, q1⟩, f0, f1⟩ := HQ.out wz MZ.out
  have s0 := HSZ.out.s0
  have s1 := HSZ.out.s1
  obtain ⟨u1, u2, u3, u4, u5⟩ := HSZ.out.htb
  have hwz : w.heap.size < wz.heap.size := by omega
  have HF := Lib.hid ((HSZ.out.setOld (Nat.le_refl _) hbl.2 hwl 0 (.int .i64 r)).setOld (Nat.le_refl _) hbl.2 hwl 1 (.slice (some ⟨tb, 0, none⟩) n 4))
  clear hck HST MT HSZ MZ HQ
  go_wp2_with fail
  refine bodyPost_ret (v := .agg #[.int .i64 r, .slice (some ⟨tb, 0, none⟩) n 4]) (by simp [results, Try.results8, go_sem, *]) rfl ?_
  exact ⟨lo, sb, tb, n, id, r, rs1, rs2, rs3, ck, rfl, ⟨hn2, hn4, HID.out, HVE.out, HR1.out, HR2.out, HR3.out, HR2N.out, HR3N.out, HCK.out⟩, HF.out⟩
end Go.Proofs.Ytjcbmeannhafjaa

/- What is true of a case's schema. -/
namespace Go.Proofs.Ytjcbmeannhafjaa

open Go.RowKit Go.Deep

/-- The schema of a case. -/
def cSC (n : Nat) (id ver : Int) (rs1 rs2 rs3 : List RF) (ck : List PT) : SC := ⟨ver, [tP, tT id rs1 ck, tM rs2, tA id rs3].take n⟩
theorem cSC_len {n : Nat} (hn : n ≤ 4) (id ver : Int) (rs1 rs2 rs3 : List RF) (ck : List PT) : (cSC n id ver rs1 rs2 rs3 ck).ts.length = n := by unfold cSC; simp; omega
/-- A reference names columns of its table whose kinds are those of the other table's key. -/
def refGood (s : SC) (t : TB) (r : RF) : Prop := (∀ c ∈ r.c, inB (kndT t).length c = true) ∧ r.c.map (atI (kndT t)) = keyK (tbAt s r.t)
variable {n : Nat} {id ver : Int} {rs1 rs2 rs3 : List RF} {ck : List PT}
theorem SOk.cases (h : SOk n id ver rs1 rs2 rs3 ck) : n = 2 ∨ n = 3 ∨ n = 4 := by have := h.n2; have := h.n4; omega
theorem cSC_mem (h : SOk n id ver rs1 rs2 rs3 ck) {t : TB} (ht : t ∈ (cSC n id ver rs1 rs2 rs3 ck).ts) : t = tP ∨ t = tT id rs1 ck ∨ t = tM rs2 ∨ (t = tA id rs3 ∧ n = 4) := by
  unfold cSC at ht
  rcases h.cases with rfl | rfl | rfl
  · have : t = tP ∨ t = tT id rs1 ck := by simpa using ht
    rcases this with h | h <;> simp [h]
  · have : t = tP ∨ t = tT id rs1 ck ∨ t = tM rs2 := by simpa using ht
    rcases this with h | h | h <;> simp [h]
  · have : t = tP ∨ t = tT id rs1 ck ∨ t = tM rs2 ∨ t = tA id rs3 := by simpa using ht
    rcases this with h | h | h | h <;> simp [h]
theorem tb0 (h : SOk n id ver rs1 rs2 rs3 ck) : tbAt (cSC n id ver rs1 rs2 rs3 ck) 0 = tP := by
  rcases h.cases with rfl | rfl | rfl <;> rfl
theorem tb1 (h : SOk n id ver rs1 rs2 rs3 ck) : tbAt (cSC n id ver rs1 rs2 rs3 ck) 1 = tT id rs1 ck := by
  rcases h.cases with rfl | rfl | rfl <;> rfl
theorem case_good (h : SOk n id ver rs1 rs2 rs3 ck) : ∀ t ∈ (cSC n id ver rs1 rs2 rs3 ck).ts, ∀ r ∈ t.rs, refGood (cSC n id ver rs1 rs2 rs3 ck) t r := by
  intro t ht r hr
  rcases cSC_mem h ht with rfl | rfl | rfl | ⟨rfl, -⟩
  · simp [tP] at hr
  · rcases h.r1 with rfl | rfl
    · simp [tT] at hr
    · have : r = ⟨[1], 0⟩ := by simpa [tT] using hr
      subst this
      refine ⟨fun c hc => ?_, ?_⟩
      · have : c = 1 := by simpa using hc
        subst this; rfl
      · show [4] = keyK (tbAt _ 0); rw [tb0 h]; rfl
  · rcases h.r2 with rfl | rfl
    · simp [tM] at hr
    · have : r = ⟨[0], 0⟩ := by simpa [tM] using hr
      subst this
      refine ⟨fun c hc => ?_, ?_⟩
      · have : c = 0 := by simpa using hc
        subst this; rfl
      · show [4] = keyK (tbAt _ 0); rw [tb0 h]; rfl
  · rcases h.r3 with rfl | rfl
    · simp [tA] at hr
    · have : r = ⟨[0], 1⟩ := by simpa [tA] using hr
      subst this
      refine ⟨fun c hc => ?_, ?_⟩
      · have : c = 0 := by simpa using hc
        subst this; rfl
      · show [id] = keyK (tbAt _ 1); rw [tb1 h]; rfl
theorem case_kinds (h : SOk n id ver rs1 rs2 rs3 ck) : ∀ t ∈ (cSC n id ver rs1 rs2 rs3 ck).ts, okKs (kndT t) = true ∧ (kndT t).length ≤ 4 ∧ 1 ≤ t.key ∧ t.key ≤ (kndT t).length := by
  intro t ht
  have hid := h.hid
  rcases cSC_mem h ht with rfl | rfl | rfl | ⟨rfl, -⟩
  · exact ⟨rfl, by decide, by decide, by decide⟩
  · rcases hid with rfl | rfl <;> exact ⟨rfl, by simp [kndT, tT], by simp [tT], by simp [kndT, tT]⟩
  · exact ⟨rfl, by simp [kndT, tM], by simp [tM], by simp [kndT, tM]⟩
  · rcases hid with rfl | rfl <;> exact ⟨rfl, by simp [kndT, tA], by simp [tA], by simp [kndT, tA]⟩
/-- The modes are weaker and weaker. -/
theorem fitB_mode {ck' : Int} {i : Nat} {key m m' : Int} {v : V} (hm : m = 1 ∧ m' = 2 ∨ m = 2 ∧ m' = 3) (h : fitB ck' i key m v = true) : fitB ck' i key m' v = true := by
  unfold fitB at h ⊢
  rw [Bool.and_eq_true] at h ⊢
  refine ⟨h.1, ?_⟩
  rcases hm with ⟨rfl, rfl⟩ | ⟨rfl, rfl⟩
  · have := h.2; simp at this ⊢; rcases this with h | h <;> simp_all
  · have := h.2; simp at this ⊢; rcases this with h | h <;> simp_all
theorem fitL_mode {key m m' : Int} (hm : m = 1 ∧ m' = 2 ∨ m = 2 ∧ m' = 3) : ∀ (k : Nat) (cs : List CL) (l : List V), fitL key m k cs l = true → fitL key m' k cs l = true
  | k, [], l, _ => by cases l <;> rfl
  | k, c :: cs, [], _ => rfl
  | k, c :: cs, v :: l, h => by
    rw [fitL, Bool.and_eq_true] at h ⊢
    exact ⟨fitB_mode hm h.1, fitL_mode hm _ cs l h.2⟩
theorem fitsT_mode {s : SC} {i : Int} {l : List V} {m m' : Int} (hm : m = 1 ∧ m' = 2 ∨ m = 2 ∧ m' = 3) (h : fitsT s i l m = true) : fitsT s i l m' = true := by
  unfold fitsT at h ⊢
  simp only [Bool.and_eq_true] at h ⊢
  refine ⟨h.1, ?_, h.2.2.1, fitL_mode hm _ _ _ h.2.2.2⟩
  rcases hm with ⟨rfl, rfl⟩ | ⟨rfl, rfl⟩ <;> rfl
end Go.Proofs.Ytjcbmeannhafjaa
