
/- A predicate as an argument, with the bound on its nodes that the argument's bulk gives. -/
import Derived.Test.YtjkjmkplcjfogaaOpenP

import Derived.Test.YtjkjmkplcjfogaaRows

import Derived.Test.YtjkjmkplcjfogaaPdMath2

namespace Go.Proofs.Ytjkjmkplcjfogaa

open Go.RowKit Go.ChangeShapes Go.WideShapes Go.Deep

section

variable {H : Type} {enc : TypeId × Value → H} {W : World}
theorem bulk_one {H : Type} (d : DataW H) : 1 ≤ Rows.uptoBulk d := by
  cases d with
  | lit l => cases l <;> simp [Rows.uptoBulk]
  | nil => simp [Rows.uptoBulk]
  | ptr d => simp [Rows.uptoBulk]
  | slice elems spare => simp [Rows.uptoBulk]
  | agg parts => simp [Rows.uptoBulk]
  | iface t d => simp [Rows.uptoBulk]
  | map entries => simp [Rows.uptoBulk]
  | held h => simp [Rows.uptoBulk]
set_option maxRecDepth 100000 in
/-- The cells of a predicate. -/
theorem open_predU : ∀ (fuel : Nat) {cs : List Value} {x : DataW H × List MemPlace}, DataW.trod enc Try.prog W 0 (fun _ => true) true fuel 29 cs = some x → (∀ m ∈ x.1.weights Try.prog 29, m ≤ reachBytes) →
    ∃ t : TE, cs = t.cells ∧ PdS (fun _ => True) W t.p.args t.a t.c ∧ widP t.p ∧ t.p.nodes ≤ Rows.uptoBulk x.1 := by
  intro fuel
  induction fuel using Nat.strongRecOn with
  | ind fuel ih =>
    intro cs x h hw
    obtain ⟨xs, n, hfu, hx, hl, hxl, hf⟩ := DataW.trod_struct Try.underlying29 h
    have hC : Try.prog.cellsOf 29 = 13 := by kernel_rfl
    have h1 : Try.prog.cellsOf 3 = 1 := by kernel_rfl
    have h5 : Try.prog.cellsOf 26 = 5 := by kernel_rfl
    have hs1 : Try.prog.cellsOf 27 = 1 := by kernel_rfl
    have hby : Try.prog.bytesOf 29 = 136 := by kernel_rfl
    have hl13 := hl
    rw [hC] at hl13
    match cs, hl13, xs, hxl, hf, hx with
    | [c0, c1, c2, c3, c4, c5, c6, c7, c8, c9, c10, c11, c12], _, [x0, x1, x2, x3, x4], _, hf, hx =>
      have f0 : DataW.trod enc Try.prog W 0 (fun _ => true) true n 3 (List.take (Try.prog.cellsOf 3) (List.drop 0 [c0, c1, c2, c3, c4, c5, c6, c7, c8, c9, c10, c11, c12])) = some x0 := hf 0 _ rfl
      have f1 : DataW.trod enc Try.prog W 0 (fun _ => true) true n 3 (List.take (Try.prog.cellsOf 3) (List.drop 1 [c0, c1, c2, c3, c4, c5, c6, c7, c8, c9, c10, c11, c12])) = some x1 := hf 1 _ rfl
      have f2 : DataW.trod enc Try.prog W 0 (fun _ => true) true n 26 (List.take (Try.prog.cellsOf 26) (List.drop 2 [c0, c1, c2, c3, c4, c5, c6, c7, c8, c9, c10, c11, c12])) = some x2 := hf 2 _ rfl
      have f3 : DataW.trod enc Try.prog W 0 (fun _ => true) true n 26 (List.take (Try.prog.cellsOf 26) (List.drop 7 [c0, c1, c2, c3, c4, c5, c6, c7, c8, c9, c10, c11, c12])) = some x3 := hf 3 _ rfl
      have f4 : DataW.trod enc Try.prog W 0 (fun _ => true) true n 27 (List.take (Try.prog.cellsOf 27) (List.drop 12 [c0, c1, c2, c3, c4, c5, c6, c7, c8, c9, c10, c11, c12])) = some x4 := hf 4 _ rfl
      rw [h1] at f0 f1
      rw [h5] at f2 f3
      rw [hs1] at f4
      obtain ⟨op, e0, _⟩ := DataW.trod_int Try.underlying3 f0
      obtain ⟨cmp, e1, _⟩ := DataW.trod_int Try.underlying3 f1
      obtain ⟨l, e2⟩ := open_operand f2
      obtain ⟨r, e3⟩ := open_operand f3
      change [c0] = _ at e0
      change [c1] = _ at e1
      change [c2, c3, c4, c5, c6] = _ at e2
      change [c7, c8, c9, c10, c11] = _ at e3
      change DataW.trod enc Try.prog W 0 (fun _ => true) true n 27 [c12] = some x4 at f4
      simp only [List.cons.injEq, and_true] at e0 e1 e2 e3
      obtain ⟨e2, e21, e22, e23, e24⟩ := e2
      obtain ⟨e3, e31, e32, e33, e34⟩ := e3
      subst e0 e1 e2 e21 e22 e23 e24 e3 e31 e32 e33 e34
      have hw4 : ∀ m ∈ x4.1.weights Try.prog 27, m ≤ reachBytes := fun m hm => hw m (by
        rw [hx]
        simp only [DataW.weights, Try.underlying29]
        exact DataW.weights_mem_each (j := 4) (t := 27) (d := x4.1) rfl rfl m hm)
      rcases DataW.trod_slice Try.underlying27 f4 with ⟨hcs, _⟩ | ⟨ad, len, cap, elems, rest, n', hn', hcs, hx4, _, hle, hmx, hlen, hel, -, -⟩
      · simp only [List.cons.injEq, and_true] at hcs
        subst hcs
        exact ⟨⟨.mk op cmp l r [], none, 0⟩, rfl, PdS.nil _ _, by unfold widP; exact ⟨by simp, by unfold widL; trivial⟩, by show PT.nodes (.mk op cmp l r []) ≤ _; rw [PT.nodes, nodesL]; exact bulk_one _⟩
      · simp only [List.cons.injEq, and_true] at hcs
        subst hcs
        have hsz : len * 136 ≤ 140737488351232 := by
          have := hw4 ((elems.length + rest.length) * 136) (by
            rw [hx4]
            simp only [DataW.weights, Try.underlying27, List.length_map, hby]
            exact List.mem_cons_self)
          rw [show reachBytes = 140737488351232 from rfl, hlen] at this
          have h2 : len * 136 ≤ (len + rest.length) * 136 := Nat.mul_le_mul_right _ (by omega)
          omega
        have hv : ∀ i, ∃ t : TE, i < len → (∃ cs', W.cells? 0 (ad.add (i * 13)) 13 = some cs' ∧ cs' = t.cells) ∧ PdS (fun _ => True) W t.p.args t.a t.c ∧ widP t.p ∧ ∀ h : i < elems.length, t.p.nodes ≤ Rows.uptoBulk elems[i].1 := by
          intro i
          by_cases hi : i < len
          · have hb := hel i hi
            rw [hC, List.getElem?_eq_getElem (by omega)] at hb
            obtain ⟨cs', hc, ht⟩ := Option.bind_eq_some_iff.1 hb
            obtain ⟨t, e, hp, hwd, hnd⟩ := ih n' (by omega) ht (fun m hm => hw4 m (by
              rw [hx4]
              simp only [DataW.weights, Try.underlying27, List.mem_cons, List.mem_append]
              exact .inr (.inl (weightsAll_memP (List.mem_map.2 ⟨_, List.getElem_mem (by omega), rfl⟩) hm))))
            exact ⟨t, fun _ => ⟨⟨cs', hc, e⟩, hp, hwd, fun _ => hnd⟩⟩
          · exact ⟨⟨.mk 0 0 zO zO [], none, 0⟩, fun hh => absurd hh hi⟩
        obtain ⟨f, hfc⟩ := Classical.axiomOfChoice hv
        have hll : ((List.range len).map fun i => (f i).p).length = len := by simp
        refine ⟨⟨.mk op cmp l r ((List.range len).map fun i => (f i).p), some ad, cap⟩, by simp [TE.cells, PT.op, PT.cmp, PT.l, PT.r, PT.args], ⟨⟨by simpa [PT.args] using hle, hmx, fun e => (by cases e), by show List.length _ ≤ _; rw [show (PT.mk op cmp l r ((List.range len).map fun i => (f i).p)).args = (List.range len).map fun i => (f i).p from rfl, hll]; omega⟩, ?_⟩, ?_, ?_⟩
        · by_cases h0 : len = 0
          · left; show List.length _ = 0; rw [show (PT.mk op cmp l r ((List.range len).map fun i => (f i).p)).args = (List.range len).map fun i => (f i).p from rfl, hll]; exact h0
          · right
            have cat : ∀ i, i < len → ∀ j, j < 13 → W.cell? ((ad.add (i * 13)).add j) = ((f i).cells)[j]? := fun i hi j hj => by
              obtain ⟨⟨cs', hc, e⟩, _⟩ := hfc i hi
              obtain ⟨_, _, hat⟩ := World.cells?_some hc
              rw [← e]; exact hat j hj
            have z0 := cat 0 (by omega) 0 (by omega)
            rw [Nat.zero_mul, add_zero_p, add_zero_p] at z0
            obtain ⟨hsa, hbl⟩ := spot_p (v := .int .i64 (f 0).p.op) (by rw [z0]; rfl)
            refine ⟨ad.block, ad.off, by obtain ⟨b, o, s⟩ := ad; simp only at hsa; subst hsa; rfl, trivial, hbl, PdL.mk' fun i hi => ?_⟩
            have hi' : i < len := by simpa [PT.args] using hi
            have ck : ∀ j, j < 13 → W.cell? ⟨ad.block, ad.off + i * 13 + j, none⟩ = ((f i).cells)[j]? := fun j hj => by
              have := cat i hi' j hj
              rw [add_form_p ad hsa, add_form_p _ rfl] at this
              exact this
            simp only [PT.args, List.getElem_map, List.getElem_range]
            exact PdC.close (a := (f i).a) (c := (f i).c) (ck 0 (by omega)) (ck 1 (by omega)) ⟨ck 2 (by omega), ck 3 (by omega), ck 4 (by omega), ck 5 (by omega), ck 6 (by omega)⟩ ⟨ck 7 (by omega), ck 8 (by omega), ck 9 (by omega), ck 10 (by omega), ck 11 (by omega)⟩ (ck 12 (by omega)) (hfc i hi').2.1
        · unfold widP
          refine ⟨by rw [hll]; omega, ?_⟩
          have : ∀ L : List Nat, (∀ i ∈ L, i < len) → widL (L.map fun i => (f i).p) := fun L => by
            induction L with
            | nil => intro _; unfold widL; trivial
            | cons a t iht =>
              intro hL
              rw [List.map_cons]
              unfold widL
              exact ⟨(hfc a (hL a (by simp))).2.2.1, iht fun i hi => hL i (by simp [hi])⟩
          exact this _ fun i hi => List.mem_range.1 hi
        · show PT.nodes (.mk op cmp l r _) ≤ _
          rw [PT.nodes, hx, hx4]
          have hL : ∀ (es : List (DataW H × List MemPlace)) (o : Nat), (∀ i (h : i < es.length), (f (o + i)).p.nodes ≤ Rows.uptoBulk es[i].1) → nodesL ((List.range' o es.length).map fun i => (f i).p) ≤ Rows.uptoBulkAll (es.map (·.1)) := by
            intro es
            induction es with
            | nil => intro o _; simp [nodesL]
            | cons e es ih2 =>
              intro o ho
              rw [List.length_cons, List.range'_succ, List.map_cons, nodesL, List.map_cons, Rows.uptoBulkAll]
              have h1 := ho 0 (by simp)
              have h2 := ih2 (o + 1) (fun i hi => by have := ho (i + 1) (by simpa using hi); rw [show o + 1 + i = o + (i + 1) from by omega]; simpa using this)
              simp only [Nat.add_zero, List.getElem_cons_zero] at h1
              omega
          have h3 := hL elems 0 (fun i hi => by rw [Nat.zero_add]; exact (hfc i (by omega)).2.2.2 hi)
          rw [hlen, ← List.range_eq_range'] at h3
          simp only [Rows.uptoBulk, List.map_cons, List.map_nil, Rows.uptoBulkAll]
          omega
end

end Go.Proofs.Ytjkjmkplcjfogaa
