
/- Arguments that are predicates, or lists of values or of ints, opened. -/
import Derived.Test.YtjkjmkplcjfogaaRow

import Derived.Test.YtjkjmkplcjfogaaPdBindMem

import Derived.ProofKit

import Derived.Deep.Slices

import Derived.SizedLaws

import Derived.Lib.SmallJoins

namespace Go.Proofs.Ytjkjmkplcjfogaa

open Go.RowKit Go.ChangeShapes Go.WideShapes Go.Deep

section

variable {H : Type} {enc : TypeId × Value → H} {W : World}

theorem spot_p {w : World} {a : Addr} {v : Value} (h : w.cell? a = some v) : a.spot = none ∧ a.block < w.heap.size := by
  refine ⟨?_, World.block_lt_of_cell? _ _ h⟩
  unfold World.cell? at h
  split at h
  · split at h
    · simp at h
    · rename_i hs
      cases hsp : a.spot with
      | none => rfl
      | some x => rw [hsp] at hs; simp at hs
  · simp at h
theorem add_zero_p (a : Addr) : a.add 0 = a := by unfold Addr.add; simp
theorem add_form_p (a : Addr) (h : a.spot = none) (j : Nat) : a.add j = ⟨a.block, a.off + j, none⟩ := by
  obtain ⟨b, o, s⟩ := a
  simp only at h
  subst h
  unfold Addr.add
  split <;> simp_all
theorem weightsAll_memP {P : Program} {t : TypeId} {n : Nat} {d : DataW H} : ∀ {l : List (DataW H)}, d ∈ l → n ∈ d.weights P t → n ∈ DataW.weightsAll P t l
  | [], h, _ => by simp at h
  | x :: r, h, hn => by
    rw [DataW.weightsAll, List.mem_append]
    rcases List.mem_cons.1 h with rfl | h
    · exact .inl hn
    · exact .inr (weightsAll_memP h hn)

set_option maxRecDepth 100000 in
theorem open_valueP {fuel : Nat} {cs : List Value} {x : DataW H × List MemPlace} (h : DataW.trod enc Try.prog W 0 (fun _ => true) true fuel 24 cs = some x) : ∃ v : V, cs = [.int .i64 v.k, .int .i64 v.n, .string v.s] := by
  obtain ⟨xs, n, _, _, hl, hxl, hf⟩ := DataW.trod_struct Try.underlying24 h
  have hC : Try.prog.cellsOf 24 = 3 := by kernel_rfl
  have h1 : Try.prog.cellsOf 3 = 1 := by kernel_rfl
  have h2 : Try.prog.cellsOf 2 = 1 := by kernel_rfl
  have h3 : Try.prog.cellsOf 9 = 1 := by kernel_rfl
  rw [hC] at hl
  match cs, hl, xs, hxl with
  | [c0, c1, c2], _, [x0, x1, x2], _ =>
    have f0 : DataW.trod enc Try.prog W 0 (fun _ => true) true n 3 (List.take (Try.prog.cellsOf 3) (List.drop 0 [c0, c1, c2])) = some x0 := hf 0 _ rfl
    have f1 : DataW.trod enc Try.prog W 0 (fun _ => true) true n 2 (List.take (Try.prog.cellsOf 2) (List.drop 1 [c0, c1, c2])) = some x1 := hf 1 _ rfl
    have f2 : DataW.trod enc Try.prog W 0 (fun _ => true) true n 9 (List.take (Try.prog.cellsOf 9) (List.drop 2 [c0, c1, c2])) = some x2 := hf 2 _ rfl
    rw [h1] at f0
    rw [h2] at f1
    rw [h3] at f2
    obtain ⟨a, e0, _⟩ := DataW.trod_int Try.underlying3 f0
    obtain ⟨b, e1, _⟩ := DataW.trod_int Try.underlying2 f1
    obtain ⟨s, e2, _⟩ := DataW.trod_string Try.underlying9 f2
    change [c0] = _ at e0
    change [c1] = _ at e1
    change [c2] = _ at e2
    simp only [List.cons.injEq, and_true] at e0 e1 e2
    subst e0 e1 e2
    exact ⟨⟨a, b, s⟩, rfl⟩

set_option maxRecDepth 100000 in
theorem open_operand {fuel : Nat} {cs : List Value} {x : DataW H × List MemPlace} (h : DataW.trod enc Try.prog W 0 (fun _ => true) true fuel 26 cs = some x) : ∃ o : Od, cs = [.int .i64 o.k, .int .i64 o.i, .int .i64 o.v.k, .int .i64 o.v.n, .string o.v.s] := by
  obtain ⟨xs, n, _, _, hl, hxl, hf⟩ := DataW.trod_struct Try.underlying26 h
  have hC : Try.prog.cellsOf 26 = 5 := by kernel_rfl
  have h1 : Try.prog.cellsOf 3 = 1 := by kernel_rfl
  have h3 : Try.prog.cellsOf 24 = 3 := by kernel_rfl
  rw [hC] at hl
  match cs, hl, xs, hxl with
  | [c0, c1, c2, c3, c4], _, [x0, x1, x2], _ =>
    have f0 : DataW.trod enc Try.prog W 0 (fun _ => true) true n 3 (List.take (Try.prog.cellsOf 3) (List.drop 0 [c0, c1, c2, c3, c4])) = some x0 := hf 0 _ rfl
    have f1 : DataW.trod enc Try.prog W 0 (fun _ => true) true n 3 (List.take (Try.prog.cellsOf 3) (List.drop 1 [c0, c1, c2, c3, c4])) = some x1 := hf 1 _ rfl
    have f2 : DataW.trod enc Try.prog W 0 (fun _ => true) true n 24 (List.take (Try.prog.cellsOf 24) (List.drop 2 [c0, c1, c2, c3, c4])) = some x2 := hf 2 _ rfl
    rw [h1] at f0 f1
    rw [h3] at f2
    obtain ⟨a, e0, _⟩ := DataW.trod_int Try.underlying3 f0
    obtain ⟨b, e1, _⟩ := DataW.trod_int Try.underlying3 f1
    obtain ⟨v, e2⟩ := open_valueP f2
    change [c0] = _ at e0
    change [c1] = _ at e1
    change [c2, c3, c4] = _ at e2
    simp only [List.cons.injEq, and_true] at e0 e1 e2
    obtain ⟨e2, e3, e4⟩ := e2
    subst e0 e1 e2 e3 e4
    exact ⟨⟨a, b, v⟩, rfl⟩

set_option maxRecDepth 100000 in
/-- The cells of a predicate. -/
theorem open_pred : ∀ (fuel : Nat) {cs : List Value} {x : DataW H × List MemPlace}, DataW.trod enc Try.prog W 0 (fun _ => true) true fuel 29 cs = some x → (∀ m ∈ x.1.weights Try.prog 29, m ≤ reachBytes) →
    ∃ t : TE, cs = t.cells ∧ PdS (fun _ => True) W t.p.args t.a t.c ∧ widP t.p := by
  intro fuel
  induction fuel using Nat.strongRecOn with
  | ind fuel ih =>
    intro cs x h hw
    obtain ⟨xs, n, hfu, hx, hl, hxl, hf⟩ := DataW.trod_struct Try.underlying29 h
    have hC : Try.prog.cellsOf 29 = 13 := by kernel_rfl
    have h1 : Try.prog.cellsOf 3 = 1 := by kernel_rfl
    have h5 : Try.prog.cellsOf 26 = 5 := by kernel_rfl
    have hs1 : Try.prog.cellsOf 27 = 1 := by kernel_rfl
    have hby : Try.prog.bytesOf 29 = 136 := by kernel_rfl
    have hl13 := hl
    rw [hC] at hl13
    match cs, hl13, xs, hxl, hf, hx with
    | [c0, c1, c2, c3, c4, c5, c6, c7, c8, c9, c10, c11, c12], _, [x0, x1, x2, x3, x4], _, hf, hx =>
      have f0 : DataW.trod enc Try.prog W 0 (fun _ => true) true n 3 (List.take (Try.prog.cellsOf 3) (List.drop 0 [c0, c1, c2, c3, c4, c5, c6, c7, c8, c9, c10, c11, c12])) = some x0 := hf 0 _ rfl
      have f1 : DataW.trod enc Try.prog W 0 (fun _ => true) true n 3 (List.take (Try.prog.cellsOf 3) (List.drop 1 [c0, c1, c2, c3, c4, c5, c6, c7, c8, c9, c10, c11, c12])) = some x1 := hf 1 _ rfl
      have f2 : DataW.trod enc Try.prog W 0 (fun _ => true) true n 26 (List.take (Try.prog.cellsOf 26) (List.drop 2 [c0, c1, c2, c3, c4, c5, c6, c7, c8, c9, c10, c11, c12])) = some x2 := hf 2 _ rfl
      have f3 : DataW.trod enc Try.prog W 0 (fun _ => true) true n 26 (List.take (Try.prog.cellsOf 26) (List.drop 7 [c0, c1, c2, c3, c4, c5, c6, c7, c8, c9, c10, c11, c12])) = some x3 := hf 3 _ rfl
      have f4 : DataW.trod enc Try.prog W 0 (fun _ => true) true n 27 (List.take (Try.prog.cellsOf 27) (List.drop 12 [c0, c1, c2, c3, c4, c5, c6, c7, c8, c9, c10, c11, c12])) = some x4 := hf 4 _ rfl
      rw [h1] at f0 f1
      rw [h5] at f2 f3
      rw [hs1] at f4
      obtain ⟨op, e0, _⟩ := DataW.trod_int Try.underlying3 f0
      obtain ⟨cmp, e1, _⟩ := DataW.trod_int Try.underlying3 f1
      obtain ⟨l, e2⟩ := open_operand f2
      obtain ⟨r, e3⟩ := open_operand f3
      change [c0] = _ at e0
      change [c1] = _ at e1
      change [c2, c3, c4, c5, c6] = _ at e2
      change [c7, c8, c9, c10, c11] = _ at e3
      change DataW.trod enc Try.prog W 0 (fun _ => true) true n 27 [c12] = some x4 at f4
      simp only [List.cons.injEq, and_true] at e0 e1 e2 e3
      obtain ⟨e2, e21, e22, e23, e24⟩ := e2
      obtain ⟨e3, e31, e32, e33, e34⟩ := e3
      subst e0 e1 e2 e21 e22 e23 e24 e3 e31 e32 e33 e34
      have hw4 : ∀ m ∈ x4.1.weights Try.prog 27, m ≤ reachBytes := fun m hm => hw m (by
        rw [hx]
        simp only [DataW.weights, Try.underlying29]
        exact DataW.weights_mem_each (j := 4) (t := 27) (d := x4.1) rfl rfl m hm)
      rcases DataW.trod_slice Try.underlying27 f4 with ⟨hcs, _⟩ | ⟨ad, len, cap, elems, rest, n', hn', hcs, hx4, _, hle, hmx, hlen, hel, -, -⟩
      · simp only [List.cons.injEq, and_true] at hcs
        subst hcs
        exact ⟨⟨.mk op cmp l r [], none, 0⟩, rfl, PdS.nil _ _, by unfold widP; exact ⟨by simp, by unfold widL; trivial⟩⟩
      · simp only [List.cons.injEq, and_true] at hcs
        subst hcs
        have hsz : len * 136 ≤ 140737488351232 := by
          have := hw4 ((elems.length + rest.length) * 136) (by
            rw [hx4]
            simp only [DataW.weights, Try.underlying27, List.length_map, hby]
            exact List.mem_cons_self)
          rw [show reachBytes = 140737488351232 from rfl, hlen] at this
          have h2 : len * 136 ≤ (len + rest.length) * 136 := Nat.mul_le_mul_right _ (by omega)
          omega
        have hv : ∀ i, ∃ t : TE, i < len → (∃ cs', W.cells? 0 (ad.add (i * 13)) 13 = some cs' ∧ cs' = t.cells) ∧ PdS (fun _ => True) W t.p.args t.a t.c ∧ widP t.p := by
          intro i
          by_cases hi : i < len
          · have hb := hel i hi
            rw [hC, List.getElem?_eq_getElem (by omega)] at hb
            obtain ⟨cs', hc, ht⟩ := Option.bind_eq_some_iff.1 hb
            obtain ⟨t, e, hp, hwd⟩ := ih n' (by omega) ht (fun m hm => hw4 m (by
              rw [hx4]
              simp only [DataW.weights, Try.underlying27, List.mem_cons, List.mem_append]
              exact .inr (.inl (weightsAll_memP (List.mem_map.2 ⟨_, List.getElem_mem (by omega), rfl⟩) hm))))
            exact ⟨t, fun _ => ⟨⟨cs', hc, e⟩, hp, hwd⟩⟩
          · exact ⟨⟨.mk 0 0 zO zO [], none, 0⟩, fun hh => absurd hh hi⟩
        obtain ⟨f, hfc⟩ := Classical.axiomOfChoice hv
        have hll : ((List.range len).map fun i => (f i).p).length = len := by simp
        refine ⟨⟨.mk op cmp l r ((List.range len).map fun i => (f i).p), some ad, cap⟩, by simp [TE.cells, PT.op, PT.cmp, PT.l, PT.r, PT.args], ⟨⟨by simpa [PT.args] using hle, hmx, fun e => (by cases e), by show List.length _ ≤ _; rw [show (PT.mk op cmp l r ((List.range len).map fun i => (f i).p)).args = (List.range len).map fun i => (f i).p from rfl, hll]; omega⟩, ?_⟩, ?_⟩
        · by_cases h0 : len = 0
          · left; show List.length _ = 0; rw [show (PT.mk op cmp l r ((List.range len).map fun i => (f i).p)).args = (List.range len).map fun i => (f i).p from rfl, hll]; exact h0
          · right
            have cat : ∀ i, i < len → ∀ j, j < 13 → W.cell? ((ad.add (i * 13)).add j) = ((f i).cells)[j]? := fun i hi j hj => by
              obtain ⟨⟨cs', hc, e⟩, _⟩ := hfc i hi
              obtain ⟨_, _, hat⟩ := World.cells?_some hc
              rw [← e]; exact hat j hj
            have z0 := cat 0 (by omega) 0 (by omega)
            rw [Nat.zero_mul, add_zero_p, add_zero_p] at z0
            obtain ⟨hsa, hbl⟩ := spot_p (v := .int .i64 (f 0).p.op) (by rw [z0]; rfl)
            refine ⟨ad.block, ad.off, by obtain ⟨b, o, s⟩ := ad; simp only at hsa; subst hsa; rfl, trivial, hbl, PdL.mk' fun i hi => ?_⟩
            have hi' : i < len := by simpa [PT.args] using hi
            have ck : ∀ j, j < 13 → W.cell? ⟨ad.block, ad.off + i * 13 + j, none⟩ = ((f i).cells)[j]? := fun j hj => by
              have := cat i hi' j hj
              rw [add_form_p ad hsa, add_form_p _ rfl] at this
              exact this
            simp only [PT.args, List.getElem_map, List.getElem_range]
            exact PdC.close (a := (f i).a) (c := (f i).c) (ck 0 (by omega)) (ck 1 (by omega)) ⟨ck 2 (by omega), ck 3 (by omega), ck 4 (by omega), ck 5 (by omega), ck 6 (by omega)⟩ ⟨ck 7 (by omega), ck 8 (by omega), ck 9 (by omega), ck 10 (by omega), ck 11 (by omega)⟩ (ck 12 (by omega)) (hfc i hi').2.1
        · unfold widP
          refine ⟨by rw [hll]; omega, ?_⟩
          have : ∀ L : List Nat, (∀ i ∈ L, i < len) → widL (L.map fun i => (f i).p) := fun L => by
            induction L with
            | nil => intro _; unfold widL; trivial
            | cons a t iht =>
              intro hL
              rw [List.map_cons]
              unfold widL
              exact ⟨(hfc a (hL a (by simp))).2.2, iht fun i hi => hL i (by simp [hi])⟩
          exact this _ fun i hi => List.mem_range.1 hi

set_option maxRecDepth 100000 in
/-- A slice of values reads as a list of them. -/
theorem open_vals {fuel : Nat} {a : Option Addr} {n c : Nat} {x : DataW H × List MemPlace} (h : DataW.trod enc Try.prog W 0 (fun _ => true) true fuel 37 [.slice a n c] = some x)
    (hs : ∀ elems spare, x.1 = .slice elems spare → elems.length + spare.length ≤ 4398046511104) : ∃ l : List V, l.length = n ∧ RowAt W (.slice a n c) l := by
  rcases open_slice Try.underlying37 h with ⟨hcs, _⟩ | ⟨ad, len, cap, m, k, D, Pl, hcs, _, hl, _, hm, hx, hi⟩
  · simp at hcs
    obtain ⟨rfl, rfl, rfl⟩ := hcs
    exact ⟨[], rfl, none, 0, rfl, by simp, fun i h => absurd h (by simp)⟩
  · simp at hcs
    obtain ⟨rfl, rfl, rfl⟩ := hcs
    have hmc : m = c := by simpa using hm
    subst hmc
    have hC : Try.prog.cellsOf 24 = 3 := by kernel_rfl
    have hsz : n ≤ 4398046511104 := by
      have := hs _ _ (by rw [hx])
      simp at this
      omega
    have hv : ∀ i, ∃ v : V, i < m → ∃ b off, (some ad : Option Addr) = some ⟨b, off, none⟩ ∧ b < W.heap.size ∧ CellsV W b (off + i * 3) v := by
      intro i
      by_cases hm' : i < m
      · obtain ⟨cs', hc, ht⟩ := hi i hm'
        rw [hC] at hc
        obtain ⟨v, rfl⟩ := open_valueP ht
        obtain ⟨_, _, hat⟩ := World.cells?_some hc
        have c0 := hat 0 (by omega)
        have c1 := hat 1 (by omega)
        have c2 := hat 2 (by omega)
        simp only [List.getElem?_cons_zero, List.getElem?_cons_succ] at c0 c1 c2
        rw [add_zero_p] at c0
        obtain ⟨hsp, hbl⟩ := spot_p c0
        have hsa : ad.spot = none := by
          by_cases h0 : i = 0
          · subst h0
            have : ad.add (0 * 3) = ad := by rw [Nat.zero_mul, add_zero_p]
            rw [this] at hsp; exact hsp
          · by_cases hs0 : ad.spot = none
            · exact hs0
            · obtain ⟨cs0, hc0, ht0⟩ := hi 0 (by omega)
              rw [hC] at hc0
              obtain ⟨v0, rfl⟩ := open_valueP ht0
              have z0 := (World.cells?_some hc0).2.2 0 (by omega)
              rw [Nat.zero_mul, add_zero_p, add_zero_p] at z0
              exact (spot_p z0).1
        rw [add_form_p ad hsa] at c0 c1 c2 hbl
        rw [add_form_p _ rfl] at c1 c2
        exact ⟨v, fun _ => ⟨ad.block, ad.off, by obtain ⟨b, o, s⟩ := ad; simp only at hsa; subst hsa; rfl, hbl, c0, c1, c2⟩⟩
      · exact ⟨default, fun h => absurd h hm'⟩
    obtain ⟨f, hf⟩ := Classical.axiomOfChoice hv
    refine ⟨(List.range n).map f, by simp, some ad, m, by simp, by simpa using hsz, fun i hi' => ?_⟩
    simp only [List.length_map, List.length_range] at hi'
    obtain ⟨b, off, e, hb, hc⟩ := hf i (by omega)
    exact ⟨b, off, e, hb, by simpa using hc⟩

set_option maxRecDepth 100000 in
/-- A slice of values reads as a list of them. -/
theorem open_rowP {fuel : Nat} {a : Option Addr} {n c : Nat} {x : DataW H × List MemPlace} (h : DataW.trod enc Try.prog W 0 (fun _ => true) true fuel 38 [.slice a n c] = some x)
    (hs : ∀ elems spare, x.1 = .slice elems spare → elems.length + spare.length ≤ 4398046511104) : ∃ l : List V, l.length = n ∧ RowAt W (.slice a n c) l := by
  rcases open_slice Try.underlying38 h with ⟨hcs, _⟩ | ⟨ad, len, cap, m, k, D, Pl, hcs, _, hl, _, hm, hx, hi⟩
  · simp at hcs
    obtain ⟨rfl, rfl, rfl⟩ := hcs
    exact ⟨[], rfl, none, 0, rfl, by simp, fun i h => absurd h (by simp)⟩
  · simp at hcs
    obtain ⟨rfl, rfl, rfl⟩ := hcs
    have hmc : m = c := by simpa using hm
    subst hmc
    have hC : Try.prog.cellsOf 24 = 3 := by kernel_rfl
    have hsz : n ≤ 4398046511104 := by
      have := hs _ _ (by rw [hx])
      simp at this
      omega
    have hv : ∀ i, ∃ v : V, i < m → ∃ b off, (some ad : Option Addr) = some ⟨b, off, none⟩ ∧ b < W.heap.size ∧ CellsV W b (off + i * 3) v := by
      intro i
      by_cases hm' : i < m
      · obtain ⟨cs', hc, ht⟩ := hi i hm'
        rw [hC] at hc
        obtain ⟨v, rfl⟩ := open_valueP ht
        obtain ⟨_, _, hat⟩ := World.cells?_some hc
        have c0 := hat 0 (by omega)
        have c1 := hat 1 (by omega)
        have c2 := hat 2 (by omega)
        simp only [List.getElem?_cons_zero, List.getElem?_cons_succ] at c0 c1 c2
        rw [add_zero_p] at c0
        obtain ⟨hsp, hbl⟩ := spot_p c0
        have hsa : ad.spot = none := by
          by_cases h0 : i = 0
          · subst h0
            have : ad.add (0 * 3) = ad := by rw [Nat.zero_mul, add_zero_p]
            rw [this] at hsp; exact hsp
          · by_cases hs0 : ad.spot = none
            · exact hs0
            · obtain ⟨cs0, hc0, ht0⟩ := hi 0 (by omega)
              rw [hC] at hc0
              obtain ⟨v0, rfl⟩ := open_valueP ht0
              have z0 := (World.cells?_some hc0).2.2 0 (by omega)
              rw [Nat.zero_mul, add_zero_p, add_zero_p] at z0
              exact (spot_p z0).1
        rw [add_form_p ad hsa] at c0 c1 c2 hbl
        rw [add_form_p _ rfl] at c1 c2
        exact ⟨v, fun _ => ⟨ad.block, ad.off, by obtain ⟨b, o, s⟩ := ad; simp only at hsa; subst hsa; rfl, hbl, c0, c1, c2⟩⟩
      · exact ⟨default, fun h => absurd h hm'⟩
    obtain ⟨f, hf⟩ := Classical.axiomOfChoice hv
    refine ⟨(List.range n).map f, by simp, some ad, m, by simp, by simpa using hsz, fun i hi' => ?_⟩
    simp only [List.length_map, List.length_range] at hi'
    obtain ⟨b, off, e, hb, hc⟩ := hf i (by omega)
    exact ⟨b, off, e, hb, by simpa using hc⟩

set_option maxRecDepth 100000 in
/-- A slice of ints reads as a list of them. -/
theorem open_intsP {fuel : Nat} {a : Option Addr} {n c : Nat} {x : DataW H × List MemPlace} (h : DataW.trod enc Try.prog W 0 (fun _ => true) true fuel 32 [.slice a n c] = some x)
    (hs : ∀ elems spare, x.1 = .slice elems spare → elems.length + spare.length ≤ 17592186044416) : ∃ l : List Int, l.length = n ∧ IntsAt W (.slice a n c) l := by
  rcases open_slice Try.underlying32 h with ⟨hcs, _⟩ | ⟨ad, len, cap, m, k, D, Pl, hcs, _, hl, hmx, hm, hx, hi⟩
  · simp at hcs
    obtain ⟨rfl, rfl, rfl⟩ := hcs
    exact ⟨[], rfl, (IntsG.nil 0 W).at⟩
  · simp at hcs
    obtain ⟨rfl, rfl, rfl⟩ := hcs
    have hmc : m = c := by simpa using hm
    subst hmc
    have hC : Try.prog.cellsOf 3 = 1 := by kernel_rfl
    have hsz : n ≤ 17592186044416 := by
      have := hs _ _ (by rw [hx])
      simp at this
      omega
    have hv : ∀ i, ∃ v : Int, i < m → ∃ b off, (some ad : Option Addr) = some ⟨b, off, none⟩ ∧ b < W.heap.size ∧ W.cell? ⟨b, off + i, none⟩ = some (.int .i64 v) := by
      intro i
      by_cases hm' : i < m
      · obtain ⟨cs', hc, ht⟩ := hi i hm'
        rw [hC, Nat.mul_one] at hc
        obtain ⟨v, rfl, _⟩ := DataW.trod_int Try.underlying3 ht
        obtain ⟨_, _, hat⟩ := World.cells?_some hc
        have c0 := hat 0 (by omega)
        simp only [List.getElem?_cons_zero] at c0
        rw [add_zero_p] at c0
        obtain ⟨hsp, hbl⟩ := spot_p c0
        have hsa : ad.spot = none := by
          by_cases h0 : i = 0
          · subst h0
            rw [add_zero_p] at hsp; exact hsp
          · by_cases hs0 : ad.spot = none
            · exact hs0
            · obtain ⟨cs0, hc0, ht0⟩ := hi 0 (by omega)
              rw [hC] at hc0
              obtain ⟨v0, rfl, _⟩ := DataW.trod_int Try.underlying3 ht0
              have z0 := (World.cells?_some hc0).2.2 0 (by omega)
              rw [Nat.zero_mul, add_zero_p, add_zero_p] at z0
              exact (spot_p z0).1
        rw [add_form_p ad hsa] at c0 hbl
        exact ⟨v, fun _ => ⟨ad.block, ad.off, by obtain ⟨b, o, s⟩ := ad; simp only at hsa; subst hsa; rfl, hbl, c0⟩⟩
      · exact ⟨0, fun h => absurd h hm'⟩
    obtain ⟨f, hf⟩ := Classical.axiomOfChoice hv
    refine ⟨(List.range n).map f, by simp, some ad, m, by simp, ⟨by simpa using hl, hmx, fun e => (by cases e), by simpa using hsz⟩, fun i hi' => ?_⟩
    simp only [List.length_map, List.length_range] at hi'
    obtain ⟨b, off, e, hb, hc⟩ := hf i (by omega)
    exact ⟨b, off, e, hb, by simpa using hc⟩
end

end Go.Proofs.Ytjkjmkplcjfogaa
