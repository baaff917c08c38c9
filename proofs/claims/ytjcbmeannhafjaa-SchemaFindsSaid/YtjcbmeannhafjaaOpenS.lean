
/- Arguments that are predicates, or lists of values or of ints, opened. -/
import Derived.Test.YtjcbmeannhafjaaRow

import Derived.Test.YtjcbmeannhafjaaPdBindMem

import Derived.ProofKit

import Derived.Deep.Slices

import Derived.SizedLaws

import Derived.Lib.SmallJoins

import Derived.Test.YtjcbmeannhafjaaScSound

namespace Go.Proofs.Ytjcbmeannhafjaa

open Go.RowKit Go.ChangeShapes Go.WideShapes Go.Deep

section

variable {H : Type} {enc : TypeId × Value → H} {W : World}

theorem spot_p {w : World} {a : Addr} {v : Value} (h : w.cell? a = some v) : a.spot = none ∧ a.block < w.heap.size := by
  refine ⟨?_, World.block_lt_of_cell? _ _ h⟩
  unfold World.cell? at h
  split at h
  · split at h
    · simp at h
    · rename_i hs
      cases hsp : a.spot with
      | none => rfl
      | some x => rw [hsp] at hs; simp at hs
  · simp at h
theorem add_zero_p (a : Addr) : a.add 0 = a := by unfold Addr.add; simp
theorem add_form_p (a : Addr) (h : a.spot = none) (j : Nat) : a.add j = ⟨a.block, a.off + j, none⟩ := by
  obtain ⟨b, o, s⟩ := a
  simp only at h
  subst h
  unfold Addr.add
  split <;> simp_all
theorem weightsAll_memP {P : Program} {t : TypeId} {n : Nat} {d : DataW H} : ∀ {l : List (DataW H)}, d ∈ l → n ∈ d.weights P t → n ∈ DataW.weightsAll P t l
  | [], h, _ => by simp at h
  | x :: r, h, hn => by
    rw [DataW.weightsAll, List.mem_append]
    rcases List.mem_cons.1 h with rfl | h
    · exact .inl hn
    · exact .inr (weightsAll_memP h hn)

set_option maxRecDepth 100000 in
theorem open_valueP {fuel : Nat} {cs : List Value} {x : DataW H × List MemPlace} (h : DataW.trod enc Try.prog W 0 (fun _ => true) true fuel 57 cs = some x) : ∃ v : V, cs = [.int .i64 v.k, .int .i64 v.n, .string v.s] := by
  obtain ⟨xs, n, _, _, hl, hxl, hf⟩ := DataW.trod_struct Try.underlying57 h
  have hC : Try.prog.cellsOf 57 = 3 := by kernel_rfl
  have h1 : Try.prog.cellsOf 3 = 1 := by kernel_rfl
  have h2 : Try.prog.cellsOf 2 = 1 := by kernel_rfl
  have h3 : Try.prog.cellsOf 9 = 1 := by kernel_rfl
  rw [hC] at hl
  match cs, hl, xs, hxl with
  | [c0, c1, c2], _, [x0, x1, x2], _ =>
    have f0 : DataW.trod enc Try.prog W 0 (fun _ => true) true n 3 (List.take (Try.prog.cellsOf 3) (List.drop 0 [c0, c1, c2])) = some x0 := hf 0 _ rfl
    have f1 : DataW.trod enc Try.prog W 0 (fun _ => true) true n 2 (List.take (Try.prog.cellsOf 2) (List.drop 1 [c0, c1, c2])) = some x1 := hf 1 _ rfl
    have f2 : DataW.trod enc Try.prog W 0 (fun _ => true) true n 9 (List.take (Try.prog.cellsOf 9) (List.drop 2 [c0, c1, c2])) = some x2 := hf 2 _ rfl
    rw [h1] at f0
    rw [h2] at f1
    rw [h3] at f2
    obtain ⟨a, e0, _⟩ := DataW.trod_int Try.underlying3 f0
    obtain ⟨b, e1, _⟩ := DataW.trod_int Try.underlying2 f1
    obtain ⟨s, e2, _⟩ := DataW.trod_string Try.underlying9 f2
    change [c0] = _ at e0
    change [c1] = _ at e1
    change [c2] = _ at e2
    simp only [List.cons.injEq, and_true] at e0 e1 e2
    subst e0 e1 e2
    exact ⟨⟨a, b, s⟩, rfl⟩

set_option maxRecDepth 100000 in
theorem open_operand {fuel : Nat} {cs : List Value} {x : DataW H × List MemPlace} (h : DataW.trod enc Try.prog W 0 (fun _ => true) true fuel 75 cs = some x) : ∃ o : Od, cs = [.int .i64 o.k, .int .i64 o.i, .int .i64 o.v.k, .int .i64 o.v.n, .string o.v.s] := by
  obtain ⟨xs, n, _, _, hl, hxl, hf⟩ := DataW.trod_struct Try.underlying75 h
  have hC : Try.prog.cellsOf 75 = 5 := by kernel_rfl
  have h1 : Try.prog.cellsOf 3 = 1 := by kernel_rfl
  have h3 : Try.prog.cellsOf 57 = 3 := by kernel_rfl
  rw [hC] at hl
  match cs, hl, xs, hxl with
  | [c0, c1, c2, c3, c4], _, [x0, x1, x2], _ =>
    have f0 : DataW.trod enc Try.prog W 0 (fun _ => true) true n 3 (List.take (Try.prog.cellsOf 3) (List.drop 0 [c0, c1, c2, c3, c4])) = some x0 := hf 0 _ rfl
    have f1 : DataW.trod enc Try.prog W 0 (fun _ => true) true n 3 (List.take (Try.prog.cellsOf 3) (List.drop 1 [c0, c1, c2, c3, c4])) = some x1 := hf 1 _ rfl
    have f2 : DataW.trod enc Try.prog W 0 (fun _ => true) true n 57 (List.take (Try.prog.cellsOf 57) (List.drop 2 [c0, c1, c2, c3, c4])) = some x2 := hf 2 _ rfl
    rw [h1] at f0 f1
    rw [h3] at f2
    obtain ⟨a, e0, _⟩ := DataW.trod_int Try.underlying3 f0
    obtain ⟨b, e1, _⟩ := DataW.trod_int Try.underlying3 f1
    obtain ⟨v, e2⟩ := open_valueP f2
    change [c0] = _ at e0
    change [c1] = _ at e1
    change [c2, c3, c4] = _ at e2
    simp only [List.cons.injEq, and_true] at e0 e1 e2
    obtain ⟨e2, e3, e4⟩ := e2
    subst e0 e1 e2 e3 e4
    exact ⟨⟨a, b, v⟩, rfl⟩

set_option maxRecDepth 100000 in
/-- The cells of a predicate. -/
theorem open_pred : ∀ (fuel : Nat) {cs : List Value} {x : DataW H × List MemPlace}, DataW.trod enc Try.prog W 0 (fun _ => true) true fuel 77 cs = some x → (∀ m ∈ x.1.weights Try.prog 77, m ≤ reachBytes) →
    ∃ t : TE, cs = t.cells ∧ PdS (fun _ => True) W t.p.args t.a t.c ∧ widP t.p := by
  intro fuel
  induction fuel using Nat.strongRecOn with
  | ind fuel ih =>
    intro cs x h hw
    obtain ⟨xs, n, hfu, hx, hl, hxl, hf⟩ := DataW.trod_struct Try.underlying77 h
    have hC : Try.prog.cellsOf 77 = 13 := by kernel_rfl
    have h1 : Try.prog.cellsOf 3 = 1 := by kernel_rfl
    have h5 : Try.prog.cellsOf 75 = 5 := by kernel_rfl
    have hs1 : Try.prog.cellsOf 38 = 1 := by kernel_rfl
    have hby : Try.prog.bytesOf 77 = 136 := by kernel_rfl
    have hl13 := hl
    rw [hC] at hl13
    match cs, hl13, xs, hxl, hf, hx with
    | [c0, c1, c2, c3, c4, c5, c6, c7, c8, c9, c10, c11, c12], _, [x0, x1, x2, x3, x4], _, hf, hx =>
      have f0 : DataW.trod enc Try.prog W 0 (fun _ => true) true n 3 (List.take (Try.prog.cellsOf 3) (List.drop 0 [c0, c1, c2, c3, c4, c5, c6, c7, c8, c9, c10, c11, c12])) = some x0 := hf 0 _ rfl
      have f1 : DataW.trod enc Try.prog W 0 (fun _ => true) true n 3 (List.take (Try.prog.cellsOf 3) (List.drop 1 [c0, c1, c2, c3, c4, c5, c6, c7, c8, c9, c10, c11, c12])) = some x1 := hf 1 _ rfl
      have f2 : DataW.trod enc Try.prog W 0 (fun _ => true) true n 75 (List.take (Try.prog.cellsOf 75) (List.drop 2 [c0, c1, c2, c3, c4, c5, c6, c7, c8, c9, c10, c11, c12])) = some x2 := hf 2 _ rfl
      have f3 : DataW.trod enc Try.prog W 0 (fun _ => true) true n 75 (List.take (Try.prog.cellsOf 75) (List.drop 7 [c0, c1, c2, c3, c4, c5, c6, c7, c8, c9, c10, c11, c12])) = some x3 := hf 3 _ rfl
      have f4 : DataW.trod enc Try.prog W 0 (fun _ => true) true n 38 (List.take (Try.prog.cellsOf 38) (List.drop 12 [c0, c1, c2, c3, c4, c5, c6, c7, c8, c9, c10, c11, c12])) = some x4 := hf 4 _ rfl
      rw [h1] at f0 f1
      rw [h5] at f2 f3
      rw [hs1] at f4
      obtain ⟨op, e0, _⟩ := DataW.trod_int Try.underlying3 f0
      obtain ⟨cmp, e1, _⟩ := DataW.trod_int Try.underlying3 f1
      obtain ⟨l, e2⟩ := open_operand f2
      obtain ⟨r, e3⟩ := open_operand f3
      change [c0] = _ at e0
      change [c1] = _ at e1
      change [c2, c3, c4, c5, c6] = _ at e2
      change [c7, c8, c9, c10, c11] = _ at e3
      change DataW.trod enc Try.prog W 0 (fun _ => true) true n 38 [c12] = some x4 at f4
      simp only [List.cons.injEq, and_true] at e0 e1 e2 e3
      obtain ⟨e2, e21, e22, e23, e24⟩ := e2
      obtain ⟨e3, e31, e32, e33, e34⟩ := e3
      subst e0 e1 e2 e21 e22 e23 e24 e3 e31 e32 e33 e34
      have hw4 : ∀ m ∈ x4.1.weights Try.prog 38, m ≤ reachBytes := fun m hm => hw m (by
        rw [hx]
        simp only [DataW.weights, Try.underlying77]
        exact DataW.weights_mem_each (j := 4) (t := 38) (d := x4.1) rfl rfl m hm)
      rcases DataW.trod_slice Try.underlying38 f4 with ⟨hcs, _⟩ | ⟨ad, len, cap, elems, rest, n', hn', hcs, hx4, _, hle, hmx, hlen, hel, -, -⟩
      · simp only [List.cons.injEq, and_true] at hcs
        subst hcs
        exact ⟨⟨.mk op cmp l r [], none, 0⟩, rfl, PdS.nil _ _, by unfold widP; exact ⟨by simp, by unfold widL; trivial⟩⟩
      · simp only [List.cons.injEq, and_true] at hcs
        subst hcs
        have hsz : len * 136 ≤ 140737488351232 := by
          have := hw4 ((elems.length + rest.length) * 136) (by
            rw [hx4]
            simp only [DataW.weights, Try.underlying38, List.length_map, hby]
            exact List.mem_cons_self)
          rw [show reachBytes = 140737488351232 from rfl, hlen] at this
          have h2 : len * 136 ≤ (len + rest.length) * 136 := Nat.mul_le_mul_right _ (by omega)
          omega
        have hv : ∀ i, ∃ t : TE, i < len → (∃ cs', W.cells? 0 (ad.add (i * 13)) 13 = some cs' ∧ cs' = t.cells) ∧ PdS (fun _ => True) W t.p.args t.a t.c ∧ widP t.p := by
          intro i
          by_cases hi : i < len
          · have hb := hel i hi
            rw [hC, List.getElem?_eq_getElem (by omega)] at hb
            obtain ⟨cs', hc, ht⟩ := Option.bind_eq_some_iff.1 hb
            obtain ⟨t, e, hp, hwd⟩ := ih n' (by omega) ht (fun m hm => hw4 m (by
              rw [hx4]
              simp only [DataW.weights, Try.underlying38, List.mem_cons, List.mem_append]
              exact .inr (.inl (weightsAll_memP (List.mem_map.2 ⟨_, List.getElem_mem (by omega), rfl⟩) hm))))
            exact ⟨t, fun _ => ⟨⟨cs', hc, e⟩, hp, hwd⟩⟩
          · exact ⟨⟨.mk 0 0 zO zO [], none, 0⟩, fun hh => absurd hh hi⟩
        obtain ⟨f, hfc⟩ := Classical.axiomOfChoice hv
        have hll : ((List.range len).map fun i => (f i).p).length = len := by simp
        refine ⟨⟨.mk op cmp l r ((List.range len).map fun i => (f i).p), some ad, cap⟩, by simp [TE.cells, PT.op, PT.cmp, PT.l, PT.r, PT.args], ⟨⟨by simpa [PT.args] using hle, hmx, fun e => (by cases e), by show List.length _ ≤ _; rw [show (PT.mk op cmp l r ((List.range len).map fun i => (f i).p)).args = (List.range len).map fun i => (f i).p from rfl, hll]; omega⟩, ?_⟩, ?_⟩
        · by_cases h0 : len = 0
          · left; show List.length _ = 0; rw [show (PT.mk op cmp l r ((List.range len).map fun i => (f i).p)).args = (List.range len).map fun i => (f i).p from rfl, hll]; exact h0
          · right
            have cat : ∀ i, i < len → ∀ j, j < 13 → W.cell? ((ad.add (i * 13)).add j) = ((f i).cells)[j]? := fun i hi j hj => by
              obtain ⟨⟨cs', hc, e⟩, _⟩ := hfc i hi
              obtain ⟨_, _, hat⟩ := World.cells?_some hc
              rw [← e]; exact hat j hj
            have z0 := cat 0 (by omega) 0 (by omega)
            rw [Nat.zero_mul, add_zero_p, add_zero_p] at z0
            obtain ⟨hsa, hbl⟩ := spot_p (v := .int .i64 (f 0).p.op) (by rw [z0]; rfl)
            refine ⟨ad.block, ad.off, by obtain ⟨b, o, s⟩ := ad; simp only at hsa; subst hsa; rfl, trivial, hbl, PdL.mk' fun i hi => ?_⟩
            have hi' : i < len := by simpa [PT.args] using hi
            have ck : ∀ j, j < 13 → W.cell? ⟨ad.block, ad.off + i * 13 + j, none⟩ = ((f i).cells)[j]? := fun j hj => by
              have := cat i hi' j hj
              rw [add_form_p ad hsa, add_form_p _ rfl] at this
              exact this
            simp only [PT.args, List.getElem_map, List.getElem_range]
            exact PdC.close (a := (f i).a) (c := (f i).c) (ck 0 (by omega)) (ck 1 (by omega)) ⟨ck 2 (by omega), ck 3 (by omega), ck 4 (by omega), ck 5 (by omega), ck 6 (by omega)⟩ ⟨ck 7 (by omega), ck 8 (by omega), ck 9 (by omega), ck 10 (by omega), ck 11 (by omega)⟩ (ck 12 (by omega)) (hfc i hi').2.1
        · unfold widP
          refine ⟨by rw [hll]; omega, ?_⟩
          have : ∀ L : List Nat, (∀ i ∈ L, i < len) → widL (L.map fun i => (f i).p) := fun L => by
            induction L with
            | nil => intro _; unfold widL; trivial
            | cons a t iht =>
              intro hL
              rw [List.map_cons]
              unfold widL
              exact ⟨(hfc a (hL a (by simp))).2.2, iht fun i hi => hL i (by simp [hi])⟩
          exact this _ fun i hi => List.mem_range.1 hi

set_option maxRecDepth 100000 in
/-- A slice of values reads as a list of them. -/
theorem open_vals {fuel : Nat} {a : Option Addr} {n c : Nat} {x : DataW H × List MemPlace} (h : DataW.trod enc Try.prog W 0 (fun _ => true) true fuel 44 [.slice a n c] = some x)
    (hs : ∀ elems spare, x.1 = .slice elems spare → elems.length + spare.length ≤ 4398046511104) : ∃ l : List V, l.length = n ∧ RowAt W (.slice a n c) l := by
  rcases open_slice Try.underlying44 h with ⟨hcs, _⟩ | ⟨ad, len, cap, m, k, D, Pl, hcs, _, hl, _, hm, hx, hi⟩
  · simp at hcs
    obtain ⟨rfl, rfl, rfl⟩ := hcs
    exact ⟨[], rfl, none, 0, rfl, by simp, fun i h => absurd h (by simp)⟩
  · simp at hcs
    obtain ⟨rfl, rfl, rfl⟩ := hcs
    have hmc : m = c := by simpa using hm
    subst hmc
    have hC : Try.prog.cellsOf 57 = 3 := by kernel_rfl
    have hsz : n ≤ 4398046511104 := by
      have := hs _ _ (by rw [hx])
      simp at this
      omega
    have hv : ∀ i, ∃ v : V, i < m → ∃ b off, (some ad : Option Addr) = some ⟨b, off, none⟩ ∧ b < W.heap.size ∧ CellsV W b (off + i * 3) v := by
      intro i
      by_cases hm' : i < m
      · obtain ⟨cs', hc, ht⟩ := hi i hm'
        rw [hC] at hc
        obtain ⟨v, rfl⟩ := open_valueP ht
        obtain ⟨_, _, hat⟩ := World.cells?_some hc
        have c0 := hat 0 (by omega)
        have c1 := hat 1 (by omega)
        have c2 := hat 2 (by omega)
        simp only [List.getElem?_cons_zero, List.getElem?_cons_succ] at c0 c1 c2
        rw [add_zero_p] at c0
        obtain ⟨hsp, hbl⟩ := spot_p c0
        have hsa : ad.spot = none := by
          by_cases h0 : i = 0
          · subst h0
            have : ad.add (0 * 3) = ad := by rw [Nat.zero_mul, add_zero_p]
            rw [this] at hsp; exact hsp
          · by_cases hs0 : ad.spot = none
            · exact hs0
            · obtain ⟨cs0, hc0, ht0⟩ := hi 0 (by omega)
              rw [hC] at hc0
              obtain ⟨v0, rfl⟩ := open_valueP ht0
              have z0 := (World.cells?_some hc0).2.2 0 (by omega)
              rw [Nat.zero_mul, add_zero_p, add_zero_p] at z0
              exact (spot_p z0).1
        rw [add_form_p ad hsa] at c0 c1 c2 hbl
        rw [add_form_p _ rfl] at c1 c2
        exact ⟨v, fun _ => ⟨ad.block, ad.off, by obtain ⟨b, o, s⟩ := ad; simp only at hsa; subst hsa; rfl, hbl, c0, c1, c2⟩⟩
      · exact ⟨default, fun h => absurd h hm'⟩
    obtain ⟨f, hf⟩ := Classical.axiomOfChoice hv
    refine ⟨(List.range n).map f, by simp, some ad, m, by simp, by simpa using hsz, fun i hi' => ?_⟩
    simp only [List.length_map, List.length_range] at hi'
    obtain ⟨b, off, e, hb, hc⟩ := hf i (by omega)
    exact ⟨b, off, e, hb, by simpa using hc⟩

set_option maxRecDepth 100000 in
/-- A slice of values reads as a list of them. -/
theorem open_rowP {fuel : Nat} {a : Option Addr} {n c : Nat} {x : DataW H × List MemPlace} (h : DataW.trod enc Try.prog W 0 (fun _ => true) true fuel 45 [.slice a n c] = some x)
    (hs : ∀ elems spare, x.1 = .slice elems spare → elems.length + spare.length ≤ 4398046511104) : ∃ l : List V, l.length = n ∧ RowAt W (.slice a n c) l := by
  rcases open_slice Try.underlying45 h with ⟨hcs, _⟩ | ⟨ad, len, cap, m, k, D, Pl, hcs, _, hl, _, hm, hx, hi⟩
  · simp at hcs
    obtain ⟨rfl, rfl, rfl⟩ := hcs
    exact ⟨[], rfl, none, 0, rfl, by simp, fun i h => absurd h (by simp)⟩
  · simp at hcs
    obtain ⟨rfl, rfl, rfl⟩ := hcs
    have hmc : m = c := by simpa using hm
    subst hmc
    have hC : Try.prog.cellsOf 57 = 3 := by kernel_rfl
    have hsz : n ≤ 4398046511104 := by
      have := hs _ _ (by rw [hx])
      simp at this
      omega
    have hv : ∀ i, ∃ v : V, i < m → ∃ b off, (some ad : Option Addr) = some ⟨b, off, none⟩ ∧ b < W.heap.size ∧ CellsV W b (off + i * 3) v := by
      intro i
      by_cases hm' : i < m
      · obtain ⟨cs', hc, ht⟩ := hi i hm'
        rw [hC] at hc
        obtain ⟨v, rfl⟩ := open_valueP ht
        obtain ⟨_, _, hat⟩ := World.cells?_some hc
        have c0 := hat 0 (by omega)
        have c1 := hat 1 (by omega)
        have c2 := hat 2 (by omega)
        simp only [List.getElem?_cons_zero, List.getElem?_cons_succ] at c0 c1 c2
        rw [add_zero_p] at c0
        obtain ⟨hsp, hbl⟩ := spot_p c0
        have hsa : ad.spot = none := by
          by_cases h0 : i = 0
          · subst h0
            have : ad.add (0 * 3) = ad := by rw [Nat.zero_mul, add_zero_p]
            rw [this] at hsp; exact hsp
          · by_cases hs0 : ad.spot = none
            · exact hs0
            · obtain ⟨cs0, hc0, ht0⟩ := hi 0 (by omega)
              rw [hC] at hc0
              obtain ⟨v0, rfl⟩ := open_valueP ht0
              have z0 := (World.cells?_some hc0).2.2 0 (by omega)
              rw [Nat.zero_mul, add_zero_p, add_zero_p] at z0
              exact (spot_p z0).1
        rw [add_form_p ad hsa] at c0 c1 c2 hbl
        rw [add_form_p _ rfl] at c1 c2
        exact ⟨v, fun _ => ⟨ad.block, ad.off, by obtain ⟨b, o, s⟩ := ad; simp only at hsa; subst hsa; rfl, hbl, c0, c1, c2⟩⟩
      · exact ⟨default, fun h => absurd h hm'⟩
    obtain ⟨f, hf⟩ := Classical.axiomOfChoice hv
    refine ⟨(List.range n).map f, by simp, some ad, m, by simp, by simpa using hsz, fun i hi' => ?_⟩
    simp only [List.length_map, List.length_range] at hi'
    obtain ⟨b, off, e, hb, hc⟩ := hf i (by omega)
    exact ⟨b, off, e, hb, by simpa using hc⟩

set_option maxRecDepth 100000 in
/-- A slice of ints reads as a list of them. -/
theorem open_intsP {fuel : Nat} {a : Option Addr} {n c : Nat} {x : DataW H × List MemPlace} (h : DataW.trod enc Try.prog W 0 (fun _ => true) true fuel 48 [.slice a n c] = some x)
    (hs : ∀ elems spare, x.1 = .slice elems spare → elems.length + spare.length ≤ 17592186044416) : ∃ l : List Int, l.length = n ∧ IntsAt W (.slice a n c) l := by
  rcases open_slice Try.underlying48 h with ⟨hcs, _⟩ | ⟨ad, len, cap, m, k, D, Pl, hcs, _, hl, hmx, hm, hx, hi⟩
  · simp at hcs
    obtain ⟨rfl, rfl, rfl⟩ := hcs
    exact ⟨[], rfl, (IntsG.nil 0 W).at⟩
  · simp at hcs
    obtain ⟨rfl, rfl, rfl⟩ := hcs
    have hmc : m = c := by simpa using hm
    subst hmc
    have hC : Try.prog.cellsOf 3 = 1 := by kernel_rfl
    have hsz : n ≤ 17592186044416 := by
      have := hs _ _ (by rw [hx])
      simp at this
      omega
    have hv : ∀ i, ∃ v : Int, i < m → ∃ b off, (some ad : Option Addr) = some ⟨b, off, none⟩ ∧ b < W.heap.size ∧ W.cell? ⟨b, off + i, none⟩ = some (.int .i64 v) := by
      intro i
      by_cases hm' : i < m
      · obtain ⟨cs', hc, ht⟩ := hi i hm'
        rw [hC, Nat.mul_one] at hc
        obtain ⟨v, rfl, _⟩ := DataW.trod_int Try.underlying3 ht
        obtain ⟨_, _, hat⟩ := World.cells?_some hc
        have c0 := hat 0 (by omega)
        simp only [List.getElem?_cons_zero] at c0
        rw [add_zero_p] at c0
        obtain ⟨hsp, hbl⟩ := spot_p c0
        have hsa : ad.spot = none := by
          by_cases h0 : i = 0
          · subst h0
            rw [add_zero_p] at hsp; exact hsp
          · by_cases hs0 : ad.spot = none
            · exact hs0
            · obtain ⟨cs0, hc0, ht0⟩ := hi 0 (by omega)
              rw [hC] at hc0
              obtain ⟨v0, rfl, _⟩ := DataW.trod_int Try.underlying3 ht0
              have z0 := (World.cells?_some hc0).2.2 0 (by omega)
              rw [Nat.zero_mul, add_zero_p, add_zero_p] at z0
              exact (spot_p z0).1
        rw [add_form_p ad hsa] at c0 hbl
        exact ⟨v, fun _ => ⟨ad.block, ad.off, by obtain ⟨b, o, s⟩ := ad; simp only at hsa; subst hsa; rfl, hbl, c0⟩⟩
      · exact ⟨0, fun h => absurd h hm'⟩
    obtain ⟨f, hf⟩ := Classical.axiomOfChoice hv
    refine ⟨(List.range n).map f, by simp, some ad, m, by simp, ⟨by simpa using hl, hmx, fun e => (by cases e), by simpa using hsz⟩, fun i hi' => ?_⟩
    simp only [List.length_map, List.length_range] at hi'
    obtain ⟨b, off, e, hb, hc⟩ := hf i (by omega)
    exact ⟨b, off, e, hb, by simpa using hc⟩
end

end Go.Proofs.Ytjcbmeannhafjaa

/- Arguments that are schemas, opened; a slice of things of any kind. -/
namespace Go.Proofs.Ytjcbmeannhafjaa

open Go.RowKit Go.ChangeShapes Go.WideShapes Go.Deep

section

variable {H : Type} {enc : TypeId × Value → H} {W : World}

set_option maxRecDepth 100000 in
theorem open_sl {ε : Type} (t E : TypeId) (k bytes : Nat) (cells : ε → List Value) (Q : ε → Prop) (d : ε)
    (hu : Try.prog.underlying t = some (.slice E)) (hC : Try.prog.cellsOf E = k) (hk : 0 < k) (hby : Try.prog.bytesOf E = bytes) (hb8 : 8 ≤ bytes) (hcl : ∀ e, (cells e).length = k)
    (he : ∀ (fuel : Nat) (cs : List Value) (x : DataW H × List MemPlace), DataW.trod enc Try.prog W 0 (fun _ => true) true fuel E cs = some x → (∀ m ∈ x.1.weights Try.prog E, m ≤ reachBytes) → ∃ e, cs = cells e ∧ Q e)
    {fuel : Nat} {v : Value} {x : DataW H × List MemPlace} (h : DataW.trod enc Try.prog W 0 (fun _ => true) true fuel t [v] = some x) (hw : ∀ m ∈ x.1.weights Try.prog t, m ≤ reachBytes) :
    ∃ (a : Option Addr) (c : Nat) (l : List ε), v = .slice a l.length c ∧ SlF a l.length c ∧ ∀ i (h : i < l.length), ∃ b off, a = some ⟨b, off, none⟩ ∧ b < W.heap.size ∧ (∀ j, j < k → W.cell? ⟨b, off + i * k + j, none⟩ = (cells l[i])[j]?) ∧ Q l[i] := by
  rcases DataW.trod_slice hu h with ⟨hcs, _⟩ | ⟨ad, len, cap, elems, rest, n', hn', hcs, hx4, _, hle, hmx, hlen, hel, -, -⟩
  · simp only [List.cons.injEq, and_true] at hcs
    subst hcs
    exact ⟨none, 0, [], rfl, ⟨by simp, by simp, fun _ => ⟨rfl, rfl⟩, by simp⟩, fun i h => absurd h (by simp)⟩
  · simp only [List.cons.injEq, and_true] at hcs
    subst hcs
    have hsz : len * bytes ≤ 140737488351232 := by
      have := hw ((elems.length + rest.length) * bytes) (by
        rw [hx4]
        simp only [DataW.weights, hu, List.length_map, hby]
        exact List.mem_cons_self)
      rw [show reachBytes = 140737488351232 from rfl, hlen] at this
      have h2 : len * bytes ≤ (len + rest.length) * bytes := Nat.mul_le_mul_right _ (by omega)
      omega
    have hlen8 : len * 8 ≤ 140737488351232 := Nat.le_trans (Nat.mul_le_mul_left _ hb8) hsz
    have hv : ∀ i, ∃ e : ε, i < len → (∃ cs', W.cells? 0 (ad.add (i * k)) k = some cs' ∧ cs' = cells e) ∧ Q e := by
      intro i
      by_cases hi : i < len
      · have hb := hel i hi
        rw [hC, List.getElem?_eq_getElem (by omega)] at hb
        obtain ⟨cs', hc, ht⟩ := Option.bind_eq_some_iff.1 hb
        obtain ⟨e, hce, hq⟩ := he n' cs' _ ht (fun m hm => hw m (by
          rw [hx4]
          simp only [DataW.weights, hu, List.mem_cons, List.mem_append]
          exact .inr (.inl (weightsAll_memP (List.mem_map.2 ⟨_, List.getElem_mem (by omega), rfl⟩) hm))))
        exact ⟨e, fun _ => ⟨⟨cs', hc, hce⟩, hq⟩⟩
      · exact ⟨d, fun hh => absurd hh hi⟩
    obtain ⟨f, hfc⟩ := Classical.axiomOfChoice hv
    have hll : ((List.range len).map f).length = len := by simp
    refine ⟨some ad, cap, (List.range len).map f, by rw [hll], ⟨by rw [hll]; exact hle, hmx, fun e => (by cases e), by rw [hll]; omega⟩, fun i hi => ?_⟩
    have hi' : i < len := by rw [hll] at hi; exact hi
    have cat : ∀ i, i < len → ∀ j, j < k → W.cell? ((ad.add (i * k)).add j) = (cells (f i))[j]? := fun i hi j hj => by
      obtain ⟨⟨cs', hc, e⟩, _⟩ := hfc i hi
      obtain ⟨_, _, hat⟩ := World.cells?_some hc
      rw [← e]; exact hat j hj
    have z0 := cat 0 (by omega) 0 hk
    rw [Nat.zero_mul, add_zero_p, add_zero_p] at z0
    obtain ⟨v0, hv0⟩ : ∃ v0, (cells (f 0))[0]? = some v0 := ⟨_, List.getElem?_eq_getElem (by rw [hcl]; exact hk)⟩
    rw [hv0] at z0
    obtain ⟨hsa, hbl⟩ := spot_p z0
    refine ⟨ad.block, ad.off, by obtain ⟨b, o, s⟩ := ad; simp only at hsa; subst hsa; rfl, hbl, fun j hj => ?_, ?_⟩
    · have := cat i hi' j hj
      rw [add_form_p ad hsa, add_form_p _ rfl] at this
      simpa using this
    · simpa using (hfc i hi').2

set_option maxRecDepth 100000 in
theorem open_col {fuel : Nat} {cs : List Value} {x : DataW H × List MemPlace} (h : DataW.trod enc Try.prog W 0 (fun _ => true) true fuel 35 cs = some x) : ∃ c : CL, cs = [.string c.s, .int .i64 c.k] ∧ c.s.size ≤ maxLen := by
  obtain ⟨xs, n, _, _, hl, hxl, hf⟩ := DataW.trod_struct Try.underlying35 h
  have hC : Try.prog.cellsOf 35 = 2 := by kernel_rfl
  have h1 : Try.prog.cellsOf 3 = 1 := by kernel_rfl
  have h3 : Try.prog.cellsOf 9 = 1 := by kernel_rfl
  rw [hC] at hl
  match cs, hl, xs, hxl with
  | [c0, c1], _, [x0, x1], _ =>
    have f0 : DataW.trod enc Try.prog W 0 (fun _ => true) true n 9 (List.take (Try.prog.cellsOf 9) (List.drop 0 [c0, c1])) = some x0 := hf 0 _ rfl
    have f1 : DataW.trod enc Try.prog W 0 (fun _ => true) true n 3 (List.take (Try.prog.cellsOf 3) (List.drop 1 [c0, c1])) = some x1 := hf 1 _ rfl
    rw [h3] at f0
    rw [h1] at f1
    obtain ⟨s, e0, _, hs⟩ := DataW.trod_string Try.underlying9 f0
    obtain ⟨a, e1, _⟩ := DataW.trod_int Try.underlying3 f1
    change [c0] = _ at e0
    change [c1] = _ at e1
    simp only [List.cons.injEq, and_true] at e0 e1
    subst e0 e1
    exact ⟨⟨s, a⟩, rfl, hs⟩
/-- A list of ints. -/
theorem open_intK {fuel : Nat} {v : Value} {x : DataW H × List MemPlace} (h : DataW.trod enc Try.prog W 0 (fun _ => true) true fuel 48 [v] = some x) (hw : ∀ m ∈ x.1.weights Try.prog 48, m ≤ reachBytes) : ∃ l : List Int, SlR intK (fun _ => True) W v l := by
  obtain ⟨a, c, l, rfl, hf, hi⟩ := open_sl 48 3 1 8 (fun z : Int => [.int .i64 z]) (fun _ => True) 0 Try.underlying48 (by kernel_rfl) (by omega) (by kernel_rfl) (by omega) (fun _ => rfl)
    (fun fuel cs x h _ => by obtain ⟨z, e, _⟩ := DataW.trod_int Try.underlying3 h; exact ⟨z, e, trivial⟩) h hw
  refine ⟨l, a, c, rfl, hf, fun j hj => ?_⟩
  obtain ⟨b, off, e, hb, hc, _⟩ := hi j hj
  exact ⟨b, off, e, trivial, hb, hc 0 (by omega)⟩
/-- A reference with the address of its columns. -/
structure RE where
  v : Value
  r : RF
set_option maxRecDepth 100000 in
theorem open_refc {fuel : Nat} {cs : List Value} {x : DataW H × List MemPlace} (h : DataW.trod enc Try.prog W 0 (fun _ => true) true fuel 73 cs = some x) (hw : ∀ m ∈ x.1.weights Try.prog 73, m ≤ reachBytes) : ∃ e : RE, cs = [e.v, .int .i64 e.r.t] ∧ SlR intK (fun _ => True) W e.v e.r.c := by
  obtain ⟨xs, n, _, hx, hl, hxl, hf⟩ := DataW.trod_struct Try.underlying73 h
  have hC : Try.prog.cellsOf 73 = 2 := by kernel_rfl
  have h1 : Try.prog.cellsOf 3 = 1 := by kernel_rfl
  have h3 : Try.prog.cellsOf 48 = 1 := by kernel_rfl
  rw [hC] at hl
  match cs, hl, xs, hxl, hf, hx with
  | [c0, c1], _, [x0, x1], _, hf, hx =>
    have f0 : DataW.trod enc Try.prog W 0 (fun _ => true) true n 48 (List.take (Try.prog.cellsOf 48) (List.drop 0 [c0, c1])) = some x0 := hf 0 _ rfl
    have f1 : DataW.trod enc Try.prog W 0 (fun _ => true) true n 3 (List.take (Try.prog.cellsOf 3) (List.drop 1 [c0, c1])) = some x1 := hf 1 _ rfl
    rw [h3] at f0
    rw [h1] at f1
    change DataW.trod enc Try.prog W 0 (fun _ => true) true n 48 [c0] = some x0 at f0
    obtain ⟨l, hl⟩ := open_intK f0 (fun m hm => hw m (by
      rw [hx]
      simp only [DataW.weights, Try.underlying73]
      exact DataW.weights_mem_each (j := 0) (t := 48) (d := x0.1) rfl rfl m hm))
    obtain ⟨a, e1, _⟩ := DataW.trod_int Try.underlying3 f1
    change [c1] = _ at e1
    simp only [List.cons.injEq, and_true] at e1
    subst e1
    exact ⟨⟨c0, ⟨l, a⟩⟩, rfl, hl⟩
/-- A table with the addresses of its lists. -/
structure TTE where
  cv : Value
  rv : Value
  pa : Option Addr
  pc : Nat
  t : TB
def TTE.cells (e : TTE) : List Value := [.string e.t.s, e.cv, .int .i64 e.t.key, e.rv, .slice e.pa e.t.ck.length e.pc]
def TTE.Q (W : World) (e : TTE) : Prop := TbP (fun _ => True) W e.cv e.rv e.pa e.pc e.t ∧ e.t.s.size ≤ maxLen ∧ namesOk e.t.cs
theorem open_cols {fuel : Nat} {v : Value} {x : DataW H × List MemPlace} (h : DataW.trod enc Try.prog W 0 (fun _ => true) true fuel 36 [v] = some x) (hw : ∀ m ∈ x.1.weights Try.prog 36, m ≤ reachBytes) : ∃ l : List CL, SlR colK (fun _ => True) W v l ∧ namesOk l := by
  obtain ⟨a, c, l, rfl, hf, hi⟩ := open_sl 36 35 2 24 (fun c : CL => [.string c.s, .int .i64 c.k]) (fun c => c.s.size ≤ maxLen) default Try.underlying36 (by kernel_rfl) (by omega) (by kernel_rfl) (by omega) (fun _ => rfl)
    (fun fuel cs x h _ => open_col h) h hw
  refine ⟨l, ⟨a, c, rfl, hf, fun j hj => ?_⟩, fun c hc => ?_⟩
  · obtain ⟨b, off, e, hb, hc, _⟩ := hi j hj
    exact ⟨b, off, e, trivial, hb, hc 0 (by omega), hc 1 (by omega)⟩
  · obtain ⟨j, hj, rfl⟩ := List.getElem_of_mem hc
    obtain ⟨_, _, _, _, _, h⟩ := hi j hj
    exact h
theorem open_refs {fuel : Nat} {v : Value} {x : DataW H × List MemPlace} (h : DataW.trod enc Try.prog W 0 (fun _ => true) true fuel 37 [v] = some x) (hw : ∀ m ∈ x.1.weights Try.prog 37, m ≤ reachBytes) : ∃ l : List RF, SlR refK (fun _ => True) W v l := by
  obtain ⟨a, c, l, rfl, hf, hi⟩ := open_sl 37 73 2 32 (fun e : RE => [e.v, .int .i64 e.r.t]) (fun e => SlR intK (fun _ => True) W e.v e.r.c) ⟨.slice none 0 0, ⟨[], 0⟩⟩ Try.underlying37 (by kernel_rfl) (by omega) (by kernel_rfl) (by omega) (fun _ => rfl)
    (fun fuel cs x h hw => open_refc h hw) h hw
  refine ⟨l.map RE.r, a, c, by simp, by simpa using hf, fun j hj => ?_⟩
  have hj' : j < l.length := by simpa using hj
  obtain ⟨b, off, e, hb, hc, hq⟩ := hi j hj'
  refine ⟨b, off, e, trivial, hb, ?_⟩
  rw [List.getElem_map]
  exact ⟨⟨_, hc 0 (by omega), hq⟩, hc 1 (by omega)⟩
theorem open_preds {fuel : Nat} {v : Value} {x : DataW H × List MemPlace} (h : DataW.trod enc Try.prog W 0 (fun _ => true) true fuel 38 [v] = some x) (hw : ∀ m ∈ x.1.weights Try.prog 38, m ≤ reachBytes) : ∃ (a : Option Addr) (c : Nat) (l : List PT), v = .slice a l.length c ∧ PdS (fun _ => True) W l a c := by
  obtain ⟨a, c, l, rfl, hf, hi⟩ := open_sl 38 77 13 136 TE.cells (fun e : TE => PdS (fun _ => True) W e.p.args e.a e.c) ⟨.mk 0 0 zO zO [], none, 0⟩ Try.underlying38 (by kernel_rfl) (by omega) (by kernel_rfl) (by omega) (fun _ => rfl)
    (fun fuel cs x h hw => by obtain ⟨t, e, hp, _⟩ := open_pred fuel h hw; exact ⟨t, e, hp⟩) h hw
  refine ⟨a, c, l.map TE.p, by simp, by simpa using hf, ?_⟩
  by_cases h0 : l.length = 0
  · left; simpa using h0
  · right
    obtain ⟨b, off, e, hb, -, -⟩ := hi 0 (by omega)
    refine ⟨b, off, e, trivial, hb, PdL.mk' fun i hi' => ?_⟩
    have hil : i < l.length := by simpa using hi'
    obtain ⟨b2, off2, e2, hb2, ck, hq⟩ := hi i hil
    rw [e] at e2
    simp only [Option.some.injEq, Addr.mk.injEq, and_true] at e2
    obtain ⟨rfl, rfl⟩ := e2
    rw [List.getElem_map]
    exact PdC.close (a := l[i].a) (c := l[i].c) (ck 0 (by omega)) (ck 1 (by omega)) ⟨ck 2 (by omega), ck 3 (by omega), ck 4 (by omega), ck 5 (by omega), ck 6 (by omega)⟩ ⟨ck 7 (by omega), ck 8 (by omega), ck 9 (by omega), ck 10 (by omega), ck 11 (by omega)⟩ (ck 12 (by omega)) hq
set_option maxRecDepth 100000 in
theorem open_table {fuel : Nat} {cs : List Value} {x : DataW H × List MemPlace} (h : DataW.trod enc Try.prog W 0 (fun _ => true) true fuel 40 cs = some x) (hw : ∀ m ∈ x.1.weights Try.prog 40, m ≤ reachBytes) : ∃ e : TTE, cs = e.cells ∧ e.Q W := by
  obtain ⟨xs, n, _, hx, hl, hxl, hf⟩ := DataW.trod_struct Try.underlying40 h
  have hC : Try.prog.cellsOf 40 = 5 := by kernel_rfl
  have hz1 : Try.prog.cellsOf 9 = 1 := by kernel_rfl
  have hz2 : Try.prog.cellsOf 36 = 1 := by kernel_rfl
  have hz3 : Try.prog.cellsOf 3 = 1 := by kernel_rfl
  have hz4 : Try.prog.cellsOf 37 = 1 := by kernel_rfl
  have hz5 : Try.prog.cellsOf 38 = 1 := by kernel_rfl
  rw [hC] at hl
  match cs, hl, xs, hxl, hf, hx with
  | [c0, c1, c2, c3, c4], _, [x0, x1, x2, x3, x4], _, hf, hx =>
    have f0 : DataW.trod enc Try.prog W 0 (fun _ => true) true n 9 (List.take (Try.prog.cellsOf 9) (List.drop 0 [c0, c1, c2, c3, c4])) = some x0 := hf 0 _ rfl
    have f1 : DataW.trod enc Try.prog W 0 (fun _ => true) true n 36 (List.take (Try.prog.cellsOf 36) (List.drop 1 [c0, c1, c2, c3, c4])) = some x1 := hf 1 _ rfl
    have f2 : DataW.trod enc Try.prog W 0 (fun _ => true) true n 3 (List.take (Try.prog.cellsOf 3) (List.drop 2 [c0, c1, c2, c3, c4])) = some x2 := hf 2 _ rfl
    have f3 : DataW.trod enc Try.prog W 0 (fun _ => true) true n 37 (List.take (Try.prog.cellsOf 37) (List.drop 3 [c0, c1, c2, c3, c4])) = some x3 := hf 3 _ rfl
    have f4 : DataW.trod enc Try.prog W 0 (fun _ => true) true n 38 (List.take (Try.prog.cellsOf 38) (List.drop 4 [c0, c1, c2, c3, c4])) = some x4 := hf 4 _ rfl
    rw [hz1] at f0
    rw [hz2] at f1
    rw [hz3] at f2
    rw [hz4] at f3
    rw [hz5] at f4
    change DataW.trod enc Try.prog W 0 (fun _ => true) true n 36 [c1] = some x1 at f1
    change DataW.trod enc Try.prog W 0 (fun _ => true) true n 37 [c3] = some x3 at f3
    change DataW.trod enc Try.prog W 0 (fun _ => true) true n 38 [c4] = some x4 at f4
    obtain ⟨s, e0, _, hs⟩ := DataW.trod_string Try.underlying9 f0
    obtain ⟨key, e2, _⟩ := DataW.trod_int Try.underlying3 f2
    have each : ∀ (j : Nat) (t : TypeId) (y : DataW H × List MemPlace), [9, 36, 3, 37, 38][j]? = some t → [x0.1, x1.1, x2.1, x3.1, x4.1][j]? = some y.1 → ∀ m ∈ y.1.weights Try.prog t, m ≤ reachBytes := fun j t y ht hy m hm => hw m (by
      rw [hx]
      simp only [DataW.weights, Try.underlying40]
      exact DataW.weights_mem_each (j := j) (t := t) (d := y.1) ht hy m hm)
    obtain ⟨cl, hcl, hnm⟩ := open_cols f1 (each 1 _ x1 rfl rfl)
    obtain ⟨rl, hrl⟩ := open_refs f3 (each 3 _ x3 rfl rfl)
    obtain ⟨pa, pc, pl, e4, hpl⟩ := open_preds f4 (each 4 _ x4 rfl rfl)
    change [c0] = _ at e0
    change [c2] = _ at e2
    simp only [List.cons.injEq, and_true] at e0 e2
    subst e0 e2 e4
    exact ⟨⟨c1, c3, pa, pc, ⟨s, cl, key, rl, pl⟩⟩, rfl, ⟨hcl, hrl, hpl⟩, hs, hnm⟩
set_option maxRecDepth 100000 in
/-- A schema as an argument. -/
theorem open_schema {fuel : Nat} {cs : List Value} {x : DataW H × List MemPlace} (h : DataW.trod enc Try.prog W 0 (fun _ => true) true fuel 25 cs = some x) (hw : ∀ m ∈ x.1.weights Try.prog 25, m ≤ reachBytes) : ∃ s : SC, Sc (fun _ => True) W (.agg cs.toArray) s ∧ namesT s.ts := by
  obtain ⟨xs, n, _, hx, hl, hxl, hf⟩ := DataW.trod_struct Try.underlying25 h
  have hC : Try.prog.cellsOf 25 = 2 := by kernel_rfl
  have h1 : Try.prog.cellsOf 3 = 1 := by kernel_rfl
  have h3 : Try.prog.cellsOf 23 = 1 := by kernel_rfl
  rw [hC] at hl
  match cs, hl, xs, hxl, hf, hx with
  | [c0, c1], _, [x0, x1], _, hf, hx =>
    have f0 : DataW.trod enc Try.prog W 0 (fun _ => true) true n 3 (List.take (Try.prog.cellsOf 3) (List.drop 0 [c0, c1])) = some x0 := hf 0 _ rfl
    have f1 : DataW.trod enc Try.prog W 0 (fun _ => true) true n 23 (List.take (Try.prog.cellsOf 23) (List.drop 1 [c0, c1])) = some x1 := hf 1 _ rfl
    rw [h1] at f0
    rw [h3] at f1
    change DataW.trod enc Try.prog W 0 (fun _ => true) true n 23 [c1] = some x1 at f1
    obtain ⟨ver, e0, _⟩ := DataW.trod_int Try.underlying3 f0
    change [c0] = _ at e0
    simp only [List.cons.injEq, and_true] at e0
    subst e0
    obtain ⟨a, c, l, rfl, hfm, hi⟩ := open_sl 23 40 5 96 TTE.cells (TTE.Q W) ⟨.slice none 0 0, .slice none 0 0, none, 0, zTB⟩ Try.underlying23 (by kernel_rfl) (by omega) (by kernel_rfl) (by omega) (fun _ => rfl)
      (fun fuel cs x h hw => open_table h hw) f1 (fun m hm => hw m (by
        rw [hx]
        simp only [DataW.weights, Try.underlying25]
        exact DataW.weights_mem_each (j := 1) (t := 23) (d := x1.1) rfl rfl m hm))
    refine ⟨⟨ver, l.map TTE.t⟩, ⟨_, rfl, a, c, by simp, by simpa using hfm, fun j hj => ?_⟩, fun t ht => ?_⟩
    · have hj' : j < l.length := by simpa using hj
      obtain ⟨b, off, e, hb, hc, hq⟩ := hi j hj'
      refine ⟨b, off, e, trivial, hb, l[j].cv, l[j].rv, l[j].pa, l[j].pc, ?_⟩
      simp only [List.getElem_map]
      exact ⟨⟨hc 0 (by omega), hc 1 (by omega), hc 2 (by omega), hc 3 (by omega), hc 4 (by omega)⟩, hq.1⟩
    · obtain ⟨e, he, rfl⟩ := List.mem_map.1 ht
      obtain ⟨j, hj, rfl⟩ := List.getElem_of_mem he
      obtain ⟨_, _, _, _, _, hq⟩ := hi j hj
      exact ⟨hq.2.1, hq.2.2⟩
end

end Go.Proofs.Ytjcbmeannhafjaa
