
/- Arguments that are schemas, opened; a slice of things of any kind. -/
import Derived.Test.YtjkjmkplcjfogaaOpenP

import Derived.Test.YtjkjmkplcjfogaaScSound

namespace Go.Proofs.Ytjkjmkplcjfogaa

open Go.RowKit Go.ChangeShapes Go.WideShapes Go.Deep

section

variable {H : Type} {enc : TypeId × Value → H} {W : World}

set_option maxRecDepth 100000 in
theorem open_sl {ε : Type} (t E : TypeId) (k bytes : Nat) (cells : ε → List Value) (Q : ε → Prop) (d : ε)
    (hu : Try.prog.underlying t = some (.slice E)) (hC : Try.prog.cellsOf E = k) (hk : 0 < k) (hby : Try.prog.bytesOf E = bytes) (hb8 : 8 ≤ bytes) (hcl : ∀ e, (cells e).length = k)
    (he : ∀ (fuel : Nat) (cs : List Value) (x : DataW H × List MemPlace), DataW.trod enc Try.prog W 0 (fun _ => true) true fuel E cs = some x → (∀ m ∈ x.1.weights Try.prog E, m ≤ reachBytes) → ∃ e, cs = cells e ∧ Q e)
    {fuel : Nat} {v : Value} {x : DataW H × List MemPlace} (h : DataW.trod enc Try.prog W 0 (fun _ => true) true fuel t [v] = some x) (hw : ∀ m ∈ x.1.weights Try.prog t, m ≤ reachBytes) :
    ∃ (a : Option Addr) (c : Nat) (l : List ε), v = .slice a l.length c ∧ SlF a l.length c ∧ ∀ i (h : i < l.length), ∃ b off, a = some ⟨b, off, none⟩ ∧ b < W.heap.size ∧ (∀ j, j < k → W.cell? ⟨b, off + i * k + j, none⟩ = (cells l[i])[j]?) ∧ Q l[i] := by
  rcases DataW.trod_slice hu h with ⟨hcs, _⟩ | ⟨ad, len, cap, elems, rest, n', hn', hcs, hx4, _, hle, hmx, hlen, hel, -, -⟩
  · simp only [List.cons.injEq, and_true] at hcs
    subst hcs
    exact ⟨none, 0, [], rfl, ⟨by simp, by simp, fun _ => ⟨rfl, rfl⟩, by simp⟩, fun i h => absurd h (by simp)⟩
  · simp only [List.cons.injEq, and_true] at hcs
    subst hcs
    have hsz : len * bytes ≤ 140737488351232 := by
      have := hw ((elems.length + rest.length) * bytes) (by
        rw [hx4]
        simp only [DataW.weights, hu, List.length_map, hby]
        exact List.mem_cons_self)
      rw [show reachBytes = 140737488351232 from rfl, hlen] at this
      have h2 : len * bytes ≤ (len + rest.length) * bytes := Nat.mul_le_mul_right _ (by omega)
      omega
    have hlen8 : len * 8 ≤ 140737488351232 := Nat.le_trans (Nat.mul_le_mul_left _ hb8) hsz
    have hv : ∀ i, ∃ e : ε, i < len → (∃ cs', W.cells? 0 (ad.add (i * k)) k = some cs' ∧ cs' = cells e) ∧ Q e := by
      intro i
      by_cases hi : i < len
      · have hb := hel i hi
        rw [hC, List.getElem?_eq_getElem (by omega)] at hb
        obtain ⟨cs', hc, ht⟩ := Option.bind_eq_some_iff.1 hb
        obtain ⟨e, hce, hq⟩ := he n' cs' _ ht (fun m hm => hw m (by
          rw [hx4]
          simp only [DataW.weights, hu, List.mem_cons, List.mem_append]
          exact .inr (.inl (weightsAll_memP (List.mem_map.2 ⟨_, List.getElem_mem (by omega), rfl⟩) hm))))
        exact ⟨e, fun _ => ⟨⟨cs', hc, hce⟩, hq⟩⟩
      · exact ⟨d, fun hh => absurd hh hi⟩
    obtain ⟨f, hfc⟩ := Classical.axiomOfChoice hv
    have hll : ((List.range len).map f).length = len := by simp
    refine ⟨some ad, cap, (List.range len).map f, by rw [hll], ⟨by rw [hll]; exact hle, hmx, fun e => (by cases e), by rw [hll]; omega⟩, fun i hi => ?_⟩
    have hi' : i < len := by rw [hll] at hi; exact hi
    have cat : ∀ i, i < len → ∀ j, j < k → W.cell? ((ad.add (i * k)).add j) = (cells (f i))[j]? := fun i hi j hj => by
      obtain ⟨⟨cs', hc, e⟩, _⟩ := hfc i hi
      obtain ⟨_, _, hat⟩ := World.cells?_some hc
      rw [← e]; exact hat j hj
    have z0 := cat 0 (by omega) 0 hk
    rw [Nat.zero_mul, add_zero_p, add_zero_p] at z0
    obtain ⟨v0, hv0⟩ : ∃ v0, (cells (f 0))[0]? = some v0 := ⟨_, List.getElem?_eq_getElem (by rw [hcl]; exact hk)⟩
    rw [hv0] at z0
    obtain ⟨hsa, hbl⟩ := spot_p z0
    refine ⟨ad.block, ad.off, by obtain ⟨b, o, s⟩ := ad; simp only at hsa; subst hsa; rfl, hbl, fun j hj => ?_, ?_⟩
    · have := cat i hi' j hj
      rw [add_form_p ad hsa, add_form_p _ rfl] at this
      simpa using this
    · simpa using (hfc i hi').2

set_option maxRecDepth 100000 in
theorem open_col {fuel : Nat} {cs : List Value} {x : DataW H × List MemPlace} (h : DataW.trod enc Try.prog W 0 (fun _ => true) true fuel 52 cs = some x) : ∃ c : CL, cs = [.string c.s, .int .i64 c.k] ∧ c.s.size ≤ maxLen := by
  obtain ⟨xs, n, _, _, hl, hxl, hf⟩ := DataW.trod_struct Try.underlying52 h
  have hC : Try.prog.cellsOf 52 = 2 := by kernel_rfl
  have h1 : Try.prog.cellsOf 3 = 1 := by kernel_rfl
  have h3 : Try.prog.cellsOf 9 = 1 := by kernel_rfl
  rw [hC] at hl
  match cs, hl, xs, hxl with
  | [c0, c1], _, [x0, x1], _ =>
    have f0 : DataW.trod enc Try.prog W 0 (fun _ => true) true n 9 (List.take (Try.prog.cellsOf 9) (List.drop 0 [c0, c1])) = some x0 := hf 0 _ rfl
    have f1 : DataW.trod enc Try.prog W 0 (fun _ => true) true n 3 (List.take (Try.prog.cellsOf 3) (List.drop 1 [c0, c1])) = some x1 := hf 1 _ rfl
    rw [h3] at f0
    rw [h1] at f1
    obtain ⟨s, e0, _, hs⟩ := DataW.trod_string Try.underlying9 f0
    obtain ⟨a, e1, _⟩ := DataW.trod_int Try.underlying3 f1
    change [c0] = _ at e0
    change [c1] = _ at e1
    simp only [List.cons.injEq, and_true] at e0 e1
    subst e0 e1
    exact ⟨⟨s, a⟩, rfl, hs⟩
/-- A list of ints. -/
theorem open_intK {fuel : Nat} {v : Value} {x : DataW H × List MemPlace} (h : DataW.trod enc Try.prog W 0 (fun _ => true) true fuel 32 [v] = some x) (hw : ∀ m ∈ x.1.weights Try.prog 32, m ≤ reachBytes) : ∃ l : List Int, SlR intK (fun _ => True) W v l := by
  obtain ⟨a, c, l, rfl, hf, hi⟩ := open_sl 32 3 1 8 (fun z : Int => [.int .i64 z]) (fun _ => True) 0 Try.underlying32 (by kernel_rfl) (by omega) (by kernel_rfl) (by omega) (fun _ => rfl)
    (fun fuel cs x h _ => by obtain ⟨z, e, _⟩ := DataW.trod_int Try.underlying3 h; exact ⟨z, e, trivial⟩) h hw
  refine ⟨l, a, c, rfl, hf, fun j hj => ?_⟩
  obtain ⟨b, off, e, hb, hc, _⟩ := hi j hj
  exact ⟨b, off, e, trivial, hb, hc 0 (by omega)⟩
/-- A reference with the address of its columns. -/
structure RE where
  v : Value
  r : RF
set_option maxRecDepth 100000 in
theorem open_refc {fuel : Nat} {cs : List Value} {x : DataW H × List MemPlace} (h : DataW.trod enc Try.prog W 0 (fun _ => true) true fuel 72 cs = some x) (hw : ∀ m ∈ x.1.weights Try.prog 72, m ≤ reachBytes) : ∃ e : RE, cs = [e.v, .int .i64 e.r.t] ∧ SlR intK (fun _ => True) W e.v e.r.c := by
  obtain ⟨xs, n, _, hx, hl, hxl, hf⟩ := DataW.trod_struct Try.underlying72 h
  have hC : Try.prog.cellsOf 72 = 2 := by kernel_rfl
  have h1 : Try.prog.cellsOf 3 = 1 := by kernel_rfl
  have h3 : Try.prog.cellsOf 32 = 1 := by kernel_rfl
  rw [hC] at hl
  match cs, hl, xs, hxl, hf, hx with
  | [c0, c1], _, [x0, x1], _, hf, hx =>
    have f0 : DataW.trod enc Try.prog W 0 (fun _ => true) true n 32 (List.take (Try.prog.cellsOf 32) (List.drop 0 [c0, c1])) = some x0 := hf 0 _ rfl
    have f1 : DataW.trod enc Try.prog W 0 (fun _ => true) true n 3 (List.take (Try.prog.cellsOf 3) (List.drop 1 [c0, c1])) = some x1 := hf 1 _ rfl
    rw [h3] at f0
    rw [h1] at f1
    change DataW.trod enc Try.prog W 0 (fun _ => true) true n 32 [c0] = some x0 at f0
    obtain ⟨l, hl⟩ := open_intK f0 (fun m hm => hw m (by
      rw [hx]
      simp only [DataW.weights, Try.underlying72]
      exact DataW.weights_mem_each (j := 0) (t := 32) (d := x0.1) rfl rfl m hm))
    obtain ⟨a, e1, _⟩ := DataW.trod_int Try.underlying3 f1
    change [c1] = _ at e1
    simp only [List.cons.injEq, and_true] at e1
    subst e1
    exact ⟨⟨c0, ⟨l, a⟩⟩, rfl, hl⟩
/-- A table with the addresses of its lists. -/
structure TTE where
  cv : Value
  rv : Value
  pa : Option Addr
  pc : Nat
  t : TB
def TTE.cells (e : TTE) : List Value := [.string e.t.s, e.cv, .int .i64 e.t.key, e.rv, .slice e.pa e.t.ck.length e.pc]
def TTE.Q (W : World) (e : TTE) : Prop := TbP (fun _ => True) W e.cv e.rv e.pa e.pc e.t ∧ e.t.s.size ≤ maxLen ∧ namesOk e.t.cs
theorem open_cols {fuel : Nat} {v : Value} {x : DataW H × List MemPlace} (h : DataW.trod enc Try.prog W 0 (fun _ => true) true fuel 53 [v] = some x) (hw : ∀ m ∈ x.1.weights Try.prog 53, m ≤ reachBytes) : ∃ l : List CL, SlR colK (fun _ => True) W v l ∧ namesOk l := by
  obtain ⟨a, c, l, rfl, hf, hi⟩ := open_sl 53 52 2 24 (fun c : CL => [.string c.s, .int .i64 c.k]) (fun c => c.s.size ≤ maxLen) default Try.underlying53 (by kernel_rfl) (by omega) (by kernel_rfl) (by omega) (fun _ => rfl)
    (fun fuel cs x h _ => open_col h) h hw
  refine ⟨l, ⟨a, c, rfl, hf, fun j hj => ?_⟩, fun c hc => ?_⟩
  · obtain ⟨b, off, e, hb, hc, _⟩ := hi j hj
    exact ⟨b, off, e, trivial, hb, hc 0 (by omega), hc 1 (by omega)⟩
  · obtain ⟨j, hj, rfl⟩ := List.getElem_of_mem hc
    obtain ⟨_, _, _, _, _, h⟩ := hi j hj
    exact h
theorem open_refs {fuel : Nat} {v : Value} {x : DataW H × List MemPlace} (h : DataW.trod enc Try.prog W 0 (fun _ => true) true fuel 54 [v] = some x) (hw : ∀ m ∈ x.1.weights Try.prog 54, m ≤ reachBytes) : ∃ l : List RF, SlR refK (fun _ => True) W v l := by
  obtain ⟨a, c, l, rfl, hf, hi⟩ := open_sl 54 72 2 32 (fun e : RE => [e.v, .int .i64 e.r.t]) (fun e => SlR intK (fun _ => True) W e.v e.r.c) ⟨.slice none 0 0, ⟨[], 0⟩⟩ Try.underlying54 (by kernel_rfl) (by omega) (by kernel_rfl) (by omega) (fun _ => rfl)
    (fun fuel cs x h hw => open_refc h hw) h hw
  refine ⟨l.map RE.r, a, c, by simp, by simpa using hf, fun j hj => ?_⟩
  have hj' : j < l.length := by simpa using hj
  obtain ⟨b, off, e, hb, hc, hq⟩ := hi j hj'
  refine ⟨b, off, e, trivial, hb, ?_⟩
  rw [List.getElem_map]
  exact ⟨⟨_, hc 0 (by omega), hq⟩, hc 1 (by omega)⟩
theorem open_preds {fuel : Nat} {v : Value} {x : DataW H × List MemPlace} (h : DataW.trod enc Try.prog W 0 (fun _ => true) true fuel 27 [v] = some x) (hw : ∀ m ∈ x.1.weights Try.prog 27, m ≤ reachBytes) : ∃ (a : Option Addr) (c : Nat) (l : List PT), v = .slice a l.length c ∧ PdS (fun _ => True) W l a c := by
  obtain ⟨a, c, l, rfl, hf, hi⟩ := open_sl 27 29 13 136 TE.cells (fun e : TE => PdS (fun _ => True) W e.p.args e.a e.c) ⟨.mk 0 0 zO zO [], none, 0⟩ Try.underlying27 (by kernel_rfl) (by omega) (by kernel_rfl) (by omega) (fun _ => rfl)
    (fun fuel cs x h hw => by obtain ⟨t, e, hp, _⟩ := open_pred fuel h hw; exact ⟨t, e, hp⟩) h hw
  refine ⟨a, c, l.map TE.p, by simp, by simpa using hf, ?_⟩
  by_cases h0 : l.length = 0
  · left; simpa using h0
  · right
    obtain ⟨b, off, e, hb, -, -⟩ := hi 0 (by omega)
    refine ⟨b, off, e, trivial, hb, PdL.mk' fun i hi' => ?_⟩
    have hil : i < l.length := by simpa using hi'
    obtain ⟨b2, off2, e2, hb2, ck, hq⟩ := hi i hil
    rw [e] at e2
    simp only [Option.some.injEq, Addr.mk.injEq, and_true] at e2
    obtain ⟨rfl, rfl⟩ := e2
    rw [List.getElem_map]
    exact PdC.close (a := l[i].a) (c := l[i].c) (ck 0 (by omega)) (ck 1 (by omega)) ⟨ck 2 (by omega), ck 3 (by omega), ck 4 (by omega), ck 5 (by omega), ck 6 (by omega)⟩ ⟨ck 7 (by omega), ck 8 (by omega), ck 9 (by omega), ck 10 (by omega), ck 11 (by omega)⟩ (ck 12 (by omega)) hq
set_option maxRecDepth 100000 in
theorem open_table {fuel : Nat} {cs : List Value} {x : DataW H × List MemPlace} (h : DataW.trod enc Try.prog W 0 (fun _ => true) true fuel 56 cs = some x) (hw : ∀ m ∈ x.1.weights Try.prog 56, m ≤ reachBytes) : ∃ e : TTE, cs = e.cells ∧ e.Q W := by
  obtain ⟨xs, n, _, hx, hl, hxl, hf⟩ := DataW.trod_struct Try.underlying56 h
  have hC : Try.prog.cellsOf 56 = 5 := by kernel_rfl
  have hz1 : Try.prog.cellsOf 9 = 1 := by kernel_rfl
  have hz2 : Try.prog.cellsOf 53 = 1 := by kernel_rfl
  have hz3 : Try.prog.cellsOf 3 = 1 := by kernel_rfl
  have hz4 : Try.prog.cellsOf 54 = 1 := by kernel_rfl
  have hz5 : Try.prog.cellsOf 27 = 1 := by kernel_rfl
  rw [hC] at hl
  match cs, hl, xs, hxl, hf, hx with
  | [c0, c1, c2, c3, c4], _, [x0, x1, x2, x3, x4], _, hf, hx =>
    have f0 : DataW.trod enc Try.prog W 0 (fun _ => true) true n 9 (List.take (Try.prog.cellsOf 9) (List.drop 0 [c0, c1, c2, c3, c4])) = some x0 := hf 0 _ rfl
    have f1 : DataW.trod enc Try.prog W 0 (fun _ => true) true n 53 (List.take (Try.prog.cellsOf 53) (List.drop 1 [c0, c1, c2, c3, c4])) = some x1 := hf 1 _ rfl
    have f2 : DataW.trod enc Try.prog W 0 (fun _ => true) true n 3 (List.take (Try.prog.cellsOf 3) (List.drop 2 [c0, c1, c2, c3, c4])) = some x2 := hf 2 _ rfl
    have f3 : DataW.trod enc Try.prog W 0 (fun _ => true) true n 54 (List.take (Try.prog.cellsOf 54) (List.drop 3 [c0, c1, c2, c3, c4])) = some x3 := hf 3 _ rfl
    have f4 : DataW.trod enc Try.prog W 0 (fun _ => true) true n 27 (List.take (Try.prog.cellsOf 27) (List.drop 4 [c0, c1, c2, c3, c4])) = some x4 := hf 4 _ rfl
    rw [hz1] at f0
    rw [hz2] at f1
    rw [hz3] at f2
    rw [hz4] at f3
    rw [hz5] at f4
    change DataW.trod enc Try.prog W 0 (fun _ => true) true n 53 [c1] = some x1 at f1
    change DataW.trod enc Try.prog W 0 (fun _ => true) true n 54 [c3] = some x3 at f3
    change DataW.trod enc Try.prog W 0 (fun _ => true) true n 27 [c4] = some x4 at f4
    obtain ⟨s, e0, _, hs⟩ := DataW.trod_string Try.underlying9 f0
    obtain ⟨key, e2, _⟩ := DataW.trod_int Try.underlying3 f2
    have each : ∀ (j : Nat) (t : TypeId) (y : DataW H × List MemPlace), [9, 53, 3, 54, 27][j]? = some t → [x0.1, x1.1, x2.1, x3.1, x4.1][j]? = some y.1 → ∀ m ∈ y.1.weights Try.prog t, m ≤ reachBytes := fun j t y ht hy m hm => hw m (by
      rw [hx]
      simp only [DataW.weights, Try.underlying56]
      exact DataW.weights_mem_each (j := j) (t := t) (d := y.1) ht hy m hm)
    obtain ⟨cl, hcl, hnm⟩ := open_cols f1 (each 1 _ x1 rfl rfl)
    obtain ⟨rl, hrl⟩ := open_refs f3 (each 3 _ x3 rfl rfl)
    obtain ⟨pa, pc, pl, e4, hpl⟩ := open_preds f4 (each 4 _ x4 rfl rfl)
    change [c0] = _ at e0
    change [c2] = _ at e2
    simp only [List.cons.injEq, and_true] at e0 e2
    subst e0 e2 e4
    exact ⟨⟨c1, c3, pa, pc, ⟨s, cl, key, rl, pl⟩⟩, rfl, ⟨hcl, hrl, hpl⟩, hs, hnm⟩
set_option maxRecDepth 100000 in
/-- A schema as an argument. -/
theorem open_schema {fuel : Nat} {cs : List Value} {x : DataW H × List MemPlace} (h : DataW.trod enc Try.prog W 0 (fun _ => true) true fuel 45 cs = some x) (hw : ∀ m ∈ x.1.weights Try.prog 45, m ≤ reachBytes) : ∃ s : SC, Sc (fun _ => True) W (.agg cs.toArray) s ∧ namesT s.ts := by
  obtain ⟨xs, n, _, hx, hl, hxl, hf⟩ := DataW.trod_struct Try.underlying45 h
  have hC : Try.prog.cellsOf 45 = 2 := by kernel_rfl
  have h1 : Try.prog.cellsOf 3 = 1 := by kernel_rfl
  have h3 : Try.prog.cellsOf 43 = 1 := by kernel_rfl
  rw [hC] at hl
  match cs, hl, xs, hxl, hf, hx with
  | [c0, c1], _, [x0, x1], _, hf, hx =>
    have f0 : DataW.trod enc Try.prog W 0 (fun _ => true) true n 3 (List.take (Try.prog.cellsOf 3) (List.drop 0 [c0, c1])) = some x0 := hf 0 _ rfl
    have f1 : DataW.trod enc Try.prog W 0 (fun _ => true) true n 43 (List.take (Try.prog.cellsOf 43) (List.drop 1 [c0, c1])) = some x1 := hf 1 _ rfl
    rw [h1] at f0
    rw [h3] at f1
    change DataW.trod enc Try.prog W 0 (fun _ => true) true n 43 [c1] = some x1 at f1
    obtain ⟨ver, e0, _⟩ := DataW.trod_int Try.underlying3 f0
    change [c0] = _ at e0
    simp only [List.cons.injEq, and_true] at e0
    subst e0
    obtain ⟨a, c, l, rfl, hfm, hi⟩ := open_sl 43 56 5 96 TTE.cells (TTE.Q W) ⟨.slice none 0 0, .slice none 0 0, none, 0, zTB⟩ Try.underlying43 (by kernel_rfl) (by omega) (by kernel_rfl) (by omega) (fun _ => rfl)
      (fun fuel cs x h hw => open_table h hw) f1 (fun m hm => hw m (by
        rw [hx]
        simp only [DataW.weights, Try.underlying45]
        exact DataW.weights_mem_each (j := 1) (t := 43) (d := x1.1) rfl rfl m hm))
    refine ⟨⟨ver, l.map TTE.t⟩, ⟨_, rfl, a, c, by simp, by simpa using hfm, fun j hj => ?_⟩, fun t ht => ?_⟩
    · have hj' : j < l.length := by simpa using hj
      obtain ⟨b, off, e, hb, hc, hq⟩ := hi j hj'
      refine ⟨b, off, e, trivial, hb, l[j].cv, l[j].rv, l[j].pa, l[j].pc, ?_⟩
      simp only [List.getElem_map]
      exact ⟨⟨hc 0 (by omega), hc 1 (by omega), hc 2 (by omega), hc 3 (by omega), hc 4 (by omega)⟩, hq.1⟩
    · obtain ⟨e, he, rfl⟩ := List.mem_map.1 ht
      obtain ⟨j, hj, rfl⟩ := List.getElem_of_mem he
      obtain ⟨_, _, _, _, _, hq⟩ := hi j hj
      exact ⟨hq.2.1, hq.2.2⟩
end

end Go.Proofs.Ytjkjmkplcjfogaa
