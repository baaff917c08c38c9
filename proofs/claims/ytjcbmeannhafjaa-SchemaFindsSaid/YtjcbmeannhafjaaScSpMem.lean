
/- Memory of a schema while it is spoilt: its tables as an own row, whose cells are written. -/
import Derived.Test.YtjcbmeannhafjaaCPlain

import Derived.Test.YtjcbmeannhafjaaPdSpoil2

import Derived.Laws.AppendOwnNone

import Derived.Test.YtjcbmeannhafjaaIvLeaf

namespace Go.Proofs.Ytjcbmeannhafjaa

open Go.RowKit Go.Deep

theorem wpList_append_src {P : Program} {w : World} {ops : Array Oper} {rest : List Oper} {o : Oper} {a : Act} {Q : Exit → Act → World → Prop} (hgd : o.guard = none) (s x : Operand) (t : TypeId)
    (ho : o.op = .call { callee := .builtin .append, args := #[s, x], argTypes := #[t, t] })
    (base : Nat) (e : TypeId) (i : TypeInfo) (z : Value) (size bytes : Nat) (ht : P.underlying t = some (.slice e)) (hi : P.info? e = some i) (hz : i.zero = some z)
    (hsize : i.size = size) (hby : i.bytes = bytes) (hzs : z.cells.size = size) (hsz : 0 < size)
    (v : Value) (n : Nat) (xs : List Value) (hs : a.eval s = v) (hown : w.ownsRow base e size v n xs)
    (ad : Option Addr) (m c : Nat) (news : List Value) (hx : a.eval x = .slice ad m c) (hnil : ad = none → m = 0 ∧ c = 0) (hl : news.length = m * size) (hnews : ∀ p, ad = some p → ∀ j u, news[j]? = some u → w.cell? (p.add j) = some u) (h1 : ∀ u ∈ news, u.oneCell' = true)
    (h63 : n + m ≤ maxLen) (hbytes : (n + m) * bytes ≤ 140737488355328) (hbase : base ≤ w.heap.size)
    (h : ∀ v' w', w'.ownsRow base e size v' (n + m) (xs ++ news) → w.grownBy w' v.ownBlock → wpList P ops Q rest (a.put o.dst v') w') : wpList P ops Q (o :: rest) a w := by
  cases ad with
  | none =>
    obtain ⟨rfl, rfl⟩ := hnil rfl
    have hn : news = [] := List.eq_nil_of_length_eq_zero (by simpa using hl)
    subst hn
    exact wpList_append_own_none hgd s x t ho base e i size ht hi v n xs hs hown hx (h _ _ (by simpa using hown) ⟨rfl, rfl, rfl, Nat.le_refl _, fun _ _ _ => rfl⟩)
  | some p =>
    exact wpList_append_own w hgd s x t ho base e i z size bytes ht hi hz hsize hby hzs hsz v n xs hs hown p m c news hx hl (hnews p rfl) h1 h63 hbytes hbase fun v' w' h2 h3 _ => h v' w' h2 h3

section

variable {α : Type} (f : α → List Value) (k : Nat) (hk : ∀ x, (f x).length = k)
include hk
theorem flat_len : ∀ L : List α, (L.flatMap f).length = L.length * k
  | [] => by simp
  | x :: r => by rw [List.flatMap_cons, List.length_append, hk, flat_len r, List.length_cons, Nat.succ_mul]; omega
theorem flat_at : ∀ (L : List α) (i : Nat) (h : i < L.length) (j : Nat), j < k → (L.flatMap f)[i * k + j]? = (f L[i])[j]?
  | x :: r, 0, _, j, hj => by
    rw [List.flatMap_cons, List.getElem?_append_left (by rw [hk]; omega)]
    simp
  | x :: r, i + 1, h, j, hj => by
    have ih := flat_at r i (by simpa using h) j hj
    have : (i + 1) * k + j = k + (i * k + j) := by rw [Nat.succ_mul]; omega
    rw [this, List.flatMap_cons, List.getElem?_append_right (by rw [hk]; omega), hk, Nat.add_sub_cancel_left]
    simpa using ih
theorem flat_set (L : List α) (i : Nat) (h : i < L.length) (j : Nat) (hj : j < k) (x : α) (u : Value) (hx : f x = (f L[i]).set j u) : (L.flatMap f).set (i * k + j) u = (L.set i x).flatMap f := by
  have hkp : 0 < k := by omega
  apply List.ext_getElem?
  intro m
  rw [List.getElem?_set]
  by_cases hm : m < L.length * k
  · have hd : m / k < L.length := Nat.div_lt_of_lt_mul (by rwa [Nat.mul_comm])
    have hr : m % k < k := Nat.mod_lt _ hkp
    have hjm : m / k * k + m % k = m := by rw [Nat.mul_comm]; exact Nat.div_add_mod m k
    rw [← hjm, flat_at f k hk L _ hd _ hr, flat_at f k hk (L.set i x) _ (by simpa using hd) _ hr]
    by_cases e : i = m / k
    · subst e
      rw [List.getElem_set_self, hx, List.getElem?_set]
      by_cases e2 : j = m % k
      · subst e2
        rw [if_pos rfl, if_pos rfl, if_pos (by rw [flat_len f k hk]; rw [hjm]; exact hm), if_pos (by rw [hk]; exact hr)]
      · rw [if_neg (by omega), if_neg e2]
    · rw [List.getElem_set_ne e, if_neg]
      intro h'
      have : (i * k + j) / k = i := by rw [Nat.mul_comm, Nat.mul_add_div hkp, Nat.div_eq_of_lt hj, Nat.add_zero]
      rw [hjm] at h'
      rw [h'] at this
      exact e this.symm
  · rw [List.getElem?_eq_none (by rw [flat_len f k hk]; omega), List.getElem?_eq_none (by rw [flat_len f k hk, List.length_set]; omega)]
    split
    · rw [if_neg]; rw [flat_len f k hk]; omega
    · rfl
theorem flat_of (hkp : 0 < k) {W : World} {a : Option Addr} {L : List α} (h : ∀ i (hi : i < L.length), ∃ b off, a = some ⟨b, off, none⟩ ∧ ∀ j, j < k → W.cell? ⟨b, off + i * k + j, none⟩ = (f L[i])[j]?) : ∀ ad, a = some ad → ∀ j u, (L.flatMap f)[j]? = some u → W.cell? (ad.add j) = some u := by
  intro ad had j u hj
  have hlt : j < L.length * k := by have := (List.getElem?_eq_some_iff.1 hj).1; rwa [flat_len f k hk] at this
  have hd : j / k < L.length := Nat.div_lt_of_lt_mul (by rwa [Nat.mul_comm])
  have hm : j % k < k := Nat.mod_lt _ hkp
  have hjm : j / k * k + j % k = j := by rw [Nat.mul_comm]; exact Nat.div_add_mod j k
  obtain ⟨b, off, e, hc⟩ := h _ hd
  rw [had] at e
  simp only [Option.some.injEq] at e
  subst e
  have ha : (⟨b, off, none⟩ : Addr).add j = ⟨b, off + j, none⟩ := by unfold Addr.add; split <;> simp_all
  have hj2 := hj
  rw [← hjm, flat_at f k hk L _ hd _ hm] at hj2
  rw [ha, ← hj2, ← hc _ hm]
  congr 2
  omega
omit hk in
theorem flat_one (h1 : ∀ x, ∀ u ∈ f x, u.oneCell' = true) (L : List α) : ∀ u ∈ L.flatMap f, u.oneCell' = true := by
  intro u hu
  obtain ⟨x, _, hx⟩ := List.mem_flatMap.1 hu
  exact h1 x u hx
end
/-- An own row reads as a list of things. -/
theorem sl_own {τ α : Type} {K : MemK τ} (f : α → List Value) (pr : α → τ) (hk : ∀ x, (f x).length = K.sz) {P : Nat → Prop} {W : World} {base : Nat} {e : TypeId} {v : Value} {L : List α} (ho : W.ownsRow base e K.sz v L.length (L.flatMap f)) (hp : ∀ g, v.ownBlock = some g → P g) (hl : L.length ≤ 17592186044416)
    (hR : ∀ g j (h : j < L.length), (∀ i, i < K.sz → W.cell? ⟨g, j * K.sz + i, none⟩ = (f L[j])[i]?) → K.R P W g (j * K.sz) (pr L[j])) : SlR K P W v (L.map pr) := by
  obtain ⟨h1, h2⟩ := ho
  rcases h2 with ⟨rfl, hz⟩ | ⟨g, cap, cur, rfl, hg, hgc, hle, hmx, h5, h6⟩
  · have : L = [] := List.eq_nil_of_length_eq_zero hz
    subst this
    exact SlR.nil _ _ _
  · have hO : W.ownsRow base e K.sz (.slice (some ⟨g, 0, none⟩) L.length cap) L.length (L.flatMap f) := ⟨h1, .inr ⟨g, cap, cur, rfl, hg, hgc, hle, hmx, h5, h6⟩⟩
    have hgl : g < W.heap.size := (Array.getElem?_eq_some_iff.1 hgc).1
    refine ⟨some ⟨g, 0, none⟩, cap, by simp, ⟨by simpa using hle, hmx, fun e => (by cases e), by simpa using hl⟩, fun j hj => ?_⟩
    have hj' : j < L.length := by simpa using hj
    refine ⟨g, 0, rfl, hp g rfl, hgl, ?_⟩
    rw [List.getElem_map, Nat.zero_add]
    refine hR g j hj' fun i hi => ?_
    rw [← flat_at f K.sz hk L j hj' i hi]
    exact hO.cellAt (j * K.sz + i) (by
      have : (j + 1) * K.sz ≤ L.length * K.sz := Nat.mul_le_mul_right _ (by omega)
      rw [Nat.succ_mul] at this; omega)

/-- The cells of columns and references. -/
def clC (c : CL) : List Value := [.string c.s, .int .i64 c.k]
abbrev colCells (cs : List CL) : List Value := cs.flatMap clC
theorem clC_len (c : CL) : (clC c).length = 2 := rfl
theorem clC_one (c : CL) : ∀ u ∈ clC c, u.oneCell' = true := by
  intro u hu
  simp only [clC, List.mem_cons, List.not_mem_nil, or_false] at hu
  rcases hu with rfl | rfl <;> rfl
structure RX where
  a : Option Addr
  c : Nat
  r : RF
def RX.cells (y : RX) : List Value := [.slice y.a y.r.c.length y.c, .int .i64 y.r.t]
abbrev rxCells (L : List RX) : List Value := L.flatMap RX.cells
theorem rx_len (y : RX) : y.cells.length = 2 := rfl
theorem rx_one (y : RX) : ∀ u ∈ y.cells, u.oneCell' = true := by
  intro u hu
  simp only [RX.cells, List.mem_cons, List.not_mem_nil, or_false] at hu
  rcases hu with rfl | rfl <;> rfl
variable {P Q : Nat → Prop} {W W' : World}
theorem cl_of {a : Option Addr} {n c : Nat} {cs : List CL} (h : SlR colK P W (.slice a n c) cs) : ∀ ad, a = some ad → ∀ j u, (colCells cs)[j]? = some u → W.cell? (ad.add j) = some u :=
  flat_of clC 2 clC_len (by omega) fun i hi => by
    obtain ⟨b, off, e, -, -, c0, c1⟩ := col_get h hi
    refine ⟨b, off, e, fun j hj => ?_⟩
    match j, hj with
    | 0, _ => exact c0
    | 1, _ => exact c1
theorem cl_own {base : Nat} {v : Value} {cs : List CL} (ho : W.ownsRow base 35 2 v cs.length (colCells cs)) (hp : ∀ g, v.ownBlock = some g → P g) (hl : cs.length ≤ 1000) : SlR colK P W v cs := by
  have h := sl_own (K := colK) (P := P) clC id clC_len ho hp (by omega) fun g j hj hc => ⟨hc 0 (by decide), hc 1 (by decide)⟩
  simpa using h
theorem rx_of {a : Option Addr} {n c : Nat} {rs : List RF} (h : SlR refK P W (.slice a n c) rs) : ∃ Y : List RX, Y.map RX.r = rs ∧ (∀ y ∈ Y, SlR intK P W (.slice y.a y.r.c.length y.c) y.r.c) ∧ ∀ ad, a = some ad → ∀ j u, (rxCells Y)[j]? = some u → W.cell? (ad.add j) = some u := by
  have hv : ∀ j, ∃ y : RX, ∀ (_ : j < rs.length), y.r = rs[j] ∧ SlR intK P W (.slice y.a y.r.c.length y.c) y.r.c ∧ ∃ b off, a = some ⟨b, off, none⟩ ∧ ∀ i, i < 2 → W.cell? ⟨b, off + j * 2 + i, none⟩ = y.cells[i]? := by
    intro j
    by_cases hj : j < rs.length
    · obtain ⟨b, off, e, -, -, ia, ic, c0, c1, hs⟩ := ref_get h hj
      refine ⟨⟨ia, ic, rs[j]⟩, fun _ => ⟨rfl, hs, b, off, e, fun i hi => ?_⟩⟩
      match i, hi with
      | 0, _ => exact c0
      | 1, _ => exact c1
    · exact ⟨⟨none, 0, ⟨[], 0⟩⟩, fun hh => absurd hh hj⟩
  obtain ⟨g, hg⟩ := Classical.axiomOfChoice hv
  refine ⟨(List.range rs.length).map g, ?_, fun y hy => ?_, ?_⟩
  · apply List.ext_getElem (by simp)
    intro i h1 h2
    simp only [List.getElem_map, List.getElem_range]
    exact (hg i h2).1
  · obtain ⟨i, hi, rfl⟩ := List.mem_map.1 hy
    exact (hg i (List.mem_range.1 hi)).2.1
  · refine flat_of RX.cells 2 rx_len (by omega) fun i hi => ?_
    have hi' : i < rs.length := by simpa using hi
    obtain ⟨b, off, e, hc⟩ := (hg i hi').2.2
    exact ⟨b, off, e, fun j hj => by simp [hc j hj]⟩
theorem rx_own {base : Nat} {v : Value} {Y : List RX} (ho : W.ownsRow base 73 2 v Y.length (rxCells Y)) (hy : ∀ y ∈ Y, SlR intK P W (.slice y.a y.r.c.length y.c) y.r.c) (hp : ∀ g, v.ownBlock = some g → P g) (hl : Y.length ≤ 1000) : SlR refK P W v (Y.map RX.r) :=
  sl_own (K := refK) (P := P) RX.cells RX.r rx_len ho hp (by omega) fun g j hj hc => ⟨⟨_, hc 0 (by decide), hy _ (List.getElem_mem hj)⟩, hc 1 (by decide)⟩
/-- The tables of a slice that may begin anywhere in its block. -/
theorem tx_ofG {a : Option Addr} {n c : Nat} {ts : List TB} (h : SlR tabK P W (.slice a n c) ts) :
    ∃ X : List TX, X.map TX.t = ts ∧ (∀ x ∈ X, x.Ok P W) ∧ ∀ ad, a = some ad → ∀ j u, (txCells X)[j]? = some u → W.cell? (ad.add j) = some u := by
  have hv : ∀ j, ∃ x : TX, ∀ (_ : j < ts.length), x.t = ts[j] ∧ x.Ok P W ∧ ∃ b off, a = some ⟨b, off, none⟩ ∧ ∀ i, i < 5 → W.cell? ⟨b, off + j * 5 + i, none⟩ = x.cells[i]? := by
    intro j
    by_cases hj : j < ts.length
    · obtain ⟨b, off, e, -, -, ca, cc, ra, rc, pa, pc, c0, c1, c2, c3, c4, ht⟩ := tab_get h hj
      refine ⟨⟨ca, cc, ra, rc, pa, pc, ts[j]⟩, fun _ => ⟨rfl, ht, b, off, e, fun i hi => ?_⟩⟩
      match i, hi with
      | 0, _ => exact c0
      | 1, _ => exact c1
      | 2, _ => exact c2
      | 3, _ => exact c3
      | 4, _ => exact c4
    · exact ⟨⟨none, 0, none, 0, none, 0, zTB⟩, fun hh => absurd hh hj⟩
  obtain ⟨g, hg⟩ := Classical.axiomOfChoice hv
  refine ⟨(List.range ts.length).map g, ?_, fun y hy => ?_, ?_⟩
  · apply List.ext_getElem (by simp)
    intro i h1 h2
    simp only [List.getElem_map, List.getElem_range]
    exact (hg i h2).1
  · obtain ⟨i, hi, rfl⟩ := List.mem_map.1 hy
    exact (hg i (List.mem_range.1 hi)).2.1
  · refine flat_of TX.cells 5 (fun _ => rfl) (by omega) fun i hi => ?_
    have hi' : i < ts.length := by simpa using hi
    obtain ⟨b, off, e, hc⟩ := (hg i hi').2.2
    exact ⟨b, off, e, fun j hj => by simp [hc j hj]⟩
/-- How much a table and a schema bear. -/
def SzT (k : Nat) (t : TB) : Prop := t.cs.length ≤ k ∧ t.rs.length ≤ k ∧ t.ck.length ≤ k ∧ t.s.size ≤ maxLen ∧ namesOk t.cs
def SzS (k : Nat) (s : SC) : Prop := 1 ≤ s.ts.length ∧ s.ts.length ≤ k ∧ ∀ t ∈ s.ts, SzT k t
theorem SzT.mono {k k' : Nat} {t : TB} (h : SzT k t) (hk : k ≤ k') : SzT k' t := ⟨by have := h.1; omega, by have := h.2.1; omega, by have := h.2.2.1; omega, h.2.2.2⟩
theorem SzS.names {k : Nat} {s : SC} (h : SzS k s) : namesT s.ts := fun t ht => ⟨(h.2.2 t ht).2.2.2.1, (h.2.2 t ht).2.2.2.2⟩

/-- Blocks of the lists of the tables. -/
def P0 (lo sb tb M : Nat) (b : Nat) : Prop := lo ≤ b ∧ b ≠ sb ∧ b ≠ sb + 1 ∧ b ≠ tb ∧ b < M
/-- The box of the schema, that of the result, and the row of the tables. -/
structure TCore (bc B sb : Nat) (w W : World) (ver : Int) (n tb cap : Nat) (X : List TX) : Prop where
  mv : Mv bc w W
  ok : CaseOk bc B W
  hsb : w.heap.size = sb ∧ bc < sb ∧ B ≤ sb
  own : W.ownsRow (sb + 2) 40 5 (.slice (some ⟨tb, 0, none⟩) n cap) n (txCells X)
  len : X.length = n
  s0 : W.cell? ⟨sb, 0, none⟩ = some (.int .i64 ver)
  s1 : W.cell? ⟨sb, 1, none⟩ = some (.slice (some ⟨tb, 0, none⟩) n cap)
  sf : ∀ o, W.frozen? ⟨sb, o, none⟩ = false
  r0 : ∃ v, W.cell? ⟨sb + 1, 0, none⟩ = some v
  r1 : ∃ v, W.cell? ⟨sb + 1, 1, none⟩ = some v
  rf : ∀ o, W.frozen? ⟨sb + 1, o, none⟩ = false
variable {bc B lo sb n tb cap M : Nat} {w : World} {ver : Int} {X : List TX}
theorem TCore.tblt (h : TCore bc B sb w W ver n tb cap X) : sb + 2 ≤ tb ∧ tb < W.heap.size := h.own.lt tb rfl
theorem TCore.keep (h : TCore bc B sb w W ver n tb cap X) (hm : Mv bc w W') (ho : CaseOk bc B W') (hk : ∀ k, k = sb ∨ k = sb + 1 ∨ k = tb → W'.heap[k]? = W.heap[k]?) : TCore bc B sb w W' ver n tb cap X := by
  have k0 := hk sb (.inl rfl)
  have k1 := hk (sb + 1) (.inr (.inl rfl))
  refine ⟨hm, ho, h.hsb, ?_, h.len, (World.cell?_of_block (a := ⟨sb, 0, none⟩) k0).trans h.s0, (World.cell?_of_block (a := ⟨sb, 1, none⟩) k0).trans h.s1, fun o => (World.frozen?_of_block (a := ⟨sb, o, none⟩) k0).trans (h.sf o), ?_, ?_, fun o => (World.frozen?_of_block (a := ⟨sb + 1, o, none⟩) k1).trans (h.rf o)⟩
  · obtain ⟨h1, h2⟩ := h.own
    refine ⟨h1, ?_⟩
    rcases h2 with h0 | ⟨g, cap', cur, e, hg, hgg, hr⟩
    · exact .inl h0
    · have eg : tb = g := by simp only [Value.slice.injEq, Option.some.injEq, Addr.mk.injEq, and_true, true_and] at e; exact e.1
      exact .inr ⟨g, cap', cur, e, hg, (hk g (.inr (.inr eg.symm))).trans hgg, hr⟩
  · obtain ⟨v, e⟩ := h.r0; exact ⟨v, (World.cell?_of_block (a := ⟨sb + 1, 0, none⟩) k1).trans e⟩
  · obtain ⟨v, e⟩ := h.r1; exact ⟨v, (World.cell?_of_block (a := ⟨sb + 1, 1, none⟩) k1).trans e⟩
theorem TCore.szW (h : TCore bc B sb w W ver n tb cap X) : sb + 2 < W.heap.size := by have := h.tblt; omega
theorem TCore.step (h : TCore bc B sb w W ver n tb cap X) (hm : Mv bc W W') (ho : CaseOk bc B W') : TCore bc B sb w W' ver n tb cap X :=
  h.keep (h.mv.trans hm) ho fun k hk => hm.block k (by have := h.tblt; omega) (by have := h.tblt; have := h.hsb; omega)
theorem TCore.below (h : TCore bc B sb w W ver n tb cap X) (hb : Below W.heap.size W W') : TCore bc B sb w W' ver n tb cap X := h.step (Mv.of_below hb) (h.ok.below hb h.ok.lt.2)
theorem TCore.ne (h : TCore bc B sb w W ver n tb cap X) {b : Nat} (h1 : sb + 2 ≤ b) (h2 : b ≠ tb) (o : Nat) (v : Value) : TCore bc B sb w (W.setCell ⟨b, o, none⟩ v) ver n tb cap X :=
  h.keep (h.mv.setNew (by have := h.hsb; omega) _ _) (h.ok.setNew (by have := h.hsb; omega) _ _) fun k hk => Below.heap_setCell _ _ _ _ (by show k ≠ b; omega)
/-- One cell of the table at i is written. -/
theorem TCore.set (h : TCore bc B sb w W ver n tb cap X) (i : Nat) (hi : i < X.length) (j : Nat) (hj : j < 5) (u : Value) (x : TX) (hx : x.cells = (X[i].cells).set j u) : TCore bc B sb w (W.setCell ⟨tb, i * 5 + j, none⟩ u) ver n tb cap (X.set i x) := by
  have hl := h.tblt
  have hb : ∀ k, k ≠ tb → (W.setCell ⟨tb, i * 5 + j, none⟩ u).heap[k]? = W.heap[k]? := fun k hk => Below.heap_setCell _ _ _ _ hk
  have k0 := hb sb (by omega)
  have k1 := hb (sb + 1) (by omega)
  have ho := (h.own.stored (i * 5 + j) u).1
  unfold txCells at ho
  rw [flat_set TX.cells 5 (fun _ => rfl) X i hi j hj x u hx] at ho
  refine ⟨h.mv.setNew (by have := h.hsb; omega) _ _, h.ok.setNew (by have := h.hsb; omega) _ _, h.hsb, ho, by rw [List.length_set]; exact h.len, (World.cell?_of_block (a := ⟨sb, 0, none⟩) k0).trans h.s0, (World.cell?_of_block (a := ⟨sb, 1, none⟩) k0).trans h.s1, fun o => (World.frozen?_of_block (a := ⟨sb, o, none⟩) k0).trans (h.sf o), ?_, ?_, fun o => (World.frozen?_of_block (a := ⟨sb + 1, o, none⟩) k1).trans (h.rf o)⟩
  · obtain ⟨v, e⟩ := h.r0; exact ⟨v, (World.cell?_of_block (a := ⟨sb + 1, 0, none⟩) k1).trans e⟩
  · obtain ⟨v, e⟩ := h.r1; exact ⟨v, (World.cell?_of_block (a := ⟨sb + 1, 1, none⟩) k1).trans e⟩
/-- What stands in the row, at table i. -/
theorem TCore.cellAt (h : TCore bc B sb w W ver n tb cap X) (i : Nat) (hi : i < X.length) (j : Nat) (hj : j < 5) : W.cell? ⟨tb, i * 5 + j, none⟩ = (X[i].cells)[j]? := by
  rw [h.own.cellAt (i * 5 + j) (by have := h.len; omega)]
  exact txCells_at X i hi j hj
theorem TCore.fz (h : TCore bc B sb w W ver n tb cap X) (j : Nat) : W.frozen? ⟨tb, j, none⟩ = false := h.own.frozenAt j
/-- The version is written. -/
theorem TCore.setVer (h : TCore bc B sb w W ver n tb cap X) (v : Int) : TCore bc B sb w (W.setCell ⟨sb, 0, none⟩ (.int .i64 v)) v n tb cap X := by
  have hl := h.tblt
  have hb : ∀ k, k ≠ sb → (W.setCell ⟨sb, 0, none⟩ (.int .i64 v)).heap[k]? = W.heap[k]? := fun k hk => Below.heap_setCell _ _ _ _ hk
  have k1 := hb (sb + 1) (by omega)
  refine ⟨h.mv.setNew (by have := h.hsb; omega) _ _, h.ok.setNew (by have := h.hsb; omega) _ _, h.hsb, ?_, h.len, World.cell?_setCell_same _ _ _ (by rw [h.s0]), (World.cell?_setCell_other _ _ _ _ (by simp)).trans h.s1, fun o => by rw [World.frozen?_setCell]; exact h.sf o, ?_, ?_, fun o => (World.frozen?_of_block (a := ⟨sb + 1, o, none⟩) k1).trans (h.rf o)⟩
  · exact own_blkW h.own fun k hk _ => hb k (by omega)
  · obtain ⟨u, e⟩ := h.r0; exact ⟨u, (World.cell?_of_block (a := ⟨sb + 1, 0, none⟩) k1).trans e⟩
  · obtain ⟨u, e⟩ := h.r1; exact ⟨u, (World.cell?_of_block (a := ⟨sb + 1, 1, none⟩) k1).trans e⟩
/-- The tables grow: a new row stands in the box. -/
theorem TCore.grow (h : TCore bc B sb w W ver n tb cap X) {W1 : World} {n' tb' cap' : Nat} {X' : List TX} (ho : W1.ownsRow (sb + 2) 40 5 (.slice (some ⟨tb', 0, none⟩) n' cap') n' (txCells X')) (hl : X'.length = n') (hm : Mv bc w W1) (hc : CaseOk bc B W1) (hk : ∀ k, k = sb ∨ k = sb + 1 → W1.heap[k]? = W.heap[k]?) :
    TCore bc B sb w (W1.setCell ⟨sb, 1, none⟩ (.slice (some ⟨tb', 0, none⟩) n' cap')) ver n' tb' cap' X' := by
  have hb : ∀ k, k ≠ sb → (W1.setCell ⟨sb, 1, none⟩ (.slice (some ⟨tb', 0, none⟩) n' cap')).heap[k]? = W1.heap[k]? := fun k hk => Below.heap_setCell _ _ _ _ hk
  have k0 := hk sb (.inl rfl)
  have k1 := (hb (sb + 1) (by omega)).trans (hk (sb + 1) (.inr rfl))
  refine ⟨hm.setNew (by have := h.hsb; omega) _ _, hc.setNew (by have := h.hsb; omega) _ _, h.hsb, own_blkW ho fun k hk _ => hb k (by omega), hl, ?_, ?_, fun o => ?_, ?_, ?_, fun o => (World.frozen?_of_block (a := ⟨sb + 1, o, none⟩) k1).trans (h.rf o)⟩
  · rw [World.cell?_setCell_other _ _ _ _ (by simp)]
    exact (World.cell?_of_block (a := ⟨sb, 0, none⟩) k0).trans h.s0
  · exact World.cell?_setCell_same _ _ _ (by rw [World.cell?_of_block (a := ⟨sb, 1, none⟩) k0, h.s1])
  · rw [World.frozen?_setCell]; exact (World.frozen?_of_block (a := ⟨sb, o, none⟩) k0).trans (h.sf o)
  · obtain ⟨u, e⟩ := h.r0; exact ⟨u, (World.cell?_of_block (a := ⟨sb + 1, 0, none⟩) k1).trans e⟩
  · obtain ⟨u, e⟩ := h.r1; exact ⟨u, (World.cell?_of_block (a := ⟨sb + 1, 1, none⟩) k1).trans e⟩

/-- The state with all lists at rest. -/
structure TInv (bc B lo sb M : Nat) (w W : World) (ver : Int) (n tb cap : Nat) (X : List TX) : Prop where
  core : TCore bc B sb w W ver n tb cap X
  oks : ∀ x ∈ X, x.Ok (P0 lo sb tb M) W
  hM : M ≤ W.heap.size ∧ lo ≤ sb ∧ bc < lo
theorem P0.ltM {b : Nat} (h : P0 lo sb tb M b) : b < M := h.2.2.2.2
theorem TInv.step (h : TInv bc B lo sb M w W ver n tb cap X) (hm : Mv bc W W') (ho : CaseOk bc B W') : TInv bc B lo sb M w W' ver n tb cap X :=
  ⟨h.core.step hm ho, fun x hx => (h.oks x hx).keep hm.size fun k hp hk => hm.block k hk (by have := hp.1; have := h.hM; omega), by have := h.hM; have := hm.size; omega⟩
theorem TInv.below (h : TInv bc B lo sb M w W ver n tb cap X) (hb : Below W.heap.size W W') : TInv bc B lo sb M w W' ver n tb cap X := h.step (Mv.of_below hb) (h.core.ok.below hb h.core.ok.lt.2)
theorem TInv.mono {M' : Nat} (h : TInv bc B lo sb M w W ver n tb cap X) (h1 : M ≤ M') (h2 : M' ≤ W.heap.size) : TInv bc B lo sb M' w W ver n tb cap X :=
  ⟨h.core, fun x hx => (h.oks x hx).weak fun k hp => ⟨hp.1, hp.2.1, hp.2.2.1, hp.2.2.2.1, by have := hp.2.2.2.2; omega⟩, by have := h.hM; omega⟩
theorem TInv.set (h : TInv bc B lo sb M w W ver n tb cap X) (i : Nat) (hi : i < X.length) (j : Nat) (hj : j < 5) (u : Value) (x : TX) (hx : x.cells = (X[i].cells).set j u) (hok : x.Ok (P0 lo sb tb M) W) : TInv bc B lo sb M w (W.setCell ⟨tb, i * 5 + j, none⟩ u) ver n tb cap (X.set i x) := by
  have hk : ∀ y : TX, y.Ok (P0 lo sb tb M) W → y.Ok (P0 lo sb tb M) (W.setCell ⟨tb, i * 5 + j, none⟩ u) := fun y hy => hy.keep (by simp) fun k hp _ => Below.heap_setCell _ _ _ _ (by show k ≠ tb; exact hp.2.2.2.1)
  refine ⟨h.core.set i hi j hj u x hx, fun y hy => ?_, by simpa using h.hM⟩
  rcases List.mem_or_eq_of_mem_set hy with hy | rfl
  · exact hk y (h.oks y hy)
  · exact hk _ hok
theorem TInv.setVer (h : TInv bc B lo sb M w W ver n tb cap X) (v : Int) : TInv bc B lo sb M w (W.setCell ⟨sb, 0, none⟩ (.int .i64 v)) v n tb cap X :=
  ⟨h.core.setVer v, fun x hx => (h.oks x hx).keep (by simp) fun k hp _ => Below.heap_setCell _ _ _ _ (by show k ≠ sb; exact hp.2.1), by simpa using h.hM⟩
theorem TInv.sc (h : TInv bc B lo sb M w W ver n tb cap X) (hn : n ≤ 1000) : Sc (fun b => lo ≤ b) W (.agg #[.int .i64 ver, .slice (some ⟨tb, 0, none⟩) n cap]) ⟨ver, X.map TX.t⟩ := by
  refine ⟨_, rfl, ?_⟩
  have ho := h.core.own
  have hl := h.core.len
  rw [← hl] at ho ⊢
  have hlo := h.hM
  exact tx_own ho (fun x hx => (h.oks x hx).weak fun k hp => hp.1) (fun b hb => by omega) (by omega)
/-- The result is stored. -/
theorem TInv.res (h : TInv bc B lo sb M w W ver n tb cap X) (o : Nat) (v : Value) : Mv bc w (W.setCell ⟨sb + 1, o, none⟩ v) ∧ CaseOk bc B (W.setCell ⟨sb + 1, o, none⟩ v) := ⟨h.core.mv.setNew (by have := h.core.hsb; omega) _ _, h.core.ok.setNew (by have := h.core.hsb; omega) _ _⟩
/-- At the switch: the columns of table i are a row of their own. -/
structure SwI (bc B lo sb m : Nat) (w W : World) (ver : Int) (n tb cap : Nat) (X : List TX) (i : Nat) : Prop where
  core : TCore bc B sb w W ver n tb cap X
  hi : i < X.length
  hm : tb < m ∧ m ≤ W.heap.size ∧ lo ≤ sb ∧ bc < lo
  oth : ∀ j (h : j < X.length), j ≠ i → X[j].Ok (P0 lo sb tb m) W
  refs : SlR refK (P0 lo sb tb m) W (.slice X[i].ra X[i].t.rs.length X[i].rc) X[i].t.rs
  chks : PdS (P0 lo sb tb m) W X[i].t.ck X[i].pa X[i].pc
  col : W.ownsRow m 35 2 (.slice X[i].ca X[i].t.cs.length X[i].cc) X[i].t.cs.length (colCells X[i].t.cs)
variable {m i : Nat}
theorem SwI.keep (h : SwI bc B lo sb m w W ver n tb cap X i) (hc : TCore bc B sb w W' ver n tb cap X) (hs : W.heap.size ≤ W'.heap.size) (hk : ∀ k, lo ≤ k → k < W.heap.size → W'.heap[k]? = W.heap[k]?) : SwI bc B lo sb m w W' ver n tb cap X i :=
  ⟨hc, h.hi, by have := h.hm; omega, fun j hj hne => (h.oth j hj hne).keep hs fun k hp hk' => hk k hp.1 hk', h.refs.keep hs fun k hp hk' => hk k hp.1 hk', h.chks.keep hs fun k hp hk' => hk k hp.1 hk', own_blkW h.col fun k hk1 hk2 => hk k (by have := h.hm; have := h.core.tblt; omega) hk2⟩
theorem SwI.step (h : SwI bc B lo sb m w W ver n tb cap X i) (hm : Mv bc W W') (ho : CaseOk bc B W') : SwI bc B lo sb m w W' ver n tb cap X i :=
  h.keep (h.core.step hm ho) hm.size fun k h1 h2 => hm.block k h2 (by have := h.hm; omega)
theorem SwI.done (h : SwI bc B lo sb m w W ver n tb cap X i) (hl : (X[i]'h.hi).t.cs.length ≤ 1000) : TInv bc B lo sb W.heap.size w W ver n tb cap X := by
  have hq : ∀ k, P0 lo sb tb m k → P0 lo sb tb W.heap.size k := fun k hp => ⟨hp.1, hp.2.1, hp.2.2.1, hp.2.2.2.1, by have := hp.2.2.2.2; have := h.hm; omega⟩
  have hlt := h.core.tblt
  refine ⟨h.core, fun x hx => ?_, by have := h.hm; omega⟩
  obtain ⟨j, hj, rfl⟩ := List.getElem_of_mem hx
  by_cases e : j = i
  · subst e
    refine ⟨cl_own h.col (fun g hg => ?_) hl, h.refs.weak hq, h.chks.weak hq⟩
    have hgl := h.col.lt g hg
    have := h.hm
    exact ⟨by omega, by omega, by omega, by omega, hgl.2⟩
  · exact (h.oth j hj e).weak hq
end Go.Proofs.Ytjcbmeannhafjaa

/- What the ways of SpoilSchema end in. -/
namespace Go.Proofs.Ytjcbmeannhafjaa

open Go.RowKit Go.Deep

variable {bc B lo sb n tb cap M m i : Nat} {w W : World} {ver : Int} {X : List TX}
theorem TInv.at (h : TInv bc B lo sb M w W ver n tb cap X) (hi : i < X.length) : X[i].Ok (P0 lo sb tb M) W := h.oks _ (List.getElem_mem hi)
theorem TInv.setName (h : TInv bc B lo sb M w W ver n tb cap X) (hi : i < X.length) (s : ByteArray) : TInv bc B lo sb M w (W.setCell ⟨tb, i * 5, none⟩ (.string s)) ver n tb cap (X.set i { X[i] with t := { X[i].t with s := s } }) :=
  h.set i hi 0 (by omega) (.string s) _ rfl ⟨(h.at hi).cols, (h.at hi).refs, (h.at hi).chks⟩
theorem TInv.setKey (h : TInv bc B lo sb M w W ver n tb cap X) (hi : i < X.length) (z : Int) : TInv bc B lo sb M w (W.setCell ⟨tb, i * 5 + 2, none⟩ (.int .i64 z)) ver n tb cap (X.set i { X[i] with t := { X[i].t with key := z } }) :=
  h.set i hi 2 (by omega) (.int .i64 z) _ rfl ⟨(h.at hi).cols, (h.at hi).refs, (h.at hi).chks⟩
theorem TInv.noCols (h : TInv bc B lo sb M w W ver n tb cap X) (hi : i < X.length) : TInv bc B lo sb M w (W.setCell ⟨tb, i * 5 + 1, none⟩ (.slice none 0 0)) ver n tb cap (X.set i { X[i] with ca := none, cc := 0, t := { X[i].t with cs := [] } }) :=
  h.set i hi 1 (by omega) (.slice none 0 0) _ rfl ⟨SlR.nil _ _ _, (h.at hi).refs, (h.at hi).chks⟩
theorem TInv.setRefs (h : TInv bc B lo sb M w W ver n tb cap X) (hi : i < X.length) {b0 : Nat} {ra : Option Addr} {rc : Nat} {Y : List RX} (hb0 : tb < b0) (ho : W.ownsRow b0 73 2 (.slice ra Y.length rc) Y.length (rxCells Y)) (hy : ∀ y ∈ Y, SlR intK (P0 lo sb tb W.heap.size) W (.slice y.a y.r.c.length y.c) y.r.c) (hl : Y.length ≤ 1000) :
    TInv bc B lo sb W.heap.size w (W.setCell ⟨tb, i * 5 + 3, none⟩ (.slice ra Y.length rc)) ver n tb cap (X.set i { X[i] with ra := ra, rc := rc, t := { X[i].t with rs := Y.map RX.r } }) := by
  have h' := h.mono h.hM.1 (Nat.le_refl _)
  have hlt := h.core.tblt
  have hM := h.hM
  refine h'.set i hi 3 (by omega) _ _ (by simp [TX.cells]) ⟨(h'.at hi).cols, ?_, (h'.at hi).chks⟩
  have hr := rx_own ho hy (P := P0 lo sb tb W.heap.size) (fun g hg => by have := ho.lt g hg; exact ⟨by omega, by omega, by omega, by omega, this.2⟩) hl
  simpa using hr
theorem TInv.setChks (h : TInv bc B lo sb M w W ver n tb cap X) (hi : i < X.length) {b0 : Nat} {pa : Option Addr} {pc : Nat} {L : List TE} (hb0 : tb < b0) (ho : W.ownsRow b0 77 13 (.slice pa L.length pc) L.length (teCells L)) (hs : ∀ x ∈ L, PdS (P0 lo sb tb W.heap.size) W x.p.args x.a x.c) (hl : L.length ≤ 1000) :
    TInv bc B lo sb W.heap.size w (W.setCell ⟨tb, i * 5 + 4, none⟩ (.slice pa L.length pc)) ver n tb cap (X.set i { X[i] with pa := pa, pc := pc, t := { X[i].t with ck := L.map TE.p } }) := by
  have h' := h.mono h.hM.1 (Nat.le_refl _)
  have hlt := h.core.tblt
  have hM := h.hM
  refine h'.set i hi 4 (by omega) _ _ (by simp [TX.cells]) ⟨(h'.at hi).cols, (h'.at hi).refs, ?_⟩
  obtain ⟨a', c', e, hp⟩ := own_pdS (P := fun b => lo ≤ b ∧ b ≠ sb ∧ b ≠ sb + 1 ∧ b ≠ tb) ho (fun x hx => (hs x hx).weak fun k hk => ⟨hk.1, hk.2.1, hk.2.2.1, hk.2.2.2.1⟩) (fun b hb => by omega) (by omega)
  simp only [Value.slice.injEq, true_and] at e
  obtain ⟨rfl, rfl⟩ := e
  exact hp.ltP.weak fun k hk => ⟨hk.1.1, hk.1.2.1, hk.1.2.2.1, hk.1.2.2.2, hk.2⟩
theorem grown_mv {O : Obj} {W1 : World} (h : TCore bc B sb w W ver n tb cap X) {g : Nat} (hg : (W.alloc O).grownBy W1 (some g)) (hgs : sb ≤ g) : Mv bc w W1 ∧ CaseOk bc B W1 ∧ ∀ k, k < W.heap.size → k ≠ g → W1.heap[k]? = W.heap[k]? := by
  have hl := h.tblt
  have hsb := h.hsb
  have hb : Below sb W W1 := ((Below.refl sb W).alloc (by omega) O).grown hg (by simp; omega) (fun kk e => by simp only [Option.some.injEq] at e; omega)
  have hk : ∀ k, k < W.heap.size → k ≠ g → W1.heap[k]? = W.heap[k]? := fun k h1 h2 => (hg.block k (by simp; omega) (by simp; omega)).trans (((Below.refl W.heap.size W).alloc (Nat.le_refl _) O).block k h1)
  refine ⟨⟨hb.os.trans h.mv.os, hb.tape.trans h.mv.tape, hb.output.trans h.mv.output, Nat.le_trans h.mv.size hb.size, fun k h1 h2 => ?_⟩, h.ok.below hb hsb.2.2, hk⟩
  exact (hk k (by omega) (by omega)).trans (h.mv.block k h1 h2)
/-- One table more. -/
theorem TInv.growT (h : TInv bc B lo sb M w W ver n tb cap X) {x : TX} (hx : x.Ok (P0 lo sb tb M) W) {O : Obj} {W1 : World} {tb' cap' : Nat} (ho : W1.ownsRow (sb + 2) 40 5 (.slice (some ⟨tb', 0, none⟩) (n + 1) cap') (n + 1) (txCells (X ++ [x]))) (hg : (W.alloc O).grownBy W1 (some tb)) (hat : tb' = tb ∨ W.heap.size ≤ tb') :
    TInv bc B lo sb M w (W1.setCell ⟨sb, 1, none⟩ (.slice (some ⟨tb', 0, none⟩) (n + 1) cap')) ver (n + 1) tb' cap' (X ++ [x]) := by
  have hl := h.core.tblt
  have hM := h.hM
  obtain ⟨h1, h2, h3⟩ := grown_mv h.core hg (by omega)
  have hs := hg.size
  simp only [World.size_alloc] at hs
  have hk : ∀ y : TX, y.Ok (P0 lo sb tb M) W → y.Ok (P0 lo sb tb' M) (W1.setCell ⟨sb, 1, none⟩ (.slice (some ⟨tb', 0, none⟩) (n + 1) cap')) := fun y hy =>
    (hy.keep (by simp; omega) fun k hp hk' => (Below.heap_setCell _ _ _ _ (by show k ≠ sb; exact hp.2.1)).trans (h3 k hk' hp.2.2.2.1)).weak fun k hp => ⟨hp.1, hp.2.1, hp.2.2.1, by have := hp.2.2.2.1; have := hp.2.2.2.2; omega, hp.2.2.2.2⟩
  refine ⟨h.core.grow ho (by simp [h.core.len]) h1 h2 fun k hk => h3 k (by omega) (by omega), fun y hy => ?_, by simp; omega⟩
  rcases List.mem_append.1 hy with hy | hy
  · exact hk y (h.oks y hy)
  · rw [List.mem_singleton.1 hy]; exact hk x hx
theorem txCells_same {x : TX} (hi : i < X.length) (hx : x.cells = X[i].cells) : txCells (X.set i x) = txCells X := by
  unfold txCells
  rw [List.flatMap_def, List.flatMap_def, List.map_set, hx]
  congr 1
  have : X[i].cells = (X.map TX.cells)[i]'(by simpa using hi) := by simp
  rw [this, List.set_getElem_self]
theorem TCore.same (h : TCore bc B sb w W ver n tb cap X) {x : TX} (hi : i < X.length) (hx : x.cells = X[i].cells) : TCore bc B sb w W ver n tb cap (X.set i x) :=
  ⟨h.mv, h.ok, h.hsb, by rw [txCells_same hi hx]; exact h.own, by rw [List.length_set]; exact h.len, h.s0, h.s1, h.sf, h.r0, h.r1, h.rf⟩
/-- A column is written. -/
theorem SwI.setCol (h : SwI bc B lo sb m w W ver n tb cap X i) {cb : Nat} (hcb : (X[i]'h.hi).ca = some ⟨cb, 0, none⟩) (q : Nat) (hq : q < (X[i]'h.hi).t.cs.length) (j : Nat) (hj : j < 2) (u : Value) (c' : CL) (hc : clC c' = (clC (X[i]'h.hi).t.cs[q]).set j u) :
    SwI bc B lo sb m w (W.setCell ⟨cb, q * 2 + j, none⟩ u) ver n tb cap (X.set i { (X[i]'h.hi) with t := { (X[i]'h.hi).t with cs := (X[i]'h.hi).t.cs.set q c' } }) i := by
  have hi := h.hi
  have hm := h.hm
  have hlt := h.core.tblt
  have hcol := h.col
  rw [hcb] at hcol
  have hcl := hcol.lt cb rfl
  have hk : ∀ k, k ≠ cb → (W.setCell ⟨cb, q * 2 + j, none⟩ u).heap[k]? = W.heap[k]? := fun k hk => Below.heap_setCell _ _ _ _ hk
  have hkp : ∀ k, P0 lo sb tb m k → (W.setCell ⟨cb, q * 2 + j, none⟩ u).heap[k]? = W.heap[k]? := fun k hp => hk k (by have := hp.2.2.2.2; omega)
  have hi2 : i < (X.set i { X[i] with t := { X[i].t with cs := X[i].t.cs.set q c' } }).length := by simpa using hi
  have he : (X.set i { X[i] with t := { X[i].t with cs := X[i].t.cs.set q c' } })[i] = { X[i] with t := { X[i].t with cs := X[i].t.cs.set q c' } } := List.getElem_set_self _
  have hst := (hcol.stored (q * 2 + j) u).1
  unfold colCells at hst
  rw [flat_set clC 2 clC_len _ q hq j hj c' u hc] at hst
  refine ⟨(h.core.ne (by omega) (by omega) _ _).same hi (by simp [TX.cells]), hi2, by simpa using hm, fun j' hj' hne => ?_, ?_, ?_, ?_⟩
  · have hj'' : j' < X.length := by simpa using hj'
    rw [List.getElem_set_ne (fun e => hne e.symm)]
    exact (h.oth j' hj'' hne).keep (by simp) fun k hp _ => hkp k hp
  · rw [he]; exact h.refs.keep (by simp) fun k hp _ => hkp k hp
  · rw [he]; exact h.chks.keep (by simp) fun k hp _ => hkp k hp
  · rw [he]
    simp only [List.length_set]
    rw [hcb]
    exact hst
/-- One column more. -/
theorem SwI.growCol (h : SwI bc B lo sb m w W ver n tb cap X i) {O : Obj} {W1 : World} {ca : Option Addr} {cc : Nat} (c' : CL) (ho : W1.ownsRow m 35 2 (.slice ca ((X[i]'h.hi).t.cs.length + 1) cc) ((X[i]'h.hi).t.cs.length + 1) (colCells ((X[i]'h.hi).t.cs ++ [c']))) (hg : (W.alloc O).grownBy W1 (Value.slice (X[i]'h.hi).ca (X[i]'h.hi).t.cs.length (X[i]'h.hi).cc).ownBlock) :
    SwI bc B lo sb m w (W1.setCell ⟨tb, i * 5 + 1, none⟩ (.slice ca ((X[i]'h.hi).t.cs.length + 1) cc)) ver n tb cap (X.set i { (X[i]'h.hi) with ca := ca, cc := cc, t := { (X[i]'h.hi).t with cs := (X[i]'h.hi).t.cs ++ [c'] } }) i := by
  have hi := h.hi
  have hm := h.hm
  have hlt := h.core.tblt
  have hsb := h.core.hsb
  have hrow := h.col.lt
  have hb : Below m W W1 := ((Below.refl m W).alloc hm.2.1 O).grown hg (by simp; omega) (fun kk e => (hrow kk e).1)
  have hs := hb.size
  have hmv : Mv bc w W1 := ⟨hb.os.trans h.core.mv.os, hb.tape.trans h.core.mv.tape, hb.output.trans h.core.mv.output, Nat.le_trans h.core.mv.size hs, fun k h1 h2 => (hb.block k (by omega)).trans (h.core.mv.block k h1 h2)⟩
  have hc1 : TCore bc B sb w W1 ver n tb cap X := h.core.keep hmv (h.core.ok.below hb (by omega)) fun k hk => hb.block k (by omega)
  have hks : ∀ k, k ≠ tb → (W1.setCell ⟨tb, i * 5 + 1, none⟩ (.slice ca (X[i].t.cs.length + 1) cc)).heap[k]? = W1.heap[k]? := fun k hk => Below.heap_setCell _ _ _ _ hk
  have hkp : ∀ k, P0 lo sb tb m k → (W1.setCell ⟨tb, i * 5 + 1, none⟩ (.slice ca (X[i].t.cs.length + 1) cc)).heap[k]? = W.heap[k]? := fun k hp => (hks k hp.2.2.2.1).trans (hb.block k hp.2.2.2.2)
  have hi2 : i < (X.set i { X[i] with ca := ca, cc := cc, t := { X[i].t with cs := X[i].t.cs ++ [c'] } }).length := by simpa using hi
  have he : (X.set i { X[i] with ca := ca, cc := cc, t := { X[i].t with cs := X[i].t.cs ++ [c'] } })[i] = { X[i] with ca := ca, cc := cc, t := { X[i].t with cs := X[i].t.cs ++ [c'] } } := List.getElem_set_self _
  refine ⟨hc1.set i hi 1 (by omega) _ _ (by simp [TX.cells]), hi2, by simp; omega, fun j' hj' hne => ?_, ?_, ?_, ?_⟩
  · have hj'' : j' < X.length := by simpa using hj'
    rw [List.getElem_set_ne (fun e => hne e.symm)]
    exact (h.oth j' hj'' hne).keep (by simp; exact hs) fun k hp _ => hkp k hp
  · rw [he]; exact h.refs.keep (by simp; exact hs) fun k hp _ => hkp k hp
  · rw [he]; exact h.chks.keep (by simp; exact hs) fun k hp _ => hkp k hp
  · rw [he]
    simp only [List.length_append, List.length_singleton]
    exact own_blkW ho fun k h1 _ => hks k (by omega)
theorem row_new (w : World) (L : List Value) (t : TypeId) : ∀ (j : Nat) (u : Value), L[j]? = some u → (w.alloc (.cells L.toArray t)).cell? ((⟨w.heap.size, 0, none⟩ : Addr).add j) = some u := by
  intro j u hj
  have ha : (⟨w.heap.size, 0, none⟩ : Addr).add j = ⟨w.heap.size, j, none⟩ := by unfold Addr.add; split <;> simp_all
  rw [ha]
  have h := World.cell?_alloc_mark w L.toArray t (0, 0) j
  refine h.trans ?_
  simpa using hj
/-- One reference of one column more. -/
theorem w11_refs {w11 : World} {O : Obj} {nr m0 bl : Nat} {z1 z2 : Int} {r9 v8 : Option Addr} {c9 c8 n8 : Nat} {Y : List RX} (h : TInv bc B lo sb m0 w W ver n tb cap X) (hi : i < X.length) (hm0 : tb < m0) (ho : w11.ownsRow m0 73 2 (.slice r9 (nr + 1) c9) (nr + 1) (rxCells Y ++ [.slice (some ⟨bl, 0, none⟩) 1 1, .int .i64 z2])) (hg : (W.alloc O).grownBy w11 (Value.slice v8 n8 c8).ownBlock) (hrow : ∀ kk, (Value.slice v8 n8 c8).ownBlock = some kk → m0 ≤ kk ∧ kk < bl) (hl : Y.length = nr)
    (hy : ∀ y ∈ Y, SlR intK (P0 lo sb tb m0) W (.slice y.a y.r.c.length y.c) y.r.c) (hb : W.cell? ⟨bl, 0, none⟩ = some (.int .i64 z1)) (hbl : m0 ≤ bl ∧ bl < W.heap.size) (hn : nr ≤ 900) :
    TInv bc B lo sb w11.heap.size w (w11.setCell ⟨tb, i * 5 + 3, none⟩ (.slice r9 (nr + 1) c9)) ver n tb cap (X.set i { X[i] with ra := r9, rc := c9, t := { X[i].t with rs := (Y ++ [(⟨some ⟨bl, 0, none⟩, 1, ⟨[z1], z2⟩⟩ : RX)]).map RX.r } }) ∧ ∃ vo, w11.cell? ⟨tb, i * 5 + 3, none⟩ = some vo ∧ w11.frozen? ⟨tb, i * 5 + 3, none⟩ = false ∧ tb < w11.heap.size := by
  have hlt := h.core.tblt
  have hsb := h.core.hsb
  have hM := h.hM
  have hB : Below m0 W w11 := ((Below.refl m0 W).alloc hM.1 O).grown hg (by simp; omega) (fun kk e => (hrow kk e).1)
  have hs := hB.size
  have hk : ∀ kk, kk < W.heap.size → (kk < m0 ∨ bl ≤ kk) → w11.heap[kk]? = W.heap[kk]? := fun kk h1 h2 => (hg.block kk (by simp; omega) (fun e => by have := hrow kk e.symm; omega)).trans (((Below.refl W.heap.size W).alloc (Nat.le_refl _) O).block kk h1)
  have hmv : Mv bc w w11 := ⟨hB.os.trans h.core.mv.os, hB.tape.trans h.core.mv.tape, hB.output.trans h.core.mv.output, Nat.le_trans h.core.mv.size hs, fun k h1 h2 => (hB.block k (by omega)).trans (h.core.mv.block k h1 h2)⟩
  have hc := h.core.keep hmv (h.core.ok.below hB (by omega)) fun k hk' => hB.block k (by omega)
  have e : rxCells Y ++ [.slice (some ⟨bl, 0, none⟩) 1 1, .int .i64 z2] = rxCells (Y ++ [(⟨some ⟨bl, 0, none⟩, 1, ⟨[z1], z2⟩⟩ : RX)]) := by unfold rxCells; rw [List.flatMap_append]; rfl
  have hl2 : (Y ++ [(⟨some ⟨bl, 0, none⟩, 1, ⟨[z1], z2⟩⟩ : RX)]).length = nr + 1 := by simp [hl]
  rw [e, ← hl2] at ho
  have hT : TInv bc B lo sb m0 w w11 ver n tb cap X := ⟨hc, fun x hx => (h.oks x hx).keep hs fun k hp _ => hB.block k hp.ltM, by omega⟩
  refine ⟨?_, _, (hT.core.cellAt i hi 3 (by omega)).trans rfl, hT.core.fz _, hT.core.tblt.2⟩
  have hr := hT.setRefs hi hm0 ho (fun y hy' => ?_) (by omega)
  · rw [hl2] at hr; exact hr
  · rcases List.mem_append.1 hy' with hy' | hy'
    · exact ((hy y hy').keep hs (fun k hp _ => hB.block k hp.ltM)).weak fun k hp => ⟨hp.1, hp.2.1, hp.2.2.1, hp.2.2.2.1, by have := hp.2.2.2.2; omega⟩
    · rw [List.mem_singleton.1 hy']
      refine ⟨some ⟨bl, 0, none⟩, 1, rfl, ⟨by simp, by unfold maxLen; omega, fun e => (by cases e), by simp⟩, fun j hj => ?_⟩
      obtain rfl : j = 0 := by simp at hj; omega
      refine ⟨bl, 0, rfl, ⟨by omega, by omega, by omega, by omega, by omega⟩, by omega, ?_⟩
      exact (World.cell?_of_block (a := ⟨bl, 0, none⟩) (hk bl hbl.2 (.inr (Nat.le_refl _)))).trans hb
/-- One check more. -/
theorem w11_chks {w11 : World} {O : Obj} {np m0 : Nat} {r9 v8 : Option Addr} {c9 c8 n8 : Nat} {L : List TE} {x : TE} (h : TInv bc B lo sb m0 w W ver n tb cap X) (hi : i < X.length) (hm0 : tb < m0) (ho : w11.ownsRow m0 77 13 (.slice r9 (np + 1) c9) (np + 1) (teCells L ++ x.cells)) (hg : (W.alloc O).grownBy w11 (Value.slice v8 n8 c8).ownBlock) (hrow : ∀ kk, (Value.slice v8 n8 c8).ownBlock = some kk → m0 ≤ kk) {b1 : Nat} (hrow2 : ∀ kk, (Value.slice v8 n8 c8).ownBlock = some kk → kk < b1) (hb1 : m0 ≤ b1) (hl : L.length = np)
    (hy : ∀ y ∈ L, PdS (P0 lo sb tb m0) W y.p.args y.a y.c) (hx : PdS (fun b => b1 ≤ b) W x.p.args x.a x.c) (hn : np ≤ 900) :
    TInv bc B lo sb w11.heap.size w (w11.setCell ⟨tb, i * 5 + 4, none⟩ (.slice r9 (np + 1) c9)) ver n tb cap (X.set i { X[i] with pa := r9, pc := c9, t := { X[i].t with ck := (L ++ [x]).map TE.p } }) ∧ ∃ vo, w11.cell? ⟨tb, i * 5 + 4, none⟩ = some vo ∧ w11.frozen? ⟨tb, i * 5 + 4, none⟩ = false ∧ tb < w11.heap.size := by
  have hlt := h.core.tblt
  have hsb := h.core.hsb
  have hM := h.hM
  have hB : Below m0 W w11 := ((Below.refl m0 W).alloc hM.1 O).grown hg (by simp; omega) (fun kk e => hrow kk e)
  have hs := hB.size
  have hk : ∀ kk, kk < W.heap.size → b1 ≤ kk → w11.heap[kk]? = W.heap[kk]? := fun kk h1 h2 => (hg.block kk (by simp; omega) (fun e => by have := hrow2 kk e.symm; omega)).trans (((Below.refl W.heap.size W).alloc (Nat.le_refl _) O).block kk h1)
  have hmv : Mv bc w w11 := ⟨hB.os.trans h.core.mv.os, hB.tape.trans h.core.mv.tape, hB.output.trans h.core.mv.output, Nat.le_trans h.core.mv.size hs, fun k h1 h2 => (hB.block k (by omega)).trans (h.core.mv.block k h1 h2)⟩
  have hc := h.core.keep hmv (h.core.ok.below hB (by omega)) fun k hk' => hB.block k (by omega)
  have e : teCells L ++ x.cells = teCells (L ++ [x]) := by unfold teCells; rw [List.flatMap_append]; simp
  have hl2 : (L ++ [x]).length = np + 1 := by simp [hl]
  rw [e, ← hl2] at ho
  have hT : TInv bc B lo sb m0 w w11 ver n tb cap X := ⟨hc, fun x hx => (h.oks x hx).keep hs fun k hp _ => hB.block k hp.ltM, by omega⟩
  refine ⟨?_, _, (hT.core.cellAt i hi 4 (by omega)).trans rfl, hT.core.fz _, hT.core.tblt.2⟩
  have hr := hT.setChks hi hm0 ho (fun y hy' => ?_) (by omega)
  · rw [hl2] at hr; exact hr
  · rcases List.mem_append.1 hy' with hy' | hy'
    · exact ((hy y hy').keep hs (fun k hp _ => hB.block k hp.ltM)).weak fun k hp => ⟨hp.1, hp.2.1, hp.2.2.1, hp.2.2.2.1, by have := hp.2.2.2.2; omega⟩
    · rw [List.mem_singleton.1 hy']
      exact ((hx.keep hs (fun k hp hk' => hk k hk' hp)).ltP).weak fun k hp => by have h1 := hp.1; have h2 := hp.2; exact ⟨by omega, by omega, by omega, by omega, h2⟩
/-- One reference without columns more. -/
theorem w9_refs {w9 : World} {nr : Nat} {r9 : Option Addr} {c9 : Nat} {Y : List RX} (h : TInv bc B lo sb W.heap.size w W ver n tb cap X) (hi : i < X.length) (hb : Below W.heap.size W w9) (ho : w9.ownsRow W.heap.size 73 2 (.slice r9 (nr + 1) c9) (nr + 1) (rxCells Y ++ [.slice none 0 0, .int .i64 0])) (hl : Y.length = nr) (hy : ∀ y ∈ Y, SlR intK (P0 lo sb tb W.heap.size) W (.slice y.a y.r.c.length y.c) y.r.c) (hn : nr ≤ 900) :
    TInv bc B lo sb w9.heap.size w (w9.setCell ⟨tb, i * 5 + 3, none⟩ (.slice r9 (nr + 1) c9)) ver n tb cap (X.set i { X[i] with ra := r9, rc := c9, t := { X[i].t with rs := (Y ++ [(⟨none, 0, ⟨[], 0⟩⟩ : RX)]).map RX.r } }) := by
  have e : rxCells Y ++ [.slice none 0 0, .int .i64 0] = rxCells (Y ++ [(⟨none, 0, ⟨[], 0⟩⟩ : RX)]) := by unfold rxCells; rw [List.flatMap_append]; rfl
  have hl2 : (Y ++ [(⟨none, 0, ⟨[], 0⟩⟩ : RX)]).length = nr + 1 := by simp [hl]
  rw [e, ← hl2] at ho
  have hs := hb.size
  have hr := (h.below hb).setRefs hi h.core.tblt.2 ho (fun y hy' => ?_) (by omega)
  · rw [hl2] at hr; exact hr
  · rcases List.mem_append.1 hy' with hy' | hy'
    · exact ((hy y hy').below hb).weak fun k hp => ⟨hp.1, hp.2.1, hp.2.2.1, hp.2.2.2.1, by have := hp.2.2.2.2; omega⟩
    · rw [List.mem_singleton.1 hy']; exact SlR.nil _ _ _
end Go.Proofs.Ytjcbmeannhafjaa

/- SpoilSchema of a case: ScSpoilA. -/
namespace Go.Proofs.Ytjcbmeannhafjaa

open Go.RowKit Go.Deep

/-- What SpoilSchema hands back. -/
def SpSPost (bc B lo k : Nat) (w : World) (e : Ending) (w' : World) : Prop := ∃ (v : Value) (s' : SC), e = .returned v ∧ Sc (fun b => lo ≤ b) w' v s' ∧ SzS k s' ∧ Mv bc w w' ∧ CaseOk bc B w'
/-- Behind the switch. -/
def SpEnd (bc B lo sb k : Nat) (w W : World) : Prop := ∃ ver n tb cap M X, TInv bc B lo sb M w W ver n tb cap X ∧ 1 ≤ n ∧ n ≤ k ∧ ∀ x ∈ X, SzT k x.t
theorem slR_lt {τ : Type} {K : MemK τ} {P : Nat → Prop} {W : World} {v : Value} {l : List τ} (hR : ∀ b o t, K.R P W b o t → K.R (fun k => P k ∧ k < W.heap.size) W b o t) (h : SlR K P W v l) : SlR K (fun k => P k ∧ k < W.heap.size) W v l := by
  obtain ⟨a, c, e, hf, hi⟩ := h
  refine ⟨a, c, e, hf, fun j hj => ?_⟩
  obtain ⟨b, off, ea, hp, hb, hr⟩ := hi j hj
  exact ⟨b, off, ea, ⟨hp, hb⟩, hb, hR _ _ _ hr⟩
theorem TbP.lt {P : Nat → Prop} {W : World} {cv rv : Value} {pa : Option Addr} {pc : Nat} {t : TB} (h : TbP P W cv rv pa pc t) : TbP (fun k => P k ∧ k < W.heap.size) W cv rv pa pc t :=
  ⟨slR_lt (fun _ _ _ h => h) h.cols, slR_lt (fun b o r h => by obtain ⟨⟨v, h1, h2⟩, h3⟩ := h; exact ⟨⟨v, h1, slR_lt (fun _ _ _ h => h) h2⟩, h3⟩) h.refs, h.chks.ltP⟩
theorem szT_set {k : Nat} {X : List TX} {i : Nat} {x : TX} (h : ∀ y ∈ X, SzT k y.t) (hx : SzT k x.t) : ∀ y ∈ X.set i x, SzT k y.t := fun y hy => by
  rcases List.mem_or_eq_of_mem_set hy with hy | rfl
  · exact h y hy
  · exact hx
/-- The state behind region 6. -/
theorem sw_new {bc B lo sb M : Nat} {w w4 w5 : World} {ver : Int} {n tb cap i : Nat} {X : List TX} {ca : Option Addr} {cc : Nat} (h : TInv bc B lo sb M w w4 ver n tb cap X) (hi : i < X.length) (hb : Below w4.heap.size w4 w5) (ho : w5.ownsRow w4.heap.size 35 2 (.slice ca X[i].t.cs.length cc) X[i].t.cs.length (colCells X[i].t.cs)) :
    SwI bc B lo sb w4.heap.size w (w5.setCell ⟨tb, i * 5 + 1, none⟩ (.slice ca X[i].t.cs.length cc)) ver n tb cap (X.set i { X[i] with ca := ca, cc := cc }) i := by
  have hc := (h.below hb).core
  have hl := h.core.tblt
  have hM := h.hM
  have hs := hb.size
  have hks : ∀ k, k ≠ tb → (w5.setCell ⟨tb, i * 5 + 1, none⟩ (.slice ca X[i].t.cs.length cc)).heap[k]? = w5.heap[k]? := fun k hk => Below.heap_setCell _ _ _ _ hk
  have hk : ∀ x : TX, x.Ok (P0 lo sb tb M) w4 → x.Ok (P0 lo sb tb w4.heap.size) (w5.setCell ⟨tb, i * 5 + 1, none⟩ (.slice ca X[i].t.cs.length cc)) := fun x hx =>
    (hx.keep (by simp; exact hs) fun k hp hk' => (hks k hp.2.2.2.1).trans (hb.block k hk')).weak fun k hp => ⟨hp.1, hp.2.1, hp.2.2.1, hp.2.2.2.1, by have := hp.2.2.2.2; omega⟩
  have hi2 : i < (X.set i { X[i] with ca := ca, cc := cc }).length := by simpa using hi
  have he : (X.set i { X[i] with ca := ca, cc := cc })[i] = { X[i] with ca := ca, cc := cc } := List.getElem_set_self _
  have hx := hk _ (h.oks _ (List.getElem_mem hi))
  refine ⟨hc.set i hi 1 (by omega) _ _ rfl, hi2, ⟨hl.2, by simp; exact hs, hM.2.1, hM.2.2⟩, fun j hj hne => ?_, ?_, ?_, ?_⟩
  · have hj' : j < X.length := by simpa using hj
    rw [List.getElem_set_ne (fun e => hne e.symm)]
    exact hk _ (h.oks _ (List.getElem_mem hj'))
  · rw [he]; exact hx.refs
  · rw [he]; exact hx.chks
  · rw [he]; exact own_blkW ho fun k h1 h2 => hks k (by omega)
/-- The state behind region 1. -/
theorem tinv_new {bc B lo : Nat} {w wq w1 : World} {ver : Int} {n tb cap : Nat} {a : Option Addr} {c : Nat} {X : List TX} (ho : CaseOk bc B w) (hlo : bc < lo) (hlow : lo ≤ w.heap.size)
    (hq : (w.alloc (.cells #[.int .i64 ver, .slice a n c] 25)).alloc (.cells #[.int .i64 0, .slice none 0 0] 25) = wq)
    (hok : ∀ x ∈ X, x.Ok (fun b => lo ≤ b) w) (hX : X.length = n) (hown : w1.ownsRow wq.heap.size 40 5 (.slice (some ⟨tb, 0, none⟩) n cap) n (txCells X)) (hgr : wq.grownBy w1 none) :
    TInv bc B lo w.heap.size w1.heap.size w (w1.setCell ⟨w.heap.size, 1, none⟩ (.slice (some ⟨tb, 0, none⟩) n cap)) ver n tb cap X := by
  have hbl := ho.lt
  have hsq : wq.heap.size = w.heap.size + 2 := by rw [← hq]; simp
  have hb0 : Below w.heap.size w wq := by rw [← hq]; exact ((Below.refl _ _).alloc (Nat.le_refl _) _).alloc (by simp) _
  have hb1 : Below wq.heap.size wq w1 := (Below.refl _ _).grown hgr (Nat.le_refl _) (fun kk e => by cases e)
  have htl := hown.lt tb rfl
  have c0 : wq.cell? ⟨w.heap.size, 0, none⟩ = some (.int .i64 ver) := by subst hq; go_simp
  have c1 : wq.cell? ⟨w.heap.size, 1, none⟩ = some (.slice a n c) := by subst hq; go_simp
  have f0 : ∀ o, wq.frozen? ⟨w.heap.size, o, none⟩ = false := fun o => by subst hq; go_simp
  have r0 : wq.cell? ⟨w.heap.size + 1, 0, none⟩ = some (.int .i64 0) := by subst hq; go_simp
  have r1 : wq.cell? ⟨w.heap.size + 1, 1, none⟩ = some (.slice none 0 0) := by subst hq; go_simp
  have f1 : ∀ o, wq.frozen? ⟨w.heap.size + 1, o, none⟩ = false := fun o => by subst hq; go_simp
  have k0 := hb1.block w.heap.size (by omega)
  have k1 := hb1.block (w.heap.size + 1) (by omega)
  have hB1 : Below w.heap.size w w1 := hb0.trans (hb1.mono (by omega))
  have hks : ∀ k, k ≠ w.heap.size → (w1.setCell ⟨w.heap.size, 1, none⟩ (.slice (some ⟨tb, 0, none⟩) n cap)).heap[k]? = w1.heap[k]? := fun k hk => Below.heap_setCell _ _ _ _ hk
  refine ⟨⟨(Mv.of_below hB1).setNew (Nat.le_refl _) _ _, (ho.below hB1 hbl.2).setNew hbl.2 _ _, ⟨rfl, by omega, hbl.2⟩, ?_, hX, ?_, ?_, fun o => ?_, ?_, ?_, fun o => ?_⟩, fun x hx => ?_, ?_⟩
  · rw [← hsq]; exact own_blkW hown fun k hk _ => hks k (by omega)
  · rw [World.cell?_setCell_other _ _ _ _ (by simp)]
    exact (World.cell?_of_block (a := ⟨w.heap.size, 0, none⟩) k0).trans c0
  · exact World.cell?_setCell_same _ _ _ (by rw [World.cell?_of_block (a := ⟨w.heap.size, 1, none⟩) k0, c1])
  · rw [World.frozen?_setCell]; exact (World.frozen?_of_block (a := ⟨w.heap.size, o, none⟩) k0).trans (f0 o)
  · exact ⟨_, (World.cell?_of_block (a := ⟨w.heap.size + 1, 0, none⟩) (hks _ (show w.heap.size + 1 ≠ w.heap.size by omega))).trans ((World.cell?_of_block (a := ⟨w.heap.size + 1, 0, none⟩) k1).trans r0)⟩
  · exact ⟨_, (World.cell?_of_block (a := ⟨w.heap.size + 1, 1, none⟩) (hks _ (show w.heap.size + 1 ≠ w.heap.size by omega))).trans ((World.cell?_of_block (a := ⟨w.heap.size + 1, 1, none⟩) k1).trans r1)⟩
  · exact (World.frozen?_of_block (a := ⟨w.heap.size + 1, o, none⟩) (hks _ (show w.heap.size + 1 ≠ w.heap.size by omega))).trans ((World.frozen?_of_block (a := ⟨w.heap.size + 1, o, none⟩) k1).trans (f1 o))
  · have h := (TbP.lt (hok x hx)).keep (W' := w1.setCell ⟨w.heap.size, 1, none⟩ (.slice (some ⟨tb, 0, none⟩) n cap)) (by simp; exact hB1.size) (fun k hp _ => (hks k (by omega)).trans (hB1.block k hp.2))
    exact h.weak fun k hp => ⟨hp.1, by omega, by omega, by omega, by omega⟩
  · simp only [World.size_setCell]; exact ⟨Nat.le_refl _, hlow, hlo⟩

theorem namesOk_set {cs : List CL} (h : namesOk cs) (q : Nat) {c : CL} (hc : c.s.size ≤ maxLen) : namesOk (cs.set q c) := fun x hx => by
  rcases List.mem_or_eq_of_mem_set hx with hx | rfl
  · exact h x hx
  · exact hc
/-- The end of the ways that write a column. -/
theorem col_end {bc B lo sb m k : Nat} {w W : World} {ver : Int} {n tb cap i : Nat} {X : List TX} (h : SwI bc B lo sb m w W ver n tb cap X i) {cb q : Nat} (hcb : (X[i]'h.hi).ca = some ⟨cb, 0, none⟩) (hq : q < (X[i]'h.hi).t.cs.length) (j : Nat) (hj : j < 2) (u : Value) (c' : CL) (hc : clC c' = (clC (X[i]'h.hi).t.cs[q]).set j u) (h1 : 1 ≤ n) (hnk : n ≤ k) (hsz : ∀ y ∈ X, SzT k y.t) (hs : c'.s.size ≤ maxLen) (hk : k ≤ 100) :
    SpEnd bc B lo sb (k + 9) w (W.setCell ⟨cb, q * 2 + j, none⟩ u) := by
  have hi := h.hi
  have hx := hsz _ (List.getElem_mem hi)
  have h2 := h.setCol hcb q hq j hj u c' hc
  refine ⟨ver, n, tb, cap, _, _, h2.done ?_, h1, by omega, szT_set (fun y hy => (hsz y hy).mono (by omega)) ?_⟩
  · rw [List.getElem_set_self]; simp only [List.length_set]; have := hx.1; omega
  · refine ⟨by simp only [List.length_set]; have := hx.1; omega, (hx.mono (by omega)).2.1, (hx.mono (by omega)).2.2.1, hx.2.2.2.1, namesOk_set hx.2.2.2.2 q hs⟩
theorem spEnd_ret {bc B lo sb k M : Nat} {w W : World} {ver : Int} {n tb cap : Nat} {X : List TX} (h : TInv bc B lo sb M w W ver n tb cap X) (h1 : 1 ≤ n) (h2 : n ≤ k) (h3 : ∀ x ∈ X, SzT k x.t) (hk : n ≤ 1000 := by omega) :
    SpSPost bc B lo k w (.returned (.agg #[.int .i64 ver, .slice (some ⟨tb, 0, none⟩) n cap])) ((W.setCell ⟨sb + 1, 0, none⟩ (.int .i64 ver)).setCell ⟨sb + 1, 1, none⟩ (.slice (some ⟨tb, 0, none⟩) n cap)) := by
  have hl := h.core.len
  have hb : ∀ k, k ≠ sb + 1 → ((W.setCell ⟨sb + 1, 0, none⟩ (.int .i64 ver)).setCell ⟨sb + 1, 1, none⟩ (.slice (some ⟨tb, 0, none⟩) n cap)).heap[k]? = W.heap[k]? := fun k hk => (Below.heap_setCell _ _ _ _ (by exact hk)).trans (Below.heap_setCell _ _ _ _ (by exact hk))
  refine ⟨_, ⟨ver, X.map TX.t⟩, rfl, ?_, ⟨by simpa [hl] using h1, by simpa [hl] using h2, fun t ht => ?_⟩, ?_, ?_⟩
  · refine ⟨_, rfl, ?_⟩
    have ho := own_blkW h.core.own fun k hk _ => hb k (by omega)
    have hlo := h.hM
    have hT := tx_own (P := fun b => lo ≤ b) (X := X) (by rw [hl]; exact ho) (fun x hx => ?_) (fun b hb => by omega) (by omega)
    · exact hT
    exact ((h.oks x hx).keep (by simp) fun k hp _ => hb k hp.2.2.1).weak fun k hp => hp.1
  · obtain ⟨x, hx, rfl⟩ := List.mem_map.1 ht
    exact h3 x hx
  · exact (h.core.mv.setNew (by have := h.core.hsb; omega) _ _).setNew (by have := h.core.hsb; omega) _ _
  · exact (h.core.ok.setNew (by have := h.core.hsb; omega) _ _).setNew (by have := h.core.hsb; omega) _ _


def firstBlock : Code → Option Code
  | .block k c => some (.block k c)
  | .loop c => firstBlock c
  | .seq a b => match firstBlock a with
    | some c => some c
    | none => firstBlock b
  | .scope c => firstBlock c
  | .cond _ a b => match firstBlock a with
    | some c => some c
    | none => firstBlock b
  | _ => none
/-- The switch. -/
noncomputable def swBlock : Code := ((Try.f9.body.bind firstBlock).getD .skip)
structure SwHyp (bc B lo sb k m4 : Nat) (w w7 : World) (ver : Int) (n tb cap : Nat) (X6 : List TX) (i nc cc : Nat) (ca : Option Addr) : Prop where
  hk : k ≤ 100
  hn1 : 1 ≤ n
  hnk : n ≤ k
  hi6 : i < X6.length
  s7 : SwI bc B lo sb m4 w w7 ver n tb cap X6 i
  sz : ∀ y ∈ X6, SzT k y.t
  nx : X6[i].t.cs.length = nc ∧ X6[i].ca = ca ∧ X6[i].cc = cc
  hnck : nc ≤ k

/-- How many tables the box tells of. -/
def lenAt (W : World) (sb : Nat) : Nat := match W.cell? ⟨sb, 1, none⟩ with
  | some (.slice _ n _) => n
  | _ => 0
end Go.Proofs.Ytjcbmeannhafjaa
