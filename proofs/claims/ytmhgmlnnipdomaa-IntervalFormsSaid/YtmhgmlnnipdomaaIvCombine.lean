
/- The reference's Combine as plain mathematics: what its walk over the points knows. -/
import Derived.Test.YtmhgmlnnipdomaaIvPoints

namespace Go.Proofs.Ytmhgmlnnipdomaa

/-- ps are the ends of A and of B, ascending. -/
structure Pts (A B : List IV) (ps : List V) : Prop where
  asc : ps.Pairwise (fun a b => cmpV a b < 0)
  ok : ∀ p ∈ ps, okV p = true
  f : ∀ x, x ∈ A ∨ x ∈ B → x.f ∈ ps
  t : ∀ x, x ∈ A ∨ x ∈ B → x.o = false → x.t ∈ ps
theorem mem_ptsL {L : List IV} {p : V} : p ∈ ptsL L ↔ ∃ x ∈ L, p = x.f ∨ (x.o = false ∧ p = x.t) := by
  unfold ptsL
  rw [List.mem_flatMap]
  refine exists_congr fun x => and_congr_right fun _ => ?_
  unfold ptsI
  cases x.o <;> simp
theorem Pts.mk' {A B : List IV} {ps : List V} (hA : Ord A) (hB : Ord B) (h1 : ps.Pairwise (fun a b => cmpV a b < 0)) (h2 : ∀ p, p ∈ ps ↔ p ∈ ptsL A ++ ptsL B) : Pts A B ps := by
  have hok : ∀ {L : List IV}, Ord L → ∀ p ∈ ptsL L, okV p = true := fun hL p hp => by
    obtain ⟨x, hx, rfl | ⟨ho, rfl⟩⟩ := mem_ptsL.1 hp
    · exact okI_f (hL.ok x hx)
    · exact (okI_shut (hL.ok x hx) ho).1
  refine ⟨h1, fun p hp => ?_, fun x hx => ?_, fun x hx ho => ?_⟩
  · rw [h2, List.mem_append] at hp
    rcases hp with hp | hp
    · exact hok hA p hp
    · exact hok hB p hp
  · rw [h2, List.mem_append]
    rcases hx with hx | hx
    · exact .inl (mem_ptsL.2 ⟨x, hx, .inl rfl⟩)
    · exact .inr (mem_ptsL.2 ⟨x, hx, .inl rfl⟩)
  · rw [h2, List.mem_append]
    rcases hx with hx | hx
    · exact .inl (mem_ptsL.2 ⟨x, hx, .inr ⟨ho, rfl⟩⟩)
    · exact .inr (mem_ptsL.2 ⟨x, hx, .inr ⟨ho, rfl⟩⟩)

/-- Between two points nothing of the points changes sides. -/
theorem asc_side {ps : List V} (h : ps.Pairwise (fun a b => cmpV a b < 0)) {i : Nat} (hi : i < ps.length) {v : V} (h1 : cmpV ps[i] v ≤ 0) (h2 : ∀ q, ps[i + 1]? = some q → cmpV v q < 0) {e : V} (he : e ∈ ps) :
    (cmpV e v ≤ 0 ∧ cmpV e ps[i] ≤ 0) ∨ (cmpV v e < 0 ∧ cmpV ps[i] e < 0) := by
  obtain ⟨j, hj, rfl⟩ := List.getElem_of_mem he
  have hp := List.pairwise_iff_getElem.1 h
  by_cases hji : j ≤ i
  · left
    have h3 : cmpV ps[j] ps[i] ≤ 0 := by
      by_cases e : j = i
      · subst e; rw [cmpV_self]; omega
      · have := hp j i hj hi (by omega); omega
    exact ⟨cmpV_trans _ _ _ h3 h1, h3⟩
  · right
    have hi1 : i + 1 < ps.length := by omega
    have h3 := h2 ps[i + 1] (List.getElem?_eq_getElem hi1)
    have h4 : cmpV ps[i + 1] ps[j] ≤ 0 := by
      by_cases e : i + 1 = j
      · subst e; rw [cmpV_self]; omega
      · have := hp (i + 1) j hi1 hj (by omega); omega
    exact ⟨cmpV_lt_le h3 h4, hp i j hi hj (by omega)⟩
theorem inI_side {x : IV} {p v : V} (hf : (cmpV x.f v ≤ 0 ∧ cmpV x.f p ≤ 0) ∨ (cmpV v x.f < 0 ∧ cmpV p x.f < 0)) (ht : x.o = false → (cmpV x.t v ≤ 0 ∧ cmpV x.t p ≤ 0) ∨ (cmpV v x.t < 0 ∧ cmpV p x.t < 0)) : inI x v = inI x p := by
  rw [Bool.eq_iff_iff, inI_iff, inI_iff]
  have a1 := cmpV_flip v x.f
  have a2 := cmpV_flip p x.f
  have a3 := cmpV_flip v x.t
  have a4 := cmpV_flip p x.t
  cases ho : x.o with
  | true => constructor <;> (rintro ⟨h, _⟩; exact ⟨by omega, .inl rfl⟩)
  | false =>
    have ht := ht ho
    constructor <;> (rintro ⟨h, h' | h'⟩; · simp at h'
                     exact ⟨by omega, .inr (by omega)⟩)
theorem inL_side {L : List IV} {ps : List V} (h : ps.Pairwise (fun a b => cmpV a b < 0)) (hf : ∀ x ∈ L, x.f ∈ ps) (ht : ∀ x ∈ L, x.o = false → x.t ∈ ps) {i : Nat} (hi : i < ps.length) {v : V} (h1 : cmpV ps[i] v ≤ 0) (h2 : ∀ q, ps[i + 1]? = some q → cmpV v q < 0) : inL L v = inL L ps[i] := by
  have : ∀ x ∈ L, inI x v = inI x ps[i] := fun x hx => inI_side (asc_side h hi h1 h2 (hf x hx)) (fun ho => asc_side h hi h1 h2 (ht x hx ho))
  rw [Bool.eq_iff_iff, inL_iff, inL_iff]
  exact exists_congr fun x => and_congr_right fun hx => by rw [this x hx]

/-- What the walk knows at the i-th point. -/
structure JInv (k : Bool → Bool → Bool) (A B : List IV) (ps : List V) (i : Nat) (L : List IV) : Prop where
  ord : Ord L
  last : ∀ p, ps[i]? = some p → ∀ L0 y, L = L0 ++ [y] → y.o = false ∧ cmpV y.t p ≤ 0
  mem : ∀ v, (∀ p, ps[i]? = some p → cmpV v p < 0) → inL L v = k (inL A v) (inL B v)
  len : L.length ≤ i
  half : 2 * L.length ≤ i + 1
  half0 : ∀ p, ps[i]? = some p → (∀ L0 y, L = L0 ++ [y] → cmpV y.t p ≠ 0) → 2 * L.length ≤ i
theorem JInv.start {k : Bool → Bool → Bool} {A B : List IV} {ps : List V} (hk : k false false = false) (h : Pts A B ps) : JInv k A B ps 0 [] := by
  refine ⟨Ord.nil, fun p _ L0 y e => by simp at e, fun v hv => ?_, by simp, by simp, fun _ _ _ => by simp⟩
  have : ∀ {L : List IV}, (∀ x ∈ L, x.f ∈ ps) → inL L v = false := fun {L} hL => inL_false.2 fun x hx => by
    obtain ⟨j, hj, e⟩ := List.getElem_of_mem (hL x hx)
    have h0 : 0 < ps.length := by omega
    have h1 := hv ps[0] (List.getElem?_eq_getElem h0)
    refine inI_false.2 (.inl ?_)
    rw [← e]
    by_cases ej : j = 0
    · subst ej; exact h1
    · exact cmpV_lt_lt h1 (List.pairwise_iff_getElem.1 h.asc 0 j h0 hj (by omega))
  rw [this (fun x hx => h.f x (.inl hx)), this (fun x hx => h.f x (.inr hx)), hk]
  rfl
theorem JInv.done {k : Bool → Bool → Bool} {A B : List IV} {ps : List V} {i : Nat} {L : List IV} (h : JInv k A B ps i L) (hi : ps.length ≤ i) : IsOp k A B L :=
  ⟨h.ord, fun v _ => h.mem v (fun p e => by rw [List.getElem?_eq_none hi] at e; simp at e)⟩
/-- Nothing of the list lies at the point or above it. -/
theorem JInv.high {k : Bool → Bool → Bool} {A B : List IV} {ps : List V} {i : Nat} {L : List IV} (h : JInv k A B ps i L) (hi : i < ps.length) {v : V} (hv : cmpV ps[i] v ≤ 0) : inL L v = false := by
  rcases List.eq_nil_or_concat L with rfl | ⟨L0, y, rfl⟩
  · rfl
  · rw [List.concat_eq_append] at *
    have := h.last ps[i] (List.getElem?_eq_getElem hi) L0 y rfl
    exact h.ord.above this.1 (cmpV_trans _ _ _ this.2 hv)
/-- A point outside. -/
theorem JInv.skip {k : Bool → Bool → Bool} {A B : List IV} {ps : List V} {i : Nat} {L : List IV} (h : JInv k A B ps i L) (hP : Pts A B ps) (hi : i < ps.length) (hk : k (inL A ps[i]) (inL B ps[i]) = false) : JInv k A B ps (i + 1) L := by
  refine ⟨h.ord, fun p hp L0 y e => ?_, fun v hv => ?_, by have := h.len; omega, by have := h.half; omega, fun _ _ _ => h.half⟩
  · have h1 := h.last ps[i] (List.getElem?_eq_getElem hi) L0 y e
    obtain ⟨hj, rfl⟩ := List.getElem?_eq_some_iff.1 hp
    have h2 := List.pairwise_iff_getElem.1 hP.asc i (i + 1) hi hj (by omega)
    exact ⟨h1.1, cmpV_trans _ _ _ h1.2 (by omega)⟩
  · by_cases hvp : cmpV v ps[i] < 0
    · exact h.mem v (fun p hp => by rw [List.getElem?_eq_getElem hi] at hp; simp only [Option.some.injEq] at hp; subst hp; exact hvp)
    · have hvp' := cmpV_nlt.1 hvp
      rw [h.high hi hvp', inL_side hP.asc (fun x hx => hP.f x (.inl hx)) (fun x hx => hP.t x (.inl hx)) hi hvp' hv, inL_side hP.asc (fun x hx => hP.f x (.inr hx)) (fun x hx => hP.t x (.inr hx)) hi hvp' hv, hk]

theorem IV.with_f (x : IV) (p : V) (h : x.f = p) : x = ⟨p, x.t, x.o⟩ := by subst h; rfl
theorem pieceAt_f (ps : List V) (i : Nat) (p : V) : (pieceAt ps i p).f = p := by unfold pieceAt; split <;> rfl
theorem pieceAt_ok {A B : List IV} {ps : List V} (hP : Pts A B ps) {i : Nat} (hi : i < ps.length) {f : V} (hf : okV f = true) (hle : cmpV f ps[i] ≤ 0) : okI ⟨f, (pieceAt ps i ps[i]).t, (pieceAt ps i ps[i]).o⟩ = true := by
  unfold pieceAt
  cases hq : ps[i + 1]? with
  | none => simp [okI, hf]
  | some q =>
    obtain ⟨hj, rfl⟩ := List.getElem?_eq_some_iff.1 hq
    have h2 := List.pairwise_iff_getElem.1 hP.asc i (i + 1) hi hj (by omega)
    simp [okI, hf, hP.ok _ (List.getElem_mem hj), cmpV_le_lt hle h2]
theorem pieceAt_in {ps : List V} {i : Nat} {p f v : V} (h2 : ∀ q, ps[i + 1]? = some q → cmpV v q < 0) (hf : cmpV f v ≤ 0) : inI ⟨f, (pieceAt ps i p).t, (pieceAt ps i p).o⟩ v = true := by
  refine inI_iff.2 ⟨hf, ?_⟩
  unfold pieceAt
  cases hq : ps[i + 1]? with
  | none => exact .inl rfl
  | some q => exact .inr (h2 q hq)
theorem pieceAt_end {ps : List V} {i : Nat} {p q : V} (hq : ps[i + 1]? = some q) : (pieceAt ps i p).o = false ∧ (pieceAt ps i p).t = q := by
  unfold pieceAt; rw [hq]; exact ⟨rfl, rfl⟩

/-- A point inside: the piece from it on is joined. -/
theorem JInv.join {k : Bool → Bool → Bool} {A B : List IV} {ps : List V} {i : Nat} {L M : List IV} (h : JInv k A B ps i L) (hP : Pts A B ps) (hi : i < ps.length) (hk : k (inL A ps[i]) (inL B ps[i]) = true)
    (hM : (∃ L0 y, L = L0 ++ [y] ∧ cmpV y.t (pieceAt ps i ps[i]).f = 0 ∧ M = L0 ++ [⟨y.f, (pieceAt ps i ps[i]).t, (pieceAt ps i ps[i]).o⟩]) ∨ ((∀ L0 y, L = L0 ++ [y] → cmpV y.t (pieceAt ps i ps[i]).f ≠ 0) ∧ M = L ++ [pieceAt ps i ps[i]])) : JInv k A B ps (i + 1) M := by
  rw [pieceAt_f] at hM
  have hget : ps[i]? = some ps[i] := List.getElem?_eq_getElem hi
  have hRHS : ∀ v, cmpV ps[i] v ≤ 0 → (∀ q, ps[i + 1]? = some q → cmpV v q < 0) → k (inL A v) (inL B v) = true := fun v h1 h2 => by
    rw [inL_side hP.asc (fun x hx => hP.f x (.inl hx)) (fun x hx => hP.t x (.inl hx)) hi h1 h2, inL_side hP.asc (fun x hx => hP.f x (.inr hx)) (fun x hx => hP.t x (.inr hx)) hi h1 h2, hk]
  have hpiece : pieceAt ps i ps[i] = ⟨ps[i], (pieceAt ps i ps[i]).t, (pieceAt ps i ps[i]).o⟩ := IV.with_f _ _ (pieceAt_f ps i ps[i])
  have hlow : ∀ v, cmpV v ps[i] < 0 → inL L v = k (inL A v) (inL B v) := fun v hv => h.mem v (fun p hp => by rw [hget] at hp; simp only [Option.some.injEq] at hp; subst hp; exact hv)
  have hend : ∀ v, cmpV v ps[i] < 0 → (pieceAt ps i ps[i]).o = true ∨ cmpV v (pieceAt ps i ps[i]).t < 0 := fun v hv => by
    cases hq : ps[i + 1]? with
    | none => left; unfold pieceAt; rw [hq]
    | some q =>
      right
      rw [(pieceAt_end hq).2]
      obtain ⟨hj, rfl⟩ := List.getElem?_eq_some_iff.1 hq
      exact cmpV_lt_lt hv (List.pairwise_iff_getElem.1 hP.asc i (i + 1) hi hj (by omega))
  rcases hM with ⟨L0, y, rfl, hy, rfl⟩ | ⟨hne, rfl⟩
  · have hyt : y.t = ps[i] := (cmpV_zero _ _).1 hy
    have hl := h.last ps[i] hget L0 y rfl
    have hyok := okI_shut h.ord.last hl.1
    have hyf : cmpV y.f ps[i] ≤ 0 := by rw [← hyt]; omega
    refine ⟨h.ord.turn rfl (pieceAt_ok hP hi (okI_f h.ord.last) hyf), fun q hq L1 z e => ?_, fun v hv => ?_, by have := h.len; simp at this ⊢; omega, by have := h.half; simp at this ⊢; omega, fun _ _ _ => by have := h.half; simp at this ⊢; omega⟩
    · obtain ⟨_, e2⟩ := List.append_inj' e rfl
      simp only [List.cons.injEq, and_true] at e2
      subst e2
      have := pieceAt_end (p := ps[i]) hq
      exact ⟨this.1, by show cmpV (pieceAt ps i ps[i]).t q ≤ 0; rw [this.2, cmpV_self]; omega⟩
    · by_cases hvp : cmpV v ps[i] < 0
      · rw [← hlow v hvp, inL_snoc, inL_snoc]
        congr 1
        rw [Bool.eq_iff_iff, inI_iff, inI_iff]
        constructor
        · rintro ⟨a, _⟩; exact ⟨a, .inr (by rw [hyt]; exact hvp)⟩
        · rintro ⟨a, _⟩; exact ⟨a, hend v hvp⟩
      · have hvp' := cmpV_nlt.1 hvp
        rw [hRHS v hvp' hv, inL_snoc, pieceAt_in hv (cmpV_trans _ _ _ hyf hvp')]
        simp
  · have hok : okI (pieceAt ps i ps[i]) = true := by
      rw [hpiece]; exact pieceAt_ok hP hi (hP.ok _ (List.getElem_mem hi)) (by rw [cmpV_self]; omega)
    refine ⟨h.ord.snoc hok fun L0 y e => ?_, fun q hq L1 z e => ?_, fun v hv => ?_, by have := h.len; simp; omega, by have := h.half0 ps[i] hget hne; simp; omega, fun q hq hz => absurd (by rw [(pieceAt_end hq).2, cmpV_self]) (hz L _ rfl)⟩
    · have h1 := h.last ps[i] hget L0 y e
      have h2 := hne L0 y e
      rw [pieceAt_f]
      exact ⟨h1.1, by omega⟩
    · obtain ⟨_, e2⟩ := List.append_inj' e rfl
      simp only [List.cons.injEq, and_true] at e2
      subst e2
      have := pieceAt_end (p := ps[i]) hq
      exact ⟨this.1, by rw [this.2, cmpV_self]; omega⟩
    · rw [inL_snoc]
      by_cases hvp : cmpV v ps[i] < 0
      · rw [← hlow v hvp, show inI (pieceAt ps i ps[i]) v = false from inI_false.2 (.inl (by rw [pieceAt_f]; exact hvp))]
        simp
      · have hvp' := cmpV_nlt.1 hvp
        rw [hRHS v hvp' hv, hpiece, pieceAt_in hv hvp']
        simp
end Go.Proofs.Ytmhgmlnnipdomaa

/- The reference's Combine. -/
namespace Go.Proofs.Ytmhgmlnnipdomaa

open Go.RowKit Go.Deep

theorem rJoin_any (base : Nat) (m : Value) (L : List IV) (b off i c : Nat) (ps : List V) (w : World) (hown : w.ownsRow base 59 7 m L.length (ivCells L)) (hl : L.length ≤ 4398046511) (hbase : base ≤ w.heap.size) (hb : b < base)
    (hi : i < ps.length) (hnp : ps.length ≤ 4398046511104) (hp : ∀ j (h : j < ps.length), CellsV w b (off + j * 3) ps[j]) (hlast : ∀ L0 y, L = L0 ++ [y] → y.o = false) :
    Calls Try.prog 63 #[m, .slice (some ⟨b, off, none⟩) ps.length c, .int .i64 i] w (JoinPost base L (pieceAt ps i ps[i]) w) := by
  by_cases hn : i + 1 = ps.length
  · have e : pieceAt ps i ps[i] = ⟨⟨ps[i].k, ps[i].n, ps[i].s⟩, z0, true⟩ := by unfold pieceAt; rw [List.getElem?_eq_none (by omega)]
    rw [e]
    rcases List.eq_nil_or_concat L with h0 | ⟨M0, y, hM⟩
    · exact rJoin_LastEmpty base m _ L b off i _ c _ _ _ w hown rfl hl hbase hb hn hnp (hp i hi) h0
    · rw [List.concat_eq_append] at hM
      by_cases hc : cmpV y.t ps[i] = 0
      · exact rJoin_LastTouch base m _ L b off i _ c _ _ _ w hown rfl hl hbase hb hn hnp (hp i hi) M0 y hM (hlast M0 y hM) hc
      · exact rJoin_LastOther base m _ L b off i _ c _ _ _ w hown rfl hl hbase hb hn hnp (hp i hi) M0 y hM (hlast M0 y hM) hc
  · have hn' : i + 1 < ps.length := by omega
    have e : pieceAt ps i ps[i] = ⟨⟨ps[i].k, ps[i].n, ps[i].s⟩, ⟨ps[i + 1].k, ps[i + 1].n, ps[i + 1].s⟩, false⟩ := by unfold pieceAt; rw [List.getElem?_eq_getElem hn']
    rw [e]
    rcases List.eq_nil_or_concat L with h0 | ⟨M0, y, hM⟩
    · exact rJoin_InnerEmpty base m _ L b off i _ c _ _ _ _ _ _ w hown rfl hl hbase hb hn' hnp (hp i hi) (hp (i + 1) hn') h0
    · rw [List.concat_eq_append] at hM
      by_cases hc : cmpV y.t ps[i] = 0
      · exact rJoin_InnerTouch base m _ L b off i _ c _ _ _ _ _ _ w hown rfl hl hbase hb hn' hnp (hp i hi) (hp (i + 1) hn') M0 y hM (hlast M0 y hM) hc
      · exact rJoin_InnerOther base m _ L b off i _ c _ _ _ _ _ _ w hown rfl hl hbase hb hn' hnp (hp i hi) (hp (i + 1) hn') M0 y hM (hlast M0 y hM) hc

theorem kOf_false (op : Int) : kOf op false false = false := by unfold kOf; split; rfl; split <;> rfl

def CombPost (op : Int) (A B : List IV) (w : World) (e : Ending) (w' : World) : Prop :=
  ∃ v M, e = .returned v ∧ IvsAt (fun b => w.heap.size ≤ b) w' v M ∧ IsOp (kOf op) A B M ∧ M.length ≤ A.length + B.length ∧ Below w.heap.size w w'

set_option maxRecDepth 100000 in
set_option maxHeartbeats 4000000 in
theorem rCombine_any (op : Int) (ho : op = 1 ∨ op = 2 ∨ op = 3) (va vb : Value) (A B : List IV) (w : World) (ha : Ivs w va A) (hb : Ivs w vb B) (hA : Ord A) (hB : Ord B) (la : A.length ≤ 1000) (lb : B.length ≤ 1000) :
    Calls Try.prog 39 #[.int .i64 op, va, vb] w (CombPost op A B w) := by
  have HA : Hid (∀ W, Below w.heap.size w W → Ivs W va A) := fun W h => IvsAt.below ha h
  have HB : Hid (∀ W, Below w.heap.size w W → Ivs W vb B) := fun W h => IvsAt.below hb h
  have HP : Hid (∀ bl W, Below w.heap.size w W → bl < W.heap.size → W.cell? ⟨bl, 0, none⟩ = some va → W.cell? ⟨bl, 1, none⟩ = some vb → Calls Try.prog 61 #[.slice (some ⟨bl, 0, none⟩) 2 2] W (PointsPost A B W)) := fun bl W h hbl h0 h1 =>
    rPoints_any bl va vb A B W (HA.out W h) (HB.out W h) hbl h0 h1 la lb
  have HOA := Lib.hid hA
  have HOB := Lib.hid hB
  obtain ⟨va1, va2, ea⟩ : ∃ a c, va = .slice a A.length c := by obtain ⟨a, c, e, _⟩ := ha; exact ⟨a, c, e⟩
  obtain ⟨vb1, vb2, eb⟩ : ∃ a c, vb = .slice a B.length c := by obtain ⟨a, c, e, _⟩ := hb; exact ⟨a, c, e⟩
  subst ea eb
  clear ha hb hA hB
  go_enter Try.func39, Try.ntmps39
  go_wp2_with fail
  refine (HP.out w.heap.size _ ((Below.refl _ _).alloc (Nat.le_refl _) _) (by simp) (World.cell?_alloc_mark w #[.slice va1 A.length va2, .slice vb1 B.length vb2] 23 (0, 0) 0) (World.cell?_alloc_mark w #[.slice va1 A.length va2, .slice vb1 B.length vb2] 23 (0, 0) 1)).mono ?_
  rintro e w1 ⟨pv, ps, rfl, hrt, hasc, hmem, hlen, hb1⟩
  have hbw1 : Below w.heap.size w w1 := ((Below.refl _ _).alloc (Nat.le_refl _) _).trans (hb1.mono (by simp))
  have HB1 := Lib.hid hbw1
  have hw1 : w.heap.size ≤ w1.heap.size := hbw1.size
  have HPT := Lib.hid (Pts.mk' HOA.out HOB.out hasc hmem)
  obtain ⟨pa, pc, rfl, -, hpi⟩ := hrt.rowB
  have HPI := Lib.hid hpi
  obtain ⟨n, hn⟩ : ∃ n, ps.length = n := ⟨_, rfl⟩
  rw [hn] at hlen ⊢
  have HN := Lib.hid hn
  have HLEN := Lib.hid hlen
  have hn4 : n ≤ 4000 := by omega
  clear hrt hasc hmem hlen hb1 hpi hn hbw1 HP
  go_wp2_with fail
  go_loopw [8, 17] (fun v i ws => ∃ (k : Nat) (L : List IV), k ≤ n ∧ i = .int .i64 k ∧ Hid (JInv (kOf op) A B ps k L) ∧ Hid (ws.ownsRow w1.heap.size 59 7 v L.length (ivCells L)) ∧ Hid (Below w1.heap.size w1 ws)) (fun _ i _ => n - (intOf i).toNat)
  case atStart => exact ⟨0, [], by omega, rfl, JInv.start (kOf_false op) HPT.out, ⟨by simp [ivCells], .inl ⟨rfl, rfl⟩⟩, Below.refl _ _⟩
  case round =>
    obtain ⟨k, L, hk, rfl, HJ, HO, HBL⟩ := hrel
    obtain ⟨rka, rkc, rfl⟩ := own_slice HO.out
    have hLk : L.length ≤ k := HJ.out.len
    have hwr : w1.heap.size ≤ wr.heap.size := HBL.out.size
    by_cases hlt : k < n
    · have hlt' : (k : Int) < n := by omega
      have hkn : k < ps.length := by rw [HN.out]; exact hlt
      obtain ⟨b, off, rfl, hb, hc⟩ := HPI.out k hkn
      have HPC : Hid (∀ W, Below w1.heap.size w1 W → ∀ j (h : j < ps.length), CellsV W b (off + j * 3) ps[j]) := fun W h j hj => by
        obtain ⟨b', off', e', hb', hc'⟩ := HPI.out j hj
        simp only [Option.some.injEq, Addr.mk.injEq] at e'
        obtain ⟨rfl, rfl, _⟩ := e'
        exact hc'.below h hb'
      have HJN : Hid (∀ W, Below wr.heap.size wr W → Calls Try.prog 63 #[.slice rka L.length rkc, .slice (some ⟨b, off, none⟩) n pc, .int .i64 k] W (JoinPost w1.heap.size L (pieceAt ps k ps[k]) W)) := fun W h => by
        have h1 : Below w1.heap.size w1 W := HBL.out.trans (h.mono hwr)
        have := rJoin_any w1.heap.size (.slice rka L.length rkc) L b off k pc ps W (own_below HO.out h) (by omega) h1.size hb hkn (by rw [HN.out]; omega) (HPC.out W h1) (fun L0 y e => (HJ.out.last ps[k] (List.getElem?_eq_getElem hkn) L0 y e).1)
        rw [HN.out] at this
        exact this
      obtain ⟨z, hz⟩ : ∃ z, kOf op (inL A ps[k]) (inL B ps[k]) = z := ⟨_, rfl⟩
      have HZ := Lib.hid hz
      have hcc := HPC.out wr HBL.out k hkn
      obtain ⟨xa, hxa⟩ : ∃ x, inL A ps[k] = x := ⟨_, rfl⟩
      obtain ⟨xb, hxb⟩ : ∃ x, inL B ps[k] = x := ⟨_, rfl⟩
      have HAP : Hid (∀ W, Calls Try.prog 62 #[.int .i64 op, .bool xa, .bool xb] W fun e w' => e = .returned (.bool z) ∧ w' = W) := fun W => by
        have := rApply_any op xa xb W ho
        rw [← hxa, ← hxb, hz] at this
        rw [← hxa, ← hxb]
        exact this
      have HIA : Hid (∀ W, Below w.heap.size w W → Calls Try.prog 49 #[.slice va1 A.length va2, .agg #[.int .i64 ps[k].k, .int .i64 ps[k].n, .string ps[k].s]] W fun e w' => e = .returned (.bool xa) ∧ Below W.heap.size W w') := fun W h => by
        have := rIn_any _ A ps[k].k ps[k].n ps[k].s W (HA.out W h)
        rw [← hxa]
        exact this
      have HIB : Hid (∀ W, Below w.heap.size w W → Calls Try.prog 49 #[.slice vb1 B.length vb2, .agg #[.int .i64 ps[k].k, .int .i64 ps[k].n, .string ps[k].s]] W fun e w' => e = .returned (.bool xb) ∧ Below W.heap.size W w') := fun W h => by
        have := rIn_any _ B ps[k].k ps[k].n ps[k].s W (HB.out W h)
        rw [← hxb]
        exact this
      have HSK : Hid (z = false → JInv (kOf op) A B ps (k + 1) L) := fun e => HJ.out.skip HPT.out hkn (hz.trans e)
      have HJO : Hid (z = true → ∀ M, _ → JInv (kOf op) A B ps (k + 1) M) := fun e M hM => HJ.out.join HPT.out hkn (hz.trans e) hM
      clear hz hxa hxb HZ hc
      generalize ps[k] = q at *
      obtain ⟨pk, pn, ps0⟩ := q
      obtain ⟨c0, c1, c2⟩ := hcc
      simp only at c0 c1 c2 HIA HIB
      go_wp2_with fail
      have p0 : (wr.alloc (.cells #[.int .i64 pk, .int .i64 pn, .string ps0] 25)).cell? ⟨wr.heap.size, 0, none⟩ = some (.int .i64 pk) := World.cell?_alloc_mark wr #[.int .i64 pk, .int .i64 pn, .string ps0] 25 (0, 0) 0
      have p1 : (wr.alloc (.cells #[.int .i64 pk, .int .i64 pn, .string ps0] 25)).cell? ⟨wr.heap.size, 1, none⟩ = some (.int .i64 pn) := World.cell?_alloc_mark wr #[.int .i64 pk, .int .i64 pn, .string ps0] 25 (0, 0) 1
      have p2 : (wr.alloc (.cells #[.int .i64 pk, .int .i64 pn, .string ps0] 25)).cell? ⟨wr.heap.size, 2, none⟩ = some (.string ps0) := World.cell?_alloc_mark wr #[.int .i64 pk, .int .i64 pn, .string ps0] 25 (0, 0) 2
      have HRQ : Hid (Below wr.heap.size wr (wr.alloc (.cells #[.int .i64 pk, .int .i64 pn, .string ps0] 25))) := (Below.refl _ _).alloc (Nat.le_refl _) _
      have hsz : wr.heap.size < (wr.alloc (.cells #[.int .i64 pk, .int .i64 pn, .string ps0] 25)).heap.size := by simp
      generalize wr.alloc (.cells #[.int .i64 pk, .int .i64 pn, .string ps0] 25) = wq at *
      have hbq : Below w.heap.size w wq := HB1.out.trans ((HBL.out.mono hw1).trans (HRQ.out.mono (by omega)))
      have HBQ := Lib.hid hbq
      have hwq : w.heap.size ≤ wq.heap.size := by omega
      have HK : Hid (∀ W, Below wq.heap.size wq W → W.cell? ⟨wr.heap.size, 0, none⟩ = some (.int .i64 pk) ∧ W.cell? ⟨wr.heap.size, 1, none⟩ = some (.int .i64 pn) ∧ W.cell? ⟨wr.heap.size, 2, none⟩ = some (.string ps0)) := fun W hb => ⟨(hb.cell (p := ⟨wr.heap.size, 0, none⟩) hsz).trans p0, (hb.cell (p := ⟨wr.heap.size, 1, none⟩) hsz).trans p1, (hb.cell (p := ⟨wr.heap.size, 2, none⟩) hsz).trans p2⟩
      go_region_held3 (fun W => W.cell? ⟨wr.heap.size, 0, none⟩ = some (.int .i64 pk) ∧ W.cell? ⟨wr.heap.size, 1, none⟩ = some (.int .i64 pn) ∧ W.cell? ⟨wr.heap.size, 2, none⟩ = some (.string ps0))
              (first | exact ⟨p0c, p1c, p2c⟩ | exact ⟨p0b, p1b, p2b⟩ | exact ⟨p0a, p1a, p2a⟩ | exact ⟨p0, p1, p2⟩)
              (first | (go_at_call 49; (with_reducible refine (HIA.out _ (by (repeat (first | exact Below.refl _ _ | assumption | refine Below.drew ?_ | refine Below.setCell ?_ (by simp; try omega) _ | refine Below.alloc ?_ (by simp; try omega) _)))).mono ?_); rintro e wza ⟨rfl, hg⟩; have hba : Below wq.heap.size wq wza := Below.trans (by (repeat (first | exact Below.refl _ _ | assumption | refine Below.drew ?_ | refine Below.setCell ?_ (by simp; try omega) _ | refine Below.alloc ?_ (by simp; try omega) _))) (hg.mono (by first | (simp; done) | ((try simp); exact Below.size (by assumption)))); have hwa : Below w.heap.size w wza := HBQ.out.trans (hba.mono hwq); obtain ⟨p0a, p1a, p2a⟩ := HK.out wza hba; clear hg) | (go_at_call 49; (with_reducible refine (HIB.out _ (by (repeat (first | exact Below.refl _ _ | assumption | refine Below.drew ?_ | refine Below.setCell ?_ (by simp; try omega) _ | refine Below.alloc ?_ (by simp; try omega) _)))).mono ?_); rintro e wzb ⟨rfl, hg⟩; have hbb : Below wq.heap.size wq wzb := Below.trans (by (repeat (first | exact Below.refl _ _ | assumption | refine Below.drew ?_ | refine Below.setCell ?_ (by simp; try omega) _ | refine Below.alloc ?_ (by simp; try omega) _))) (hg.mono (by first | (simp; done) | ((try simp); exact Below.size (by assumption)))); have hwb : Below w.heap.size w wzb := HBQ.out.trans (hbb.mono hwq); obtain ⟨p0b, p1b, p2b⟩ := HK.out wzb hbb; clear hg) | (go_at_call 62; (with_reducible refine (HAP.out _).mono ?_); rintro e wzc ⟨rfl, hg⟩; have hbc : Below wq.heap.size wq wzc := (by rw [hg]; exact (by (repeat (first | exact Below.refl _ _ | assumption | refine Below.drew ?_ | refine Below.setCell ?_ (by simp; try omega) _ | refine Below.alloc ?_ (by simp; try omega) _)))); obtain ⟨p0c, p1c, p2c⟩ := HK.out wzc hbc; clear hg))
      have HRC : Hid (Below wr.heap.size wr wzc) := HRQ.out.trans (hbc.mono (by omega))
      clear HAP HIA HIB HK c0 c1 c2 p0 p1 p2 p0a p1a p2a p0b p1b p2b p0c p1c p2c hba hbb hbc hwa hwb
      cases z with
      | true =>
        go_wp2_with fail
        refine (HJN.out _ HRC.out).mono ?_
        rintro e w5 ⟨v5, M, rfl, hown5, hb5, hs5, hM⟩
        have HM := Lib.hid (HJO.out (by first | trivial | rfl) M hM)
        have HO5 := Lib.hid hown5
        have HB5 : Hid (Below w1.heap.size w1 w5) := HBL.out.trans ((HRC.out.mono hwr).trans hb5)
        clear hown5 hb5 hM HJO HSK HJN
        go_wp2_with fail
        go_roundw
        case measure => simp [intOf]; omega
        case rel => exact ⟨k + 1, M, by omega, by go_num, HM, HO5, HB5⟩
      | false =>
        have HM := Lib.hid (HSK.out (by first | trivial | rfl))
        clear HJO HSK HJN
        go_wp2_with fail
        go_roundw
        case measure => simp [intOf]; omega
        case rel => exact ⟨k + 1, L, by omega, by go_num, HM, Lib.hid (own_below HO.out HRC.out), Lib.hid (HBL.out.trans (HRC.out.mono hwr))⟩
    · obtain rfl : k = n := by omega
      go_wp2_with fail
      go_ret
      exact ⟨_, L, rfl, (ivs_own HO.out (by omega)).lo hw1, HJ.out.done (by rw [HN.out]; omega), by have := HLEN.out; have := HJ.out.half; omega, HB1.out.trans (HBL.out.mono hw1)⟩
end Go.Proofs.Ytmhgmlnnipdomaa
