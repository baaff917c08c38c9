
/- Sets of values as plain mathematics: ordered lists of intervals, and that what they contain tells them. -/
import Derived.Test.YtjcbmeannhafjaaVal

import Derived.Test.YtjcbmeannhafjaaRow

import Derived.Deep.RegionHeld3

namespace Go.Proofs.Ytjcbmeannhafjaa

/-- An interval of package api. -/
structure IV where
  f : V
  t : V
  o : Bool
instance : DecidableEq IV := fun a b => decidable_of_iff (a.f = b.f ∧ a.t = b.t ∧ a.o = b.o) (by obtain ⟨f, t, o⟩ := a; obtain ⟨f', t', o'⟩ := b; simp)
instance : Inhabited IV := ⟨⟨default, default, false⟩⟩

def okV (v : V) : Bool := vldB v.k v.n v.s
def z0 : V := ⟨0, 0, ⟨#[]⟩⟩

theorem cmpV_self (a : V) : cmpV a a = 0 := (cmpV_zero a a).2 rfl
theorem cmpV_le_lt {a b c : V} (h1 : cmpV a b ≤ 0) (h2 : cmpV b c < 0) : cmpV a c < 0 := by
  have h := cmpV_trans a b c h1 (by omega)
  by_cases e : cmpV a c = 0
  · have := (cmpV_zero a c).1 e
    subst this
    have := cmpV_flip a b
    omega
  · omega
theorem cmpV_lt_le {a b c : V} (h1 : cmpV a b < 0) (h2 : cmpV b c ≤ 0) : cmpV a c < 0 := by
  have h := cmpV_trans a b c (by omega) h2
  by_cases e : cmpV a c = 0
  · have := (cmpV_zero a c).1 e
    subst this
    have := cmpV_flip a b
    omega
  · omega
theorem cmpV_lt_lt {a b c : V} (h1 : cmpV a b < 0) (h2 : cmpV b c < 0) : cmpV a c < 0 := cmpV_lt_le h1 (by omega)
theorem cmpV_nle {a b : V} : ¬ cmpV a b ≤ 0 ↔ cmpV b a < 0 := by have := cmpV_flip a b; omega
theorem cmpV_nlt {a b : V} : ¬ cmpV a b < 0 ↔ cmpV b a ≤ 0 := by have := cmpV_flip a b; omega
theorem cmpV_anti {a b : V} (h1 : cmpV a b ≤ 0) (h2 : cmpV b a ≤ 0) : a = b := (cmpV_zero a b).1 (by have := cmpV_flip a b; omega)

/-- The interval contains the value. -/
def inI (x : IV) (v : V) : Bool := decide (cmpV x.f v ≤ 0) && (x.o || decide (cmpV v x.t < 0))
def inL (L : List IV) (v : V) : Bool := L.any (fun x => inI x v)
theorem inI_iff {x : IV} {v : V} : inI x v = true ↔ cmpV x.f v ≤ 0 ∧ (x.o = true ∨ cmpV v x.t < 0) := by simp [inI]
theorem inL_iff {L : List IV} {v : V} : inL L v = true ↔ ∃ x ∈ L, inI x v = true := by simp [inL]
theorem inL_false {L : List IV} {v : V} : inL L v = false ↔ ∀ x ∈ L, inI x v = false := by simp [inL]
theorem inI_false {x : IV} {v : V} : inI x v = false ↔ cmpV v x.f < 0 ∨ (x.o = false ∧ cmpV x.t v ≤ 0) := by
  have h1 := @cmpV_nle x.f v
  have h2 := @cmpV_nlt v x.t
  rw [← Bool.not_eq_true, inI_iff, Classical.not_and_iff_not_or_not, not_or, h1, h2, Bool.not_eq_true]

def okI (x : IV) : Bool := okV x.f && (if x.o then decide (x.t = z0) else okV x.t && decide (cmpV x.f x.t < 0))
theorem okI_f {x : IV} (h : okI x = true) : okV x.f = true := by simp only [okI, Bool.and_eq_true] at h; exact h.1
theorem okI_open {x : IV} (h : okI x = true) (ho : x.o = true) : x.t = z0 := by simp [okI, ho] at h; exact h.2
theorem okI_shut {x : IV} (h : okI x = true) (ho : x.o = false) : okV x.t = true ∧ cmpV x.f x.t < 0 := by simp [okI, ho] at h; exact h.2

/-- The list is canonical but for its length. -/
structure Ord (L : List IV) : Prop where
  ok : ∀ x ∈ L, okI x = true
  apart : L.Pairwise (fun x y => x.o = false ∧ cmpV x.t y.f < 0)
theorem Ord.nil : Ord [] := ⟨by simp, by simp⟩
theorem Ord.tail {x : IV} {L : List IV} (h : Ord (x :: L)) : Ord L := ⟨fun y hy => h.ok y (List.mem_cons_of_mem _ hy), (List.pairwise_cons.1 h.apart).2⟩

/-- The same, as the programs ask it. -/
def nextOk (x : IV) : List IV → Bool
  | [] => true
  | y :: _ => !x.o && decide (cmpV x.t y.f < 0)
def ordL : List IV → Bool
  | [] => true
  | x :: r => okI x && nextOk x r && ordL r
theorem ordL_iff : ∀ L : List IV, ordL L = true ↔ Ord L
  | [] => by simp [ordL, Ord.nil]
  | x :: r => by
    rw [ordL, Bool.and_eq_true, Bool.and_eq_true, ordL_iff r]
    constructor
    · rintro ⟨⟨h1, h2⟩, h3⟩
      refine ⟨fun y hy => ?_, List.pairwise_cons.2 ⟨fun z hz => ?_, h3.apart⟩⟩
      · rcases List.mem_cons.1 hy with rfl | hy
        · exact h1
        · exact h3.ok y hy
      · cases r with
        | nil => simp at hz
        | cons y r =>
          simp only [nextOk, Bool.and_eq_true, Bool.not_eq_true', decide_eq_true_eq] at h2
          refine ⟨h2.1, ?_⟩
          rcases List.mem_cons.1 hz with rfl | hz
          · exact h2.2
          · have hy := (List.pairwise_cons.1 h3.apart).1 z hz
            have := (okI_shut (h3.ok y (by simp)) hy.1).2
            exact cmpV_lt_lt h2.2 (cmpV_lt_lt this hy.2)
    · intro h
      refine ⟨⟨h.ok x (by simp), ?_⟩, h.tail⟩
      cases r with
      | nil => rfl
      | cons y r =>
        have := (List.pairwise_cons.1 h.apart).1 y (by simp)
        simp [nextOk, this.1, this.2]

/-- What follows an interval lies above its end. -/
theorem Ord.low {x : IV} {L : List IV} (h : Ord (x :: L)) {v : V} (hv : inL L v = true) : x.o = false ∧ cmpV x.t v < 0 := by
  obtain ⟨y, hy, hi⟩ := inL_iff.1 hv
  have := (List.pairwise_cons.1 h.apart).1 y hy
  exact ⟨this.1, cmpV_lt_le this.2 (inI_iff.1 hi).1⟩
theorem Ord.head {x : IV} {L : List IV} (h : Ord (x :: L)) : inI x x.f = true := by
  refine inI_iff.2 ⟨by rw [cmpV_self]; omega, ?_⟩
  cases ho : x.o with
  | true => exact .inl rfl
  | false => exact .inr (okI_shut (h.ok x (by simp)) ho).2
theorem Ord.least {x : IV} {L : List IV} (h : Ord (x :: L)) {v : V} (hv : inL (x :: L) v = true) : cmpV x.f v ≤ 0 := by
  obtain ⟨y, hy, hi⟩ := inL_iff.1 hv
  rcases List.mem_cons.1 hy with rfl | hy
  · exact (inI_iff.1 hi).1
  · have h1 := h.low (inL_iff.2 ⟨y, hy, hi⟩)
    have h2 := (okI_shut (h.ok x (by simp)) h1.1).2
    have := cmpV_lt_lt h2 h1.2
    omega
/-- The end of a first interval is not in the set. -/
theorem Ord.gap {x : IV} {L : List IV} (h : Ord (x :: L)) (ho : x.o = false) : inL (x :: L) x.t = false := by
  refine inL_false.2 fun y hy => ?_
  rcases List.mem_cons.1 hy with rfl | hy
  · exact inI_false.2 (.inr ⟨ho, by rw [cmpV_self]; omega⟩)
  · exact inI_false.2 (.inl ((List.pairwise_cons.1 h.apart).1 y hy).2)

/-- Two ordered lists that contain the same valid values are equal. -/
theorem ord_ext : ∀ {L M : List IV}, Ord L → Ord M → (∀ v, okV v = true → inL L v = inL M v) → L = M
  | [], [], _, _, _ => rfl
  | [], y :: M, _, hM, h => by
    have := h y.f (okI_f (hM.ok y (by simp)))
    rw [show inL (y :: M) y.f = true from inL_iff.2 ⟨y, by simp, hM.head⟩] at this
    simp [inL] at this
  | x :: L, [], hL, _, h => by
    have := h x.f (okI_f (hL.ok x (by simp)))
    rw [show inL (x :: L) x.f = true from inL_iff.2 ⟨x, by simp, hL.head⟩] at this
    simp [inL] at this
  | x :: L, y :: M, hL, hM, h => by
    have hx := hL.ok x (by simp)
    have hy := hM.ok y (by simp)
    have ix : inL (x :: L) x.f = true := inL_iff.2 ⟨x, by simp, hL.head⟩
    have iy : inL (y :: M) y.f = true := inL_iff.2 ⟨y, by simp, hM.head⟩
    have e1 : x.f = y.f := by
      refine cmpV_anti (hL.least ?_) (hM.least ?_)
      · rw [h _ (okI_f hy)]; exact iy
      · rw [← h _ (okI_f hx)]; exact ix
    have e2 : x = y := by
      cases hox : x.o with
      | true =>
        cases hoy : y.o with
        | true =>
          obtain ⟨f, t, o⟩ := x
          obtain ⟨f', t', o'⟩ := y
          have a := okI_open hx hox
          have b := okI_open hy hoy
          simp only at *
          rw [e1, a, b, hox, hoy]
        | false =>
          exfalso
          have a := okI_shut hy hoy
          have b := hM.gap hoy
          rw [← h _ a.1] at b
          have := inL_false.1 b x (by simp)
          rw [inI_false] at this
          rw [e1] at this
          have c := cmpV_flip y.f y.t
          rcases this with h | h
          · omega
          · rw [hox] at h; simp at h
      | false =>
        have a := okI_shut hx hox
        have b := hL.gap hox
        rw [h _ a.1] at b
        have b' := inL_false.1 b y (by simp)
        rw [inI_false, ← e1] at b'
        have c := cmpV_flip x.f x.t
        cases hoy : y.o with
        | true => rw [hoy] at b'; simp at b'; omega
        | false =>
          have a2 := okI_shut hy hoy
          have d := hM.gap hoy
          rw [← h _ a2.1] at d
          have d' := inL_false.1 d x (by simp)
          rw [inI_false, e1] at d'
          have c2 := cmpV_flip y.f y.t
          have e3 : x.t = y.t := cmpV_anti (by rcases d' with h | h <;> omega) (by rcases b' with h | h <;> omega)
          obtain ⟨f, t, o⟩ := x
          obtain ⟨f', t', o'⟩ := y
          simp only at *
          rw [e1, e3, hox, hoy]
    subst e2
    have e3 : L = M := ord_ext hL.tail hM.tail fun v hv => by
      have hh := h v hv
      have key : ∀ {N N' : List IV}, Ord (x :: N) → inL (x :: N) v = inL (x :: N') v → inL N v = true → inL N' v = true := by
        intro N N' hN he hn
        have h1 := hN.low hn
        have h2 : inL (x :: N) v = true := by
          obtain ⟨z, hz, hi⟩ := inL_iff.1 hn
          exact inL_iff.2 ⟨z, List.mem_cons_of_mem _ hz, hi⟩
        rw [he] at h2
        obtain ⟨z, hz, hi⟩ := inL_iff.1 h2
        rcases List.mem_cons.1 hz with rfl | hz
        · rw [inI_iff] at hi
          have := cmpV_flip z.t v
          rcases hi.2 with h | h
          · rw [h1.1] at h; simp at h
          · omega
        · exact inL_iff.2 ⟨z, hz, hi⟩
      rw [Bool.eq_iff_iff]
      exact ⟨key hL hh, key hM hh.symm⟩
    rw [e3]

/-- L is the canonical list (whatever its length) of an operation on two sets. -/
structure IsOp (k : Bool → Bool → Bool) (A B L : List IV) : Prop where
  ord : Ord L
  mem : ∀ v, okV v = true → inL L v = k (inL A v) (inL B v)
theorem IsOp.uniq {k : Bool → Bool → Bool} {A B L M : List IV} (h : IsOp k A B L) (h' : IsOp k A B M) : L = M :=
  ord_ext h.ord h'.ord fun v hv => (h.mem v hv).trans (h'.mem v hv).symm

/-- Snoc. -/
theorem inL_snoc (L : List IV) (x : IV) (v : V) : inL (L ++ [x]) v = (inL L v || inI x v) := by simp [inL]
theorem Ord.init {L : List IV} {x : IV} (h : Ord (L ++ [x])) : Ord L := ⟨fun y hy => h.ok y (by simp [hy]), (List.pairwise_append.1 h.apart).1⟩
theorem Ord.before {L : List IV} {x : IV} (h : Ord (L ++ [x])) {y : IV} (hy : y ∈ L) : y.o = false ∧ cmpV y.t x.f < 0 := (List.pairwise_append.1 h.apart).2.2 y hy x (by simp)
theorem Ord.last {L : List IV} {x : IV} (h : Ord (L ++ [x])) : okI x = true := h.ok x (by simp)
theorem Ord.snoc {L : List IV} {x : IV} (h : Ord L) (hx : okI x = true) (hl : ∀ L0 y, L = L0 ++ [y] → y.o = false ∧ cmpV y.t x.f < 0) : Ord (L ++ [x]) := by
  refine ⟨fun y hy => ?_, List.pairwise_append.2 ⟨h.apart, by simp, fun a ha b hb => ?_⟩⟩
  · rcases List.mem_append.1 hy with hy | hy
    · exact h.ok y hy
    · simp only [List.mem_singleton] at hy; subst hy; exact hx
  · simp only [List.mem_singleton] at hb; subst hb
    rcases List.eq_nil_or_concat L with rfl | ⟨L0, y, rfl⟩
    · simp at ha
    · rw [List.concat_eq_append] at *
      have hy := hl L0 y rfl
      rcases List.mem_append.1 ha with ha | ha
      · have h1 := h.before ha
        have h2 := (okI_shut h.last hy.1).2
        exact ⟨h1.1, cmpV_lt_lt h1.2 (cmpV_lt_lt h2 hy.2)⟩
      · simp only [List.mem_singleton] at ha; subst ha; exact hy
/-- The last interval may end elsewhere. -/
theorem Ord.turn {L : List IV} {x y : IV} (h : Ord (L ++ [x])) (hf : y.f = x.f) (hy : okI y = true) : Ord (L ++ [y]) :=
  h.init.snoc hy fun L0 z e => by
    have := h.before (y := z) (by rw [e]; simp)
    rw [hf]; exact this
/-- Nothing of the set lies at or above the end of the last interval. -/
theorem Ord.above {L : List IV} {x : IV} (h : Ord (L ++ [x])) (ho : x.o = false) {v : V} (hv : cmpV x.t v ≤ 0) : inL (L ++ [x]) v = false := by
  refine inL_false.2 fun y hy => ?_
  rcases List.mem_append.1 hy with hy | hy
  · have h1 := h.before hy
    have h2 := (okI_shut h.last ho).2
    have := cmpV_lt_lt h1.2 (cmpV_lt_le h2 hv)
    exact inI_false.2 (.inr ⟨h1.1, by omega⟩)
  · simp only [List.mem_singleton] at hy; subst hy
    exact inI_false.2 (.inr ⟨ho, hv⟩)
end Go.Proofs.Ytjcbmeannhafjaa

/- The leaves of package interval: validInterval, apart, contains. -/
namespace Go.Proofs.Ytjcbmeannhafjaa

open Go.RowKit

/-- What stands in the block that the world has just laid stays there. -/
theorem kept_new {w w1 : World} {O : Obj} (hg : Gr (w.alloc O) w1) : ∀ o, w1.cell? ⟨w.heap.size, o, none⟩ = (w.alloc O).cell? ⟨w.heap.size, o, none⟩ := fun o =>
  hg.below.cell (p := ⟨w.heap.size, o, none⟩) (show w.heap.size < (w.alloc O).heap.size by simp)

def apartB (x y : IV) : Bool := !x.o && decide (cmpV x.t y.f < 0)

end Go.Proofs.Ytjcbmeannhafjaa

/- A region that draws its order, walked by hand: the operations that their guards pass over, all at once. -/
namespace Go.Proofs.Ytjcbmeannhafjaa

open Go.RowKit

section

variable {P : Program} {md : Region.Mode} {ops : Array Oper} {Q : Exit → Act → World → Prop} {S : World → Prop}
/-- 'wpAnyH_take', the frame behind it written out. -/
theorem wpAnyH_takeD {i d : Nat} {oi : Oper} {v : Value} {fuel : Nat} {listed : Array Bool} {L : List Value} {D : List Deferred} {w : World} (hi : ops[i]? = some oi) (hd : oi.dst = some d)
    (hs : Region.noSelect ops = true) (hf : Region.free md ops listed i = true) (hr : (Region.ready md ops listed).contains i = true)
    (hQ : ∀ c a w, Q (.panic c) (Act.put a (some d) v) w → Q (.panic c) a w) (hy : YieldsIf P ops S oi v ⟨L.toArray, D⟩) (hS : S w)
    (h : wpAnyH P md ops Q S fuel (listed.setIfInBounds i true) ⟨(L.set d v).toArray, D⟩ w) : wpAnyH P md ops Q S (fuel + 1) listed ⟨L.toArray, D⟩ w := by
  refine wpAnyH_take hi hs hf hr (fun c a w => by rw [hd]; exact hQ c a w) hy hS ?_
  rw [hd]
  simpa only [Act.put, List.setIfInBounds_toArray] using h

def skipOk (md : Region.Mode) (ops : Array Oper) (D : List Deferred) : List (Nat × Nat) → Array Bool → List Value → Bool
  | [], _, _ => true
  | (j, d) :: js, listed, L => match ops[j]? with
    | none => false
    | some o => Region.free md ops listed j && (Region.ready md ops listed).contains j && !Region.wanted o (yielded ops L.toArray) && decide (o.dst = some d) && skipOk md ops D js (listed.setIfInBounds j true) (L.set d undef)
def skipPut : List (Nat × Nat) → List Value → List Value
  | [], L => L
  | (_, d) :: js, L => skipPut js (L.set d undef)
def skipList : List (Nat × Nat) → Array Bool → Array Bool
  | [], l => l
  | (j, _) :: js, l => skipList js (l.setIfInBounds j true)
/-- Operations that their guards pass over, all at once. -/
theorem wpAnyH_skips {w : World} {D : List Deferred} (hs : Region.noSelect ops = true)
    (hQ : ∀ s c v a w, Q (.panic c) (Act.put a (some s) v) w → Q (.panic c) a w) (hS : S w) :
    ∀ (js : List (Nat × Nat)) {fuel : Nat} {listed : Array Bool} {L : List Value}, skipOk md ops D js listed L = true → wpAnyH P md ops Q S fuel (skipList js listed) ⟨(skipPut js L).toArray, D⟩ w → wpAnyH P md ops Q S (fuel + js.length) listed ⟨L.toArray, D⟩ w
  | [], _, _, _, _, h => h
  | (j, d) :: js, fuel, listed, L, hk, h => by
    rw [skipOk] at hk
    cases ho : ops[j]? with
    | none => simp [ho] at hk
    | some o =>
      simp only [ho, Bool.and_eq_true, Bool.not_eq_true', decide_eq_true_eq] at hk
      obtain ⟨⟨⟨⟨h1, h2⟩, h3⟩, h5⟩, h4⟩ := hk
      exact wpAnyH_takeD (i := j) (d := d) (v := undef) ho h5 hs h1 h2 (fun c a w => hQ d c _ a w) (Or.inr ⟨h3, rfl⟩) hS (wpAnyH_skips hs hQ hS js h4 h)
end

end Go.Proofs.Ytjcbmeannhafjaa
