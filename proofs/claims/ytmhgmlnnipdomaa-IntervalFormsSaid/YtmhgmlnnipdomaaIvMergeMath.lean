
/- interval.bound. -/
import Derived.Test.YtmhgmlnnipdomaaIvMake

import Derived.BigRegion

namespace Go.Proofs.Ytmhgmlnnipdomaa

open Go.RowKit

/-- The n-th of the values at which a set begins or ends. -/
def bdV (L : List IV) (n : Nat) : V × Bool := match L[n / 2]? with
  | none => (z0, false)
  | some x => if n % 2 = 0 then (x.f, true) else (x.t, !x.o)

set_option linter.unusedSimpArgs false in
set_option maxHeartbeats 1000000 in
theorem iBound_any (v : Value) (L : List IV) (n : Nat) (w : World) (h : Ivs w v L) (hn : n ≤ 4398046511104) : Calls Try.prog 74 #[v, .int .i64 n] w fun e w' => e = .returned (retV (bdV L n)) ∧ Below w.heap.size w w' := by
  obtain ⟨a, c, rfl, hc1, hc2, hnil, hl, hi⟩ := h
  obtain ⟨l, hll⟩ : ∃ l, L.length = l := ⟨_, rfl⟩
  rw [hll] at hc1 hl ⊢
  obtain ⟨m2, hh⟩ : ∃ h, h = n / 2 := ⟨_, rfl⟩
  have hq : Int.tdiv (n : Int) 2 = (m2 : Int) := by rw [Int.tdiv_eq_ediv_of_nonneg (by omega)]; omega
  have hw : IntKind.i64.wrap (m2 : Int) = m2 := by rw [IntKind.wrap_i64]; omega
  have hq1 : IntKind.i64.wrap (Int.tdiv (n : Int) 2) = m2 := by rw [hq]; exact hw
  have hq3 : (n : Int) / 2 = m2 := by omega
  have hq2 : IntKind.i64.wrap ((n : Int) / 2) = m2 := by rw [hq3]; exact hw
  have hm0 : (0 : Int) ≤ m2 := by omega
  unfold bdV
  rw [← hh]
  by_cases hlt : m2 < l
  · have hmL : m2 < L.length := by omega
    obtain ⟨b, off, rfl, -, hb, hc⟩ := hi m2 hmL
    rw [List.getElem?_eq_getElem hmL]
    generalize L[m2] = x at hc ⊢
    obtain ⟨⟨fk, fn, fs⟩, ⟨tk, tn, ts⟩, xo⟩ := x
    obtain ⟨⟨p0, p1, p2⟩, ⟨p3, p4, p5⟩, p6⟩ := hc
    simp only at p0 p1 p2 p3 p4 p5 p6
    have hd : decide ((l : Int) ≤ m2) = false := by simp; omega
    have hlt' : (m2 : Int) < l := by omega
    clear hi hnil hmL hll
    simp only [retV]
    by_cases h2 : n % 2 = 0
    · have ht : Int.tmod (n : Int) 2 = 0 := by rw [Int.tmod_eq_emod_of_nonneg (by omega)]; omega
      have ht2 : (n : Int) % 2 = 0 := by omega
      simp only [h2, if_true]
      clear h2 hh
      go_enter Try.func74, Try.ntmps74
      go_wp2_with fail
      refine bodyPost_ret (v := .tuple #[.agg #[.int .i64 fk, .int .i64 fn, .string fs], .bool true]) (by simp [results, Try.results74, go_sem, *]) rfl ?_
      exact ⟨rfl, by (repeat (first | exact Below.refl _ _ | assumption | refine Below.drew ?_ | refine Below.setCell ?_ (by first | omega | (simp only [World.size_alloc]; omega) | (simp; try omega)) _ | refine Below.alloc ?_ (by first | omega | (simp only [World.size_alloc]; omega) | (simp; try omega)) _))⟩
    · have ht : Int.tmod (n : Int) 2 = 1 := by rw [Int.tmod_eq_emod_of_nonneg (by omega)]; omega
      have ht2 : (n : Int) % 2 = 1 := by omega
      simp only [h2, if_false]
      clear h2 hh
      go_enter Try.func74, Try.ntmps74
      go_wp2_with fail
      go_region
      all_goals
        go_wp2_with fail
        refine bodyPost_ret (v := .tuple #[.agg #[.int .i64 tk, .int .i64 tn, .string ts], .bool !xo]) (by simp [results, Try.results74, go_sem, *]) rfl ?_
        exact ⟨rfl, by (repeat (first | exact Below.refl _ _ | assumption | refine Below.drew ?_ | refine Below.setCell ?_ (by first | omega | (simp only [World.size_alloc]; omega) | (simp; try omega)) _ | refine Below.alloc ?_ (by first | omega | (simp only [World.size_alloc]; omega) | (simp; try omega)) _))⟩
  · have hd : decide ((l : Int) ≤ m2) = true := by simp; omega
    rw [List.getElem?_eq_none (by omega)]
    simp only [retV, z0]
    clear hi hnil hll hh
    go_enter Try.func74, Try.ntmps74
    go_wp2_with fail
    refine bodyPost_ret (v := .tuple #[.agg #[.int .i64 0, .int .i64 0, .string ⟨#[]⟩], .bool false]) (by simp [results, Try.results74, go_sem, *]) rfl ?_
    exact ⟨rfl, by (repeat (first | exact Below.refl _ _ | assumption | refine Below.drew ?_ | refine Below.setCell ?_ (by first | omega | (simp only [World.size_alloc]; omega) | (simp; try omega)) _ | refine Below.alloc ?_ (by first | omega | (simp only [World.size_alloc]; omega) | (simp; try omega)) _))⟩
end Go.Proofs.Ytmhgmlnnipdomaa

/- What interval.merge does, as plain mathematics: bounds, and the invariant of its loop. -/
namespace Go.Proofs.Ytmhgmlnnipdomaa

theorem bdV_zero (x : IV) (L : List IV) : bdV (x :: L) 0 = (x.f, true) := rfl
theorem bdV_one (x : IV) (L : List IV) : bdV (x :: L) 1 = (x.t, !x.o) := rfl
theorem bdV_next (x : IV) (L : List IV) (n : Nat) : bdV (x :: L) (n + 2) = bdV L n := by
  unfold bdV
  rw [show (n + 2) / 2 = n / 2 + 1 by omega, show (n + 2) % 2 = n % 2 by omega, List.getElem?_cons_succ]
theorem bdV_nil (n : Nat) : bdV [] n = (z0, false) := rfl
theorem bdV_end (L : List IV) (n : Nat) (h : 2 * L.length ≤ n) : (bdV L n).2 = false := by
  unfold bdV; rw [List.getElem?_eq_none (by omega)]
theorem bdV_len {L : List IV} {n : Nat} (h : (bdV L n).2 = true) : n < 2 * L.length := by
  by_cases hn : 2 * L.length ≤ n
  · rw [bdV_end L n hn] at h; simp at h
  · omega
/-- Each bound is a valid value. -/
theorem bdV_ok : ∀ {L : List IV}, Ord L → ∀ {n : Nat}, (bdV L n).2 = true → okV (bdV L n).1 = true
  | [], _, n, h => by simp [bdV_nil] at h
  | x :: L, hL, 0, _ => okI_f (hL.ok x (by simp))
  | x :: L, hL, 1, h => by
    rw [bdV_one] at h ⊢
    exact (okI_shut (hL.ok x (by simp)) (by simpa using h)).1
  | x :: L, hL, n + 2, h => by rw [bdV_next] at h ⊢; exact bdV_ok hL.tail h
/-- What is behind an interval begins above its end. -/
theorem bdV_gt : ∀ {L : List IV} {x : IV}, Ord (x :: L) → ∀ {n : Nat}, (bdV L n).2 = true → x.o = false ∧ cmpV x.t (bdV L n).1 < 0
  | [], x, _, n, h => by simp [bdV_nil] at h
  | y :: L, x, hL, 0, _ => (List.pairwise_cons.1 hL.apart).1 y (by simp)
  | y :: L, x, hL, 1, h => by
    have h1 := (List.pairwise_cons.1 hL.apart).1 y (by simp)
    rw [bdV_one] at h ⊢
    exact ⟨h1.1, cmpV_lt_lt h1.2 (okI_shut (hL.ok y (by simp)) (by simpa using h)).2⟩
  | y :: L, x, hL, n + 2, h => by
    have h1 := (List.pairwise_cons.1 hL.apart).1 y (by simp)
    rw [bdV_next] at h ⊢
    have h2 := bdV_gt hL.tail h
    exact ⟨h1.1, cmpV_lt_lt h1.2 (cmpV_lt_lt (okI_shut (hL.ok y (by simp)) h2.1).2 h2.2)⟩
/-- The bounds ascend, and none is left out. -/
theorem bdV_asc : ∀ {L : List IV}, Ord L → ∀ {n : Nat}, (bdV L (n + 1)).2 = true → (bdV L n).2 = true ∧ cmpV (bdV L n).1 (bdV L (n + 1)).1 < 0
  | [], _, n, h => by simp [bdV_nil] at h
  | x :: L, hL, 0, h => by
    rw [bdV_one] at h ⊢
    exact ⟨rfl, (okI_shut (hL.ok x (by simp)) (by simpa using h)).2⟩
  | x :: L, hL, 1, h => by
    rw [bdV_next] at h ⊢
    have := bdV_gt hL h
    exact ⟨by rw [bdV_one]; simp [this.1], this.2⟩
  | x :: L, hL, n + 2, h => by
    rw [show n + 2 + 1 = (n + 1) + 2 by omega, bdV_next] at h ⊢
    rw [bdV_next]
    exact bdV_asc hL.tail h
/-- Where n bounds are passed and the next one is not reached, a value is in the set exactly if n is odd. -/
theorem inL_odd : ∀ {L : List IV}, Ord L → ∀ {n : Nat} {v : V}, (∀ m, n = m + 1 → (bdV L m).2 = true ∧ cmpV (bdV L m).1 v ≤ 0) → ((bdV L n).2 = true → cmpV v (bdV L n).1 < 0) → inL L v = decide (n % 2 = 1)
  | [], _, 0, v, _, _ => rfl
  | [], _, n + 1, v, h, _ => by have := (h n rfl).1; simp [bdV_nil] at this
  | x :: L, hL, 0, v, _, h2 => by
    have h := h2 rfl
    rw [bdV_zero] at h
    refine inL_false.2 fun y hy => inI_false.2 (.inl ?_)
    rcases List.mem_cons.1 hy with rfl | hy
    · exact h
    · have h3 := (List.pairwise_cons.1 hL.apart).1 y hy
      exact cmpV_lt_lt h (cmpV_lt_lt (okI_shut (hL.ok x (by simp)) h3.1).2 h3.2)
  | x :: L, hL, 1, v, h1, h2 => by
    have h := (h1 0 rfl).2
    rw [bdV_zero] at h
    refine inL_iff.2 ⟨x, by simp, inI_iff.2 ⟨h, ?_⟩⟩
    cases ho : x.o with
    | true => exact .inl rfl
    | false => exact .inr (h2 (by rw [bdV_one, ho]; rfl))
  | x :: L, hL, n + 2, v, h1, h2 => by
    have hx : x.o = false ∧ cmpV x.t v ≤ 0 := by
      have h := h1 (n + 1) rfl
      cases n with
      | zero => rw [bdV_one] at h; exact ⟨by simpa using h.1, h.2⟩
      | succ n =>
        rw [show n + 1 + 1 = n + 2 by omega, bdV_next] at h
        have h3 := bdV_gt hL h.1
        have := cmpV_lt_le h3.2 h.2
        exact ⟨h3.1, by omega⟩
    have hi : inL (x :: L) v = inL L v := by
      show (inI x v || inL L v) = _
      rw [inI_false.2 (.inr hx), Bool.false_or]
    rw [hi, inL_odd hL.tail (n := n) (v := v) (fun m hm => by subst hm; have := h1 (m + 2) rfl; rw [bdV_next] at this; exact this) (fun h => by have := h2 (by rw [bdV_next]; exact h); rw [bdV_next] at this; exact this)]
    rw [show (n + 2) % 2 = n % 2 by omega]

/-- The greatest value that a list looks at. -/
def endV (x : IV) : V := if x.o then x.f else x.t
theorem endV_open {x : IV} (h : x.o = true) : endV x = x.f := by simp [endV, h]
theorem endV_shut {x : IV} (h : x.o = false) : endV x = x.t := by simp [endV, h]
/-- What merge knows at a point of its loop: A and B are passed up to pa and pb, M is what is merged so far, ins whether its last interval is open. -/
structure MI (k : Bool → Bool → Bool) (A B M : List IV) (pa pb : Nat) (ins : Bool) : Prop where
  ord : Ord M
  ins_eq : ins = k (decide (pa % 2 = 1)) (decide (pb % 2 = 1))
  last : ∀ M0 x, M = M0 ++ [x] → x.o = ins
  some : ins = true → M ≠ []
  pastA : ∀ m, pa = m + 1 → (bdV A m).2 = true ∧ ((bdV A pa).2 = true → cmpV (bdV A m).1 (bdV A pa).1 < 0) ∧ ((bdV B pb).2 = true → cmpV (bdV A m).1 (bdV B pb).1 < 0)
  pastB : ∀ m, pb = m + 1 → (bdV B m).2 = true ∧ ((bdV A pa).2 = true → cmpV (bdV B m).1 (bdV A pa).1 < 0) ∧ ((bdV B pb).2 = true → cmpV (bdV B m).1 (bdV B pb).1 < 0)
  pastM : ∀ M0 x, M = M0 ++ [x] → ((bdV A pa).2 = true → cmpV (endV x) (bdV A pa).1 < 0) ∧ ((bdV B pb).2 = true → cmpV (endV x) (bdV B pb).1 < 0)
  mem : ∀ v, okV v = true → ((bdV A pa).2 = true → cmpV v (bdV A pa).1 < 0) → ((bdV B pb).2 = true → cmpV v (bdV B pb).1 < 0) → inL M v = k (inL A v) (inL B v)
  leA : pa ≤ 2 * A.length
  leB : pb ≤ 2 * B.length
  len : 2 * M.length ≤ pa + pb + 1 ∧ (ins = false → 2 * M.length ≤ pa + pb)
theorem MI.init {k : Bool → Bool → Bool} (hk : k false false = false) {A B : List IV} (hA : Ord A) (hB : Ord B) : MI k A B [] 0 0 false where
  ord := Ord.nil
  ins_eq := hk.symm
  last := fun M0 x e => by simp at e
  some := fun h => by simp at h
  pastA := fun m h => by omega
  pastB := fun m h => by omega
  pastM := fun M0 x e => by simp at e
  mem := fun v hv h1 h2 => by
    rw [inL_odd hA (n := 0) (v := v) (fun m h => by omega) h1, inL_odd hB (n := 0) (v := v) (fun m h => by omega) h2]
    exact hk.symm
  leA := by omega
  leB := by omega
  len := ⟨by simp, fun _ => by simp⟩

def passA (x y : V × Bool) : Bool := x.2 && (!y.2 || decide (cmpV x.1 y.1 ≤ 0))
def nxt (x y : V × Bool) : V := if passA y x then y.1 else if passA x y then x.1 else z0
def bump (b : Bool) (n : Nat) : Nat := if b then n + 1 else n
theorem passA_iff {x y : V × Bool} : passA x y = true ↔ x.2 = true ∧ (y.2 = true → cmpV x.1 y.1 ≤ 0) := by
  unfold passA
  cases x.2 <;> cases y.2 <;> simp
/-- The next point, and what it is. -/
theorem nxt_is {x y : V × Bool} (h : passA x y = true ∨ passA y x = true) :
    (passA x y = true → nxt x y = x.1) ∧ (passA y x = true → nxt x y = y.1) ∧ (x.2 = true → cmpV (nxt x y) x.1 ≤ 0) ∧ (y.2 = true → cmpV (nxt x y) y.1 ≤ 0) ∧
    (passA x y = false → x.2 = true → cmpV (nxt x y) x.1 < 0) ∧ (passA y x = false → y.2 = true → cmpV (nxt x y) y.1 < 0) ∧ ((x.2 = true ∧ nxt x y = x.1) ∨ (y.2 = true ∧ nxt x y = y.1)) := by
  have f := cmpV_flip x.1 y.1
  have s1 := cmpV_self x.1
  have s2 := cmpV_self y.1
  unfold nxt
  cases hx : passA x y with
  | true =>
    have h1 := passA_iff.1 hx
    cases hy : passA y x with
    | true =>
      have h2 := passA_iff.1 hy
      have e : x.1 = y.1 := cmpV_anti (h1.2 h2.1) (h2.2 h1.1)
      simp only [if_true]
      refine ⟨fun _ => e.symm, fun _ => (by first | rfl | trivial), fun _ => by rw [e, s2]; omega, fun _ => by rw [s2]; omega, fun h => by simp at h, fun h => by simp at h, .inr ⟨h2.1, (by first | rfl | trivial)⟩⟩
    | false =>
      simp only [Bool.false_eq_true, if_false, if_true]
      have h2 : y.2 = true → cmpV x.1 y.1 < 0 := fun hy2 => by
        have h3 : ¬ cmpV y.1 x.1 ≤ 0 := fun h3 => by rw [passA_iff.2 ⟨hy2, fun _ => h3⟩] at hy; simp at hy
        omega
      refine ⟨fun _ => (by first | rfl | trivial), fun h => by simp at h, fun _ => by rw [s1]; omega, fun hy2 => by have := h2 hy2; omega, fun h => by simp at h, fun _ hy2 => h2 hy2, .inl ⟨h1.1, (by first | rfl | trivial)⟩⟩
  | false =>
    have hy : passA y x = true := by rcases h with h | h; · rw [hx] at h; simp at h
                                     · exact h
    have h1 := passA_iff.1 hy
    simp only [hy, if_true]
    have h2 : x.2 = true → cmpV y.1 x.1 < 0 := fun hx2 => by
      have h3 : ¬ cmpV x.1 y.1 ≤ 0 := fun h3 => by rw [passA_iff.2 ⟨hx2, fun _ => h3⟩] at hx; simp at hx
      omega
    refine ⟨fun h => by simp at h, fun _ => (by first | rfl | trivial), fun hx2 => by have := h2 hx2; omega, fun _ => by rw [s2]; omega, fun _ hx2 => h2 hx2, fun h => by simp at h, .inr ⟨h1.1, (by first | rfl | trivial)⟩⟩

section

variable {k : Bool → Bool → Bool} {A B M : List IV} {pa pb : Nat} {ins : Bool}

/-- One step of the loop, for what is merged behind it. -/
theorem MI.step (h : MI k A B M pa pb ins) (hA : Ord A) (hB : Ord B) (hp : passA (bdV A pa) (bdV B pb) = true ∨ passA (bdV B pb) (bdV A pa) = true) {M' : List IV}
    (hord : Ord M') (hlast : ∀ M0 x, M' = M0 ++ [x] → x.o = k (decide (bump (passA (bdV A pa) (bdV B pb)) pa % 2 = 1)) (decide (bump (passA (bdV B pb) (bdV A pa)) pb % 2 = 1)))
    (hsome : k (decide (bump (passA (bdV A pa) (bdV B pb)) pa % 2 = 1)) (decide (bump (passA (bdV B pb) (bdV A pa)) pb % 2 = 1)) = true → M' ≠ [])
    (hend : ∀ M0 x, M' = M0 ++ [x] → cmpV (endV x) (nxt (bdV A pa) (bdV B pb)) ≤ 0)
    (hlow : ∀ v, cmpV v (nxt (bdV A pa) (bdV B pb)) < 0 → inL M' v = inL M v)
    (hlen : 2 * M'.length ≤ pa + pb + 2 ∧ (k (decide (bump (passA (bdV A pa) (bdV B pb)) pa % 2 = 1)) (decide (bump (passA (bdV B pb) (bdV A pa)) pb % 2 = 1)) = false → 2 * M'.length ≤ pa + pb + 1)) :
    MI k A B M' (bump (passA (bdV A pa) (bdV B pb)) pa) (bump (passA (bdV B pb) (bdV A pa)) pb) (k (decide (bump (passA (bdV A pa) (bdV B pb)) pa % 2 = 1)) (decide (bump (passA (bdV B pb) (bdV A pa)) pb % 2 = 1))) := by
  obtain ⟨n1, n2, n3, n4, n5, n6, n7⟩ := nxt_is hp
  have pA := @passA_iff (bdV A pa) (bdV B pb)
  have pB := @passA_iff (bdV B pb) (bdV A pa)
  generalize hq : nxt (bdV A pa) (bdV B pb) = q at *
  -- what comes next lies above q
  have uA : (bdV A (bump (passA (bdV A pa) (bdV B pb)) pa)).2 = true → cmpV q (bdV A (bump (passA (bdV A pa) (bdV B pb)) pa)).1 < 0 := fun hv => by
    cases hx : passA (bdV A pa) (bdV B pb) with
    | true => rw [hx] at hv; rw [n1 hx]; exact (bdV_asc hA hv).2
    | false => rw [hx] at hv; exact n5 hx hv
  have uB : (bdV B (bump (passA (bdV B pb) (bdV A pa)) pb)).2 = true → cmpV q (bdV B (bump (passA (bdV B pb) (bdV A pa)) pb)).1 < 0 := fun hv => by
    cases hx : passA (bdV B pb) (bdV A pa) with
    | true => rw [hx] at hv; rw [n2 hx]; exact (bdV_asc hB hv).2
    | false => rw [hx] at hv; exact n6 hx hv
  -- what is passed lies at or below q
  have oA : ∀ m, bump (passA (bdV A pa) (bdV B pb)) pa = m + 1 → (bdV A m).2 = true ∧ cmpV (bdV A m).1 q ≤ 0 := fun m hm => by
    cases hx : passA (bdV A pa) (bdV B pb) with
    | true =>
      rw [hx] at hm
      obtain rfl : pa = m := by simpa [bump] using hm
      exact ⟨(pA.1 hx).1, by rw [n1 hx, cmpV_self]; omega⟩
    | false =>
      rw [hx] at hm
      obtain ⟨p1, p2, p3⟩ := h.pastA m (by simpa [bump] using hm)
      refine ⟨p1, ?_⟩
      rcases n7 with n7 | n7
      · have := p2 n7.1; rw [n7.2]; omega
      · have := p3 n7.1; rw [n7.2]; omega
  have oB : ∀ m, bump (passA (bdV B pb) (bdV A pa)) pb = m + 1 → (bdV B m).2 = true ∧ cmpV (bdV B m).1 q ≤ 0 := fun m hm => by
    cases hx : passA (bdV B pb) (bdV A pa) with
    | true =>
      rw [hx] at hm
      obtain rfl : pb = m := by simpa [bump] using hm
      exact ⟨(pB.1 hx).1, by rw [n2 hx, cmpV_self]; omega⟩
    | false =>
      rw [hx] at hm
      obtain ⟨p1, p2, p3⟩ := h.pastB m (by simpa [bump] using hm)
      refine ⟨p1, ?_⟩
      rcases n7 with n7 | n7
      · have := p2 n7.1; rw [n7.2]; omega
      · have := p3 n7.1; rw [n7.2]; omega
  have lA : bump (passA (bdV A pa) (bdV B pb)) pa ≤ 2 * A.length := by
    cases hx : passA (bdV A pa) (bdV B pb) with
    | true => have := bdV_len (pA.1 hx).1; simp [bump]; omega
    | false => exact h.leA
  have lB : bump (passA (bdV B pb) (bdV A pa)) pb ≤ 2 * B.length := by
    cases hx : passA (bdV B pb) (bdV A pa) with
    | true => have := bdV_len (pB.1 hx).1; simp [bump]; omega
    | false => exact h.leB
  have lS : pa + pb + 1 ≤ bump (passA (bdV A pa) (bdV B pb)) pa + bump (passA (bdV B pb) (bdV A pa)) pb := by
    rcases hp with hx | hx <;> rw [hx] <;> unfold bump <;> simp <;> split <;> omega
  refine ⟨hord, rfl, hlast, hsome, fun m hm => ⟨(oA m hm).1, fun hv => ?_, fun hv => ?_⟩, fun m hm => ⟨(oB m hm).1, fun hv => ?_, fun hv => ?_⟩, fun M0 x e => ⟨fun hv => ?_, fun hv => ?_⟩, fun v hv h1 h2 => ?_, lA, lB, by omega, fun hk => by have := hlen.2 hk; omega⟩
  · exact cmpV_le_lt (oA m hm).2 (uA hv)
  · exact cmpV_le_lt (oA m hm).2 (uB hv)
  · exact cmpV_le_lt (oB m hm).2 (uA hv)
  · exact cmpV_le_lt (oB m hm).2 (uB hv)
  · exact cmpV_le_lt (hend M0 x e) (uA hv)
  · exact cmpV_le_lt (hend M0 x e) (uB hv)
  · by_cases hvq : cmpV v q < 0
    · rw [hlow v hvq]
      exact h.mem v hv (fun hx => cmpV_lt_le hvq (n3 hx)) (fun hx => cmpV_lt_le hvq (n4 hx))
    · have hqv : cmpV q v ≤ 0 := cmpV_nlt.1 hvq
      rw [inL_odd hA (fun m hm => ⟨(oA m hm).1, cmpV_trans _ _ _ (oA m hm).2 hqv⟩) h1, inL_odd hB (fun m hm => ⟨(oB m hm).1, cmpV_trans _ _ _ (oB m hm).2 hqv⟩) h2]
      rcases List.eq_nil_or_concat M' with rfl | ⟨M0, x, rfl⟩
      · cases hk : k (decide (bump (passA (bdV A pa) (bdV B pb)) pa % 2 = 1)) (decide (bump (passA (bdV B pb) (bdV A pa)) pb % 2 = 1)) with
        | true => exact absurd rfl (hsome hk)
        | false => rfl
      · rw [List.concat_eq_append] at *
        have hl := hlast M0 x rfl
        have he := hend M0 x rfl
        rw [← hl]
        cases ho : x.o with
        | true =>
          rw [endV_open ho] at he
          rw [inL_snoc, inI_iff.2 ⟨cmpV_trans _ _ _ he hqv, .inl ho⟩, Bool.or_true]
        | false =>
          rw [endV_shut ho] at he
          exact hord.above ho (cmpV_trans _ _ _ he hqv)

/-- Nothing changes: keep says what it said. -/
theorem MI.same (h : MI k A B M pa pb ins) (hA : Ord A) (hB : Ord B) (hp : passA (bdV A pa) (bdV B pb) = true ∨ passA (bdV B pb) (bdV A pa) = true)
    (hk : k (decide (bump (passA (bdV A pa) (bdV B pb)) pa % 2 = 1)) (decide (bump (passA (bdV B pb) (bdV A pa)) pb % 2 = 1)) = ins) :
    MI k A B M (bump (passA (bdV A pa) (bdV B pb)) pa) (bump (passA (bdV B pb) (bdV A pa)) pb) ins := by
  have hn := nxt_is hp
  have := h.step hA hB hp (M' := M) h.ord (fun M0 x e => by rw [hk]; exact h.last M0 x e) (fun e => by rw [hk] at e; exact h.some e) (fun M0 x e => ?_) (fun v hv => rfl) ⟨by have := h.len.1; omega, fun e => by have := h.len.1; omega⟩
  · rw [hk] at this; exact this
  · have hm := h.pastM M0 x e
    rcases hn.2.2.2.2.2.2 with n7 | n7
    · have := hm.1 n7.1; rw [n7.2]; omega
    · have := hm.2 n7.1; rw [n7.2]; omega
/-- The open interval ends at the next point. -/
theorem MI.shut {M0 : List IV} {x : IV} (h : MI k A B (M0 ++ [x]) pa pb true) (hA : Ord A) (hB : Ord B) (hp : passA (bdV A pa) (bdV B pb) = true ∨ passA (bdV B pb) (bdV A pa) = true)
    (hk : k (decide (bump (passA (bdV A pa) (bdV B pb)) pa % 2 = 1)) (decide (bump (passA (bdV B pb) (bdV A pa)) pb % 2 = 1)) = false) :
    MI k A B (M0 ++ [⟨x.f, nxt (bdV A pa) (bdV B pb), false⟩]) (bump (passA (bdV A pa) (bdV B pb)) pa) (bump (passA (bdV B pb) (bdV A pa)) pb) false := by
  have hn := nxt_is hp
  have hxo := h.last M0 x rfl
  have hm := h.pastM M0 x rfl
  rw [endV_open hxo] at hm
  have hq : okV (nxt (bdV A pa) (bdV B pb)) = true ∧ cmpV x.f (nxt (bdV A pa) (bdV B pb)) < 0 := by
    rcases hn.2.2.2.2.2.2 with n7 | n7
    · rw [n7.2]; exact ⟨bdV_ok hA n7.1, hm.1 n7.1⟩
    · rw [n7.2]; exact ⟨bdV_ok hB n7.1, hm.2 n7.1⟩
  have hxf := okI_f h.ord.last
  have hinj : ∀ {L0 : List IV} {y z : IV} {L1 : List IV}, L0 ++ [y] = L1 ++ [z] → y = z := fun e => by simpa using (List.append_inj' e rfl).2
  have := h.step hA hB hp (M' := M0 ++ [⟨x.f, nxt (bdV A pa) (bdV B pb), false⟩]) (h.ord.turn rfl (by simp [okI, hxf, hq.1, hq.2])) (fun L0 y e => by rw [hk, ← hinj e]) (fun e => by simp) (fun L0 y e => by rw [← hinj e, endV_shut rfl, cmpV_self]; omega)
    (fun v hv => ?_) ⟨by have := h.len.1; simp at this ⊢; omega, fun e => by have := h.len.1; simp at this ⊢; omega⟩
  · rw [hk] at this; exact this
  · rw [inL_snoc, inL_snoc]
    congr 1
    simp [inI, hxo, hv]
/-- A new interval begins at the next point. -/
theorem MI.more (h : MI k A B M pa pb false) (hA : Ord A) (hB : Ord B) (hp : passA (bdV A pa) (bdV B pb) = true ∨ passA (bdV B pb) (bdV A pa) = true)
    (hk : k (decide (bump (passA (bdV A pa) (bdV B pb)) pa % 2 = 1)) (decide (bump (passA (bdV B pb) (bdV A pa)) pb % 2 = 1)) = true) :
    MI k A B (M ++ [⟨nxt (bdV A pa) (bdV B pb), z0, true⟩]) (bump (passA (bdV A pa) (bdV B pb)) pa) (bump (passA (bdV B pb) (bdV A pa)) pb) true := by
  have hn := nxt_is hp
  have hinj : ∀ {L0 : List IV} {y z : IV} {L1 : List IV}, L0 ++ [y] = L1 ++ [z] → y = z := fun e => by simpa using (List.append_inj' e rfl).2
  have hq : okV (nxt (bdV A pa) (bdV B pb)) = true := by
    rcases hn.2.2.2.2.2.2 with n7 | n7
    · rw [n7.2]; exact bdV_ok hA n7.1
    · rw [n7.2]; exact bdV_ok hB n7.1
  have := h.step hA hB hp (M' := M ++ [⟨nxt (bdV A pa) (bdV B pb), z0, true⟩]) (h.ord.snoc (by simp [okI, hq]) (fun L0 y e => ?_)) (fun L0 y e => by rw [hk, ← hinj e]) (fun e => by simp) (fun L0 y e => by rw [← hinj e, endV_open rfl, cmpV_self]; omega)
    (fun v hv => ?_) ⟨by have := h.len.2 rfl; simp; omega, fun e => by rw [hk] at e; simp at e⟩
  · rw [hk] at this; exact this
  · have hy := h.last L0 y e
    have hm := h.pastM L0 y e
    rw [endV_shut hy] at hm
    refine ⟨hy, ?_⟩
    rcases hn.2.2.2.2.2.2 with n7 | n7
    · have := hm.1 n7.1; rw [n7.2]; exact this
    · have := hm.2 n7.1; rw [n7.2]; exact this
  · rw [inL_snoc, inI_false.2 (.inl hv), Bool.or_false]
/-- The end. -/
theorem MI.done (h : MI k A B M pa pb ins) (h1 : passA (bdV A pa) (bdV B pb) = false) (h2 : passA (bdV B pb) (bdV A pa) = false) : IsOp k A B M ∧ M.length ≤ A.length + B.length := by
  have e1 := @passA_iff (bdV A pa) (bdV B pb)
  have e2 := @passA_iff (bdV B pb) (bdV A pa)
  have f := cmpV_flip (bdV A pa).1 (bdV B pb).1
  have x : (bdV A pa).2 = false ∧ (bdV B pb).2 = false := by
    cases hx : (bdV A pa).2 <;> cases hy : (bdV B pb).2
    · exact ⟨rfl, rfl⟩
    · exfalso; rw [e2.2 ⟨hy, fun e => by rw [hx] at e; simp at e⟩] at h2; simp at h2
    · exfalso; rw [e1.2 ⟨hx, fun e => by rw [hy] at e; simp at e⟩] at h1; simp at h1
    · exfalso
      by_cases hc : cmpV (bdV A pa).1 (bdV B pb).1 ≤ 0
      · rw [e1.2 ⟨hx, fun _ => hc⟩] at h1; simp at h1
      · rw [e2.2 ⟨hy, fun _ => by omega⟩] at h2; simp at h2
  refine ⟨⟨h.ord, fun v hv => h.mem v hv (fun e => by rw [x.1] at e; simp at e) (fun e => by rw [x.2] at e; simp at e)⟩, ?_⟩
  have := h.leA
  have := h.leB
  have := h.len.1
  omega
end

end Go.Proofs.Ytmhgmlnnipdomaa
