
/- interval.merge: its loop. -/
import Derived.Test.YtmhgmlnnipdomaaIvWalk

import Derived.Deep.LoopGhost

import Derived.Test.YtmhgmlnnipdomaaRCopy

import Derived.Test.YtmhgmlnnipdomaaCase

namespace Go.Proofs.Ytmhgmlnnipdomaa

open Go.RowKit Go.Deep

/-- What the closure tells next, at pa and pb. -/
structure Pend (A B : List IV) (pa pb : Nat) (q : V) (pa' pb' : Nat) (oa ob ok : Bool) : Prop where
  q : q = nxt (bdV A pa) (bdV B pb)
  a : pa' = bump (passA (bdV A pa) (bdV B pb)) pa
  b : pb' = bump (passA (bdV B pb) (bdV A pa)) pb
  oa : oa = decide (pa' % 2 = 1)
  ob : ob = decide (pb' % 2 = 1)
  ok : ok = (passA (bdV A pa) (bdV B pb) || passA (bdV B pb) (bdV A pa))
theorem pend_ex (A B : List IV) (pa pb : Nat) : ∃ (q : V) (pa' pb' : Nat) (oa ob ok : Bool), Pend A B pa pb q pa' pb' oa ob ok := ⟨_, _, _, _, _, _, rfl, rfl, rfl, rfl, rfl, rfl⟩
theorem iStep_pend {s : Nat} {va vb : Value} {A B : List IV} {pa pb pa' pb' : Nat} {qk qn : Int} {qs : ByteArray} {oa ob ok : Bool} {w : World} (hp : Pend A B pa pb ⟨qk, qn, qs⟩ pa' pb' oa ob ok) (hA : Ivs w va A) (hB : Ivs w vb B) (hpa : pa ≤ 4398046511104) (hpb : pb ≤ 4398046511104) (hs : WSt s va vb pa pb w) :
    Calls Try.prog 73 #[.pointer (some ⟨s, 0, none⟩), .pointer (some ⟨s + 2, 0, none⟩), .pointer (some ⟨s + 1, 0, none⟩), .pointer (some ⟨s + 3, 0, none⟩)] w fun e w' =>
      e = .returned (.tuple #[.agg #[.int .i64 qk, .int .i64 qn, .string qs], .bool oa, .bool ob, .bool ok]) ∧ WSt s va vb pa' pb' w' ∧ Mv2 (s + 2) (s + 3) w w' := by
  have h := iStep_any s va vb A B pa pb w hA hB hpa hpb hs
  unfold StepPost at h
  obtain ⟨h1, h2, h3, h4, h5, h6⟩ := hp
  rw [← h1, ← h2, ← h3, ← h4, ← h5, ← h6] at h
  exact h

theorem Pend.le {k : Bool → Bool → Bool} {A B M : List IV} {pa pb pa' pb' g : Nat} {q : V} {oa ob i : Bool} (hp : Pend A B pa pb q pa' pb' oa ob true) (h : MI k A B M pa pb i) (hm : 2 * A.length + 2 * B.length + 1 ≤ g + pa + pb) :
    2 ≤ g ∧ 2 * A.length + 2 * B.length + 1 ≤ (g - 1) + pa' + pb' ∧ pa' ≤ 2 * A.length ∧ pb' ≤ 2 * B.length := by
  have h1 := h.leA
  have h2 := h.leB
  have ho := hp.ok
  rw [hp.a, hp.b]
  cases hx : passA (bdV A pa) (bdV B pb) <;> cases hy : passA (bdV B pb) (bdV A pa)
  · rw [hx, hy] at ho; simp at ho
  · have := bdV_len (passA_iff.1 hy).1; simp [bump]; omega
  · have := bdV_len (passA_iff.1 hx).1; simp [bump]; omega
  · have := bdV_len (passA_iff.1 hy).1; have := bdV_len (passA_iff.1 hx).1; simp [bump]; omega
theorem Pend.or {A B : List IV} {pa pb pa' pb' : Nat} {q : V} {oa ob : Bool} (hp : Pend A B pa pb q pa' pb' oa ob true) : passA (bdV A pa) (bdV B pb) = true ∨ passA (bdV B pb) (bdV A pa) = true := by
  have ho := hp.ok
  revert ho
  cases passA (bdV A pa) (bdV B pb) <;> cases passA (bdV B pb) (bdV A pa) <;> simp
theorem Pend.same {k : Bool → Bool → Bool} {A B M : List IV} {pa pb pa' pb' : Nat} {q : V} {oa ob i : Bool} (hp : Pend A B pa pb q pa' pb' oa ob true) (hA : Ord A) (hB : Ord B) (h : MI k A B M pa pb i) (hk : k oa ob = i) : MI k A B M pa' pb' i := by
  have := h.same hA hB hp.or (by rw [← hp.a, ← hp.b, ← hp.oa, ← hp.ob]; exact hk)
  rw [← hp.a, ← hp.b] at this; exact this
theorem Pend.shut {k : Bool → Bool → Bool} {A B M0 : List IV} {x : IV} {pa pb pa' pb' : Nat} {q : V} {oa ob : Bool} (hp : Pend A B pa pb q pa' pb' oa ob true) (hA : Ord A) (hB : Ord B) (h : MI k A B (M0 ++ [x]) pa pb true) (hk : k oa ob = false) : MI k A B (M0 ++ [⟨x.f, q, false⟩]) pa' pb' false := by
  have := h.shut hA hB hp.or (by rw [← hp.a, ← hp.b, ← hp.oa, ← hp.ob]; exact hk)
  rw [← hp.a, ← hp.b, ← hp.q] at this; exact this
theorem Pend.more {k : Bool → Bool → Bool} {A B M : List IV} {pa pb pa' pb' : Nat} {q : V} {oa ob : Bool} (hp : Pend A B pa pb q pa' pb' oa ob true) (hA : Ord A) (hB : Ord B) (h : MI k A B M pa pb false) (hk : k oa ob = true) : MI k A B (M ++ [⟨q, z0, true⟩]) pa' pb' true := by
  have := h.more hA hB hp.or (by rw [← hp.a, ← hp.b, ← hp.oa, ← hp.ob]; exact hk)
  rw [← hp.a, ← hp.b, ← hp.q] at this; exact this
theorem own_ne {w : World} {base : Nat} {e t : TypeId} {size b : Nat} {v : Value} {n : Nat} {xs : List Value} {cur : Array Value} (h : w.ownsRow base e size v n xs) (hb : w.heap[b]? = some (.cells cur t (0, 0))) (ht : t ≠ e) : v.ownBlock ≠ some b := by
  rcases h.2 with ⟨rfl, _⟩ | ⟨g, cap, cur', rfl, _, hg, _⟩
  · simp [Value.ownBlock]
  · intro e
    simp only [Value.ownBlock, Option.some.injEq] at e
    subst e
    rw [hg] at hb
    simp only [Option.some.injEq, Obj.cells.injEq] at hb
    exact ht hb.2.1.symm

/-- What the loop of merge holds. -/
structure LJ (k : Bool → Bool → Bool) (A B : List IV) (s base : Nat) (va vb : Value) (w : World) (m : Value) (wr : World) (M : List IV) (pa pb pa' pb' bp : Nat) (q : V) (i oa ob ok : Bool) (g : Nat) : Prop where
  mi : MI k A B M pa pb i
  own : wr.ownsRow base 59 7 m M.length (ivCells M)
  pend : Pend A B pa pb q pa' pb' oa ob ok
  wst : WSt s va vb pa' pb' wr
  pt : wr.heap[bp]? = some (.cells #[.int .i64 q.k, .int .i64 q.n, .string q.s] 25 (0, 0))
  hb : base ≤ bp
  below : Below w.heap.size w wr
  meas : 2 * A.length + 2 * B.length + 1 ≤ g + pa + pb

theorem Mv2.frozen {p q : Nat} {a w : World} (h : Mv2 p q a w) {x : Addr} (hx : x.block < a.heap.size) (h1 : x.block ≠ p) (h2 : x.block ≠ q) : w.frozen? x = a.frozen? x := World.frozen?_of_block (w := a) (h.block x.block hx h1 h2)
theorem own_mv2 {p q base : Nat} {e : TypeId} {size n : Nat} {v : Value} {xs : List Value} {w w' : World} (h : w.ownsRow base e size v n xs) (hm : Mv2 p q w w') (hp : p < base) (hq : q < base) : w'.ownsRow base e size v n xs := by
  have hl := h.lt
  refine ⟨h.1, ?_⟩
  rcases h.2 with h0 | ⟨g, cap, cur, rfl, hg, hgg, r⟩
  · exact .inl h0
  · exact .inr ⟨g, cap, cur, rfl, hg, (hm.block g (hl g rfl).2 (by omega) (by omega)).trans hgg, r⟩
theorem own_set {base b o : Nat} {e : TypeId} {size n : Nat} {v u : Value} {xs : List Value} {w : World} (h : w.ownsRow base e size v n xs) (hb : v.ownBlock ≠ some b) : (w.setCell ⟨b, o, none⟩ u).ownsRow base e size v n xs := by
  refine ⟨h.1, ?_⟩
  rcases h.2 with h0 | ⟨g, cap, cur, rfl, hg, hgg, r⟩
  · exact .inl h0
  · exact .inr ⟨g, cap, cur, rfl, hg, (Below.heap_setCell _ _ _ _ (fun e => hb (by subst e; rfl))).trans hgg, r⟩
/-- The end of a round: the closure has told the next point, which is stored in the new variable. -/
theorem LJ.tail {k : Bool → Bool → Bool} {A B : List IV} {s : Nat} {va vb : Value} {w W0 w5 : World} {m : Value} {M : List IV} {pa pb pa' pb' : Nat} {rk rn : Int} {rs : ByteArray} {a0 a1 a2 : Value} {i oa ob ok : Bool} {g : Nat}
    (hmi : MI k A B M pa pb i) (hown : W0.ownsRow (s + 4) 59 7 m M.length (ivCells M)) (hp : Pend A B pa pb ⟨rk, rn, rs⟩ pa' pb' oa ob ok) (hst : WSt s va vb pa' pb' w5) (hmv : Mv2 (s + 2) (s + 3) (W0.alloc (.cells #[a0, a1, a2] 25)) w5)
    (hbel : Below w.heap.size w W0) (hs : s = w.heap.size) (hs4 : s + 4 ≤ W0.heap.size) (hme : 2 * A.length + 2 * B.length + 1 ≤ g + pa + pb) :
    LJ k A B s (s + 4) va vb w m (((w5.setCell ⟨W0.heap.size, 0, none⟩ (.int .i64 rk)).setCell ⟨W0.heap.size, 1, none⟩ (.int .i64 rn)).setCell ⟨W0.heap.size, 2, none⟩ (.string rs)) M pa pb pa' pb' W0.heap.size ⟨rk, rn, rs⟩ i oa ob ok g := by
  have hl := hown.lt
  have hne : m.ownBlock ≠ some W0.heap.size := fun e => by have := (hl _ e).2; omega
  have h5 : w5.heap[W0.heap.size]? = some (.cells #[a0, a1, a2] 25 (0, 0)) := (hmv.block _ (by simp) (by omega) (by omega)).trans (heap_alloc_new W0 _)
  have hsz := hmv.size
  simp only [World.size_alloc] at hsz
  have hwb : w.heap.size ≤ W0.heap.size := by omega
  have hb5 : Below w.heap.size w w5 := (hbel.alloc hbel.size _).trans (hmv.below (by omega) (by omega) (by simp only [World.size_alloc]; omega))
  refine ⟨hmi, own_set (own_set (own_set (own_mv2 (hown.alloc _) hmv (by omega) (by omega)) hne) hne) hne, hp, ((hst.setFar (by omega) _ _).setFar (by omega) _ _).setFar (by omega) _ _, ?_, hs4, ((hb5.setCell hwb _).setCell hwb _).setCell hwb _, hme⟩
  have e1 := heap_setCell_same w5 W0.heap.size 0 _ _ (.int .i64 rk) h5
  have e2 := heap_setCell_same _ W0.heap.size 1 _ _ (.int .i64 rn) e1
  have e3 := heap_setCell_same _ W0.heap.size 2 _ _ (.string rs) e2
  exact e3

theorem LJ.own' {k : Bool → Bool → Bool} {A B : List IV} {s base : Nat} {va vb : Value} {w : World} {m : Value} {wr : World} {M : List IV} {pa pb pa' pb' bp : Nat} {q : V} {i oa ob ok : Bool} {g nm : Nat} (h : LJ k A B s base va vb w m wr M pa pb pa' pb' bp q i oa ob ok g) (hn : M.length = nm) (O : Obj) :
    (wr.alloc O).ownsRow base 59 7 m nm (ivCells M) := by subst hn; exact h.own.alloc O
theorem grown_cell {w w' : World} {row : Option Nat} (h : w.grownBy w' row) {b : Nat} (hne : row ≠ some b) (hb : b < w.heap.size) (o : Nat) : w'.cell? ⟨b, o, none⟩ = w.cell? ⟨b, o, none⟩ :=
  World.cell?_of_block (w := w) (a := ⟨b, o, none⟩) (h.block b hb (fun e => hne e.symm))

/-- The cells behind a close. -/
theorem ivCells_shut (M0 : List IV) (x : IV) (q : V) :
    ((((ivCells (M0 ++ [x])).set (M0.length * 7 + 3) (.int .i64 q.k)).set (M0.length * 7 + 4) (.int .i64 q.n)).set (M0.length * 7 + 5) (.string q.s)).set (M0.length * 7 + 6) (.bool false) = ivCells (M0 ++ [⟨x.f, q, false⟩]) := by
  rw [ivCells_snoc, ivCells_snoc]
  have hl := length_ivCells M0
  have e : ∀ (j : Nat) (u : Value) (l : List Value), (ivCells M0 ++ l).set (M0.length * 7 + j) u = ivCells M0 ++ l.set j u := fun j u l => by
    rw [List.set_append_right _ _ (by omega)]
    rw [show M0.length * 7 + j - (ivCells M0).length = j by omega]
  rw [e, e, e, e]
  simp [IV.cells]

def MergePost (k : Bool → Bool → Bool) (A B : List IV) (w : World) (e : Ending) (w' : World) : Prop := ∃ v M, e = .returned v ∧ IvsAt (fun b => w.heap.size ≤ b) w' v M ∧ IsOp k A B M ∧ M.length ≤ A.length + B.length ∧ Below w.heap.size w w'


theorem ior_any (x y : Bool) (w : World) : Calls Try.prog 54 #[.bool x, .bool y] w fun e w' => e = .returned (.bool ((fun x y => x || y) x y)) ∧ w = w' := by
  cases x <;> cases y
  all_goals
    go_enter Try.func54, Try.ntmps54
    go_wp2_with fail
    go_ret
    exact ⟨rfl, rfl⟩

theorem iand_any (x y : Bool) (w : World) : Calls Try.prog 55 #[.bool x, .bool y] w fun e w' => e = .returned (.bool ((fun x y => x && y) x y)) ∧ w = w' := by
  cases x <;> cases y
  all_goals
    go_enter Try.func55, Try.ntmps55
    go_wp2_with fail
    go_ret
    exact ⟨rfl, rfl⟩

theorem inot_any (x y : Bool) (w : World) : Calls Try.prog 56 #[.bool x, .bool y] w fun e w' => e = .returned (.bool ((fun x y => x && !y) x y)) ∧ w = w' := by
  cases x <;> cases y
  all_goals
    go_enter Try.func56, Try.ntmps56
    go_wp2_with fail
    go_ret
    exact ⟨rfl, rfl⟩
end Go.Proofs.Ytmhgmlnnipdomaa
