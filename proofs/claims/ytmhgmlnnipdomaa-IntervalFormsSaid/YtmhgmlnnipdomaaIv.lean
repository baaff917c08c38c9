
/- Lists of intervals in memory; interval.Valid. -/
import Derived.Test.YtmhgmlnnipdomaaIvLeaf

import Derived.Test.YtmhgmlnnipdomaaCopy

namespace Go.Proofs.Ytmhgmlnnipdomaa

open Go.RowKit

/-- The seven cells of an interval stand at an address. -/
def IvC (w : World) (b o : Nat) (x : IV) : Prop := CellsV w b o x.f ∧ CellsV w b (o + 3) x.t ∧ w.cell? ⟨b, o + 6, none⟩ = some (.bool x.o)
theorem IvC.same {w w' : World} {b o : Nat} {x : IV} (hb : w'.heap[b]? = w.heap[b]?) (h : IvC w b o x) : IvC w' b o x := by
  have e : ∀ j, w'.cell? ⟨b, j, none⟩ = w.cell? ⟨b, j, none⟩ := fun j => World.cell?_of_block (w := w) (a := ⟨b, j, none⟩) hb
  obtain ⟨⟨h0, h1, h2⟩, ⟨h3, h4, h5⟩, h6⟩ := h
  exact ⟨⟨(e _).trans h0, (e _).trans h1, (e _).trans h2⟩, ⟨(e _).trans h3, (e _).trans h4, (e _).trans h5⟩, (e _).trans h6⟩

/-- A slice value reads as a list of intervals that stands in blocks of P. -/
def IvsAt (P : Nat → Prop) (w : World) (v : Value) (L : List IV) : Prop :=
  ∃ (a : Option Addr) (c : Nat), v = .slice a L.length c ∧ L.length ≤ c ∧ c ≤ maxLen ∧ (a = none → L.length = 0 ∧ c = 0) ∧ L.length ≤ 4398046511104 ∧
    ∀ j (h : j < L.length), ∃ b off, a = some ⟨b, off, none⟩ ∧ P b ∧ b < w.heap.size ∧ IvC w b (off + j * 7) L[j]
abbrev Ivs (w : World) (v : Value) (L : List IV) : Prop := IvsAt (fun _ => True) w v L
theorem IvsAt.keep {P : Nat → Prop} {w w' : World} {v : Value} {L : List IV} (h : IvsAt P w v L) (hs : w.heap.size ≤ w'.heap.size) (hk : ∀ b, P b → b < w.heap.size → w'.heap[b]? = w.heap[b]?) : IvsAt P w' v L := by
  obtain ⟨a, c, e, h1, h2, h3, hn, hi⟩ := h
  refine ⟨a, c, e, h1, h2, h3, hn, fun j hj => ?_⟩
  obtain ⟨b, off, ea, hp, hb, hc⟩ := hi j hj
  exact ⟨b, off, ea, hp, by omega, hc.same (hk b hp hb)⟩
theorem IvsAt.weak {P Q : Nat → Prop} {w : World} {v : Value} {L : List IV} (h : IvsAt P w v L) (hq : ∀ b, P b → Q b) : IvsAt Q w v L := by
  obtain ⟨a, c, e, h1, h2, h3, hn, hi⟩ := h
  refine ⟨a, c, e, h1, h2, h3, hn, fun j hj => ?_⟩
  obtain ⟨b, off, ea, hp, hb, hc⟩ := hi j hj
  exact ⟨b, off, ea, hq b hp, hb, hc⟩
theorem IvsAt.all {P : Nat → Prop} {w : World} {v : Value} {L : List IV} (h : IvsAt P w v L) : Ivs w v L := h.weak fun _ _ => trivial
theorem IvsAt.below {P : Nat → Prop} {w w' : World} {v : Value} {L : List IV} (h : IvsAt P w v L) (hb : Below w.heap.size w w') : IvsAt P w' v L :=
  h.keep hb.size fun b _ hlt => hb.block b hlt
theorem IvsAt.nil (P : Nat → Prop) (w : World) : IvsAt P w (.slice none 0 0) [] := ⟨none, 0, rfl, by simp, by simp, fun _ => ⟨rfl, rfl⟩, by simp, fun j h => absurd h (by simp)⟩

/-- The cells of a list of intervals, one behind the other. -/
def IV.cells (x : IV) : List Value := [.int .i64 x.f.k, .int .i64 x.f.n, .string x.f.s, .int .i64 x.t.k, .int .i64 x.t.n, .string x.t.s, .bool x.o]
def ivCells (L : List IV) : List Value := L.flatMap IV.cells
theorem length_ivCells : ∀ L : List IV, (ivCells L).length = L.length * 7
  | [] => rfl
  | x :: r => by
    have := length_ivCells r
    unfold ivCells at this ⊢
    simp [IV.cells, this]; omega
theorem ivCells_at : ∀ (L : List IV) (i : Nat) (h : i < L.length) (j : Nat), j < 7 → (ivCells L)[i * 7 + j]? = (L[i].cells)[j]?
  | x :: r, 0, _, j, hj => by
    unfold ivCells
    rw [List.flatMap_cons, List.getElem?_append_left (by simp [IV.cells]; omega)]
    simp
  | x :: r, i + 1, h, j, hj => by
    have ih := ivCells_at r i (by simpa using h) j hj
    have : (i + 1) * 7 + j = 7 + (i * 7 + j) := by omega
    rw [this]
    unfold ivCells at ih ⊢
    rw [List.flatMap_cons, List.getElem?_append_right (by simp [IV.cells])]
    simp [IV.cells]
    simpa [IV.cells] using ih
theorem ivCells_one : ∀ (L : List IV), ∀ v ∈ ivCells L, v.oneCell' = true := by
  intro L v hv
  unfold ivCells at hv
  rw [List.mem_flatMap] at hv
  obtain ⟨x, _, hx⟩ := hv
  simp only [IV.cells, List.mem_cons, List.not_mem_nil, or_false] at hx
  rcases hx with rfl | rfl | rfl | rfl | rfl | rfl | rfl <;> rfl
theorem ivCells_snoc (L : List IV) (x : IV) : ivCells (L ++ [x]) = ivCells L ++ x.cells := by unfold ivCells; simp
theorem ivC_cells {w : World} {b o : Nat} {x : IV} (h : ∀ j, j < 7 → w.cell? ⟨b, o + j, none⟩ = (x.cells)[j]?) : IvC w b o x :=
  ⟨⟨h 0 (by omega), h 1 (by omega), h 2 (by omega)⟩, ⟨h 3 (by omega), h 4 (by omega), h 5 (by omega)⟩, h 6 (by omega)⟩
/-- What the call owns as a row of intervals reads as one. -/
theorem ivs_own {w : World} {base : Nat} {v : Value} {L : List IV} (h : w.ownsRow base 59 7 v L.length (ivCells L)) (hl : L.length ≤ 4398046511104) : IvsAt (fun b => base ≤ b) w v L := by
  have hlt := h.lt
  rcases h.2 with ⟨rfl, h0⟩ | ⟨g, cap, cur, rfl, hg, hgg, hnc, hcm, hcs, htake⟩
  · obtain rfl : L = [] := List.eq_nil_of_length_eq_zero h0
    exact IvsAt.nil _ _
  · refine ⟨some ⟨g, 0, none⟩, cap, rfl, hnc, hcm, fun h => by simp at h, hl, fun j hj => ⟨g, 0, rfl, hg, (hlt g rfl).2, ivC_cells fun i hi => ?_⟩⟩
    rw [Nat.zero_add, h.cellAt (j * 7 + i) (by omega), ivCells_at L j hj i hi]

theorem ordL_drop (L : List IV) (k : Nat) (h : k < L.length) : ordL (L.drop k) = (okI L[k] && nextOk L[k] (L.drop (k + 1)) && ordL (L.drop (k + 1))) := by
  rw [List.drop_eq_getElem_cons h]; rfl
theorem nextOk_end (x : IV) (L : List IV) (k : Nat) (h : L.length ≤ k) : nextOk x (L.drop k) = true := by rw [List.drop_eq_nil_of_le h]; rfl
theorem nextOk_next (x : IV) (L : List IV) (k : Nat) (h : k < L.length) : nextOk x (L.drop k) = apartB x L[k] := by rw [List.drop_eq_getElem_cons h]; rfl

-- WALK
set_option linter.unusedSimpArgs false in
set_option maxRecDepth 100000 in
set_option maxHeartbeats 1500000 in
theorem iValid_any (v : Value) (L : List IV) (w : World) (h : Ivs w v L) : Calls Try.prog 11 #[v] w fun e w' => e = .returned (.bool (decide (L.length ≤ 64) && ordL L)) ∧ Below w.heap.size w w' := by
  obtain ⟨a, c, rfl, hc1, hc2, hnil, hn, hi⟩ := h
  have HI := Lib.hid hi
  clear hi hnil
  obtain ⟨n, hnn⟩ : ∃ n, L.length = n := ⟨_, rfl⟩
  rw [hnn] at hc1 hn ⊢
  have HN := Lib.hid hnn
  clear hnn
  by_cases h64 : 64 < n
  · have hd : decide (n ≤ 64) = false := by simp; omega
    rw [hd, Bool.false_and]
    clear hd
    go_enter Try.func11, Try.ntmps11
    go_wp2_with fail
    go_ret
    exact ⟨rfl, Below.refl _ _⟩
  · have hd : decide (n ≤ 64) = true := by simp; omega
    rw [hd, Bool.true_and]
    clear hd
    have hd64 : decide ((64 : Int) < n) = false := by simp; omega
    go_enter Try.func11, Try.ntmps11
    go_wp2_with fail
    go_loopw [10] (fun i wr => ∃ k : Nat, k ≤ n ∧ i = .int .i64 k ∧ Below w.heap.size w wr ∧ Hid (ordL L = ordL (L.drop k))) (fun i _ => n - (intOf i).toNat)
    case atStart => exact ⟨0, by omega, rfl, Below.refl _ _, rfl⟩
    case round =>
      obtain ⟨k, hk, rfl, hbw, ht⟩ := hrel
      have hws := hbw.size
      by_cases hlt : k < n
      · have hkL : k < L.length := by rw [HN.out]; exact hlt
        obtain ⟨b, off, rfl, -, hb, hc⟩ := HI.out k hkL
        have HE : Hid (ordL L = (okI L[k] && nextOk L[k] (L.drop (k + 1)) && ordL (L.drop (k + 1)))) := ht.out.trans (ordL_drop L k hkL)
        have hx0 := (hc.same (hbw.block b hb))
        have HZ : Hid (∀ (h : k + 1 < L.length), IvC wr b (off + (k + 1) * 7) L[k + 1]) := fun h => by
          obtain ⟨b', off', e, -, hb', hc'⟩ := HI.out (k + 1) h
          simp only [Option.some.injEq, Addr.mk.injEq] at e
          obtain ⟨rfl, rfl, -⟩ := e
          exact hc'.same (hbw.block b hb)
        have HNX1 : Hid (n ≤ k + 1 → nextOk L[k] (L.drop (k + 1)) = true) := fun h => nextOk_end _ _ _ (by rw [HN.out]; exact h)
        have HNX2 : Hid (∀ (h : k + 1 < L.length), nextOk L[k] (L.drop (k + 1)) = apartB L[k] L[k + 1]) := fun h => nextOk_next _ _ _ h
        generalize L[k] = x at hx0 HE HNX1 HNX2
        obtain ⟨⟨fk, fn, fs⟩, ⟨tk, tn, ts⟩, xo⟩ := x
        obtain ⟨⟨p0, p1, p2⟩, ⟨p3, p4, p5⟩, p6⟩ := hx0
        simp only at p0 p1 p2 p3 p4 p5 p6
        have HV : Hid (∀ W, Calls Try.prog 42 _ W (fun e w' => e = _ ∧ Below W.heap.size W w')) := fun W => (iValidInterval_any fk fn fs tk tn ts xo W).mono fun e w' h => ⟨h.1, h.2.below⟩
        clear hc ht
        generalize okI ⟨⟨fk, fn, fs⟩, ⟨tk, tn, ts⟩, xo⟩ = y at HE HV
        go_wp2_with fail
        have HZ2 : Hid (∀ (h : k + 1 < L.length), IvC (wr.alloc (.cells #[.int .i64 fk, .int .i64 fn, .string fs, .int .i64 tk, .int .i64 tn, .string ts, .bool xo] 59)) b (off + (k + 1) * 7) L[k + 1]) := fun h => (HZ.out h).same (((Below.refl wr.heap.size wr).alloc (Nat.le_refl _) _).block b (by omega))
        have zr : b < (wr.alloc (.cells #[.int .i64 fk, .int .i64 fn, .string fs, .int .i64 tk, .int .i64 tn, .string ts, .bool xo] 59)).heap.size := by simp; omega
        have q : ∀ j v, (#[.int .i64 fk, .int .i64 fn, .string fs, .int .i64 tk, .int .i64 tn, .string ts, .bool xo] : Array Value)[j]? = some v → (wr.alloc (.cells #[.int .i64 fk, .int .i64 fn, .string fs, .int .i64 tk, .int .i64 tn, .string ts, .bool xo] 59)).cell? ⟨wr.heap.size, j, none⟩ = some v := fun j v hv => (World.cell?_alloc_mark wr #[.int .i64 fk, .int .i64 fn, .string fs, .int .i64 tk, .int .i64 tn, .string ts, .bool xo] 59 (0, 0) j).trans hv
        have q0 : (wr.alloc (.cells #[.int .i64 fk, .int .i64 fn, .string fs, .int .i64 tk, .int .i64 tn, .string ts, .bool xo] 59)).cell? ⟨wr.heap.size, 0, none⟩ = some (.int .i64 fk) := q 0 _ rfl
        have q1 : (wr.alloc (.cells #[.int .i64 fk, .int .i64 fn, .string fs, .int .i64 tk, .int .i64 tn, .string ts, .bool xo] 59)).cell? ⟨wr.heap.size, 1, none⟩ = some (.int .i64 fn) := q 1 _ rfl
        have q2 : (wr.alloc (.cells #[.int .i64 fk, .int .i64 fn, .string fs, .int .i64 tk, .int .i64 tn, .string ts, .bool xo] 59)).cell? ⟨wr.heap.size, 2, none⟩ = some (.string fs) := q 2 _ rfl
        have q3 : (wr.alloc (.cells #[.int .i64 fk, .int .i64 fn, .string fs, .int .i64 tk, .int .i64 tn, .string ts, .bool xo] 59)).cell? ⟨wr.heap.size, 3, none⟩ = some (.int .i64 tk) := q 3 _ rfl
        have q4 : (wr.alloc (.cells #[.int .i64 fk, .int .i64 fn, .string fs, .int .i64 tk, .int .i64 tn, .string ts, .bool xo] 59)).cell? ⟨wr.heap.size, 4, none⟩ = some (.int .i64 tn) := q 4 _ rfl
        have q5 : (wr.alloc (.cells #[.int .i64 fk, .int .i64 fn, .string fs, .int .i64 tk, .int .i64 tn, .string ts, .bool xo] 59)).cell? ⟨wr.heap.size, 5, none⟩ = some (.string ts) := q 5 _ rfl
        have q6 : (wr.alloc (.cells #[.int .i64 fk, .int .i64 fn, .string fs, .int .i64 tk, .int .i64 tn, .string ts, .bool xo] 59)).cell? ⟨wr.heap.size, 6, none⟩ = some (.bool xo) := q 6 _ rfl
        have BW : Hid (Below w.heap.size w (wr.alloc (.cells #[.int .i64 fk, .int .i64 fn, .string fs, .int .i64 tk, .int .i64 tn, .string ts, .bool xo] 59))) := hbw.trans (((Below.refl _ _).alloc (Nat.le_refl _) _).mono hbw.size)
        have zq : wr.heap.size < (wr.alloc (.cells #[.int .i64 fk, .int .i64 fn, .string fs, .int .i64 tk, .int .i64 tn, .string ts, .bool xo] 59)).heap.size := by simp
        clear q HZ
        clear p0 p1 p2 p3 p4 p5 p6
        generalize (wr.alloc (.cells #[.int .i64 fk, .int .i64 fn, .string fs, .int .i64 tk, .int .i64 tn, .string ts, .bool xo] 59)) = wq at *
        cases y
        · clear HZ2 HNX1 HNX2
          have HE2 : Hid (ordL L = false) := by show _ = _; have := HE.out; simpa using this
          clear HE
          have HK : Hid (∀ W, Below wq.heap.size wq W → W.cell? ⟨wr.heap.size, 0, none⟩ = some (.int .i64 fk) ∧ W.cell? ⟨wr.heap.size, 1, none⟩ = some (.int .i64 fn) ∧ W.cell? ⟨wr.heap.size, 2, none⟩ = some (.string fs) ∧ W.cell? ⟨wr.heap.size, 3, none⟩ = some (.int .i64 tk) ∧ W.cell? ⟨wr.heap.size, 4, none⟩ = some (.int .i64 tn) ∧ W.cell? ⟨wr.heap.size, 5, none⟩ = some (.string ts) ∧ W.cell? ⟨wr.heap.size, 6, none⟩ = some (.bool xo)) := fun W hb => ⟨(hb.cell (p := ⟨wr.heap.size, 0, none⟩) zq).trans q0, (hb.cell (p := ⟨wr.heap.size, 1, none⟩) zq).trans q1, (hb.cell (p := ⟨wr.heap.size, 2, none⟩) zq).trans q2, (hb.cell (p := ⟨wr.heap.size, 3, none⟩) zq).trans q3, (hb.cell (p := ⟨wr.heap.size, 4, none⟩) zq).trans q4, (hb.cell (p := ⟨wr.heap.size, 5, none⟩) zq).trans q5, (hb.cell (p := ⟨wr.heap.size, 6, none⟩) zq).trans q6⟩
          refine wp_region_held_drew (S := (fun W => W.cell? ⟨wr.heap.size, 0, none⟩ = some (.int .i64 fk) ∧ W.cell? ⟨wr.heap.size, 1, none⟩ = some (.int .i64 fn) ∧ W.cell? ⟨wr.heap.size, 2, none⟩ = some (.string fs) ∧ W.cell? ⟨wr.heap.size, 3, none⟩ = some (.int .i64 tk) ∧ W.cell? ⟨wr.heap.size, 4, none⟩ = some (.int .i64 tn) ∧ W.cell? ⟨wr.heap.size, 5, none⟩ = some (.string ts) ∧ W.cell? ⟨wr.heap.size, 6, none⟩ = some (.bool xo))) (by kernel_rfl) (by exact ⟨q0, q1, q2, q3, q4, q5, q6⟩) (fun hHeld => ?_)
          refine wpAnyH_takeD (i := 0) (d := 15) (v := ?_) rfl rfl (by kernel_rfl) (by kernel_rfl) (by kernel_rfl) (fun _ _ _ h => h) (Or.inl ⟨by rfl, ?_⟩) (by assumption) ?_; rotate_left
          · intro W hSw; (try dsimp only at hSw); go_simp; (try with_reducible rfl)
          (try simp only [List.set_cons_zero, List.set_cons_succ])
          refine wpAnyH_ready (rs := [1]) (by kernel_rfl) (by simp) ?_
          refine AllReadyH.cons rfl (fun K hK => ?_) AllReadyH.nil
          go_simp
          go_at_call 42
          refine (HV.out _).mono ?_
          rintro e wzd ⟨rfl, hg⟩
          have hbd : Below wq.heap.size wq wzd := Below.trans (by (repeat (first | exact Below.refl _ _ | assumption | refine Below.drew ?_ | refine Below.setCell ?_ (by simp; try omega) _ | refine Below.alloc ?_ (by simp; try omega) _))) (hg.mono (by first | (simp; done) | ((try simp); exact Below.size (by assumption))))
          obtain ⟨q0d, q1d, q2d, q3d, q4d, q5d, q6d⟩ := HK.out wzd hbd
          clear hg hHeld
          refine hK.out _ _ (by exact ⟨q0d, q1d, q2d, q3d, q4d, q5d, q6d⟩) (fun hHeld => ?_)
          clear hK K
          (try simp only [List.set_cons_zero, List.set_cons_succ])
          refine wpAnyH_takeD (i := 2) (d := 17) (v := ?_) rfl rfl (by kernel_rfl) (by kernel_rfl) (by kernel_rfl) (fun _ _ _ h => h) (Or.inl ⟨by rfl, ?_⟩) (by assumption) ?_; rotate_left
          · intro W hSw; (try dsimp only at hSw); go_simp; (try with_reducible rfl)
          (try simp only [List.set_cons_zero, List.set_cons_succ])
          refine wpAnyH_takeD (i := 3) (d := 18) (v := ?_) rfl rfl (by kernel_rfl) (by kernel_rfl) (by kernel_rfl) (fun _ _ _ h => h) (Or.inl ⟨by rfl, ?_⟩) (by assumption) ?_; rotate_left
          · intro W hSw; (try dsimp only at hSw); go_simp; (try with_reducible rfl)
          (try simp only [List.set_cons_zero, List.set_cons_succ])
          refine wpAnyH_skips (by kernel_rfl) (fun _ _ _ _ _ h => h) (by assumption) [(4, 19), (5, 20), (6, 21), (7, 22), (8, 23), (9, 24), (10, 25), (11, 26), (12, 27), (13, 28), (14, 29), (15, 30), (16, 31), (17, 32), (18, 33)] (fuel := 1) (by kernel_rfl) ?_
          simp only [skipPut, skipList]
          (try simp only [List.set_cons_zero, List.set_cons_succ])
          refine wpAnyH_takeD (i := 19) (d := 34) (v := ?_) rfl rfl (by kernel_rfl) (by kernel_rfl) (by kernel_rfl) (fun _ _ _ h => h) (Or.inl ⟨by rfl, ?_⟩) (by assumption) ?_; rotate_left
          · intro W hSw; (try dsimp only at hSw); go_simp; (try with_reducible rfl)
          (try simp only [List.set_cons_zero, List.set_cons_succ])
          refine wpAnyH_done (by kernel_rfl) ?_ _
          go_wp2_with fail
          go_ret
          exact ⟨by rw [HE2.out]; try rfl, BW.out.trans (Below.mono (by (repeat (first | exact Below.refl _ _ | assumption | refine Below.drew ?_ | refine Below.setCell ?_ (by simp; try omega) _ | refine Below.alloc ?_ (by simp; try omega) _))) BW.out.size)⟩
        · by_cases hl : k + 1 < n
          · have hl2 : k + 1 < L.length := by rw [HN.out]; exact hl
            have hz := HZ2.out hl2
            have HNX := Lib.hid (HNX2.out hl2)
            generalize L[k + 1] = y at hz HNX
            obtain ⟨⟨gk, gn, gs⟩, ⟨uk, un, us⟩, yo⟩ := y
            obtain ⟨⟨r0, r1, r2⟩, ⟨r3, r4, r5⟩, r6⟩ := hz
            simp only at r0 r1 r2 r3 r4 r5 r6
            have HA : Hid (∀ W, Calls Try.prog 43 _ W (fun e w' => e = _ ∧ Below W.heap.size W w')) := fun W => (iApart_any fk fn fs tk tn ts xo gk gn gs uk un us yo W).mono fun e w' h => ⟨h.1, h.2.below⟩
            have HE2 : Hid (ordL L = (apartB ⟨⟨fk, fn, fs⟩, ⟨tk, tn, ts⟩, xo⟩ ⟨⟨gk, gn, gs⟩, ⟨uk, un, us⟩, yo⟩ && ordL (L.drop (k + 1)))) := by have := HE.out; show _ = _; rw [HNX.out] at this; simpa using this
            clear HE HZ2 HNX1 HNX2 HNX
            have hkn : decide ((k : Int) + 1 < n) = true := by simp; omega
            have hw1 : IntKind.i64.wrap ((k : Int) + 1) = k + 1 := by rw [IntKind.wrap_i64]; omega
            have hi0 : (0 : Int) ≤ k + 1 := by omega
            have hi1 : (k : Int) + 1 < n := by omega
            generalize apartB ⟨⟨fk, fn, fs⟩, ⟨tk, tn, ts⟩, xo⟩ ⟨⟨gk, gn, gs⟩, ⟨uk, un, us⟩, yo⟩ = z at HA HE2
            have HK : Hid (∀ W, Below wq.heap.size wq W → W.cell? ⟨wr.heap.size, 0, none⟩ = some (.int .i64 fk) ∧ W.cell? ⟨wr.heap.size, 1, none⟩ = some (.int .i64 fn) ∧ W.cell? ⟨wr.heap.size, 2, none⟩ = some (.string fs) ∧ W.cell? ⟨wr.heap.size, 3, none⟩ = some (.int .i64 tk) ∧ W.cell? ⟨wr.heap.size, 4, none⟩ = some (.int .i64 tn) ∧ W.cell? ⟨wr.heap.size, 5, none⟩ = some (.string ts) ∧ W.cell? ⟨wr.heap.size, 6, none⟩ = some (.bool xo) ∧ W.cell? ⟨b, off + (k + 1) * 7, none⟩ = some (.int .i64 gk) ∧ W.cell? ⟨b, off + (k + 1) * 7 + 1, none⟩ = some (.int .i64 gn) ∧ W.cell? ⟨b, off + (k + 1) * 7 + 2, none⟩ = some (.string gs) ∧ W.cell? ⟨b, off + (k + 1) * 7 + 3, none⟩ = some (.int .i64 uk) ∧ W.cell? ⟨b, off + (k + 1) * 7 + 4, none⟩ = some (.int .i64 un) ∧ W.cell? ⟨b, off + (k + 1) * 7 + 5, none⟩ = some (.string us) ∧ W.cell? ⟨b, off + (k + 1) * 7 + 6, none⟩ = some (.bool yo)) := fun W hb => ⟨(hb.cell (p := ⟨wr.heap.size, 0, none⟩) zq).trans q0, (hb.cell (p := ⟨wr.heap.size, 1, none⟩) zq).trans q1, (hb.cell (p := ⟨wr.heap.size, 2, none⟩) zq).trans q2, (hb.cell (p := ⟨wr.heap.size, 3, none⟩) zq).trans q3, (hb.cell (p := ⟨wr.heap.size, 4, none⟩) zq).trans q4, (hb.cell (p := ⟨wr.heap.size, 5, none⟩) zq).trans q5, (hb.cell (p := ⟨wr.heap.size, 6, none⟩) zq).trans q6, (hb.cell (p := ⟨b, off + (k + 1) * 7, none⟩) zr).trans r0, (hb.cell (p := ⟨b, off + (k + 1) * 7 + 1, none⟩) zr).trans r1, (hb.cell (p := ⟨b, off + (k + 1) * 7 + 2, none⟩) zr).trans r2, (hb.cell (p := ⟨b, off + (k + 1) * 7 + 3, none⟩) zr).trans r3, (hb.cell (p := ⟨b, off + (k + 1) * 7 + 4, none⟩) zr).trans r4, (hb.cell (p := ⟨b, off + (k + 1) * 7 + 5, none⟩) zr).trans r5, (hb.cell (p := ⟨b, off + (k + 1) * 7 + 6, none⟩) zr).trans r6⟩
            cases z
            · have HE3 : Hid (ordL L = false) := by have := HE2.out; show _ = _; simpa using this
              clear HE2
              refine wp_region_held_drew (S := (fun W => W.cell? ⟨wr.heap.size, 0, none⟩ = some (.int .i64 fk) ∧ W.cell? ⟨wr.heap.size, 1, none⟩ = some (.int .i64 fn) ∧ W.cell? ⟨wr.heap.size, 2, none⟩ = some (.string fs) ∧ W.cell? ⟨wr.heap.size, 3, none⟩ = some (.int .i64 tk) ∧ W.cell? ⟨wr.heap.size, 4, none⟩ = some (.int .i64 tn) ∧ W.cell? ⟨wr.heap.size, 5, none⟩ = some (.string ts) ∧ W.cell? ⟨wr.heap.size, 6, none⟩ = some (.bool xo) ∧ W.cell? ⟨b, off + (k + 1) * 7, none⟩ = some (.int .i64 gk) ∧ W.cell? ⟨b, off + (k + 1) * 7 + 1, none⟩ = some (.int .i64 gn) ∧ W.cell? ⟨b, off + (k + 1) * 7 + 2, none⟩ = some (.string gs) ∧ W.cell? ⟨b, off + (k + 1) * 7 + 3, none⟩ = some (.int .i64 uk) ∧ W.cell? ⟨b, off + (k + 1) * 7 + 4, none⟩ = some (.int .i64 un) ∧ W.cell? ⟨b, off + (k + 1) * 7 + 5, none⟩ = some (.string us) ∧ W.cell? ⟨b, off + (k + 1) * 7 + 6, none⟩ = some (.bool yo))) (by kernel_rfl) (by exact ⟨q0, q1, q2, q3, q4, q5, q6, r0, r1, r2, r3, r4, r5, r6⟩) (fun hHeld => ?_)
              refine wpAnyH_takeD (i := 0) (d := 15) (v := ?_) rfl rfl (by kernel_rfl) (by kernel_rfl) (by kernel_rfl) (fun _ _ _ h => h) (Or.inl ⟨by rfl, ?_⟩) (by assumption) ?_; rotate_left
              · intro W hSw; (try dsimp only at hSw); go_simp; (try with_reducible rfl)
              (try simp only [List.set_cons_zero, List.set_cons_succ])
              refine wpAnyH_ready (rs := [1]) (by kernel_rfl) (by simp) ?_
              refine AllReadyH.cons rfl (fun K hK => ?_) AllReadyH.nil
              go_simp
              go_at_call 42
              refine (HV.out _).mono ?_
              rintro e wzd ⟨rfl, hg⟩
              have hbd : Below wq.heap.size wq wzd := Below.trans (by (repeat (first | exact Below.refl _ _ | assumption | refine Below.drew ?_ | refine Below.setCell ?_ (by simp; try omega) _ | refine Below.alloc ?_ (by simp; try omega) _))) (hg.mono (by first | (simp; done) | ((try simp); exact Below.size (by assumption))))
              obtain ⟨q0d, q1d, q2d, q3d, q4d, q5d, q6d, r0d, r1d, r2d, r3d, r4d, r5d, r6d⟩ := HK.out wzd hbd
              clear hg hHeld
              refine hK.out _ _ (by exact ⟨q0d, q1d, q2d, q3d, q4d, q5d, q6d, r0d, r1d, r2d, r3d, r4d, r5d, r6d⟩) (fun hHeld => ?_)
              clear hK K
              (try simp only [List.set_cons_zero, List.set_cons_succ])
              refine wpAnyH_takeD (i := 2) (d := 17) (v := ?_) rfl rfl (by kernel_rfl) (by kernel_rfl) (by kernel_rfl) (fun _ _ _ h => h) (Or.inl ⟨by rfl, ?_⟩) (by assumption) ?_; rotate_left
              · intro W hSw; (try dsimp only at hSw); go_simp; (try with_reducible rfl)
              (try simp only [List.set_cons_zero, List.set_cons_succ])
              refine wpAnyH_takeD (i := 3) (d := 18) (v := ?_) rfl rfl (by kernel_rfl) (by kernel_rfl) (by kernel_rfl) (fun _ _ _ h => h) (Or.inl ⟨by rfl, ?_⟩) (by assumption) ?_; rotate_left
              · intro W hSw; (try dsimp only at hSw); go_simp; (try with_reducible rfl)
              (try simp only [List.set_cons_zero, List.set_cons_succ])
              refine wpAnyH_takeD (i := 4) (d := 19) (v := ?_) rfl rfl (by kernel_rfl) (by kernel_rfl) (by kernel_rfl) (fun _ _ _ h => h) (Or.inl ⟨by rfl, ?_⟩) (by assumption) ?_; rotate_left
              · intro W hSw; (try dsimp only at hSw); go_simp; (try with_reducible rfl)
              (try simp only [List.set_cons_zero, List.set_cons_succ])
              refine wpAnyH_takeD (i := 5) (d := 20) (v := ?_) rfl rfl (by kernel_rfl) (by kernel_rfl) (by kernel_rfl) (fun _ _ _ h => h) (Or.inl ⟨by rfl, ?_⟩) (by assumption) ?_; rotate_left
              · intro W hSw; (try dsimp only at hSw); go_simp; (try with_reducible rfl)
              (try simp only [List.set_cons_zero, List.set_cons_succ])
              refine wpAnyH_takeD (i := 6) (d := 21) (v := ?_) rfl rfl (by kernel_rfl) (by kernel_rfl) (by kernel_rfl) (fun _ _ _ h => h) (Or.inl ⟨by rfl, ?_⟩) (by assumption) ?_; rotate_left
              · intro W hSw; (try dsimp only at hSw); go_simp; (try with_reducible rfl)
              (try simp only [List.set_cons_zero, List.set_cons_succ])
              refine wpAnyH_takeD (i := 7) (d := 22) (v := ?_) rfl rfl (by kernel_rfl) (by kernel_rfl) (by kernel_rfl) (fun _ _ _ h => h) (Or.inl ⟨by rfl, ?_⟩) (by assumption) ?_; rotate_left
              · intro W hSw; (try dsimp only at hSw); go_simp; (try with_reducible rfl)
              (try simp only [List.set_cons_zero, List.set_cons_succ])
              refine wpAnyH_takeD (i := 8) (d := 23) (v := ?_) rfl rfl (by kernel_rfl) (by kernel_rfl) (by kernel_rfl) (fun _ _ _ h => h) (Or.inl ⟨by rfl, ?_⟩) (by assumption) ?_; rotate_left
              · intro W hSw; (try dsimp only at hSw); go_simp; (try with_reducible rfl)
              (try simp only [List.set_cons_zero, List.set_cons_succ])
              refine wpAnyH_takeD (i := 9) (d := 24) (v := ?_) rfl rfl (by kernel_rfl) (by kernel_rfl) (by kernel_rfl) (fun _ _ _ h => h) (Or.inl ⟨by rfl, ?_⟩) (by assumption) ?_; rotate_left
              · intro W hSw; (try dsimp only at hSw); go_simp; (try with_reducible rfl)
              (try simp only [List.set_cons_zero, List.set_cons_succ])
              refine wpAnyH_takeD (i := 10) (d := 25) (v := ?_) rfl rfl (by kernel_rfl) (by kernel_rfl) (by kernel_rfl) (fun _ _ _ h => h) (Or.inl ⟨by rfl, ?_⟩) (by assumption) ?_; rotate_left
              · intro W hSw; (try dsimp only at hSw); go_simp; (try with_reducible rfl)
              (try simp only [List.set_cons_zero, List.set_cons_succ])
              refine wpAnyH_takeD (i := 11) (d := 26) (v := ?_) rfl rfl (by kernel_rfl) (by kernel_rfl) (by kernel_rfl) (fun _ _ _ h => h) (Or.inl ⟨by rfl, ?_⟩) (by assumption) ?_; rotate_left
              · intro W hSw; (try dsimp only at hSw); go_simp; (try with_reducible rfl)
              (try simp only [List.set_cons_zero, List.set_cons_succ])
              refine wpAnyH_takeD (i := 12) (d := 27) (v := ?_) rfl rfl (by kernel_rfl) (by kernel_rfl) (by kernel_rfl) (fun _ _ _ h => h) (Or.inl ⟨by rfl, ?_⟩) (by assumption) ?_; rotate_left
              · intro W hSw; (try dsimp only at hSw); go_simp; (try with_reducible rfl)
              (try simp only [List.set_cons_zero, List.set_cons_succ])
              refine wpAnyH_takeD (i := 13) (d := 28) (v := ?_) rfl rfl (by kernel_rfl) (by kernel_rfl) (by kernel_rfl) (fun _ _ _ h => h) (Or.inl ⟨by rfl, ?_⟩) (by assumption) ?_; rotate_left
              · intro W hSw; (try dsimp only at hSw); go_simp; (try with_reducible rfl)
              (try simp only [List.set_cons_zero, List.set_cons_succ])
              refine wpAnyH_takeD (i := 14) (d := 29) (v := ?_) rfl rfl (by kernel_rfl) (by kernel_rfl) (by kernel_rfl) (fun _ _ _ h => h) (Or.inl ⟨by rfl, ?_⟩) (by assumption) ?_; rotate_left
              · intro W hSw; (try dsimp only at hSw); go_simp; (try with_reducible rfl)
              (try simp only [List.set_cons_zero, List.set_cons_succ])
              refine wpAnyH_takeD (i := 15) (d := 30) (v := ?_) rfl rfl (by kernel_rfl) (by kernel_rfl) (by kernel_rfl) (fun _ _ _ h => h) (Or.inl ⟨by rfl, ?_⟩) (by assumption) ?_; rotate_left
              · intro W hSw; (try dsimp only at hSw); go_simp; (try with_reducible rfl)
              (try simp only [List.set_cons_zero, List.set_cons_succ])
              refine wpAnyH_ready (rs := [16]) (by kernel_rfl) (by simp) ?_
              refine AllReadyH.cons rfl (fun K hK => ?_) AllReadyH.nil
              go_simp
              go_at_call 43
              refine (HA.out _).mono ?_
              rintro e wze ⟨rfl, hg⟩
              have hbe : Below wq.heap.size wq wze := Below.trans (by (repeat (first | exact Below.refl _ _ | assumption | refine Below.drew ?_ | refine Below.setCell ?_ (by simp; try omega) _ | refine Below.alloc ?_ (by simp; try omega) _))) (hg.mono (by first | (simp; done) | ((try simp); exact Below.size (by assumption))))
              obtain ⟨q0e, q1e, q2e, q3e, q4e, q5e, q6e, r0e, r1e, r2e, r3e, r4e, r5e, r6e⟩ := HK.out wze hbe
              clear hg hHeld
              refine hK.out _ _ (by exact ⟨q0e, q1e, q2e, q3e, q4e, q5e, q6e, r0e, r1e, r2e, r3e, r4e, r5e, r6e⟩) (fun hHeld => ?_)
              clear hK K
              (try simp only [List.set_cons_zero, List.set_cons_succ])
              refine wpAnyH_takeD (i := 17) (d := 32) (v := ?_) rfl rfl (by kernel_rfl) (by kernel_rfl) (by kernel_rfl) (fun _ _ _ h => h) (Or.inl ⟨by rfl, ?_⟩) (by assumption) ?_; rotate_left
              · intro W hSw; (try dsimp only at hSw); go_simp; (try with_reducible rfl)
              (try simp only [List.set_cons_zero, List.set_cons_succ])
              refine wpAnyH_takeD (i := 18) (d := 33) (v := ?_) rfl rfl (by kernel_rfl) (by kernel_rfl) (by kernel_rfl) (fun _ _ _ h => h) (Or.inl ⟨by rfl, ?_⟩) (by assumption) ?_; rotate_left
              · intro W hSw; (try dsimp only at hSw); go_simp; (try with_reducible rfl)
              (try simp only [List.set_cons_zero, List.set_cons_succ])
              refine wpAnyH_takeD (i := 19) (d := 34) (v := ?_) rfl rfl (by kernel_rfl) (by kernel_rfl) (by kernel_rfl) (fun _ _ _ h => h) (Or.inl ⟨by rfl, ?_⟩) (by assumption) ?_; rotate_left
              · intro W hSw; (try dsimp only at hSw); go_simp; (try with_reducible rfl)
              (try simp only [List.set_cons_zero, List.set_cons_succ])
              refine wpAnyH_done (by kernel_rfl) ?_ _
              go_wp2_with fail
              go_ret
              exact ⟨by rw [HE3.out]; try rfl, BW.out.trans (Below.mono (by (repeat (first | exact Below.refl _ _ | assumption | refine Below.drew ?_ | refine Below.setCell ?_ (by simp; try omega) _ | refine Below.alloc ?_ (by simp; try omega) _))) BW.out.size)⟩
            · have HE3 : Hid (ordL L = ordL (L.drop (k + 1))) := by have := HE2.out; show _ = _; simpa using this
              clear HE2
              refine wp_region_held_drew (S := (fun W => W.cell? ⟨wr.heap.size, 0, none⟩ = some (.int .i64 fk) ∧ W.cell? ⟨wr.heap.size, 1, none⟩ = some (.int .i64 fn) ∧ W.cell? ⟨wr.heap.size, 2, none⟩ = some (.string fs) ∧ W.cell? ⟨wr.heap.size, 3, none⟩ = some (.int .i64 tk) ∧ W.cell? ⟨wr.heap.size, 4, none⟩ = some (.int .i64 tn) ∧ W.cell? ⟨wr.heap.size, 5, none⟩ = some (.string ts) ∧ W.cell? ⟨wr.heap.size, 6, none⟩ = some (.bool xo) ∧ W.cell? ⟨b, off + (k + 1) * 7, none⟩ = some (.int .i64 gk) ∧ W.cell? ⟨b, off + (k + 1) * 7 + 1, none⟩ = some (.int .i64 gn) ∧ W.cell? ⟨b, off + (k + 1) * 7 + 2, none⟩ = some (.string gs) ∧ W.cell? ⟨b, off + (k + 1) * 7 + 3, none⟩ = some (.int .i64 uk) ∧ W.cell? ⟨b, off + (k + 1) * 7 + 4, none⟩ = some (.int .i64 un) ∧ W.cell? ⟨b, off + (k + 1) * 7 + 5, none⟩ = some (.string us) ∧ W.cell? ⟨b, off + (k + 1) * 7 + 6, none⟩ = some (.bool yo))) (by kernel_rfl) (by exact ⟨q0, q1, q2, q3, q4, q5, q6, r0, r1, r2, r3, r4, r5, r6⟩) (fun hHeld => ?_)
              refine wpAnyH_takeD (i := 0) (d := 15) (v := ?_) rfl rfl (by kernel_rfl) (by kernel_rfl) (by kernel_rfl) (fun _ _ _ h => h) (Or.inl ⟨by rfl, ?_⟩) (by assumption) ?_; rotate_left
              · intro W hSw; (try dsimp only at hSw); go_simp; (try with_reducible rfl)
              (try simp only [List.set_cons_zero, List.set_cons_succ])
              refine wpAnyH_ready (rs := [1]) (by kernel_rfl) (by simp) ?_
              refine AllReadyH.cons rfl (fun K hK => ?_) AllReadyH.nil
              go_simp
              go_at_call 42
              refine (HV.out _).mono ?_
              rintro e wzd ⟨rfl, hg⟩
              have hbd : Below wq.heap.size wq wzd := Below.trans (by (repeat (first | exact Below.refl _ _ | assumption | refine Below.drew ?_ | refine Below.setCell ?_ (by simp; try omega) _ | refine Below.alloc ?_ (by simp; try omega) _))) (hg.mono (by first | (simp; done) | ((try simp); exact Below.size (by assumption))))
              obtain ⟨q0d, q1d, q2d, q3d, q4d, q5d, q6d, r0d, r1d, r2d, r3d, r4d, r5d, r6d⟩ := HK.out wzd hbd
              clear hg hHeld
              refine hK.out _ _ (by exact ⟨q0d, q1d, q2d, q3d, q4d, q5d, q6d, r0d, r1d, r2d, r3d, r4d, r5d, r6d⟩) (fun hHeld => ?_)
              clear hK K
              (try simp only [List.set_cons_zero, List.set_cons_succ])
              refine wpAnyH_takeD (i := 2) (d := 17) (v := ?_) rfl rfl (by kernel_rfl) (by kernel_rfl) (by kernel_rfl) (fun _ _ _ h => h) (Or.inl ⟨by rfl, ?_⟩) (by assumption) ?_; rotate_left
              · intro W hSw; (try dsimp only at hSw); go_simp; (try with_reducible rfl)
              (try simp only [List.set_cons_zero, List.set_cons_succ])
              refine wpAnyH_takeD (i := 3) (d := 18) (v := ?_) rfl rfl (by kernel_rfl) (by kernel_rfl) (by kernel_rfl) (fun _ _ _ h => h) (Or.inl ⟨by rfl, ?_⟩) (by assumption) ?_; rotate_left
              · intro W hSw; (try dsimp only at hSw); go_simp; (try with_reducible rfl)
              (try simp only [List.set_cons_zero, List.set_cons_succ])
              refine wpAnyH_takeD (i := 4) (d := 19) (v := ?_) rfl rfl (by kernel_rfl) (by kernel_rfl) (by kernel_rfl) (fun _ _ _ h => h) (Or.inl ⟨by rfl, ?_⟩) (by assumption) ?_; rotate_left
              · intro W hSw; (try dsimp only at hSw); go_simp; (try with_reducible rfl)
              (try simp only [List.set_cons_zero, List.set_cons_succ])
              refine wpAnyH_takeD (i := 5) (d := 20) (v := ?_) rfl rfl (by kernel_rfl) (by kernel_rfl) (by kernel_rfl) (fun _ _ _ h => h) (Or.inl ⟨by rfl, ?_⟩) (by assumption) ?_; rotate_left
              · intro W hSw; (try dsimp only at hSw); go_simp; (try with_reducible rfl)
              (try simp only [List.set_cons_zero, List.set_cons_succ])
              refine wpAnyH_takeD (i := 6) (d := 21) (v := ?_) rfl rfl (by kernel_rfl) (by kernel_rfl) (by kernel_rfl) (fun _ _ _ h => h) (Or.inl ⟨by rfl, ?_⟩) (by assumption) ?_; rotate_left
              · intro W hSw; (try dsimp only at hSw); go_simp; (try with_reducible rfl)
              (try simp only [List.set_cons_zero, List.set_cons_succ])
              refine wpAnyH_takeD (i := 7) (d := 22) (v := ?_) rfl rfl (by kernel_rfl) (by kernel_rfl) (by kernel_rfl) (fun _ _ _ h => h) (Or.inl ⟨by rfl, ?_⟩) (by assumption) ?_; rotate_left
              · intro W hSw; (try dsimp only at hSw); go_simp; (try with_reducible rfl)
              (try simp only [List.set_cons_zero, List.set_cons_succ])
              refine wpAnyH_takeD (i := 8) (d := 23) (v := ?_) rfl rfl (by kernel_rfl) (by kernel_rfl) (by kernel_rfl) (fun _ _ _ h => h) (Or.inl ⟨by rfl, ?_⟩) (by assumption) ?_; rotate_left
              · intro W hSw; (try dsimp only at hSw); go_simp; (try with_reducible rfl)
              (try simp only [List.set_cons_zero, List.set_cons_succ])
              refine wpAnyH_takeD (i := 9) (d := 24) (v := ?_) rfl rfl (by kernel_rfl) (by kernel_rfl) (by kernel_rfl) (fun _ _ _ h => h) (Or.inl ⟨by rfl, ?_⟩) (by assumption) ?_; rotate_left
              · intro W hSw; (try dsimp only at hSw); go_simp; (try with_reducible rfl)
              (try simp only [List.set_cons_zero, List.set_cons_succ])
              refine wpAnyH_takeD (i := 10) (d := 25) (v := ?_) rfl rfl (by kernel_rfl) (by kernel_rfl) (by kernel_rfl) (fun _ _ _ h => h) (Or.inl ⟨by rfl, ?_⟩) (by assumption) ?_; rotate_left
              · intro W hSw; (try dsimp only at hSw); go_simp; (try with_reducible rfl)
              (try simp only [List.set_cons_zero, List.set_cons_succ])
              refine wpAnyH_takeD (i := 11) (d := 26) (v := ?_) rfl rfl (by kernel_rfl) (by kernel_rfl) (by kernel_rfl) (fun _ _ _ h => h) (Or.inl ⟨by rfl, ?_⟩) (by assumption) ?_; rotate_left
              · intro W hSw; (try dsimp only at hSw); go_simp; (try with_reducible rfl)
              (try simp only [List.set_cons_zero, List.set_cons_succ])
              refine wpAnyH_takeD (i := 12) (d := 27) (v := ?_) rfl rfl (by kernel_rfl) (by kernel_rfl) (by kernel_rfl) (fun _ _ _ h => h) (Or.inl ⟨by rfl, ?_⟩) (by assumption) ?_; rotate_left
              · intro W hSw; (try dsimp only at hSw); go_simp; (try with_reducible rfl)
              (try simp only [List.set_cons_zero, List.set_cons_succ])
              refine wpAnyH_takeD (i := 13) (d := 28) (v := ?_) rfl rfl (by kernel_rfl) (by kernel_rfl) (by kernel_rfl) (fun _ _ _ h => h) (Or.inl ⟨by rfl, ?_⟩) (by assumption) ?_; rotate_left
              · intro W hSw; (try dsimp only at hSw); go_simp; (try with_reducible rfl)
              (try simp only [List.set_cons_zero, List.set_cons_succ])
              refine wpAnyH_takeD (i := 14) (d := 29) (v := ?_) rfl rfl (by kernel_rfl) (by kernel_rfl) (by kernel_rfl) (fun _ _ _ h => h) (Or.inl ⟨by rfl, ?_⟩) (by assumption) ?_; rotate_left
              · intro W hSw; (try dsimp only at hSw); go_simp; (try with_reducible rfl)
              (try simp only [List.set_cons_zero, List.set_cons_succ])
              refine wpAnyH_takeD (i := 15) (d := 30) (v := ?_) rfl rfl (by kernel_rfl) (by kernel_rfl) (by kernel_rfl) (fun _ _ _ h => h) (Or.inl ⟨by rfl, ?_⟩) (by assumption) ?_; rotate_left
              · intro W hSw; (try dsimp only at hSw); go_simp; (try with_reducible rfl)
              (try simp only [List.set_cons_zero, List.set_cons_succ])
              refine wpAnyH_ready (rs := [16]) (by kernel_rfl) (by simp) ?_
              refine AllReadyH.cons rfl (fun K hK => ?_) AllReadyH.nil
              go_simp
              go_at_call 43
              refine (HA.out _).mono ?_
              rintro e wze ⟨rfl, hg⟩
              have hbe : Below wq.heap.size wq wze := Below.trans (by (repeat (first | exact Below.refl _ _ | assumption | refine Below.drew ?_ | refine Below.setCell ?_ (by simp; try omega) _ | refine Below.alloc ?_ (by simp; try omega) _))) (hg.mono (by first | (simp; done) | ((try simp); exact Below.size (by assumption))))
              obtain ⟨q0e, q1e, q2e, q3e, q4e, q5e, q6e, r0e, r1e, r2e, r3e, r4e, r5e, r6e⟩ := HK.out wze hbe
              clear hg hHeld
              refine hK.out _ _ (by exact ⟨q0e, q1e, q2e, q3e, q4e, q5e, q6e, r0e, r1e, r2e, r3e, r4e, r5e, r6e⟩) (fun hHeld => ?_)
              clear hK K
              (try simp only [List.set_cons_zero, List.set_cons_succ])
              refine wpAnyH_takeD (i := 17) (d := 32) (v := ?_) rfl rfl (by kernel_rfl) (by kernel_rfl) (by kernel_rfl) (fun _ _ _ h => h) (Or.inl ⟨by rfl, ?_⟩) (by assumption) ?_; rotate_left
              · intro W hSw; (try dsimp only at hSw); go_simp; (try with_reducible rfl)
              (try simp only [List.set_cons_zero, List.set_cons_succ])
              refine wpAnyH_takeD (i := 18) (d := 33) (v := ?_) rfl rfl (by kernel_rfl) (by kernel_rfl) (by kernel_rfl) (fun _ _ _ h => h) (Or.inl ⟨by rfl, ?_⟩) (by assumption) ?_; rotate_left
              · intro W hSw; (try dsimp only at hSw); go_simp; (try with_reducible rfl)
              (try simp only [List.set_cons_zero, List.set_cons_succ])
              refine wpAnyH_takeD (i := 19) (d := 34) (v := ?_) rfl rfl (by kernel_rfl) (by kernel_rfl) (by kernel_rfl) (fun _ _ _ h => h) (Or.inl ⟨by rfl, ?_⟩) (by assumption) ?_; rotate_left
              · intro W hSw; (try dsimp only at hSw); go_simp; (try with_reducible rfl)
              (try simp only [List.set_cons_zero, List.set_cons_succ])
              refine wpAnyH_done (by kernel_rfl) ?_ _
              go_wp2_with fail
              go_roundw
              case rel => exact ⟨k + 1, by omega, by go_num, BW.out.trans (Below.mono (by (repeat (first | exact Below.refl _ _ | assumption | refine Below.drew ?_ | refine Below.setCell ?_ (by simp; try omega) _ | refine Below.alloc ?_ (by simp; try omega) _))) BW.out.size), HE3⟩
              case measure => simp [intOf]; omega
          · have HE2 : Hid (ordL L = ordL (L.drop (k + 1))) := by have := HE.out; show _ = _; rw [HNX1.out (by omega)] at this; simpa using this
            clear HE HZ2 HNX1 HNX2
            have hkn : decide ((k : Int) + 1 < n) = false := by simp; omega
            have hw1 : IntKind.i64.wrap ((k : Int) + 1) = k + 1 := by rw [IntKind.wrap_i64]; omega
            have HK : Hid (∀ W, Below wq.heap.size wq W → W.cell? ⟨wr.heap.size, 0, none⟩ = some (.int .i64 fk) ∧ W.cell? ⟨wr.heap.size, 1, none⟩ = some (.int .i64 fn) ∧ W.cell? ⟨wr.heap.size, 2, none⟩ = some (.string fs) ∧ W.cell? ⟨wr.heap.size, 3, none⟩ = some (.int .i64 tk) ∧ W.cell? ⟨wr.heap.size, 4, none⟩ = some (.int .i64 tn) ∧ W.cell? ⟨wr.heap.size, 5, none⟩ = some (.string ts) ∧ W.cell? ⟨wr.heap.size, 6, none⟩ = some (.bool xo)) := fun W hb => ⟨(hb.cell (p := ⟨wr.heap.size, 0, none⟩) zq).trans q0, (hb.cell (p := ⟨wr.heap.size, 1, none⟩) zq).trans q1, (hb.cell (p := ⟨wr.heap.size, 2, none⟩) zq).trans q2, (hb.cell (p := ⟨wr.heap.size, 3, none⟩) zq).trans q3, (hb.cell (p := ⟨wr.heap.size, 4, none⟩) zq).trans q4, (hb.cell (p := ⟨wr.heap.size, 5, none⟩) zq).trans q5, (hb.cell (p := ⟨wr.heap.size, 6, none⟩) zq).trans q6⟩
            refine wp_region_held_drew (S := (fun W => W.cell? ⟨wr.heap.size, 0, none⟩ = some (.int .i64 fk) ∧ W.cell? ⟨wr.heap.size, 1, none⟩ = some (.int .i64 fn) ∧ W.cell? ⟨wr.heap.size, 2, none⟩ = some (.string fs) ∧ W.cell? ⟨wr.heap.size, 3, none⟩ = some (.int .i64 tk) ∧ W.cell? ⟨wr.heap.size, 4, none⟩ = some (.int .i64 tn) ∧ W.cell? ⟨wr.heap.size, 5, none⟩ = some (.string ts) ∧ W.cell? ⟨wr.heap.size, 6, none⟩ = some (.bool xo))) (by kernel_rfl) (by exact ⟨q0, q1, q2, q3, q4, q5, q6⟩) (fun hHeld => ?_)
            refine wpAnyH_takeD (i := 0) (d := 15) (v := ?_) rfl rfl (by kernel_rfl) (by kernel_rfl) (by kernel_rfl) (fun _ _ _ h => h) (Or.inl ⟨by rfl, ?_⟩) (by assumption) ?_; rotate_left
            · intro W hSw; (try dsimp only at hSw); go_simp; (try with_reducible rfl)
            (try simp only [List.set_cons_zero, List.set_cons_succ])
            refine wpAnyH_ready (rs := [1]) (by kernel_rfl) (by simp) ?_
            refine AllReadyH.cons rfl (fun K hK => ?_) AllReadyH.nil
            go_simp
            go_at_call 42
            refine (HV.out _).mono ?_
            rintro e wzd ⟨rfl, hg⟩
            have hbd : Below wq.heap.size wq wzd := Below.trans (by (repeat (first | exact Below.refl _ _ | assumption | refine Below.drew ?_ | refine Below.setCell ?_ (by simp; try omega) _ | refine Below.alloc ?_ (by simp; try omega) _))) (hg.mono (by first | (simp; done) | ((try simp); exact Below.size (by assumption))))
            obtain ⟨q0d, q1d, q2d, q3d, q4d, q5d, q6d⟩ := HK.out wzd hbd
            clear hg hHeld
            refine hK.out _ _ (by exact ⟨q0d, q1d, q2d, q3d, q4d, q5d, q6d⟩) (fun hHeld => ?_)
            clear hK K
            (try simp only [List.set_cons_zero, List.set_cons_succ])
            refine wpAnyH_takeD (i := 2) (d := 17) (v := ?_) rfl rfl (by kernel_rfl) (by kernel_rfl) (by kernel_rfl) (fun _ _ _ h => h) (Or.inl ⟨by rfl, ?_⟩) (by assumption) ?_; rotate_left
            · intro W hSw; (try dsimp only at hSw); go_simp; (try with_reducible rfl)
            (try simp only [List.set_cons_zero, List.set_cons_succ])
            refine wpAnyH_takeD (i := 3) (d := 18) (v := ?_) rfl rfl (by kernel_rfl) (by kernel_rfl) (by kernel_rfl) (fun _ _ _ h => h) (Or.inl ⟨by rfl, ?_⟩) (by assumption) ?_; rotate_left
            · intro W hSw; (try dsimp only at hSw); go_simp; (try with_reducible rfl)
            (try simp only [List.set_cons_zero, List.set_cons_succ])
            refine wpAnyH_takeD (i := 4) (d := 19) (v := ?_) rfl rfl (by kernel_rfl) (by kernel_rfl) (by kernel_rfl) (fun _ _ _ h => h) (Or.inl ⟨by rfl, ?_⟩) (by assumption) ?_; rotate_left
            · intro W hSw; (try dsimp only at hSw); go_simp; (try with_reducible rfl)
            (try simp only [List.set_cons_zero, List.set_cons_succ])
            refine wpAnyH_takeD (i := 5) (d := 20) (v := ?_) rfl rfl (by kernel_rfl) (by kernel_rfl) (by kernel_rfl) (fun _ _ _ h => h) (Or.inl ⟨by rfl, ?_⟩) (by assumption) ?_; rotate_left
            · intro W hSw; (try dsimp only at hSw); go_simp; (try with_reducible rfl)
            (try simp only [List.set_cons_zero, List.set_cons_succ])
            refine wpAnyH_takeD (i := 6) (d := 21) (v := ?_) rfl rfl (by kernel_rfl) (by kernel_rfl) (by kernel_rfl) (fun _ _ _ h => h) (Or.inl ⟨by rfl, ?_⟩) (by assumption) ?_; rotate_left
            · intro W hSw; (try dsimp only at hSw); go_simp; (try with_reducible rfl)
            (try simp only [List.set_cons_zero, List.set_cons_succ])
            refine wpAnyH_takeD (i := 7) (d := 22) (v := ?_) rfl rfl (by kernel_rfl) (by kernel_rfl) (by kernel_rfl) (fun _ _ _ h => h) (Or.inl ⟨by rfl, ?_⟩) (by assumption) ?_; rotate_left
            · intro W hSw; (try dsimp only at hSw); go_simp; (try with_reducible rfl)
            (try simp only [List.set_cons_zero, List.set_cons_succ])
            refine wpAnyH_takeD (i := 8) (d := 23) (v := ?_) rfl rfl (by kernel_rfl) (by kernel_rfl) (by kernel_rfl) (fun _ _ _ h => h) (Or.inl ⟨by rfl, ?_⟩) (by assumption) ?_; rotate_left
            · intro W hSw; (try dsimp only at hSw); go_simp; (try with_reducible rfl)
            (try simp only [List.set_cons_zero, List.set_cons_succ])
            refine wpAnyH_takeD (i := 9) (d := 24) (v := ?_) rfl rfl (by kernel_rfl) (by kernel_rfl) (by kernel_rfl) (fun _ _ _ h => h) (Or.inl ⟨by rfl, ?_⟩) (by assumption) ?_; rotate_left
            · intro W hSw; (try dsimp only at hSw); go_simp; (try with_reducible rfl)
            (try simp only [List.set_cons_zero, List.set_cons_succ])
            refine wpAnyH_skips (by kernel_rfl) (fun _ _ _ _ _ h => h) (by assumption) [(10, 25), (11, 26), (12, 27), (13, 28), (14, 29), (15, 30), (16, 31), (17, 32)] (fuel := 2) (by kernel_rfl) ?_
            simp only [skipPut, skipList]
            (try simp only [List.set_cons_zero, List.set_cons_succ])
            refine wpAnyH_takeD (i := 18) (d := 33) (v := ?_) rfl rfl (by kernel_rfl) (by kernel_rfl) (by kernel_rfl) (fun _ _ _ h => h) (Or.inl ⟨by rfl, ?_⟩) (by assumption) ?_; rotate_left
            · intro W hSw; (try dsimp only at hSw); go_simp; (try with_reducible rfl)
            (try simp only [List.set_cons_zero, List.set_cons_succ])
            refine wpAnyH_takeD (i := 19) (d := 34) (v := ?_) rfl rfl (by kernel_rfl) (by kernel_rfl) (by kernel_rfl) (fun _ _ _ h => h) (Or.inl ⟨by rfl, ?_⟩) (by assumption) ?_; rotate_left
            · intro W hSw; (try dsimp only at hSw); go_simp; (try with_reducible rfl)
            (try simp only [List.set_cons_zero, List.set_cons_succ])
            refine wpAnyH_done (by kernel_rfl) ?_ _
            go_wp2_with fail
            go_roundw
            case rel => exact ⟨k + 1, by omega, by go_num, BW.out.trans (Below.mono (by (repeat (first | exact Below.refl _ _ | assumption | refine Below.drew ?_ | refine Below.setCell ?_ (by simp; try omega) _ | refine Below.alloc ?_ (by simp; try omega) _))) BW.out.size), HE2⟩
            case measure => simp [intOf]; omega
      · have HE2 : Hid (ordL L = true) := by have := ht.out; rw [List.drop_eq_nil_of_le (by rw [HN.out]; omega)] at this; exact this
        clear ht
        go_wp2_with fail
        go_ret
        exact ⟨by rw [HE2.out]; try rfl, hbw⟩
end Go.Proofs.Ytmhgmlnnipdomaa
