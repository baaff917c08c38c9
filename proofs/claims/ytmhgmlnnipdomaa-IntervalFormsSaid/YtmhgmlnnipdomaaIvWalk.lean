
/- interval.walk and its closure. -/
import Derived.Test.YtmhgmlnnipdomaaIvMergeMath

namespace Go.Proofs.Ytmhgmlnnipdomaa

open Go.RowKit

/-- Only blocks p and q may have turned. -/
structure Mv2 (p q : Nat) (w w' : World) : Prop where
  os : w'.os = w.os
  tape : w'.tape = w.tape
  output : w'.output = w.output
  size : w.heap.size ≤ w'.heap.size
  block : ∀ k, k < w.heap.size → k ≠ p → k ≠ q → w'.heap[k]? = w.heap[k]?
theorem Mv2.refl (p q : Nat) (w : World) : Mv2 p q w w := ⟨rfl, rfl, rfl, Nat.le_refl _, fun _ _ _ _ => rfl⟩
theorem Mv2.trans {p q : Nat} {a b c : World} (h : Mv2 p q a b) (k : Mv2 p q b c) : Mv2 p q a c :=
  ⟨k.os.trans h.os, k.tape.trans h.tape, k.output.trans h.output, Nat.le_trans h.size k.size, fun i hi h1 h2 => (k.block i (Nat.lt_of_lt_of_le hi h.size) h1 h2).trans (h.block i hi h1 h2)⟩
theorem Mv2.of_below {p q : Nat} {a b : World} (h : Below a.heap.size a b) : Mv2 p q a b := ⟨h.os, h.tape, h.output, h.size, fun k hk _ _ => h.block k hk⟩
theorem Mv2.below {p q B : Nat} {a b : World} (h : Mv2 p q a b) (hp : B ≤ p) (hq : B ≤ q) (hs : B ≤ a.heap.size) : Below B a b := ⟨h.os, h.tape, h.output, h.size, fun k hk => h.block k (by omega) (by omega) (by omega)⟩
theorem Mv2.setP {p q : Nat} {a w : World} (h : Mv2 p q a w) (o : Nat) (v : Value) : Mv2 p q a (w.setCell ⟨p, o, none⟩ v) :=
  ⟨h.os, h.tape, h.output, by simp; exact h.size, fun k hk h1 h2 => by rw [Below.heap_setCell _ _ _ _ h1]; exact h.block k hk h1 h2⟩
theorem Mv2.setQ {p q : Nat} {a w : World} (h : Mv2 p q a w) (o : Nat) (v : Value) : Mv2 p q a (w.setCell ⟨q, o, none⟩ v) :=
  ⟨h.os, h.tape, h.output, by simp; exact h.size, fun k hk h1 h2 => by rw [Below.heap_setCell _ _ _ _ h2]; exact h.block k hk h1 h2⟩
theorem Mv2.setN {p q : Nat} {a w : World} (h : Mv2 p q a w) {b : Nat} (hb : a.heap.size ≤ b) (o : Nat) (v : Value) : Mv2 p q a (w.setCell ⟨b, o, none⟩ v) :=
  ⟨h.os, h.tape, h.output, by simp; exact h.size, fun k hk h1 h2 => by rw [Below.heap_setCell _ _ _ _ (show k ≠ b by omega)]; exact h.block k hk h1 h2⟩
theorem Mv2.alloc {p q : Nat} {a w : World} (h : Mv2 p q a w) (o : Obj) : Mv2 p q a (w.alloc o) := h.trans (Mv2.of_below ((Below.refl _ _).alloc (Nat.le_refl _) _))
theorem Mv2.drew {p q : Nat} {a w : World} (h : Mv2 p q a w) : Mv2 p q a w.drew := ⟨h.os, h.tape, h.output, h.size, h.block⟩
theorem Mv2.drewN {p q : Nat} {a w : World} (h : Mv2 p q a w) (n : Nat) : Mv2 p q a (w.drewN n) := ⟨h.os, h.tape, h.output, h.size, h.block⟩
theorem Mv2.cell {p q : Nat} {a w : World} (h : Mv2 p q a w) {x : Addr} (hx : x.block < a.heap.size) (h1 : x.block ≠ p) (h2 : x.block ≠ q) : w.cell? x = a.cell? x := World.cell?_of_block (w := a) (h.block x.block hx h1 h2)

theorem set3_cells (W : World) (b : Nat) (x y z : Value) (h0 : ∃ v, W.cell? ⟨b, 0, none⟩ = some v) (h1 : ∃ v, W.cell? ⟨b, 1, none⟩ = some v) (h2 : ∃ v, W.cell? ⟨b, 2, none⟩ = some v) :
    (((W.setCell ⟨b, 0, none⟩ x).setCell ⟨b, 1, none⟩ y).setCell ⟨b, 2, none⟩ z).cell? ⟨b, 0, none⟩ = some x ∧ (((W.setCell ⟨b, 0, none⟩ x).setCell ⟨b, 1, none⟩ y).setCell ⟨b, 2, none⟩ z).cell? ⟨b, 1, none⟩ = some y ∧
    (((W.setCell ⟨b, 0, none⟩ x).setCell ⟨b, 1, none⟩ y).setCell ⟨b, 2, none⟩ z).cell? ⟨b, 2, none⟩ = some z := by
  obtain ⟨v0, h0⟩ := h0
  obtain ⟨v1, h1⟩ := h1
  obtain ⟨v2, h2⟩ := h2
  have n01 : (⟨b, 0, none⟩ : Addr) ≠ ⟨b, 1, none⟩ := by simp
  have n02 : (⟨b, 0, none⟩ : Addr) ≠ ⟨b, 2, none⟩ := by simp
  have n12 : (⟨b, 1, none⟩ : Addr) ≠ ⟨b, 2, none⟩ := by simp
  refine ⟨?_, ?_, ?_⟩
  · rw [World.cell?_setCell_other _ _ _ _ n02.symm, World.cell?_setCell_other _ _ _ _ n01.symm]; exact World.cell?_setCell_same _ _ _ h0
  · rw [World.cell?_setCell_other _ _ _ _ n12.symm]; exact World.cell?_setCell_same _ _ _ ((World.cell?_setCell_other _ _ _ _ n01).trans h1)
  · exact World.cell?_setCell_same _ _ _ ((World.cell?_setCell_other _ _ _ _ n12).trans ((World.cell?_setCell_other _ _ _ _ n02).trans h2))
theorem setO_cell (W : World) (b c : Nat) (v : Value) (j : Nat) (h : b ≠ c) : (W.setCell ⟨c, 0, none⟩ v).cell? ⟨b, j, none⟩ = W.cell? ⟨b, j, none⟩ := World.cell?_setCell_other _ _ _ _ (fun e => h (congrArg Addr.block e).symm)

/-- What the closure holds: both lists in blocks s and s + 1, both counts in s + 2 and s + 3. -/
structure WSt (s : Nat) (va vb : Value) (pa pb : Nat) (w : World) : Prop where
  lt : s + 3 < w.heap.size
  a : w.cell? ⟨s, 0, none⟩ = some va
  b : w.cell? ⟨s + 1, 0, none⟩ = some vb
  ca : w.cell? ⟨s + 2, 0, none⟩ = some (.int .i64 pa)
  cb : w.cell? ⟨s + 3, 0, none⟩ = some (.int .i64 pb)
  fa : w.frozen? ⟨s + 2, 0, none⟩ = false
  fb : w.frozen? ⟨s + 3, 0, none⟩ = false
theorem WSt.below {s : Nat} {va vb : Value} {pa pb : Nat} {w w' : World} (h : WSt s va vb pa pb w) (hb : Below w.heap.size w w') : WSt s va vb pa pb w' := by
  have l := h.lt
  have hc : ∀ k, k ≤ 3 → w'.cell? ⟨s + k, 0, none⟩ = w.cell? ⟨s + k, 0, none⟩ := fun k hk => hb.cell (p := ⟨s + k, 0, none⟩) (show s + k < _ by omega)
  have hf : ∀ k, k ≤ 3 → w'.frozen? ⟨s + k, 0, none⟩ = w.frozen? ⟨s + k, 0, none⟩ := fun k hk => hb.frozen (p := ⟨s + k, 0, none⟩) (show s + k < _ by omega)
  exact ⟨Nat.lt_of_lt_of_le l hb.size, (hc 0 (by omega)).trans h.a, (hc 1 (by omega)).trans h.b, (hc 2 (by omega)).trans h.ca, (hc 3 (by omega)).trans h.cb, (hf 2 (by omega)).trans h.fa, (hf 3 (by omega)).trans h.fb⟩
/-- The same behind writes to another row. -/
theorem WSt.other {s : Nat} {va vb : Value} {pa pb : Nat} {w w' : World} (h : WSt s va vb pa pb w) (hs : w.heap.size ≤ w'.heap.size) (hk : ∀ k, k ≤ 3 → w'.heap[s + k]? = w.heap[s + k]?) : WSt s va vb pa pb w' := by
  have l := h.lt
  have hc : ∀ k, k ≤ 3 → w'.cell? ⟨s + k, 0, none⟩ = w.cell? ⟨s + k, 0, none⟩ := fun k hk' => World.cell?_of_block (w := w) (a := ⟨s + k, 0, none⟩) (hk k hk')
  have hf : ∀ k, k ≤ 3 → w'.frozen? ⟨s + k, 0, none⟩ = w.frozen? ⟨s + k, 0, none⟩ := fun k hk' => World.frozen?_of_block (w := w) (a := ⟨s + k, 0, none⟩) (hk k hk')
  exact ⟨by omega, (hc 0 (by omega)).trans h.a, (hc 1 (by omega)).trans h.b, (hc 2 (by omega)).trans h.ca, (hc 3 (by omega)).trans h.cb, (hf 2 (by omega)).trans h.fa, (hf 3 (by omega)).trans h.fb⟩

theorem WSt.setFar {s : Nat} {va vb : Value} {pa pb : Nat} {w : World} (h : WSt s va vb pa pb w) {b : Nat} (hb : s + 3 < b) (o : Nat) (v : Value) : WSt s va vb pa pb (w.setCell ⟨b, o, none⟩ v) :=
  h.other (by simp) fun k hk => Below.heap_setCell _ _ _ _ (show s + k ≠ b by omega)
theorem WSt.alloc {s : Nat} {va vb : Value} {pa pb : Nat} {w : World} (h : WSt s va vb pa pb w) (o : Obj) : WSt s va vb pa pb (w.alloc o) := h.below ((Below.refl _ _).alloc (Nat.le_refl _) _)
theorem WSt.drew {s : Nat} {va vb : Value} {pa pb : Nat} {w : World} (h : WSt s va vb pa pb w) : WSt s va vb pa pb w.drew := h.below (Below.refl _ _).drew
theorem WSt.bumpA {s : Nat} {va vb : Value} {pa pb : Nat} {w : World} (h : WSt s va vb pa pb w) : WSt s va vb (pa + 1) pb (w.setCell ⟨s + 2, 0, none⟩ (.int .i64 ((pa : Int) + 1))) :=
  ⟨by simp; exact h.lt, (World.cell?_setCell_other _ _ _ _ (by simp)).trans h.a, (World.cell?_setCell_other _ _ _ _ (by simp)).trans h.b, World.cell?_setCell_same _ _ _ h.ca, (World.cell?_setCell_other _ _ _ _ (by simp)).trans h.cb,
    by rw [World.frozen?_setCell]; exact h.fa, by rw [World.frozen?_setCell]; exact h.fb⟩
theorem WSt.bumpB {s : Nat} {va vb : Value} {pa pb : Nat} {w : World} (h : WSt s va vb pa pb w) : WSt s va vb pa (pb + 1) (w.setCell ⟨s + 3, 0, none⟩ (.int .i64 ((pb : Int) + 1))) :=
  ⟨by simp; exact h.lt, (World.cell?_setCell_other _ _ _ _ (by simp)).trans h.a, (World.cell?_setCell_other _ _ _ _ (by simp)).trans h.b, (World.cell?_setCell_other _ _ _ _ (by simp)).trans h.ca, World.cell?_setCell_same _ _ _ h.cb,
    by rw [World.frozen?_setCell]; exact h.fa, by rw [World.frozen?_setCell]; exact h.fb⟩

/-- What the closure returns. -/
def StepPost (s : Nat) (va vb : Value) (A B : List IV) (pa pb : Nat) (w : World) (e : Ending) (w' : World) : Prop :=
  e = .returned (.tuple #[.agg #[.int .i64 (nxt (bdV A pa) (bdV B pb)).k, .int .i64 (nxt (bdV A pa) (bdV B pb)).n, .string (nxt (bdV A pa) (bdV B pb)).s],
    .bool (decide (bump (passA (bdV A pa) (bdV B pb)) pa % 2 = 1)), .bool (decide (bump (passA (bdV B pb) (bdV A pa)) pb % 2 = 1)), .bool (passA (bdV A pa) (bdV B pb) || passA (bdV B pb) (bdV A pa))]) ∧
  WSt s va vb (bump (passA (bdV A pa) (bdV B pb)) pa) (bump (passA (bdV B pb) (bdV A pa)) pb) w' ∧ Mv2 (s + 2) (s + 3) w w'

theorem oddN (n : Nat) (hn : n ≤ 4398046511105) : Int.tmod (n : Int) 2 = ((n % 2 : Nat) : Int) := by rw [Int.tmod_eq_emod_of_nonneg (by omega)]; omega
theorem oddB (n : Nat) : (((n % 2 : Nat) : Int) == 1) = decide (n % 2 = 1) := by
  rw [Bool.eq_iff_iff]; simp only [beq_iff_eq, decide_eq_true_eq]; omega


set_option linter.unusedSimpArgs false in
set_option maxRecDepth 100000 in
set_option maxHeartbeats 2000000 in
theorem iStep_none (s : Nat) (va vb : Value) (A B : List IV) (pa pb : Nat) (w : World) (fk fn : Int) (fs : ByteArray) (gk gn : Int) (gs : ByteArray) (hA : Ivs w va A) (hB : Ivs w vb B) (hpa : pa ≤ 4398046511104) (hpb : pb ≤ 4398046511104) (hs : WSt s va vb pa pb w)
    (ea : bdV A pa = (⟨fk, fn, fs⟩, false)) (eb : bdV B pb = (⟨gk, gn, gs⟩, false)) :
    Calls Try.prog 73 #[.pointer (some ⟨s, 0, none⟩), .pointer (some ⟨s + 2, 0, none⟩), .pointer (some ⟨s + 1, 0, none⟩), .pointer (some ⟨s + 3, 0, none⟩)] w fun e w' =>
      e = .returned (.tuple #[.agg #[.int .i64 0, .int .i64 0, .string ⟨#[]⟩], .bool (decide ((pa) % 2 = 1)), .bool (decide ((pb) % 2 = 1)), .bool false]) ∧ WSt s va vb (pa) (pb) w' ∧ Mv2 (s + 2) (s + 3) w w' := by
  have HA : Hid (∀ W, Below w.heap.size w W → Calls Try.prog 74 #[va, .int .i64 pa] W fun e w' => e = .returned (retV (⟨fk, fn, fs⟩, false)) ∧ Below W.heap.size W w') := fun W hb => by rw [← ea]; exact iBound_any va A pa W (hA.below hb) hpa
  have HB : Hid (∀ W, Below w.heap.size w W → Calls Try.prog 74 #[vb, .int .i64 pb] W fun e w' => e = .returned (retV (⟨gk, gn, gs⟩, false)) ∧ Below W.heap.size W w') := fun W hb => by rw [← eb]; exact iBound_any vb B pb W (hB.below hb) hpb
  simp only [retV] at HA HB
  obtain ⟨aa, ac, rfl⟩ := hA.shape
  obtain ⟨ba, bc, rfl⟩ := hB.shape
  obtain ⟨la, hla⟩ : ∃ l, A.length = l := ⟨_, rfl⟩
  obtain ⟨lb, hlb⟩ : ∃ l, B.length = l := ⟨_, rfl⟩
  rw [hla] at HA hs ⊢
  rw [hlb] at HB hs ⊢
  have HS := Lib.hid hs
  obtain ⟨h0, h1, h2, h3, h4, h5, h6⟩ := hs
  have k0 : s < w.heap.size := by omega
  have k1 : s + 1 < w.heap.size := by omega
  have k2 : s + 2 < w.heap.size := by omega
  clear ea eb hA hB hla hlb
  obtain ⟨ra, hra⟩ : ∃ r : Int, Int.tmod (((pa) : Nat) : Int) 2 = r := ⟨_, rfl⟩
  obtain ⟨rb, hrb⟩ : ∃ r : Int, Int.tmod (((pb) : Nat) : Int) 2 = r := ⟨_, rfl⟩
  have era : (ra == 1) = decide ((pa) % 2 = 1) := by rw [← hra, oddN _ (by omega)]; exact oddB _
  have erb : (rb == 1) = decide ((pb) % 2 = 1) := by rw [← hrb, oddN _ (by omega)]; exact oddB _
  generalize decide ((pa) % 2 = 1) = oa at era ⊢
  generalize decide ((pb) % 2 = 1) = ob at erb ⊢
  have hwa : IntKind.i64.wrap ((pa : Int) + 1) = pa + 1 := by rw [IntKind.wrap_i64]; omega
  have hwb : IntKind.i64.wrap ((pb : Int) + 1) = pb + 1 := by rw [IntKind.wrap_i64]; omega
  have hma : IntKind.i64.wrap ra = ra := by rw [← hra, oddN _ (by omega), IntKind.wrap_i64]; omega
  have hmb : IntKind.i64.wrap rb = rb := by rw [← hrb, oddN _ (by omega), IntKind.wrap_i64]; omega
  skip
  skip
  go_enter Try.func73, Try.ntmps73
  go_wp2_with fail
  refine (HA.out _ (by (repeat (first | exact Below.refl _ _ | assumption | refine Below.drew ?_ | refine Below.setCell ?_ (by first | omega | (simp only [World.size_alloc]; omega) | (simp; try omega)) _ | refine Below.alloc ?_ (by first | omega | (simp only [World.size_alloc]; omega) | (simp; try omega)) _)))).mono ?_
  rintro e w1 ⟨rfl, hb1⟩
  have z1 := hb1.size
  simp only [World.size_alloc] at z1
  have bw1 : Below w.heap.size w w1 := Below.trans (by (repeat (first | exact Below.refl _ _ | assumption | refine Below.drew ?_ | refine Below.setCell ?_ (by first | omega | (simp only [World.size_alloc]; omega) | (simp; try omega)) _ | refine Below.alloc ?_ (by first | omega | (simp only [World.size_alloc]; omega) | (simp; try omega)) _))) (hb1.mono (by simp only [World.size_alloc]; omega))
  have S1 := HS.out.below bw1
  have c2 := S1.b
  have c3 := S1.cb
  have r1 : ∀ o, w1.cell? ⟨w.heap.size, o, none⟩ = _ := fun o => hb1.cell (p := ⟨w.heap.size, o, none⟩) (show w.heap.size < _ by simp only [World.size_alloc]; omega)
  have rf1 : ∀ o, w1.frozen? ⟨w.heap.size, o, none⟩ = _ := fun o => hb1.frozen (p := ⟨w.heap.size, o, none⟩) (show w.heap.size < _ by simp only [World.size_alloc]; omega)
  have l1 : w.heap.size < w1.heap.size := by omega
  have l2 : s + 1 < w1.heap.size := by omega
  have l3 : s + 3 < w1.heap.size := by omega
  clear hb1
  go_wp2_with fail
  refine (HB.out _ (by (repeat (first | exact Below.refl _ _ | assumption | refine Below.drew ?_ | refine Below.setCell ?_ (by first | omega | (simp only [World.size_alloc]; omega) | (simp; try omega)) _ | refine Below.alloc ?_ (by first | omega | (simp only [World.size_alloc]; omega) | (simp; try omega)) _)))).mono ?_
  rintro e w2 ⟨rfl, hb2⟩
  have z2 := hb2.size
  simp only [World.size_alloc] at z2
  have bw2 : Below w1.heap.size w1 w2 := Below.trans (by (repeat (first | exact Below.refl _ _ | assumption | refine Below.drew ?_ | refine Below.setCell ?_ (by first | omega | (simp only [World.size_alloc]; omega) | (simp; try omega)) _ | refine Below.alloc ?_ (by first | omega | (simp only [World.size_alloc]; omega) | (simp; try omega)) _))) (hb2.mono (by simp only [World.size_alloc]; omega))
  have S2 := S1.below bw2
  have r2 : ∀ o, w2.cell? ⟨w.heap.size, o, none⟩ = _ := fun o => (bw2.cell (p := ⟨w.heap.size, o, none⟩) l1).trans (r1 o)
  have rf2 : ∀ o, w2.frozen? ⟨w.heap.size, o, none⟩ = _ := fun o => (bw2.frozen (p := ⟨w.heap.size, o, none⟩) l1).trans (rf1 o)
  have q2 : ∀ o, w2.cell? ⟨w1.heap.size, o, none⟩ = _ := fun o => hb2.cell (p := ⟨w1.heap.size, o, none⟩) (show w1.heap.size < _ by simp only [World.size_alloc]; omega)
  have l4 : w.heap.size < w2.heap.size := by omega
  have l5 : w1.heap.size < w2.heap.size := by omega
  have l6 : s + 3 < w2.heap.size := by omega
  have l7 : s + 2 < w2.heap.size := by omega
  have bww2 : Below w.heap.size w w2 := bw1.trans (bw2.mono bw1.size)
  clear hb2 bw1 bw2 S1 r1 rf1 c2 c3

  have bw4 := bww2
  have HS4 := Lib.hid S2
  obtain ⟨_, u0, u1, u2, u3, u4, u5⟩ := S2
  clear bww2
  have HSF := HS4
  have HMF : Hid (Mv2 (s + 2) (s + 3) w w2) := Mv2.of_below bw4
  go_wp2_with fail
  go_region
  go_wp2_with fail
  refine bodyPost_ret (v := .tuple #[.agg #[.int .i64 0, .int .i64 0, .string ⟨#[]⟩], .bool oa, .bool ob, .bool false]) (by simp only [results, Try.results73]; go_simp) rfl ?_
  refine ⟨rfl, ?_, ?_⟩
  · repeat (with_reducible first | exact HSF.out | refine WSt.drew ?_ | refine WSt.setFar ?_ h0 _ _ | refine WSt.bumpA ?_ | refine WSt.bumpB ?_ | refine WSt.alloc ?_ _)
  repeat (with_reducible first | exact HMF.out | refine Mv2.drew ?_ | refine Mv2.setN ?_ (Nat.le_refl _) _ _ | refine Mv2.setP ?_ _ _ | refine Mv2.setQ ?_ _ _ | refine Mv2.alloc ?_ _)

set_option linter.unusedSimpArgs false in
set_option maxRecDepth 100000 in
set_option maxHeartbeats 2000000 in
theorem iStep_onlyA (s : Nat) (va vb : Value) (A B : List IV) (pa pb : Nat) (w : World) (fk fn : Int) (fs : ByteArray) (gk gn : Int) (gs : ByteArray) (hA : Ivs w va A) (hB : Ivs w vb B) (hpa : pa ≤ 4398046511104) (hpb : pb ≤ 4398046511104) (hs : WSt s va vb pa pb w)
    (ea : bdV A pa = (⟨fk, fn, fs⟩, true)) (eb : bdV B pb = (⟨gk, gn, gs⟩, false)) :
    Calls Try.prog 73 #[.pointer (some ⟨s, 0, none⟩), .pointer (some ⟨s + 2, 0, none⟩), .pointer (some ⟨s + 1, 0, none⟩), .pointer (some ⟨s + 3, 0, none⟩)] w fun e w' =>
      e = .returned (.tuple #[.agg #[.int .i64 fk, .int .i64 fn, .string fs], .bool (decide ((pa + 1) % 2 = 1)), .bool (decide ((pb) % 2 = 1)), .bool true]) ∧ WSt s va vb (pa + 1) (pb) w' ∧ Mv2 (s + 2) (s + 3) w w' := by
  have HA : Hid (∀ W, Below w.heap.size w W → Calls Try.prog 74 #[va, .int .i64 pa] W fun e w' => e = .returned (retV (⟨fk, fn, fs⟩, true)) ∧ Below W.heap.size W w') := fun W hb => by rw [← ea]; exact iBound_any va A pa W (hA.below hb) hpa
  have HB : Hid (∀ W, Below w.heap.size w W → Calls Try.prog 74 #[vb, .int .i64 pb] W fun e w' => e = .returned (retV (⟨gk, gn, gs⟩, false)) ∧ Below W.heap.size W w') := fun W hb => by rw [← eb]; exact iBound_any vb B pb W (hB.below hb) hpb
  simp only [retV] at HA HB
  obtain ⟨aa, ac, rfl⟩ := hA.shape
  obtain ⟨ba, bc, rfl⟩ := hB.shape
  obtain ⟨la, hla⟩ : ∃ l, A.length = l := ⟨_, rfl⟩
  obtain ⟨lb, hlb⟩ : ∃ l, B.length = l := ⟨_, rfl⟩
  rw [hla] at HA hs ⊢
  rw [hlb] at HB hs ⊢
  have HS := Lib.hid hs
  obtain ⟨h0, h1, h2, h3, h4, h5, h6⟩ := hs
  have k0 : s < w.heap.size := by omega
  have k1 : s + 1 < w.heap.size := by omega
  have k2 : s + 2 < w.heap.size := by omega
  clear ea eb hA hB hla hlb
  obtain ⟨ra, hra⟩ : ∃ r : Int, Int.tmod (((pa + 1) : Nat) : Int) 2 = r := ⟨_, rfl⟩
  obtain ⟨rb, hrb⟩ : ∃ r : Int, Int.tmod (((pb) : Nat) : Int) 2 = r := ⟨_, rfl⟩
  have era : (ra == 1) = decide ((pa + 1) % 2 = 1) := by rw [← hra, oddN _ (by omega)]; exact oddB _
  have erb : (rb == 1) = decide ((pb) % 2 = 1) := by rw [← hrb, oddN _ (by omega)]; exact oddB _
  generalize decide ((pa + 1) % 2 = 1) = oa at era ⊢
  generalize decide ((pb) % 2 = 1) = ob at erb ⊢
  have hwa : IntKind.i64.wrap ((pa : Int) + 1) = pa + 1 := by rw [IntKind.wrap_i64]; omega
  have hwb : IntKind.i64.wrap ((pb : Int) + 1) = pb + 1 := by rw [IntKind.wrap_i64]; omega
  have hma : IntKind.i64.wrap ra = ra := by rw [← hra, oddN _ (by omega), IntKind.wrap_i64]; omega
  have hmb : IntKind.i64.wrap rb = rb := by rw [← hrb, oddN _ (by omega), IntKind.wrap_i64]; omega
  push_cast at hra
  skip
  go_enter Try.func73, Try.ntmps73
  go_wp2_with fail
  refine (HA.out _ (by (repeat (first | exact Below.refl _ _ | assumption | refine Below.drew ?_ | refine Below.setCell ?_ (by first | omega | (simp only [World.size_alloc]; omega) | (simp; try omega)) _ | refine Below.alloc ?_ (by first | omega | (simp only [World.size_alloc]; omega) | (simp; try omega)) _)))).mono ?_
  rintro e w1 ⟨rfl, hb1⟩
  have z1 := hb1.size
  simp only [World.size_alloc] at z1
  have bw1 : Below w.heap.size w w1 := Below.trans (by (repeat (first | exact Below.refl _ _ | assumption | refine Below.drew ?_ | refine Below.setCell ?_ (by first | omega | (simp only [World.size_alloc]; omega) | (simp; try omega)) _ | refine Below.alloc ?_ (by first | omega | (simp only [World.size_alloc]; omega) | (simp; try omega)) _))) (hb1.mono (by simp only [World.size_alloc]; omega))
  have S1 := HS.out.below bw1
  have c2 := S1.b
  have c3 := S1.cb
  have r1 : ∀ o, w1.cell? ⟨w.heap.size, o, none⟩ = _ := fun o => hb1.cell (p := ⟨w.heap.size, o, none⟩) (show w.heap.size < _ by simp only [World.size_alloc]; omega)
  have rf1 : ∀ o, w1.frozen? ⟨w.heap.size, o, none⟩ = _ := fun o => hb1.frozen (p := ⟨w.heap.size, o, none⟩) (show w.heap.size < _ by simp only [World.size_alloc]; omega)
  have l1 : w.heap.size < w1.heap.size := by omega
  have l2 : s + 1 < w1.heap.size := by omega
  have l3 : s + 3 < w1.heap.size := by omega
  clear hb1
  go_wp2_with fail
  refine (HB.out _ (by (repeat (first | exact Below.refl _ _ | assumption | refine Below.drew ?_ | refine Below.setCell ?_ (by first | omega | (simp only [World.size_alloc]; omega) | (simp; try omega)) _ | refine Below.alloc ?_ (by first | omega | (simp only [World.size_alloc]; omega) | (simp; try omega)) _)))).mono ?_
  rintro e w2 ⟨rfl, hb2⟩
  have z2 := hb2.size
  simp only [World.size_alloc] at z2
  have bw2 : Below w1.heap.size w1 w2 := Below.trans (by (repeat (first | exact Below.refl _ _ | assumption | refine Below.drew ?_ | refine Below.setCell ?_ (by first | omega | (simp only [World.size_alloc]; omega) | (simp; try omega)) _ | refine Below.alloc ?_ (by first | omega | (simp only [World.size_alloc]; omega) | (simp; try omega)) _))) (hb2.mono (by simp only [World.size_alloc]; omega))
  have S2 := S1.below bw2
  have r2 : ∀ o, w2.cell? ⟨w.heap.size, o, none⟩ = _ := fun o => (bw2.cell (p := ⟨w.heap.size, o, none⟩) l1).trans (r1 o)
  have rf2 : ∀ o, w2.frozen? ⟨w.heap.size, o, none⟩ = _ := fun o => (bw2.frozen (p := ⟨w.heap.size, o, none⟩) l1).trans (rf1 o)
  have q2 : ∀ o, w2.cell? ⟨w1.heap.size, o, none⟩ = _ := fun o => hb2.cell (p := ⟨w1.heap.size, o, none⟩) (show w1.heap.size < _ by simp only [World.size_alloc]; omega)
  have l4 : w.heap.size < w2.heap.size := by omega
  have l5 : w1.heap.size < w2.heap.size := by omega
  have l6 : s + 3 < w2.heap.size := by omega
  have l7 : s + 2 < w2.heap.size := by omega
  have bww2 : Below w.heap.size w w2 := bw1.trans (bw2.mono bw1.size)
  clear hb2 bw1 bw2 S1 r1 rf1 c2 c3

  have bw4 := bww2
  have HS4 := Lib.hid S2
  obtain ⟨_, u0, u1, u2, u3, u4, u5⟩ := S2
  clear bww2
  go_wp2_with fail
  obtain ⟨wf, hwf⟩ : ∃ wf, wf = (((((w2.setCell ⟨w.heap.size, 0, none⟩ (.int .i64 fk)).setCell ⟨w.heap.size, 1, none⟩ (.int .i64 fn)).setCell ⟨w.heap.size, 2, none⟩ (.string fs)).setCell ⟨s + 2, 0, none⟩ (.int .i64 ((pa : Int) + 1))).alloc (.cells #[.int .i64 gk, .int .i64 gn, .string gs] 25)) := ⟨_, rfl⟩
  rw [← hwf]
  have v0 : wf.cell? ⟨w.heap.size, 0, none⟩ = some (.int .i64 fk) := by rw [hwf]; go_simp
  have v1 : wf.cell? ⟨w.heap.size, 1, none⟩ = some (.int .i64 fn) := by rw [hwf]; go_simp
  have v2 : wf.cell? ⟨w.heap.size, 2, none⟩ = some (.string fs) := by rw [hwf]; go_simp
  have y0 : wf.frozen? ⟨w.heap.size, 0, none⟩ = false := by rw [hwf]; go_simp
  have y1 : wf.frozen? ⟨w.heap.size, 1, none⟩ = false := by rw [hwf]; go_simp
  have y2 : wf.frozen? ⟨w.heap.size, 2, none⟩ = false := by rw [hwf]; go_simp
  have HSF : Hid (WSt s (.slice aa la ac) (.slice ba lb bc) (pa + 1) (pb) wf) := by
    show WSt s (.slice aa la ac) (.slice ba lb bc) (pa + 1) (pb) wf
    rw [hwf]
    repeat (with_reducible first | exact HS4.out | refine WSt.drew ?_ | refine WSt.setFar ?_ h0 _ _ | refine WSt.bumpA ?_ | refine WSt.bumpB ?_ | refine WSt.alloc ?_ _)
  have HMF : Hid (Mv2 (s + 2) (s + 3) w wf) := by
    show Mv2 (s + 2) (s + 3) w wf
    rw [hwf]
    repeat (with_reducible first | exact Mv2.of_below (by assumption) | refine Mv2.drew ?_ | refine Mv2.setN ?_ (Nat.le_refl _) _ _ | refine Mv2.setP ?_ _ _ | refine Mv2.setQ ?_ _ _ | refine Mv2.alloc ?_ _)
  have hlf : s + 3 < wf.heap.size := HSF.out.lt
  have w0 := HSF.out.ca
  have x0 := HSF.out.cb
  push_cast at w0 x0
  clear hwf u0 u1 u2 u3 u4 u5 bw4 HS4 r2 rf2 q2 l1 l2 l3 l4 l5 l6 l7 h1 h2 h3 h4 h5 h6
  go_wp2_with fail
  go_region
  go_wp2_with fail
  refine bodyPost_ret (v := .tuple #[.agg #[.int .i64 fk, .int .i64 fn, .string fs], .bool oa, .bool ob, .bool true]) (by simp only [results, Try.results73]; go_simp) rfl ?_
  refine ⟨rfl, ?_, ?_⟩
  · repeat (with_reducible first | exact HSF.out | refine WSt.drew ?_ | refine WSt.setFar ?_ h0 _ _ | refine WSt.bumpA ?_ | refine WSt.bumpB ?_ | refine WSt.alloc ?_ _)
  repeat (with_reducible first | exact HMF.out | refine Mv2.drew ?_ | refine Mv2.setN ?_ (Nat.le_refl _) _ _ | refine Mv2.setP ?_ _ _ | refine Mv2.setQ ?_ _ _ | refine Mv2.alloc ?_ _)

set_option linter.unusedSimpArgs false in
set_option maxRecDepth 100000 in
set_option maxHeartbeats 2000000 in
theorem iStep_onlyB (s : Nat) (va vb : Value) (A B : List IV) (pa pb : Nat) (w : World) (fk fn : Int) (fs : ByteArray) (gk gn : Int) (gs : ByteArray) (hA : Ivs w va A) (hB : Ivs w vb B) (hpa : pa ≤ 4398046511104) (hpb : pb ≤ 4398046511104) (hs : WSt s va vb pa pb w)
    (ea : bdV A pa = (⟨fk, fn, fs⟩, false)) (eb : bdV B pb = (⟨gk, gn, gs⟩, true)) :
    Calls Try.prog 73 #[.pointer (some ⟨s, 0, none⟩), .pointer (some ⟨s + 2, 0, none⟩), .pointer (some ⟨s + 1, 0, none⟩), .pointer (some ⟨s + 3, 0, none⟩)] w fun e w' =>
      e = .returned (.tuple #[.agg #[.int .i64 gk, .int .i64 gn, .string gs], .bool (decide ((pa) % 2 = 1)), .bool (decide ((pb + 1) % 2 = 1)), .bool true]) ∧ WSt s va vb (pa) (pb + 1) w' ∧ Mv2 (s + 2) (s + 3) w w' := by
  have HA : Hid (∀ W, Below w.heap.size w W → Calls Try.prog 74 #[va, .int .i64 pa] W fun e w' => e = .returned (retV (⟨fk, fn, fs⟩, false)) ∧ Below W.heap.size W w') := fun W hb => by rw [← ea]; exact iBound_any va A pa W (hA.below hb) hpa
  have HB : Hid (∀ W, Below w.heap.size w W → Calls Try.prog 74 #[vb, .int .i64 pb] W fun e w' => e = .returned (retV (⟨gk, gn, gs⟩, true)) ∧ Below W.heap.size W w') := fun W hb => by rw [← eb]; exact iBound_any vb B pb W (hB.below hb) hpb
  simp only [retV] at HA HB
  obtain ⟨aa, ac, rfl⟩ := hA.shape
  obtain ⟨ba, bc, rfl⟩ := hB.shape
  obtain ⟨la, hla⟩ : ∃ l, A.length = l := ⟨_, rfl⟩
  obtain ⟨lb, hlb⟩ : ∃ l, B.length = l := ⟨_, rfl⟩
  rw [hla] at HA hs ⊢
  rw [hlb] at HB hs ⊢
  have HS := Lib.hid hs
  obtain ⟨h0, h1, h2, h3, h4, h5, h6⟩ := hs
  have k0 : s < w.heap.size := by omega
  have k1 : s + 1 < w.heap.size := by omega
  have k2 : s + 2 < w.heap.size := by omega
  clear ea eb hA hB hla hlb
  obtain ⟨ra, hra⟩ : ∃ r : Int, Int.tmod (((pa) : Nat) : Int) 2 = r := ⟨_, rfl⟩
  obtain ⟨rb, hrb⟩ : ∃ r : Int, Int.tmod (((pb + 1) : Nat) : Int) 2 = r := ⟨_, rfl⟩
  have era : (ra == 1) = decide ((pa) % 2 = 1) := by rw [← hra, oddN _ (by omega)]; exact oddB _
  have erb : (rb == 1) = decide ((pb + 1) % 2 = 1) := by rw [← hrb, oddN _ (by omega)]; exact oddB _
  generalize decide ((pa) % 2 = 1) = oa at era ⊢
  generalize decide ((pb + 1) % 2 = 1) = ob at erb ⊢
  have hwa : IntKind.i64.wrap ((pa : Int) + 1) = pa + 1 := by rw [IntKind.wrap_i64]; omega
  have hwb : IntKind.i64.wrap ((pb : Int) + 1) = pb + 1 := by rw [IntKind.wrap_i64]; omega
  have hma : IntKind.i64.wrap ra = ra := by rw [← hra, oddN _ (by omega), IntKind.wrap_i64]; omega
  have hmb : IntKind.i64.wrap rb = rb := by rw [← hrb, oddN _ (by omega), IntKind.wrap_i64]; omega
  skip
  push_cast at hrb
  go_enter Try.func73, Try.ntmps73
  go_wp2_with fail
  refine (HA.out _ (by (repeat (first | exact Below.refl _ _ | assumption | refine Below.drew ?_ | refine Below.setCell ?_ (by first | omega | (simp only [World.size_alloc]; omega) | (simp; try omega)) _ | refine Below.alloc ?_ (by first | omega | (simp only [World.size_alloc]; omega) | (simp; try omega)) _)))).mono ?_
  rintro e w1 ⟨rfl, hb1⟩
  have z1 := hb1.size
  simp only [World.size_alloc] at z1
  have bw1 : Below w.heap.size w w1 := Below.trans (by (repeat (first | exact Below.refl _ _ | assumption | refine Below.drew ?_ | refine Below.setCell ?_ (by first | omega | (simp only [World.size_alloc]; omega) | (simp; try omega)) _ | refine Below.alloc ?_ (by first | omega | (simp only [World.size_alloc]; omega) | (simp; try omega)) _))) (hb1.mono (by simp only [World.size_alloc]; omega))
  have S1 := HS.out.below bw1
  have c2 := S1.b
  have c3 := S1.cb
  have r1 : ∀ o, w1.cell? ⟨w.heap.size, o, none⟩ = _ := fun o => hb1.cell (p := ⟨w.heap.size, o, none⟩) (show w.heap.size < _ by simp only [World.size_alloc]; omega)
  have rf1 : ∀ o, w1.frozen? ⟨w.heap.size, o, none⟩ = _ := fun o => hb1.frozen (p := ⟨w.heap.size, o, none⟩) (show w.heap.size < _ by simp only [World.size_alloc]; omega)
  have l1 : w.heap.size < w1.heap.size := by omega
  have l2 : s + 1 < w1.heap.size := by omega
  have l3 : s + 3 < w1.heap.size := by omega
  clear hb1
  go_wp2_with fail
  refine (HB.out _ (by (repeat (first | exact Below.refl _ _ | assumption | refine Below.drew ?_ | refine Below.setCell ?_ (by first | omega | (simp only [World.size_alloc]; omega) | (simp; try omega)) _ | refine Below.alloc ?_ (by first | omega | (simp only [World.size_alloc]; omega) | (simp; try omega)) _)))).mono ?_
  rintro e w2 ⟨rfl, hb2⟩
  have z2 := hb2.size
  simp only [World.size_alloc] at z2
  have bw2 : Below w1.heap.size w1 w2 := Below.trans (by (repeat (first | exact Below.refl _ _ | assumption | refine Below.drew ?_ | refine Below.setCell ?_ (by first | omega | (simp only [World.size_alloc]; omega) | (simp; try omega)) _ | refine Below.alloc ?_ (by first | omega | (simp only [World.size_alloc]; omega) | (simp; try omega)) _))) (hb2.mono (by simp only [World.size_alloc]; omega))
  have S2 := S1.below bw2
  have r2 : ∀ o, w2.cell? ⟨w.heap.size, o, none⟩ = _ := fun o => (bw2.cell (p := ⟨w.heap.size, o, none⟩) l1).trans (r1 o)
  have rf2 : ∀ o, w2.frozen? ⟨w.heap.size, o, none⟩ = _ := fun o => (bw2.frozen (p := ⟨w.heap.size, o, none⟩) l1).trans (rf1 o)
  have q2 : ∀ o, w2.cell? ⟨w1.heap.size, o, none⟩ = _ := fun o => hb2.cell (p := ⟨w1.heap.size, o, none⟩) (show w1.heap.size < _ by simp only [World.size_alloc]; omega)
  have l4 : w.heap.size < w2.heap.size := by omega
  have l5 : w1.heap.size < w2.heap.size := by omega
  have l6 : s + 3 < w2.heap.size := by omega
  have l7 : s + 2 < w2.heap.size := by omega
  have bww2 : Below w.heap.size w w2 := bw1.trans (bw2.mono bw1.size)
  clear hb2 bw1 bw2 S1 r1 rf1 c2 c3

  have bw4 := bww2
  have HS4 := Lib.hid S2
  obtain ⟨_, u0, u1, u2, u3, u4, u5⟩ := S2
  clear bww2
  go_wp2_with fail
  obtain ⟨wf, hwf⟩ : ∃ wf, wf = (((((w2.setCell ⟨w.heap.size, 0, none⟩ (.int .i64 gk)).setCell ⟨w.heap.size, 1, none⟩ (.int .i64 gn)).setCell ⟨w.heap.size, 2, none⟩ (.string gs)).setCell ⟨s + 3, 0, none⟩ (.int .i64 ((pb : Int) + 1))).alloc (.cells #[.int .i64 gk, .int .i64 gn, .string gs] 25)) := ⟨_, rfl⟩
  rw [← hwf]
  have v0 : wf.cell? ⟨w.heap.size, 0, none⟩ = some (.int .i64 gk) := by rw [hwf]; go_simp
  have v1 : wf.cell? ⟨w.heap.size, 1, none⟩ = some (.int .i64 gn) := by rw [hwf]; go_simp
  have v2 : wf.cell? ⟨w.heap.size, 2, none⟩ = some (.string gs) := by rw [hwf]; go_simp
  have y0 : wf.frozen? ⟨w.heap.size, 0, none⟩ = false := by rw [hwf]; go_simp
  have y1 : wf.frozen? ⟨w.heap.size, 1, none⟩ = false := by rw [hwf]; go_simp
  have y2 : wf.frozen? ⟨w.heap.size, 2, none⟩ = false := by rw [hwf]; go_simp
  have HSF : Hid (WSt s (.slice aa la ac) (.slice ba lb bc) (pa) (pb + 1) wf) := by
    show WSt s (.slice aa la ac) (.slice ba lb bc) (pa) (pb + 1) wf
    rw [hwf]
    repeat (with_reducible first | exact HS4.out | refine WSt.drew ?_ | refine WSt.setFar ?_ h0 _ _ | refine WSt.bumpA ?_ | refine WSt.bumpB ?_ | refine WSt.alloc ?_ _)
  have HMF : Hid (Mv2 (s + 2) (s + 3) w wf) := by
    show Mv2 (s + 2) (s + 3) w wf
    rw [hwf]
    repeat (with_reducible first | exact Mv2.of_below (by assumption) | refine Mv2.drew ?_ | refine Mv2.setN ?_ (Nat.le_refl _) _ _ | refine Mv2.setP ?_ _ _ | refine Mv2.setQ ?_ _ _ | refine Mv2.alloc ?_ _)
  have hlf : s + 3 < wf.heap.size := HSF.out.lt
  have w0 := HSF.out.ca
  have x0 := HSF.out.cb
  push_cast at w0 x0
  clear hwf u0 u1 u2 u3 u4 u5 bw4 HS4 r2 rf2 q2 l1 l2 l3 l4 l5 l6 l7 h1 h2 h3 h4 h5 h6
  go_wp2_with fail
  go_region
  go_wp2_with fail
  refine bodyPost_ret (v := .tuple #[.agg #[.int .i64 gk, .int .i64 gn, .string gs], .bool oa, .bool ob, .bool true]) (by simp only [results, Try.results73]; go_simp) rfl ?_
  refine ⟨rfl, ?_, ?_⟩
  · repeat (with_reducible first | exact HSF.out | refine WSt.drew ?_ | refine WSt.setFar ?_ h0 _ _ | refine WSt.bumpA ?_ | refine WSt.bumpB ?_ | refine WSt.alloc ?_ _)
  repeat (with_reducible first | exact HMF.out | refine Mv2.drew ?_ | refine Mv2.setN ?_ (Nat.le_refl _) _ _ | refine Mv2.setP ?_ _ _ | refine Mv2.setQ ?_ _ _ | refine Mv2.alloc ?_ _)

set_option linter.unusedSimpArgs false in
set_option maxRecDepth 100000 in
set_option maxHeartbeats 2000000 in
theorem iStep_lt (s : Nat) (va vb : Value) (A B : List IV) (pa pb : Nat) (w : World) (fk fn : Int) (fs : ByteArray) (gk gn : Int) (gs : ByteArray) (hA : Ivs w va A) (hB : Ivs w vb B) (hpa : pa ≤ 4398046511104) (hpb : pb ≤ 4398046511104) (hs : WSt s va vb pa pb w)
    (ea : bdV A pa = (⟨fk, fn, fs⟩, true)) (eb : bdV B pb = (⟨gk, gn, gs⟩, true)) (hr : cmpV ⟨fk, fn, fs⟩ ⟨gk, gn, gs⟩ < 0) :
    Calls Try.prog 73 #[.pointer (some ⟨s, 0, none⟩), .pointer (some ⟨s + 2, 0, none⟩), .pointer (some ⟨s + 1, 0, none⟩), .pointer (some ⟨s + 3, 0, none⟩)] w fun e w' =>
      e = .returned (.tuple #[.agg #[.int .i64 fk, .int .i64 fn, .string fs], .bool (decide ((pa + 1) % 2 = 1)), .bool (decide ((pb) % 2 = 1)), .bool true]) ∧ WSt s va vb (pa + 1) (pb) w' ∧ Mv2 (s + 2) (s + 3) w w' := by
  have HA : Hid (∀ W, Below w.heap.size w W → Calls Try.prog 74 #[va, .int .i64 pa] W fun e w' => e = .returned (retV (⟨fk, fn, fs⟩, true)) ∧ Below W.heap.size W w') := fun W hb => by rw [← ea]; exact iBound_any va A pa W (hA.below hb) hpa
  have HB : Hid (∀ W, Below w.heap.size w W → Calls Try.prog 74 #[vb, .int .i64 pb] W fun e w' => e = .returned (retV (⟨gk, gn, gs⟩, true)) ∧ Below W.heap.size W w') := fun W hb => by rw [← eb]; exact iBound_any vb B pb W (hB.below hb) hpb
  simp only [retV] at HA HB
  obtain ⟨aa, ac, rfl⟩ := hA.shape
  obtain ⟨ba, bc, rfl⟩ := hB.shape
  obtain ⟨la, hla⟩ : ∃ l, A.length = l := ⟨_, rfl⟩
  obtain ⟨lb, hlb⟩ : ∃ l, B.length = l := ⟨_, rfl⟩
  rw [hla] at HA hs ⊢
  rw [hlb] at HB hs ⊢
  have HS := Lib.hid hs
  obtain ⟨h0, h1, h2, h3, h4, h5, h6⟩ := hs
  have k0 : s < w.heap.size := by omega
  have k1 : s + 1 < w.heap.size := by omega
  have k2 : s + 2 < w.heap.size := by omega
  clear ea eb hA hB hla hlb
  have HC := Lib.hid (fun W => vCompare_any fk fn fs gk gn gs W)
  have HD := Lib.hid (fun W => vCompare_any gk gn gs fk fn fs W)
  rw [cmpV_flip ⟨fk, fn, fs⟩ ⟨gk, gn, gs⟩] at HD
  generalize cmpV ⟨fk, fn, fs⟩ ⟨gk, gn, gs⟩ = z at HC HD hr
  have d1 : decide (z ≤ 0) = true := by simp; omega
  have d2 : decide (-z ≤ 0) = false := by simp; omega
  obtain ⟨z', hz'⟩ : ∃ z', -z = z' := ⟨_, rfl⟩
  rw [hz'] at HD d2
  clear hz'

  obtain ⟨ra, hra⟩ : ∃ r : Int, Int.tmod (((pa + 1) : Nat) : Int) 2 = r := ⟨_, rfl⟩
  obtain ⟨rb, hrb⟩ : ∃ r : Int, Int.tmod (((pb) : Nat) : Int) 2 = r := ⟨_, rfl⟩
  have era : (ra == 1) = decide ((pa + 1) % 2 = 1) := by rw [← hra, oddN _ (by omega)]; exact oddB _
  have erb : (rb == 1) = decide ((pb) % 2 = 1) := by rw [← hrb, oddN _ (by omega)]; exact oddB _
  generalize decide ((pa + 1) % 2 = 1) = oa at era ⊢
  generalize decide ((pb) % 2 = 1) = ob at erb ⊢
  have hwa : IntKind.i64.wrap ((pa : Int) + 1) = pa + 1 := by rw [IntKind.wrap_i64]; omega
  have hwb : IntKind.i64.wrap ((pb : Int) + 1) = pb + 1 := by rw [IntKind.wrap_i64]; omega
  have hma : IntKind.i64.wrap ra = ra := by rw [← hra, oddN _ (by omega), IntKind.wrap_i64]; omega
  have hmb : IntKind.i64.wrap rb = rb := by rw [← hrb, oddN _ (by omega), IntKind.wrap_i64]; omega
  push_cast at hra
  skip
  go_enter Try.func73, Try.ntmps73
  go_wp2_with fail
  refine (HA.out _ (by (repeat (first | exact Below.refl _ _ | assumption | refine Below.drew ?_ | refine Below.setCell ?_ (by first | omega | (simp only [World.size_alloc]; omega) | (simp; try omega)) _ | refine Below.alloc ?_ (by first | omega | (simp only [World.size_alloc]; omega) | (simp; try omega)) _)))).mono ?_
  rintro e w1 ⟨rfl, hb1⟩
  have z1 := hb1.size
  simp only [World.size_alloc] at z1
  have bw1 : Below w.heap.size w w1 := Below.trans (by (repeat (first | exact Below.refl _ _ | assumption | refine Below.drew ?_ | refine Below.setCell ?_ (by first | omega | (simp only [World.size_alloc]; omega) | (simp; try omega)) _ | refine Below.alloc ?_ (by first | omega | (simp only [World.size_alloc]; omega) | (simp; try omega)) _))) (hb1.mono (by simp only [World.size_alloc]; omega))
  have S1 := HS.out.below bw1
  have c2 := S1.b
  have c3 := S1.cb
  have r1 : ∀ o, w1.cell? ⟨w.heap.size, o, none⟩ = _ := fun o => hb1.cell (p := ⟨w.heap.size, o, none⟩) (show w.heap.size < _ by simp only [World.size_alloc]; omega)
  have rf1 : ∀ o, w1.frozen? ⟨w.heap.size, o, none⟩ = _ := fun o => hb1.frozen (p := ⟨w.heap.size, o, none⟩) (show w.heap.size < _ by simp only [World.size_alloc]; omega)
  have l1 : w.heap.size < w1.heap.size := by omega
  have l2 : s + 1 < w1.heap.size := by omega
  have l3 : s + 3 < w1.heap.size := by omega
  clear hb1
  go_wp2_with fail
  refine (HB.out _ (by (repeat (first | exact Below.refl _ _ | assumption | refine Below.drew ?_ | refine Below.setCell ?_ (by first | omega | (simp only [World.size_alloc]; omega) | (simp; try omega)) _ | refine Below.alloc ?_ (by first | omega | (simp only [World.size_alloc]; omega) | (simp; try omega)) _)))).mono ?_
  rintro e w2 ⟨rfl, hb2⟩
  have z2 := hb2.size
  simp only [World.size_alloc] at z2
  have bw2 : Below w1.heap.size w1 w2 := Below.trans (by (repeat (first | exact Below.refl _ _ | assumption | refine Below.drew ?_ | refine Below.setCell ?_ (by first | omega | (simp only [World.size_alloc]; omega) | (simp; try omega)) _ | refine Below.alloc ?_ (by first | omega | (simp only [World.size_alloc]; omega) | (simp; try omega)) _))) (hb2.mono (by simp only [World.size_alloc]; omega))
  have S2 := S1.below bw2
  have r2 : ∀ o, w2.cell? ⟨w.heap.size, o, none⟩ = _ := fun o => (bw2.cell (p := ⟨w.heap.size, o, none⟩) l1).trans (r1 o)
  have rf2 : ∀ o, w2.frozen? ⟨w.heap.size, o, none⟩ = _ := fun o => (bw2.frozen (p := ⟨w.heap.size, o, none⟩) l1).trans (rf1 o)
  have q2 : ∀ o, w2.cell? ⟨w1.heap.size, o, none⟩ = _ := fun o => hb2.cell (p := ⟨w1.heap.size, o, none⟩) (show w1.heap.size < _ by simp only [World.size_alloc]; omega)
  have l4 : w.heap.size < w2.heap.size := by omega
  have l5 : w1.heap.size < w2.heap.size := by omega
  have l6 : s + 3 < w2.heap.size := by omega
  have l7 : s + 2 < w2.heap.size := by omega
  have bww2 : Below w.heap.size w w2 := bw1.trans (bw2.mono bw1.size)
  clear hb2 bw1 bw2 S1 r1 rf1 c2 c3

  have HB2 := Lib.hid bww2
  have S2' := S2
  clear S2 bww2
  go_wp2_with fail
  refine (HC.out _).mono ?_
  rintro e w3 ⟨rfl, hg3⟩
  have e0 : ∀ b o, b < w2.heap.size → w3.cell? ⟨b, o, none⟩ = w2.cell? ⟨b, o, none⟩ := fun b o h => (((Gr.refl w2).alloc _).trans hg3).below.cell (p := ⟨b, o, none⟩) h
  have f0 : ∀ b o, b < w2.heap.size → w3.frozen? ⟨b, o, none⟩ = w2.frozen? ⟨b, o, none⟩ := fun b o h => (((Gr.refl w2).alloc _).trans hg3).below.frozen (p := ⟨b, o, none⟩) h
  have q3 : ∀ o, w3.cell? ⟨w1.heap.size, o, none⟩ = _ := fun o => (e0 w1.heap.size o l5).trans (q2 o)
  have r3 : ∀ o, w3.cell? ⟨w.heap.size, o, none⟩ = _ := fun o => (e0 w.heap.size o l4).trans (r2 o)
  have rf3 : ∀ o, w3.frozen? ⟨w.heap.size, o, none⟩ = _ := fun o => (f0 w.heap.size o l4).trans (rf2 o)
  have t3 : ∀ o, w3.cell? ⟨w2.heap.size, o, none⟩ = _ := kept_new hg3
  have z3 : w2.heap.size < w3.heap.size := by have := hg3.below.size; simp only [World.size_alloc] at this; omega
  have HB3 : Hid (Below w.heap.size w w3) := HB2.out.trans ((((Gr.refl w2).alloc _).trans hg3).below.mono (by omega))
  have S3 : WSt s (.slice aa la ac) (.slice ba lb bc) pa pb w3 := S2'.below (((Gr.refl w2).alloc _).trans hg3).below
  clear e0 f0 q2 r2 rf2 hg3 S2' HB2
  go_wp2_with fail
  refine (HD.out _).mono ?_
  rintro e w4 ⟨rfl, hg4⟩
  have e0 : ∀ b o, b < w3.heap.size → w4.cell? ⟨b, o, none⟩ = w3.cell? ⟨b, o, none⟩ := fun b o h => hg4.below.cell (p := ⟨b, o, none⟩) h
  have f0 : ∀ b o, b < w3.heap.size → w4.frozen? ⟨b, o, none⟩ = w3.frozen? ⟨b, o, none⟩ := fun b o h => hg4.below.frozen (p := ⟨b, o, none⟩) h
  have q4 : ∀ o, w4.cell? ⟨w1.heap.size, o, none⟩ = _ := fun o => (e0 w1.heap.size o (by omega)).trans (q3 o)
  have r4 : ∀ o, w4.cell? ⟨w.heap.size, o, none⟩ = _ := fun o => (e0 w.heap.size o (by omega)).trans (r3 o)
  have rf4 : ∀ o, w4.frozen? ⟨w.heap.size, o, none⟩ = _ := fun o => (f0 w.heap.size o (by omega)).trans (rf3 o)
  have t4 : ∀ o, w4.cell? ⟨w2.heap.size, o, none⟩ = _ := fun o => (e0 w2.heap.size o z3).trans (t3 o)
  have z4 : w3.heap.size ≤ w4.heap.size := hg4.below.size
  have bw4 : Below w.heap.size w w4 := HB3.out.trans (hg4.below.mono HB3.out.size)
  have S4 := S3.below hg4.below
  clear e0 f0 q3 r3 rf3 t3 hg4 HB3 S3
  have HS4 := Lib.hid S4
  obtain ⟨_, u0, u1, u2, u3, u4, u5⟩ := S4
  have l8 : w.heap.size < w4.heap.size := by omega
  have l9 : s + 3 < w4.heap.size := by omega
  clear z1 z2 z3 z4 l1 l2 l3 l5 l6
  go_wp2_with fail
  obtain ⟨wf, hwf⟩ : ∃ wf, wf = ((((w4.setCell ⟨w.heap.size, 0, none⟩ (.int .i64 fk)).setCell ⟨w.heap.size, 1, none⟩ (.int .i64 fn)).setCell ⟨w.heap.size, 2, none⟩ (.string fs)).setCell ⟨s + 2, 0, none⟩ (.int .i64 ((pa : Int) + 1))) := ⟨_, rfl⟩
  rw [← hwf]
  have v0 : wf.cell? ⟨w.heap.size, 0, none⟩ = some (.int .i64 fk) := by rw [hwf]; go_simp
  have v1 : wf.cell? ⟨w.heap.size, 1, none⟩ = some (.int .i64 fn) := by rw [hwf]; go_simp
  have v2 : wf.cell? ⟨w.heap.size, 2, none⟩ = some (.string fs) := by rw [hwf]; go_simp
  have y0 : wf.frozen? ⟨w.heap.size, 0, none⟩ = false := by rw [hwf]; go_simp
  have y1 : wf.frozen? ⟨w.heap.size, 1, none⟩ = false := by rw [hwf]; go_simp
  have y2 : wf.frozen? ⟨w.heap.size, 2, none⟩ = false := by rw [hwf]; go_simp
  have HSF : Hid (WSt s (.slice aa la ac) (.slice ba lb bc) (pa + 1) (pb) wf) := by
    show WSt s (.slice aa la ac) (.slice ba lb bc) (pa + 1) (pb) wf
    rw [hwf]
    repeat (with_reducible first | exact HS4.out | refine WSt.drew ?_ | refine WSt.setFar ?_ h0 _ _ | refine WSt.bumpA ?_ | refine WSt.bumpB ?_ | refine WSt.alloc ?_ _)
  have HMF : Hid (Mv2 (s + 2) (s + 3) w wf) := by
    show Mv2 (s + 2) (s + 3) w wf
    rw [hwf]
    repeat (with_reducible first | exact Mv2.of_below (by assumption) | refine Mv2.drew ?_ | refine Mv2.setN ?_ (Nat.le_refl _) _ _ | refine Mv2.setP ?_ _ _ | refine Mv2.setQ ?_ _ _ | refine Mv2.alloc ?_ _)
  have hlf : s + 3 < wf.heap.size := HSF.out.lt
  have w0 := HSF.out.ca
  have x0 := HSF.out.cb
  push_cast at w0 x0
  clear hwf u0 u1 u2 u3 u4 u5 bw4 HS4 q4 r4 rf4 t4 l8 l9 h1 h2 h3 h4 h5 h6
  go_wp2_with fail
  go_region
  go_wp2_with fail
  refine bodyPost_ret (v := .tuple #[.agg #[.int .i64 fk, .int .i64 fn, .string fs], .bool oa, .bool ob, .bool true]) (by simp only [results, Try.results73]; go_simp) rfl ?_
  refine ⟨rfl, ?_, ?_⟩
  · repeat (with_reducible first | exact HSF.out | refine WSt.drew ?_ | refine WSt.setFar ?_ h0 _ _ | refine WSt.bumpA ?_ | refine WSt.bumpB ?_ | refine WSt.alloc ?_ _)
  repeat (with_reducible first | exact HMF.out | refine Mv2.drew ?_ | refine Mv2.setN ?_ (Nat.le_refl _) _ _ | refine Mv2.setP ?_ _ _ | refine Mv2.setQ ?_ _ _ | refine Mv2.alloc ?_ _)

set_option linter.unusedSimpArgs false in
set_option maxRecDepth 100000 in
set_option maxHeartbeats 2000000 in
theorem iStep_eq (s : Nat) (va vb : Value) (A B : List IV) (pa pb : Nat) (w : World) (fk fn : Int) (fs : ByteArray) (gk gn : Int) (gs : ByteArray) (hA : Ivs w va A) (hB : Ivs w vb B) (hpa : pa ≤ 4398046511104) (hpb : pb ≤ 4398046511104) (hs : WSt s va vb pa pb w)
    (ea : bdV A pa = (⟨fk, fn, fs⟩, true)) (eb : bdV B pb = (⟨gk, gn, gs⟩, true)) (hr : cmpV ⟨fk, fn, fs⟩ ⟨gk, gn, gs⟩ = 0) :
    Calls Try.prog 73 #[.pointer (some ⟨s, 0, none⟩), .pointer (some ⟨s + 2, 0, none⟩), .pointer (some ⟨s + 1, 0, none⟩), .pointer (some ⟨s + 3, 0, none⟩)] w fun e w' =>
      e = .returned (.tuple #[.agg #[.int .i64 gk, .int .i64 gn, .string gs], .bool (decide ((pa + 1) % 2 = 1)), .bool (decide ((pb + 1) % 2 = 1)), .bool true]) ∧ WSt s va vb (pa + 1) (pb + 1) w' ∧ Mv2 (s + 2) (s + 3) w w' := by
  have HA : Hid (∀ W, Below w.heap.size w W → Calls Try.prog 74 #[va, .int .i64 pa] W fun e w' => e = .returned (retV (⟨fk, fn, fs⟩, true)) ∧ Below W.heap.size W w') := fun W hb => by rw [← ea]; exact iBound_any va A pa W (hA.below hb) hpa
  have HB : Hid (∀ W, Below w.heap.size w W → Calls Try.prog 74 #[vb, .int .i64 pb] W fun e w' => e = .returned (retV (⟨gk, gn, gs⟩, true)) ∧ Below W.heap.size W w') := fun W hb => by rw [← eb]; exact iBound_any vb B pb W (hB.below hb) hpb
  simp only [retV] at HA HB
  obtain ⟨aa, ac, rfl⟩ := hA.shape
  obtain ⟨ba, bc, rfl⟩ := hB.shape
  obtain ⟨la, hla⟩ : ∃ l, A.length = l := ⟨_, rfl⟩
  obtain ⟨lb, hlb⟩ : ∃ l, B.length = l := ⟨_, rfl⟩
  rw [hla] at HA hs ⊢
  rw [hlb] at HB hs ⊢
  have HS := Lib.hid hs
  obtain ⟨h0, h1, h2, h3, h4, h5, h6⟩ := hs
  have k0 : s < w.heap.size := by omega
  have k1 : s + 1 < w.heap.size := by omega
  have k2 : s + 2 < w.heap.size := by omega
  clear ea eb hA hB hla hlb
  have HC := Lib.hid (fun W => vCompare_any fk fn fs gk gn gs W)
  have HD := Lib.hid (fun W => vCompare_any gk gn gs fk fn fs W)
  rw [cmpV_flip ⟨fk, fn, fs⟩ ⟨gk, gn, gs⟩] at HD
  generalize cmpV ⟨fk, fn, fs⟩ ⟨gk, gn, gs⟩ = z at HC HD hr
  subst hr
  obtain ⟨ra, hra⟩ : ∃ r : Int, Int.tmod (((pa + 1) : Nat) : Int) 2 = r := ⟨_, rfl⟩
  obtain ⟨rb, hrb⟩ : ∃ r : Int, Int.tmod (((pb + 1) : Nat) : Int) 2 = r := ⟨_, rfl⟩
  have era : (ra == 1) = decide ((pa + 1) % 2 = 1) := by rw [← hra, oddN _ (by omega)]; exact oddB _
  have erb : (rb == 1) = decide ((pb + 1) % 2 = 1) := by rw [← hrb, oddN _ (by omega)]; exact oddB _
  generalize decide ((pa + 1) % 2 = 1) = oa at era ⊢
  generalize decide ((pb + 1) % 2 = 1) = ob at erb ⊢
  have hwa : IntKind.i64.wrap ((pa : Int) + 1) = pa + 1 := by rw [IntKind.wrap_i64]; omega
  have hwb : IntKind.i64.wrap ((pb : Int) + 1) = pb + 1 := by rw [IntKind.wrap_i64]; omega
  have hma : IntKind.i64.wrap ra = ra := by rw [← hra, oddN _ (by omega), IntKind.wrap_i64]; omega
  have hmb : IntKind.i64.wrap rb = rb := by rw [← hrb, oddN _ (by omega), IntKind.wrap_i64]; omega
  push_cast at hra
  push_cast at hrb
  go_enter Try.func73, Try.ntmps73
  go_wp2_with fail
  refine (HA.out _ (by (repeat (first | exact Below.refl _ _ | assumption | refine Below.drew ?_ | refine Below.setCell ?_ (by first | omega | (simp only [World.size_alloc]; omega) | (simp; try omega)) _ | refine Below.alloc ?_ (by first | omega | (simp only [World.size_alloc]; omega) | (simp; try omega)) _)))).mono ?_
  rintro e w1 ⟨rfl, hb1⟩
  have z1 := hb1.size
  simp only [World.size_alloc] at z1
  have bw1 : Below w.heap.size w w1 := Below.trans (by (repeat (first | exact Below.refl _ _ | assumption | refine Below.drew ?_ | refine Below.setCell ?_ (by first | omega | (simp only [World.size_alloc]; omega) | (simp; try omega)) _ | refine Below.alloc ?_ (by first | omega | (simp only [World.size_alloc]; omega) | (simp; try omega)) _))) (hb1.mono (by simp only [World.size_alloc]; omega))
  have S1 := HS.out.below bw1
  have c2 := S1.b
  have c3 := S1.cb
  have r1 : ∀ o, w1.cell? ⟨w.heap.size, o, none⟩ = _ := fun o => hb1.cell (p := ⟨w.heap.size, o, none⟩) (show w.heap.size < _ by simp only [World.size_alloc]; omega)
  have rf1 : ∀ o, w1.frozen? ⟨w.heap.size, o, none⟩ = _ := fun o => hb1.frozen (p := ⟨w.heap.size, o, none⟩) (show w.heap.size < _ by simp only [World.size_alloc]; omega)
  have l1 : w.heap.size < w1.heap.size := by omega
  have l2 : s + 1 < w1.heap.size := by omega
  have l3 : s + 3 < w1.heap.size := by omega
  clear hb1
  go_wp2_with fail
  refine (HB.out _ (by (repeat (first | exact Below.refl _ _ | assumption | refine Below.drew ?_ | refine Below.setCell ?_ (by first | omega | (simp only [World.size_alloc]; omega) | (simp; try omega)) _ | refine Below.alloc ?_ (by first | omega | (simp only [World.size_alloc]; omega) | (simp; try omega)) _)))).mono ?_
  rintro e w2 ⟨rfl, hb2⟩
  have z2 := hb2.size
  simp only [World.size_alloc] at z2
  have bw2 : Below w1.heap.size w1 w2 := Below.trans (by (repeat (first | exact Below.refl _ _ | assumption | refine Below.drew ?_ | refine Below.setCell ?_ (by first | omega | (simp only [World.size_alloc]; omega) | (simp; try omega)) _ | refine Below.alloc ?_ (by first | omega | (simp only [World.size_alloc]; omega) | (simp; try omega)) _))) (hb2.mono (by simp only [World.size_alloc]; omega))
  have S2 := S1.below bw2
  have r2 : ∀ o, w2.cell? ⟨w.heap.size, o, none⟩ = _ := fun o => (bw2.cell (p := ⟨w.heap.size, o, none⟩) l1).trans (r1 o)
  have rf2 : ∀ o, w2.frozen? ⟨w.heap.size, o, none⟩ = _ := fun o => (bw2.frozen (p := ⟨w.heap.size, o, none⟩) l1).trans (rf1 o)
  have q2 : ∀ o, w2.cell? ⟨w1.heap.size, o, none⟩ = _ := fun o => hb2.cell (p := ⟨w1.heap.size, o, none⟩) (show w1.heap.size < _ by simp only [World.size_alloc]; omega)
  have l4 : w.heap.size < w2.heap.size := by omega
  have l5 : w1.heap.size < w2.heap.size := by omega
  have l6 : s + 3 < w2.heap.size := by omega
  have l7 : s + 2 < w2.heap.size := by omega
  have bww2 : Below w.heap.size w w2 := bw1.trans (bw2.mono bw1.size)
  clear hb2 bw1 bw2 S1 r1 rf1 c2 c3

  have HB2 := Lib.hid bww2
  have S2' := S2
  clear S2 bww2
  go_wp2_with fail
  refine (HC.out _).mono ?_
  rintro e w3 ⟨rfl, hg3⟩
  have e0 : ∀ b o, b < w2.heap.size → w3.cell? ⟨b, o, none⟩ = w2.cell? ⟨b, o, none⟩ := fun b o h => (((Gr.refl w2).alloc _).trans hg3).below.cell (p := ⟨b, o, none⟩) h
  have f0 : ∀ b o, b < w2.heap.size → w3.frozen? ⟨b, o, none⟩ = w2.frozen? ⟨b, o, none⟩ := fun b o h => (((Gr.refl w2).alloc _).trans hg3).below.frozen (p := ⟨b, o, none⟩) h
  have q3 : ∀ o, w3.cell? ⟨w1.heap.size, o, none⟩ = _ := fun o => (e0 w1.heap.size o l5).trans (q2 o)
  have r3 : ∀ o, w3.cell? ⟨w.heap.size, o, none⟩ = _ := fun o => (e0 w.heap.size o l4).trans (r2 o)
  have rf3 : ∀ o, w3.frozen? ⟨w.heap.size, o, none⟩ = _ := fun o => (f0 w.heap.size o l4).trans (rf2 o)
  have t3 : ∀ o, w3.cell? ⟨w2.heap.size, o, none⟩ = _ := kept_new hg3
  have z3 : w2.heap.size < w3.heap.size := by have := hg3.below.size; simp only [World.size_alloc] at this; omega
  have HB3 : Hid (Below w.heap.size w w3) := HB2.out.trans ((((Gr.refl w2).alloc _).trans hg3).below.mono (by omega))
  have S3 : WSt s (.slice aa la ac) (.slice ba lb bc) pa pb w3 := S2'.below (((Gr.refl w2).alloc _).trans hg3).below
  clear e0 f0 q2 r2 rf2 hg3 S2' HB2
  go_wp2_with fail
  refine (HD.out _).mono ?_
  rintro e w4 ⟨rfl, hg4⟩
  have e0 : ∀ b o, b < w3.heap.size → w4.cell? ⟨b, o, none⟩ = w3.cell? ⟨b, o, none⟩ := fun b o h => hg4.below.cell (p := ⟨b, o, none⟩) h
  have f0 : ∀ b o, b < w3.heap.size → w4.frozen? ⟨b, o, none⟩ = w3.frozen? ⟨b, o, none⟩ := fun b o h => hg4.below.frozen (p := ⟨b, o, none⟩) h
  have q4 : ∀ o, w4.cell? ⟨w1.heap.size, o, none⟩ = _ := fun o => (e0 w1.heap.size o (by omega)).trans (q3 o)
  have r4 : ∀ o, w4.cell? ⟨w.heap.size, o, none⟩ = _ := fun o => (e0 w.heap.size o (by omega)).trans (r3 o)
  have rf4 : ∀ o, w4.frozen? ⟨w.heap.size, o, none⟩ = _ := fun o => (f0 w.heap.size o (by omega)).trans (rf3 o)
  have t4 : ∀ o, w4.cell? ⟨w2.heap.size, o, none⟩ = _ := fun o => (e0 w2.heap.size o z3).trans (t3 o)
  have z4 : w3.heap.size ≤ w4.heap.size := hg4.below.size
  have bw4 : Below w.heap.size w w4 := HB3.out.trans (hg4.below.mono HB3.out.size)
  have S4 := S3.below hg4.below
  clear e0 f0 q3 r3 rf3 t3 hg4 HB3 S3
  have HS4 := Lib.hid S4
  obtain ⟨_, u0, u1, u2, u3, u4, u5⟩ := S4
  have l8 : w.heap.size < w4.heap.size := by omega
  have l9 : s + 3 < w4.heap.size := by omega
  clear z1 z2 z3 z4 l1 l2 l3 l5 l6
  go_wp2_with fail
  obtain ⟨wf, hwf⟩ : ∃ wf, wf = ((((((((w4.setCell ⟨w.heap.size, 0, none⟩ (.int .i64 fk)).setCell ⟨w.heap.size, 1, none⟩ (.int .i64 fn)).setCell ⟨w.heap.size, 2, none⟩ (.string fs)).setCell ⟨s + 2, 0, none⟩ (.int .i64 ((pa : Int) + 1))).setCell ⟨w.heap.size, 0, none⟩ (.int .i64 gk)).setCell ⟨w.heap.size, 1, none⟩ (.int .i64 gn)).setCell ⟨w.heap.size, 2, none⟩ (.string gs)).setCell ⟨s + 3, 0, none⟩ (.int .i64 ((pb : Int) + 1))) := ⟨_, rfl⟩
  rw [← hwf]
  obtain ⟨i0, i1, i2⟩ := set3_cells w4 w.heap.size (.int .i64 fk) (.int .i64 fn) (.string fs) ⟨.int .i64 0, by go_simp⟩ ⟨.int .i64 0, by go_simp⟩ ⟨.string ⟨#[]⟩, by go_simp⟩
  have n2 : w.heap.size ≠ s + 2 := by omega
  have n3 : w.heap.size ≠ s + 3 := by omega
  obtain ⟨j0, j1, j2⟩ := set3_cells (World.setCell _ ⟨s + 2, 0, none⟩ (.int .i64 ((pa : Int) + 1))) w.heap.size (.int .i64 gk) (.int .i64 gn) (.string gs) ⟨_, (setO_cell _ _ _ _ _ n2).trans i0⟩ ⟨_, (setO_cell _ _ _ _ _ n2).trans i1⟩ ⟨_, (setO_cell _ _ _ _ _ n2).trans i2⟩
  have v0 : wf.cell? ⟨w.heap.size, 0, none⟩ = some (.int .i64 gk) := by rw [hwf]; exact (setO_cell _ _ _ _ _ n3).trans j0
  have v1 : wf.cell? ⟨w.heap.size, 1, none⟩ = some (.int .i64 gn) := by rw [hwf]; exact (setO_cell _ _ _ _ _ n3).trans j1
  have v2 : wf.cell? ⟨w.heap.size, 2, none⟩ = some (.string gs) := by rw [hwf]; exact (setO_cell _ _ _ _ _ n3).trans j2
  clear i0 i1 i2 j0 j1 j2 n2 n3
  have y0 : wf.frozen? ⟨w.heap.size, 0, none⟩ = false := by rw [hwf]; go_simp
  have y1 : wf.frozen? ⟨w.heap.size, 1, none⟩ = false := by rw [hwf]; go_simp
  have y2 : wf.frozen? ⟨w.heap.size, 2, none⟩ = false := by rw [hwf]; go_simp
  have HSF : Hid (WSt s (.slice aa la ac) (.slice ba lb bc) (pa + 1) (pb + 1) wf) := by
    show WSt s (.slice aa la ac) (.slice ba lb bc) (pa + 1) (pb + 1) wf
    rw [hwf]
    repeat (with_reducible first | exact HS4.out | refine WSt.drew ?_ | refine WSt.setFar ?_ h0 _ _ | refine WSt.bumpA ?_ | refine WSt.bumpB ?_ | refine WSt.alloc ?_ _)
  have HMF : Hid (Mv2 (s + 2) (s + 3) w wf) := by
    show Mv2 (s + 2) (s + 3) w wf
    rw [hwf]
    repeat (with_reducible first | exact Mv2.of_below (by assumption) | refine Mv2.drew ?_ | refine Mv2.setN ?_ (Nat.le_refl _) _ _ | refine Mv2.setP ?_ _ _ | refine Mv2.setQ ?_ _ _ | refine Mv2.alloc ?_ _)
  have hlf : s + 3 < wf.heap.size := HSF.out.lt
  have w0 := HSF.out.ca
  have x0 := HSF.out.cb
  push_cast at w0 x0
  clear hwf u0 u1 u2 u3 u4 u5 bw4 HS4 q4 r4 rf4 t4 l8 l9 h1 h2 h3 h4 h5 h6
  go_wp2_with fail
  go_region
  go_wp2_with fail
  refine bodyPost_ret (v := .tuple #[.agg #[.int .i64 gk, .int .i64 gn, .string gs], .bool oa, .bool ob, .bool true]) (by simp only [results, Try.results73]; go_simp) rfl ?_
  refine ⟨rfl, ?_, ?_⟩
  · repeat (with_reducible first | exact HSF.out | refine WSt.drew ?_ | refine WSt.setFar ?_ h0 _ _ | refine WSt.bumpA ?_ | refine WSt.bumpB ?_ | refine WSt.alloc ?_ _)
  repeat (with_reducible first | exact HMF.out | refine Mv2.drew ?_ | refine Mv2.setN ?_ (Nat.le_refl _) _ _ | refine Mv2.setP ?_ _ _ | refine Mv2.setQ ?_ _ _ | refine Mv2.alloc ?_ _)

set_option linter.unusedSimpArgs false in
set_option maxRecDepth 100000 in
set_option maxHeartbeats 2000000 in
theorem iStep_gt (s : Nat) (va vb : Value) (A B : List IV) (pa pb : Nat) (w : World) (fk fn : Int) (fs : ByteArray) (gk gn : Int) (gs : ByteArray) (hA : Ivs w va A) (hB : Ivs w vb B) (hpa : pa ≤ 4398046511104) (hpb : pb ≤ 4398046511104) (hs : WSt s va vb pa pb w)
    (ea : bdV A pa = (⟨fk, fn, fs⟩, true)) (eb : bdV B pb = (⟨gk, gn, gs⟩, true)) (hr : 0 < cmpV ⟨fk, fn, fs⟩ ⟨gk, gn, gs⟩) :
    Calls Try.prog 73 #[.pointer (some ⟨s, 0, none⟩), .pointer (some ⟨s + 2, 0, none⟩), .pointer (some ⟨s + 1, 0, none⟩), .pointer (some ⟨s + 3, 0, none⟩)] w fun e w' =>
      e = .returned (.tuple #[.agg #[.int .i64 gk, .int .i64 gn, .string gs], .bool (decide ((pa) % 2 = 1)), .bool (decide ((pb + 1) % 2 = 1)), .bool true]) ∧ WSt s va vb (pa) (pb + 1) w' ∧ Mv2 (s + 2) (s + 3) w w' := by
  have HA : Hid (∀ W, Below w.heap.size w W → Calls Try.prog 74 #[va, .int .i64 pa] W fun e w' => e = .returned (retV (⟨fk, fn, fs⟩, true)) ∧ Below W.heap.size W w') := fun W hb => by rw [← ea]; exact iBound_any va A pa W (hA.below hb) hpa
  have HB : Hid (∀ W, Below w.heap.size w W → Calls Try.prog 74 #[vb, .int .i64 pb] W fun e w' => e = .returned (retV (⟨gk, gn, gs⟩, true)) ∧ Below W.heap.size W w') := fun W hb => by rw [← eb]; exact iBound_any vb B pb W (hB.below hb) hpb
  simp only [retV] at HA HB
  obtain ⟨aa, ac, rfl⟩ := hA.shape
  obtain ⟨ba, bc, rfl⟩ := hB.shape
  obtain ⟨la, hla⟩ : ∃ l, A.length = l := ⟨_, rfl⟩
  obtain ⟨lb, hlb⟩ : ∃ l, B.length = l := ⟨_, rfl⟩
  rw [hla] at HA hs ⊢
  rw [hlb] at HB hs ⊢
  have HS := Lib.hid hs
  obtain ⟨h0, h1, h2, h3, h4, h5, h6⟩ := hs
  have k0 : s < w.heap.size := by omega
  have k1 : s + 1 < w.heap.size := by omega
  have k2 : s + 2 < w.heap.size := by omega
  clear ea eb hA hB hla hlb
  have HC := Lib.hid (fun W => vCompare_any fk fn fs gk gn gs W)
  have HD := Lib.hid (fun W => vCompare_any gk gn gs fk fn fs W)
  rw [cmpV_flip ⟨fk, fn, fs⟩ ⟨gk, gn, gs⟩] at HD
  generalize cmpV ⟨fk, fn, fs⟩ ⟨gk, gn, gs⟩ = z at HC HD hr
  have d1 : decide (z ≤ 0) = false := by simp; omega
  have d2 : decide (-z ≤ 0) = true := by simp; omega
  obtain ⟨z', hz'⟩ : ∃ z', -z = z' := ⟨_, rfl⟩
  rw [hz'] at HD d2
  clear hz'

  obtain ⟨ra, hra⟩ : ∃ r : Int, Int.tmod (((pa) : Nat) : Int) 2 = r := ⟨_, rfl⟩
  obtain ⟨rb, hrb⟩ : ∃ r : Int, Int.tmod (((pb + 1) : Nat) : Int) 2 = r := ⟨_, rfl⟩
  have era : (ra == 1) = decide ((pa) % 2 = 1) := by rw [← hra, oddN _ (by omega)]; exact oddB _
  have erb : (rb == 1) = decide ((pb + 1) % 2 = 1) := by rw [← hrb, oddN _ (by omega)]; exact oddB _
  generalize decide ((pa) % 2 = 1) = oa at era ⊢
  generalize decide ((pb + 1) % 2 = 1) = ob at erb ⊢
  have hwa : IntKind.i64.wrap ((pa : Int) + 1) = pa + 1 := by rw [IntKind.wrap_i64]; omega
  have hwb : IntKind.i64.wrap ((pb : Int) + 1) = pb + 1 := by rw [IntKind.wrap_i64]; omega
  have hma : IntKind.i64.wrap ra = ra := by rw [← hra, oddN _ (by omega), IntKind.wrap_i64]; omega
  have hmb : IntKind.i64.wrap rb = rb := by rw [← hrb, oddN _ (by omega), IntKind.wrap_i64]; omega
  skip
  push_cast at hrb
  go_enter Try.func73, Try.ntmps73
  go_wp2_with fail
  refine (HA.out _ (by (repeat (first | exact Below.refl _ _ | assumption | refine Below.drew ?_ | refine Below.setCell ?_ (by first | omega | (simp only [World.size_alloc]; omega) | (simp; try omega)) _ | refine Below.alloc ?_ (by first | omega | (simp only [World.size_alloc]; omega) | (simp; try omega)) _)))).mono ?_
  rintro e w1 ⟨rfl, hb1⟩
  have z1 := hb1.size
  simp only [World.size_alloc] at z1
  have bw1 : Below w.heap.size w w1 := Below.trans (by (repeat (first | exact Below.refl _ _ | assumption | refine Below.drew ?_ | refine Below.setCell ?_ (by first | omega | (simp only [World.size_alloc]; omega) | (simp; try omega)) _ | refine Below.alloc ?_ (by first | omega | (simp only [World.size_alloc]; omega) | (simp; try omega)) _))) (hb1.mono (by simp only [World.size_alloc]; omega))
  have S1 := HS.out.below bw1
  have c2 := S1.b
  have c3 := S1.cb
  have r1 : ∀ o, w1.cell? ⟨w.heap.size, o, none⟩ = _ := fun o => hb1.cell (p := ⟨w.heap.size, o, none⟩) (show w.heap.size < _ by simp only [World.size_alloc]; omega)
  have rf1 : ∀ o, w1.frozen? ⟨w.heap.size, o, none⟩ = _ := fun o => hb1.frozen (p := ⟨w.heap.size, o, none⟩) (show w.heap.size < _ by simp only [World.size_alloc]; omega)
  have l1 : w.heap.size < w1.heap.size := by omega
  have l2 : s + 1 < w1.heap.size := by omega
  have l3 : s + 3 < w1.heap.size := by omega
  clear hb1
  go_wp2_with fail
  refine (HB.out _ (by (repeat (first | exact Below.refl _ _ | assumption | refine Below.drew ?_ | refine Below.setCell ?_ (by first | omega | (simp only [World.size_alloc]; omega) | (simp; try omega)) _ | refine Below.alloc ?_ (by first | omega | (simp only [World.size_alloc]; omega) | (simp; try omega)) _)))).mono ?_
  rintro e w2 ⟨rfl, hb2⟩
  have z2 := hb2.size
  simp only [World.size_alloc] at z2
  have bw2 : Below w1.heap.size w1 w2 := Below.trans (by (repeat (first | exact Below.refl _ _ | assumption | refine Below.drew ?_ | refine Below.setCell ?_ (by first | omega | (simp only [World.size_alloc]; omega) | (simp; try omega)) _ | refine Below.alloc ?_ (by first | omega | (simp only [World.size_alloc]; omega) | (simp; try omega)) _))) (hb2.mono (by simp only [World.size_alloc]; omega))
  have S2 := S1.below bw2
  have r2 : ∀ o, w2.cell? ⟨w.heap.size, o, none⟩ = _ := fun o => (bw2.cell (p := ⟨w.heap.size, o, none⟩) l1).trans (r1 o)
  have rf2 : ∀ o, w2.frozen? ⟨w.heap.size, o, none⟩ = _ := fun o => (bw2.frozen (p := ⟨w.heap.size, o, none⟩) l1).trans (rf1 o)
  have q2 : ∀ o, w2.cell? ⟨w1.heap.size, o, none⟩ = _ := fun o => hb2.cell (p := ⟨w1.heap.size, o, none⟩) (show w1.heap.size < _ by simp only [World.size_alloc]; omega)
  have l4 : w.heap.size < w2.heap.size := by omega
  have l5 : w1.heap.size < w2.heap.size := by omega
  have l6 : s + 3 < w2.heap.size := by omega
  have l7 : s + 2 < w2.heap.size := by omega
  have bww2 : Below w.heap.size w w2 := bw1.trans (bw2.mono bw1.size)
  clear hb2 bw1 bw2 S1 r1 rf1 c2 c3

  have HB2 := Lib.hid bww2
  have S2' := S2
  clear S2 bww2
  go_wp2_with fail
  refine (HC.out _).mono ?_
  rintro e w3 ⟨rfl, hg3⟩
  have e0 : ∀ b o, b < w2.heap.size → w3.cell? ⟨b, o, none⟩ = w2.cell? ⟨b, o, none⟩ := fun b o h => (((Gr.refl w2).alloc _).trans hg3).below.cell (p := ⟨b, o, none⟩) h
  have f0 : ∀ b o, b < w2.heap.size → w3.frozen? ⟨b, o, none⟩ = w2.frozen? ⟨b, o, none⟩ := fun b o h => (((Gr.refl w2).alloc _).trans hg3).below.frozen (p := ⟨b, o, none⟩) h
  have q3 : ∀ o, w3.cell? ⟨w1.heap.size, o, none⟩ = _ := fun o => (e0 w1.heap.size o l5).trans (q2 o)
  have r3 : ∀ o, w3.cell? ⟨w.heap.size, o, none⟩ = _ := fun o => (e0 w.heap.size o l4).trans (r2 o)
  have rf3 : ∀ o, w3.frozen? ⟨w.heap.size, o, none⟩ = _ := fun o => (f0 w.heap.size o l4).trans (rf2 o)
  have t3 : ∀ o, w3.cell? ⟨w2.heap.size, o, none⟩ = _ := kept_new hg3
  have z3 : w2.heap.size < w3.heap.size := by have := hg3.below.size; simp only [World.size_alloc] at this; omega
  have HB3 : Hid (Below w.heap.size w w3) := HB2.out.trans ((((Gr.refl w2).alloc _).trans hg3).below.mono (by omega))
  have S3 : WSt s (.slice aa la ac) (.slice ba lb bc) pa pb w3 := S2'.below (((Gr.refl w2).alloc _).trans hg3).below
  clear e0 f0 q2 r2 rf2 hg3 S2' HB2
  go_wp2_with fail
  refine (HD.out _).mono ?_
  rintro e w4 ⟨rfl, hg4⟩
  have e0 : ∀ b o, b < w3.heap.size → w4.cell? ⟨b, o, none⟩ = w3.cell? ⟨b, o, none⟩ := fun b o h => hg4.below.cell (p := ⟨b, o, none⟩) h
  have f0 : ∀ b o, b < w3.heap.size → w4.frozen? ⟨b, o, none⟩ = w3.frozen? ⟨b, o, none⟩ := fun b o h => hg4.below.frozen (p := ⟨b, o, none⟩) h
  have q4 : ∀ o, w4.cell? ⟨w1.heap.size, o, none⟩ = _ := fun o => (e0 w1.heap.size o (by omega)).trans (q3 o)
  have r4 : ∀ o, w4.cell? ⟨w.heap.size, o, none⟩ = _ := fun o => (e0 w.heap.size o (by omega)).trans (r3 o)
  have rf4 : ∀ o, w4.frozen? ⟨w.heap.size, o, none⟩ = _ := fun o => (f0 w.heap.size o (by omega)).trans (rf3 o)
  have t4 : ∀ o, w4.cell? ⟨w2.heap.size, o, none⟩ = _ := fun o => (e0 w2.heap.size o z3).trans (t3 o)
  have z4 : w3.heap.size ≤ w4.heap.size := hg4.below.size
  have bw4 : Below w.heap.size w w4 := HB3.out.trans (hg4.below.mono HB3.out.size)
  have S4 := S3.below hg4.below
  clear e0 f0 q3 r3 rf3 t3 hg4 HB3 S3
  have HS4 := Lib.hid S4
  obtain ⟨_, u0, u1, u2, u3, u4, u5⟩ := S4
  have l8 : w.heap.size < w4.heap.size := by omega
  have l9 : s + 3 < w4.heap.size := by omega
  clear z1 z2 z3 z4 l1 l2 l3 l5 l6
  go_wp2_with fail
  obtain ⟨wf, hwf⟩ : ∃ wf, wf = ((((w4.setCell ⟨w.heap.size, 0, none⟩ (.int .i64 gk)).setCell ⟨w.heap.size, 1, none⟩ (.int .i64 gn)).setCell ⟨w.heap.size, 2, none⟩ (.string gs)).setCell ⟨s + 3, 0, none⟩ (.int .i64 ((pb : Int) + 1))) := ⟨_, rfl⟩
  rw [← hwf]
  have v0 : wf.cell? ⟨w.heap.size, 0, none⟩ = some (.int .i64 gk) := by rw [hwf]; go_simp
  have v1 : wf.cell? ⟨w.heap.size, 1, none⟩ = some (.int .i64 gn) := by rw [hwf]; go_simp
  have v2 : wf.cell? ⟨w.heap.size, 2, none⟩ = some (.string gs) := by rw [hwf]; go_simp
  have y0 : wf.frozen? ⟨w.heap.size, 0, none⟩ = false := by rw [hwf]; go_simp
  have y1 : wf.frozen? ⟨w.heap.size, 1, none⟩ = false := by rw [hwf]; go_simp
  have y2 : wf.frozen? ⟨w.heap.size, 2, none⟩ = false := by rw [hwf]; go_simp
  have HSF : Hid (WSt s (.slice aa la ac) (.slice ba lb bc) (pa) (pb + 1) wf) := by
    show WSt s (.slice aa la ac) (.slice ba lb bc) (pa) (pb + 1) wf
    rw [hwf]
    repeat (with_reducible first | exact HS4.out | refine WSt.drew ?_ | refine WSt.setFar ?_ h0 _ _ | refine WSt.bumpA ?_ | refine WSt.bumpB ?_ | refine WSt.alloc ?_ _)
  have HMF : Hid (Mv2 (s + 2) (s + 3) w wf) := by
    show Mv2 (s + 2) (s + 3) w wf
    rw [hwf]
    repeat (with_reducible first | exact Mv2.of_below (by assumption) | refine Mv2.drew ?_ | refine Mv2.setN ?_ (Nat.le_refl _) _ _ | refine Mv2.setP ?_ _ _ | refine Mv2.setQ ?_ _ _ | refine Mv2.alloc ?_ _)
  have hlf : s + 3 < wf.heap.size := HSF.out.lt
  have w0 := HSF.out.ca
  have x0 := HSF.out.cb
  push_cast at w0 x0
  clear hwf u0 u1 u2 u3 u4 u5 bw4 HS4 q4 r4 rf4 t4 l8 l9 h1 h2 h3 h4 h5 h6
  go_wp2_with fail
  go_region
  go_wp2_with fail
  refine bodyPost_ret (v := .tuple #[.agg #[.int .i64 gk, .int .i64 gn, .string gs], .bool oa, .bool ob, .bool true]) (by simp only [results, Try.results73]; go_simp) rfl ?_
  refine ⟨rfl, ?_, ?_⟩
  · repeat (with_reducible first | exact HSF.out | refine WSt.drew ?_ | refine WSt.setFar ?_ h0 _ _ | refine WSt.bumpA ?_ | refine WSt.bumpB ?_ | refine WSt.alloc ?_ _)
  repeat (with_reducible first | exact HMF.out | refine Mv2.drew ?_ | refine Mv2.setN ?_ (Nat.le_refl _) _ _ | refine Mv2.setP ?_ _ _ | refine Mv2.setQ ?_ _ _ | refine Mv2.alloc ?_ _)

theorem iStep_any (s : Nat) (va vb : Value) (A B : List IV) (pa pb : Nat) (w : World) (hA : Ivs w va A) (hB : Ivs w vb B) (hpa : pa ≤ 4398046511104) (hpb : pb ≤ 4398046511104) (hs : WSt s va vb pa pb w) :
    Calls Try.prog 73 #[.pointer (some ⟨s, 0, none⟩), .pointer (some ⟨s + 2, 0, none⟩), .pointer (some ⟨s + 1, 0, none⟩), .pointer (some ⟨s + 3, 0, none⟩)] w (StepPost s va vb A B pa pb w) := by
  unfold StepPost
  rcases ea : bdV A pa with ⟨⟨fk, fn, fs⟩, ma⟩
  rcases eb : bdV B pb with ⟨⟨gk, gn, gs⟩, mb⟩
  have hf := cmpV_flip ⟨fk, fn, fs⟩ ⟨gk, gn, gs⟩
  cases ma <;> cases mb
  · simpa [passA, nxt, bump, z0] using iStep_none s va vb A B pa pb w fk fn fs gk gn gs hA hB hpa hpb hs ea eb
  · simpa [passA, nxt, bump, z0] using iStep_onlyB s va vb A B pa pb w fk fn fs gk gn gs hA hB hpa hpb hs ea eb
  · simpa [passA, nxt, bump, z0] using iStep_onlyA s va vb A B pa pb w fk fn fs gk gn gs hA hB hpa hpb hs ea eb
  · rcases Int.lt_trichotomy (cmpV ⟨fk, fn, fs⟩ ⟨gk, gn, gs⟩) 0 with hr | hr | hr
    · have h1 : cmpV ⟨fk, fn, fs⟩ ⟨gk, gn, gs⟩ ≤ 0 := by omega
      have h2 : ¬ cmpV ⟨gk, gn, gs⟩ ⟨fk, fn, fs⟩ ≤ 0 := by omega
      simpa [passA, nxt, bump, z0, h1, h2] using iStep_lt s va vb A B pa pb w fk fn fs gk gn gs hA hB hpa hpb hs ea eb hr
    · have h1 : cmpV ⟨fk, fn, fs⟩ ⟨gk, gn, gs⟩ ≤ 0 := by omega
      have h2 : cmpV ⟨gk, gn, gs⟩ ⟨fk, fn, fs⟩ ≤ 0 := by omega
      simpa [passA, nxt, bump, z0, h1, h2] using iStep_eq s va vb A B pa pb w fk fn fs gk gn gs hA hB hpa hpb hs ea eb hr
    · have h1 : ¬ cmpV ⟨fk, fn, fs⟩ ⟨gk, gn, gs⟩ ≤ 0 := by omega
      have h2 : cmpV ⟨gk, gn, gs⟩ ⟨fk, fn, fs⟩ ≤ 0 := by omega
      simpa [passA, nxt, bump, z0, h1, h2] using iStep_gt s va vb A B pa pb w fk fn fs gk gn gs hA hB hpa hpb hs ea eb hr

/-- walk lays four blocks and returns the closure over them. -/
theorem iWalk_any (va vb : Value) (w : World) (ha : va.oneCell' = true) (hb : vb.oneCell' = true) (hva : ∃ a n c, va = .slice a n c) (hvb : ∃ a n c, vb = .slice a n c) :
    Calls Try.prog 68 #[va, vb] w fun e w' => e = .returned (.func (.func 73) #[] #[.pointer (some ⟨w.heap.size, 0, none⟩), .pointer (some ⟨w.heap.size + 2, 0, none⟩), .pointer (some ⟨w.heap.size + 1, 0, none⟩), .pointer (some ⟨w.heap.size + 3, 0, none⟩)]) ∧
      WSt w.heap.size va vb 0 0 w' ∧ Below w.heap.size w w' ∧ w'.heap.size = w.heap.size + 4 := by
  obtain ⟨aa, na, ca, rfl⟩ := hva
  obtain ⟨ab, nb, cb, rfl⟩ := hvb
  have hmf : ∀ (fn : Fn) (first cap : Array Value) (w : World), (Instr.makeFunc fn first cap).run Try.prog w = .ok (.func fn first cap) w := fun _ _ _ _ => rfl
  go_enter Try.func68, Try.ntmps68
  go_wp2_with fail
  go_ret
  refine ⟨rfl, ⟨by simp, by go_simp, by go_simp, by go_simp, by go_simp, by go_simp, by go_simp⟩, by (repeat (first | exact Below.refl _ _ | assumption | refine Below.drew ?_ | refine Below.setCell ?_ (by first | omega | (simp only [World.size_alloc]; omega) | (simp; try omega)) _ | refine Below.alloc ?_ (by first | omega | (simp only [World.size_alloc]; omega) | (simp; try omega)) _)), by simp⟩
end Go.Proofs.Ytmhgmlnnipdomaa
