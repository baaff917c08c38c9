
/- The reference's Apply and Join. -/
import Derived.Test.YtmhgmlnnipdomaaIvOrd

import Derived.Test.YtmhgmlnnipdomaaIvMerge

import Derived.BigRegion

namespace Go.Proofs.Ytmhgmlnnipdomaa

open Go.RowKit Go.Deep

/-- The operation that a number names. -/
def kOf (op : Int) : Bool → Bool → Bool := if op = 1 then (fun x y => x || y) else if op = 2 then (fun x y => x && y) else (fun x y => x && !y)
set_option maxHeartbeats 400000 in
theorem rApply_any (op : Int) (x y : Bool) (w : World) (ho : op = 1 ∨ op = 2 ∨ op = 3) : Calls Try.prog 62 #[.int .i64 op, .bool x, .bool y] w fun e w' => e = .returned (.bool (kOf op x y)) ∧ w' = w := by
  rcases ho with rfl | rfl | rfl <;> cases x <;> cases y
  all_goals
    go_enter Try.func62, Try.ntmps62
    go_wp2_with fail
    go_ret
    exact ⟨rfl, rfl⟩

/-- The interval that begins at the i-th point. -/
def pieceAt (ps : List V) (i : Nat) (p : V) : IV := match ps[i + 1]? with
  | none => ⟨p, z0, true⟩
  | some q => ⟨p, q, false⟩
def JoinPost (base : Nat) (L : List IV) (x : IV) (w : World) (e : Ending) (w' : World) : Prop :=
  ∃ v M, e = .returned v ∧ w'.ownsRow base 59 7 v M.length (ivCells M) ∧ Below base w w' ∧ base ≤ w'.heap.size ∧
    ((∃ L0 y, L = L0 ++ [y] ∧ cmpV y.t x.f = 0 ∧ M = L0 ++ [⟨y.f, x.t, x.o⟩]) ∨ ((∀ L0 y, L = L0 ++ [y] → cmpV y.t x.f ≠ 0) ∧ M = L ++ [x]))
/-- The cells behind a turn of the last end. -/
theorem ivCells_turn (M0 : List IV) (x : IV) (q : V) (b : Bool) :
    ((((ivCells (M0 ++ [x])).set (M0.length * 7 + 3) (.int .i64 q.k)).set (M0.length * 7 + 4) (.int .i64 q.n)).set (M0.length * 7 + 5) (.string q.s)).set (M0.length * 7 + 6) (.bool b) = ivCells (M0 ++ [⟨x.f, q, b⟩]) := by
  rw [ivCells_snoc, ivCells_snoc]
  have hl := length_ivCells M0
  have e : ∀ (j : Nat) (u : Value) (l : List Value), (ivCells M0 ++ l).set (M0.length * 7 + j) u = ivCells M0 ++ l.set j u := fun j u l => by
    rw [List.set_append_right _ _ (by omega)]
    rw [show M0.length * 7 + j - (ivCells M0).length = j by omega]
  rw [e, e, e, e]
  simp [IV.cells]


set_option linter.unusedSimpArgs false in
set_option maxRecDepth 100000 in
set_option maxHeartbeats 3000000 in
theorem rJoin_LastEmpty (base : Nat) (m : Value) (nm : Nat) (L : List IV) (b off i np c : Nat) (fk fn : Int) (fs : ByteArray) (w : World) (hown : w.ownsRow base 59 7 m nm (ivCells L)) (hL : L.length = nm) (hl : nm ≤ 4398046511) (hbase : base ≤ w.heap.size) (hb : b < base)
    (hi : i + 1 = np) (hnp : np ≤ 4398046511104) (hp : CellsV w b (off + i * 3) ⟨fk, fn, fs⟩) (h0 : L = []) :
    Calls Try.prog 63 #[m, .slice (some ⟨b, off, none⟩) np c, .int .i64 i] w (JoinPost base L (⟨⟨fk, fn, fs⟩, z0, true⟩ : IV) w) := by
  obtain ⟨p0, p1, p2⟩ := hp
  simp only at p0 p1 p2
  have hinfo : (Try.prog.info? 59).map (fun i => (i.zero, i.size, i.bytes)) = some (some (.agg #[.int .i64 0, .int .i64 0, .string ⟨#[]⟩, .int .i64 0, .int .i64 0, .string ⟨#[]⟩, .bool false]), 7, 72) := by kernel_rfl
  obtain ⟨i0, hi0, hz0, hz1, hz2⟩ := info_parts hinfo
  have HI := Lib.hid hi0
  have HZ0 := Lib.hid hz0
  have HZ1 := Lib.hid hz1
  have HZ2 := Lib.hid hz2
  clear hi0 hz0 hz1 hz2 hinfo
  have hbw : b < w.heap.size := by omega
  have hi1 : (i : Int) < np := by omega
  have hi2 : (0 : Int) ≤ i := by omega
  have hw1 : IntKind.i64.wrap ((np : Int) - 1) = np - 1 := by rw [IntKind.wrap_i64]; omega
  have he : ((i : Int) == (np : Int) - 1) = true := by rw [beq_iff_eq]; omega
  clear hi
  subst h0
  obtain rfl : nm = 0 := by simpa using hL.symm
  obtain ⟨ma, mc, rfl⟩ := own_slice hown
  have HOWN := Lib.hid hown
  have HLN := Lib.hid hL
  have hkr := hown.lt
  clear hown hL
  go_enter Try.func63, Try.ntmps63
  go_wp2_with fail
  have HB5 : Hid (Below w.heap.size w (w.alloc (.cells #[.int .i64 fk, .int .i64 fn, .string fs, .int .i64 0, .int .i64 0, .string ⟨#[]⟩, .bool true] 59))) := (Below.refl _ _).alloc (Nat.le_refl _) _
  obtain ⟨bx, hbx⟩ : ∃ bx, w.heap.size = bx := ⟨_, rfl⟩
  have q0 : (w.alloc (.cells #[.int .i64 fk, .int .i64 fn, .string fs, .int .i64 0, .int .i64 0, .string ⟨#[]⟩, .bool true] 59)).cell? ⟨bx, 0, none⟩ = some (.int .i64 fk) := by subst hbx; exact World.cell?_alloc_mark w #[.int .i64 fk, .int .i64 fn, .string fs, .int .i64 0, .int .i64 0, .string ⟨#[]⟩, .bool true] 59 (0, 0) 0
  have q1 : (w.alloc (.cells #[.int .i64 fk, .int .i64 fn, .string fs, .int .i64 0, .int .i64 0, .string ⟨#[]⟩, .bool true] 59)).cell? ⟨bx, 1, none⟩ = some (.int .i64 fn) := by subst hbx; exact World.cell?_alloc_mark w #[.int .i64 fk, .int .i64 fn, .string fs, .int .i64 0, .int .i64 0, .string ⟨#[]⟩, .bool true] 59 (0, 0) 1
  have q2 : (w.alloc (.cells #[.int .i64 fk, .int .i64 fn, .string fs, .int .i64 0, .int .i64 0, .string ⟨#[]⟩, .bool true] 59)).cell? ⟨bx, 2, none⟩ = some (.string fs) := by subst hbx; exact World.cell?_alloc_mark w #[.int .i64 fk, .int .i64 fn, .string fs, .int .i64 0, .int .i64 0, .string ⟨#[]⟩, .bool true] 59 (0, 0) 2
  have q3 : (w.alloc (.cells #[.int .i64 fk, .int .i64 fn, .string fs, .int .i64 0, .int .i64 0, .string ⟨#[]⟩, .bool true] 59)).cell? ⟨bx, 3, none⟩ = some (.int .i64 0) := by subst hbx; exact World.cell?_alloc_mark w #[.int .i64 fk, .int .i64 fn, .string fs, .int .i64 0, .int .i64 0, .string ⟨#[]⟩, .bool true] 59 (0, 0) 3
  have q4 : (w.alloc (.cells #[.int .i64 fk, .int .i64 fn, .string fs, .int .i64 0, .int .i64 0, .string ⟨#[]⟩, .bool true] 59)).cell? ⟨bx, 4, none⟩ = some (.int .i64 0) := by subst hbx; exact World.cell?_alloc_mark w #[.int .i64 fk, .int .i64 fn, .string fs, .int .i64 0, .int .i64 0, .string ⟨#[]⟩, .bool true] 59 (0, 0) 4
  have q5 : (w.alloc (.cells #[.int .i64 fk, .int .i64 fn, .string fs, .int .i64 0, .int .i64 0, .string ⟨#[]⟩, .bool true] 59)).cell? ⟨bx, 5, none⟩ = some (.string ⟨#[]⟩) := by subst hbx; exact World.cell?_alloc_mark w #[.int .i64 fk, .int .i64 fn, .string fs, .int .i64 0, .int .i64 0, .string ⟨#[]⟩, .bool true] 59 (0, 0) 5
  have q6 : (w.alloc (.cells #[.int .i64 fk, .int .i64 fn, .string fs, .int .i64 0, .int .i64 0, .string ⟨#[]⟩, .bool true] 59)).cell? ⟨bx, 6, none⟩ = some (.bool true) := by subst hbx; exact World.cell?_alloc_mark w #[.int .i64 fk, .int .i64 fn, .string fs, .int .i64 0, .int .i64 0, .string ⟨#[]⟩, .bool true] 59 (0, 0) 6
  have zq : bx < (w.alloc (.cells #[.int .i64 fk, .int .i64 fn, .string fs, .int .i64 0, .int .i64 0, .string ⟨#[]⟩, .bool true] 59)).heap.size := by simp only [World.size_alloc]; omega
  have HOW5 : Hid ((w.alloc (.cells #[.int .i64 fk, .int .i64 fn, .string fs, .int .i64 0, .int .i64 0, .string ⟨#[]⟩, .bool true] 59)).ownsRow base 59 7 (.slice ma 0 mc) 0 (ivCells [])) := HOWN.out.alloc _
  have hb5 : base ≤ (w.alloc (.cells #[.int .i64 fk, .int .i64 fn, .string fs, .int .i64 0, .int .i64 0, .string ⟨#[]⟩, .bool true] 59)).heap.size := by simp only [World.size_alloc]; omega
  rw [hbx]
  have HBX : Hid (base ≤ bx) := by show _ ≤ _; omega
  have HBW : Hid (Below base w (w.alloc (.cells #[.int .i64 fk, .int .i64 fn, .string fs, .int .i64 0, .int .i64 0, .string ⟨#[]⟩, .bool true] 59))) := HB5.out.mono (by omega)
  generalize (w.alloc (.cells #[.int .i64 fk, .int .i64 fn, .string fs, .int .i64 0, .int .i64 0, .string ⟨#[]⟩, .bool true] 59)) = w5 at *
  clear HB5 hbx p0 p1 p2 hbw hbase HOWN
  have HK : Hid (∀ W, Below w5.heap.size w5 W → W.cell? ⟨bx, 0, none⟩ = some (.int .i64 fk) ∧ W.cell? ⟨bx, 1, none⟩ = some (.int .i64 fn) ∧ W.cell? ⟨bx, 2, none⟩ = some (.string fs) ∧ W.cell? ⟨bx, 3, none⟩ = some (.int .i64 0) ∧ W.cell? ⟨bx, 4, none⟩ = some (.int .i64 0) ∧ W.cell? ⟨bx, 5, none⟩ = some (.string ⟨#[]⟩) ∧ W.cell? ⟨bx, 6, none⟩ = some (.bool true)) := fun W hb => ⟨(hb.cell (p := ⟨bx, 0, none⟩) zq).trans q0, (hb.cell (p := ⟨bx, 1, none⟩) zq).trans q1, (hb.cell (p := ⟨bx, 2, none⟩) zq).trans q2, (hb.cell (p := ⟨bx, 3, none⟩) zq).trans q3, (hb.cell (p := ⟨bx, 4, none⟩) zq).trans q4, (hb.cell (p := ⟨bx, 5, none⟩) zq).trans q5, (hb.cell (p := ⟨bx, 6, none⟩) zq).trans q6⟩
  refine wp_region_held_drew (S := (fun W => W.cell? ⟨bx, 0, none⟩ = some (.int .i64 fk) ∧ W.cell? ⟨bx, 1, none⟩ = some (.int .i64 fn) ∧ W.cell? ⟨bx, 2, none⟩ = some (.string fs) ∧ W.cell? ⟨bx, 3, none⟩ = some (.int .i64 0) ∧ W.cell? ⟨bx, 4, none⟩ = some (.int .i64 0) ∧ W.cell? ⟨bx, 5, none⟩ = some (.string ⟨#[]⟩) ∧ W.cell? ⟨bx, 6, none⟩ = some (.bool true))) (by kernel_rfl) (by exact ⟨q0, q1, q2, q3, q4, q5, q6⟩) (fun hHeld => ?_)
  refine wpAnyH_takeD (i := 0) (d := 30) (v := ?_) rfl rfl (by kernel_rfl) (by kernel_rfl) (by kernel_rfl) (fun _ _ _ h => h) (Or.inl ⟨by rfl, ?_⟩) (by assumption) ?_; rotate_left
  · intro W hSw; (try dsimp only at hSw); go_simp; (try with_reducible rfl)
  (try simp only [List.set_cons_zero, List.set_cons_succ])
  refine wpAnyH_takeD (i := 1) (d := 31) (v := ?_) rfl rfl (by kernel_rfl) (by kernel_rfl) (by kernel_rfl) (fun _ _ _ h => h) (Or.inl ⟨by rfl, ?_⟩) (by assumption) ?_; rotate_left
  · intro W hSw; (try dsimp only at hSw); go_simp; (try with_reducible rfl)
  (try simp only [List.set_cons_zero, List.set_cons_succ])
  refine wpAnyH_takeD (i := 2) (d := 32) (v := ?_) rfl rfl (by kernel_rfl) (by kernel_rfl) (by kernel_rfl) (fun _ _ _ h => h) (Or.inl ⟨by rfl, ?_⟩) (by assumption) ?_; rotate_left
  · intro W hSw; (try dsimp only at hSw); go_simp; (try with_reducible rfl)
  (try simp only [List.set_cons_zero, List.set_cons_succ])
  refine wpAnyH_skips (by kernel_rfl) (fun _ _ _ _ _ h => h) (by assumption) [(3, 33), (4, 34), (5, 35), (6, 36), (7, 37), (8, 38), (9, 39)] (fuel := 13) (by kernel_rfl) ?_
  simp only [skipPut, skipList]
  (try simp only [List.set_cons_zero, List.set_cons_succ])
  refine wpAnyH_takeD (i := 10) (d := 40) (v := ?_) rfl rfl (by kernel_rfl) (by kernel_rfl) (by kernel_rfl) (fun _ _ _ h => h) (Or.inl ⟨by rfl, ?_⟩) (by assumption) ?_; rotate_left
  · intro W hSw; (try dsimp only at hSw); go_simp; (try with_reducible rfl)
  (try simp only [List.set_cons_zero, List.set_cons_succ])
  refine wpAnyH_takeD (i := 11) (d := 41) (v := ?_) rfl rfl (by kernel_rfl) (by kernel_rfl) (by kernel_rfl) (fun _ _ _ h => h) (Or.inl ⟨by rfl, ?_⟩) (by assumption) ?_; rotate_left
  · intro W hSw; (try dsimp only at hSw); go_simp; (try with_reducible rfl)
  (try simp only [List.set_cons_zero, List.set_cons_succ])
  refine wpAnyH_skips (by kernel_rfl) (fun _ _ _ _ _ h => h) (by assumption) [(12, 42), (13, 43), (14, 44), (15, 45), (16, 46), (17, 47), (18, 48), (19, 49), (20, 50), (21, 51)] (fuel := 1) (by kernel_rfl) ?_
  simp only [skipPut, skipList]
  (try simp only [List.set_cons_zero, List.set_cons_succ])
  refine wpAnyH_takeD (i := 22) (d := 52) (v := ?_) rfl rfl (by kernel_rfl) (by kernel_rfl) (by kernel_rfl) (fun _ _ _ h => h) (Or.inl ⟨by rfl, ?_⟩) (by assumption) ?_; rotate_left
  · intro W hSw; (try dsimp only at hSw); go_simp; (try with_reducible rfl)
  (try simp only [List.set_cons_zero, List.set_cons_succ])
  refine wpAnyH_done (by kernel_rfl) ?_ _
  have HBZ : Hid (Below w5.heap.size w5 w5.drew) := (Below.refl _ _).drew
  have HOWZ : Hid (w5.drew.ownsRow base 59 7 (.slice ma 0 mc) 0 (ivCells [])) := HOW5.out.drew
  have A1 : Hid (0 + 1 ≤ maxLen) := by show _ ≤ _; unfold maxLen; omega
  have A2 : Hid ((0 + 1) * 72 ≤ 140737488355328) := by show _ ≤ _; omega
  have A3 : Hid (∀ O : Obj, base ≤ (w5.drew.alloc O).heap.size) := fun O => by have := HBZ.out.size; simp only [World.size_alloc]; omega
  have A4 : Hid (∀ t (j : Nat) (u : Value), ([.int .i64 fk, .int .i64 fn, .string fs, .int .i64 0, .int .i64 0, .string ⟨#[]⟩, .bool true] : List Value)[j]? = some u → (w5.drew.alloc (.cells #[.int .i64 fk, .int .i64 fn, .string fs, .int .i64 0, .int .i64 0, .string ⟨#[]⟩, .bool true] t)).cell? ((⟨w5.drew.heap.size, 0, none⟩ : Addr).add j) = some u) := by
    intro t j u hj
    have ha : (⟨w5.drew.heap.size, 0, none⟩ : Addr).add j = ⟨w5.drew.heap.size, j, none⟩ := by unfold Addr.add; split <;> simp_all
    rw [ha]
    refine (World.cell?_alloc_mark w5.drew #[.int .i64 fk, .int .i64 fn, .string fs, .int .i64 0, .int .i64 0, .string ⟨#[]⟩, .bool true] t (0, 0) j).trans ?_
    rw [← hj]; simp
  have A5 : Hid (∀ u ∈ ([.int .i64 fk, .int .i64 fn, .string fs, .int .i64 0, .int .i64 0, .string ⟨#[]⟩, .bool true] : List Value), u.oneCell' = true) := by
    intro u hu
    simp only [List.mem_cons, List.not_mem_nil, or_false] at hu
    rcases hu with rfl | rfl | rfl | rfl | rfl | rfl | rfl <;> rfl
  go_wp2_with (at_builtin; refine wpList_append_own _ (by rfl) _ _ 23 (by rfl) base 59 i0 (.agg #[.int .i64 0, .int .i64 0, .string ⟨#[]⟩, .int .i64 0, .int .i64 0, .string ⟨#[]⟩, .bool false]) 7 72 Try.underlying23 HI.out HZ0.out HZ1.out HZ2.out rfl (by decide) (.slice ma 0 mc) 0 (ivCells []) (by rfl) (HOWZ.out.alloc _) ⟨w5.drew.heap.size, 0, none⟩ 1 1 [.int .i64 fk, .int .i64 fn, .string fs, .int .i64 0, .int .i64 0, .string ⟨#[]⟩, .bool true] (by rfl) (by rfl) (A4.out _) A5.out A1.out A2.out (A3.out _) ?_; intro v' w3 hown2 hgr _; have HOWN2 := Lib.hid hown2; have HGR := Lib.hid hgr; clear hown2 hgr)
  go_ret
  have hbz : Below base w w5.drew := HBW.out.trans (HBZ.out.mono hb5)
  have hsz : base ≤ w5.drew.heap.size := Nat.le_trans hb5 HBZ.out.size
  have hsz2 : base ≤ w5.heap.size := hsz
  refine ⟨v', [] ++ [(⟨⟨fk, fn, fs⟩, z0, true⟩ : IV)], rfl, ?_, (hbz.alloc hsz _).grown HGR.out (by first | (simp only [World.size_alloc]; omega) | (simp; omega)) (fun k e => (hkr k e).1), by have := HGR.out.size; first | (simp only [World.size_alloc] at this; omega) | (simp at this; omega), .inr ⟨?_, rfl⟩⟩
  · rw [ivCells_snoc, List.length_append, HLN.out]
    exact HOWN2.out
  · intro L0 y e; simp at e

set_option linter.unusedSimpArgs false in
set_option maxRecDepth 100000 in
set_option maxHeartbeats 3000000 in
theorem rJoin_LastOther (base : Nat) (m : Value) (nm : Nat) (L : List IV) (b off i np c : Nat) (fk fn : Int) (fs : ByteArray) (w : World) (hown : w.ownsRow base 59 7 m nm (ivCells L)) (hL : L.length = nm) (hl : nm ≤ 4398046511) (hbase : base ≤ w.heap.size) (hb : b < base)
    (hi : i + 1 = np) (hnp : np ≤ 4398046511104) (hp : CellsV w b (off + i * 3) ⟨fk, fn, fs⟩) (M0 : List IV) (y : IV) (hM : L = M0 ++ [y]) (hyo : y.o = false) (hcm : cmpV y.t ⟨fk, fn, fs⟩ ≠ 0) :
    Calls Try.prog 63 #[m, .slice (some ⟨b, off, none⟩) np c, .int .i64 i] w (JoinPost base L (⟨⟨fk, fn, fs⟩, z0, true⟩ : IV) w) := by
  obtain ⟨p0, p1, p2⟩ := hp
  simp only at p0 p1 p2
  have hinfo : (Try.prog.info? 59).map (fun i => (i.zero, i.size, i.bytes)) = some (some (.agg #[.int .i64 0, .int .i64 0, .string ⟨#[]⟩, .int .i64 0, .int .i64 0, .string ⟨#[]⟩, .bool false]), 7, 72) := by kernel_rfl
  obtain ⟨i0, hi0, hz0, hz1, hz2⟩ := info_parts hinfo
  have HI := Lib.hid hi0
  have HZ0 := Lib.hid hz0
  have HZ1 := Lib.hid hz1
  have HZ2 := Lib.hid hz2
  clear hi0 hz0 hz1 hz2 hinfo
  have hbw : b < w.heap.size := by omega
  have hi1 : (i : Int) < np := by omega
  have hi2 : (0 : Int) ≤ i := by omega
  have hw1 : IntKind.i64.wrap ((np : Int) - 1) = np - 1 := by rw [IntKind.wrap_i64]; omega
  have he : ((i : Int) == (np : Int) - 1) = true := by rw [beq_iff_eq]; omega
  clear hi
  subst hM
  obtain ⟨m0, hm0⟩ : ∃ m, M0.length = m := ⟨_, rfl⟩
  have hnm0 : nm = m0 + 1 := by rw [← hL, List.length_append, hm0]; rfl
  obtain ⟨g0, mc, rfl, hown⟩ := own_some (by omega) hown
  have hcx : ∀ j, j < 7 → w.cell? ⟨g0, m0 * 7 + j, none⟩ = (y.cells)[j]? := fun j hj => by
    rw [hown.cellAt (m0 * 7 + j) (by omega), ivCells_at (M0 ++ [y]) m0 (by rw [List.length_append, hm0]; simp) j hj]
    simp [← hm0]
  obtain ⟨⟨yk, yn, ys⟩, ⟨uk, un, us⟩, yo⟩ := y
  simp only at hyo
  subst hyo
  have r3 : w.cell? ⟨g0, m0 * 7 + 3, none⟩ = some (.int .i64 uk) := hcx 3 (by omega)
  have r4 : w.cell? ⟨g0, m0 * 7 + 4, none⟩ = some (.int .i64 un) := hcx 4 (by omega)
  have r5 : w.cell? ⟨g0, m0 * 7 + 5, none⟩ = some (.string us) := hcx 5 (by omega)
  have r6 : w.cell? ⟨g0, m0 * 7 + 6, none⟩ = some (.bool false) := hcx 6 (by omega)
  have hg0 := hown.lt g0 rfl
  have hgl : g0 < w.heap.size := hg0.2
  have fz : ∀ j, w.frozen? ⟨g0, j, none⟩ = false := fun j => hown.frozenAt j
  have hm1 : (m0 : Int) < nm := by omega
  have hm2 : (0 : Int) ≤ m0 := by omega
  have hm3 : IntKind.i64.wrap ((nm : Int) - 1) = m0 := by rw [IntKind.wrap_i64]; omega
  have hm4 : (nm : Int) - 1 = m0 := by omega
  have hm5 : IntKind.i64.wrap (m0 : Int) = m0 := by rw [IntKind.wrap_i64]; omega
  have hn0 : decide (0 < nm) = true := by simp; omega
  have HPC : Hid (∀ W, Calls Try.prog 35 _ W (fun e w' => e = _ ∧ Below W.heap.size W w')) := fun W => (rCompare_any uk un us fk fn fs W).mono fun e w' h => ⟨h.1, h.2.below⟩
  simp only at hcm
  have HCM := Lib.hid hcm
  generalize cmpV ⟨uk, un, us⟩ ⟨fk, fn, fs⟩ = cc at HPC hcm
  have hcb : (cc == 0) = false := by simpa using hcm
  have HM0 := Lib.hid hm0
  have HNM0 := Lib.hid hnm0
  clear hcx hm0 hnm0 hcm
  have HOWN := Lib.hid hown
  have HLN := Lib.hid hL
  have hkr := hown.lt
  clear hown hL
  go_enter Try.func63, Try.ntmps63
  go_wp2_with fail
  have HB5 : Hid (Below w.heap.size w (w.alloc (.cells #[.int .i64 fk, .int .i64 fn, .string fs, .int .i64 0, .int .i64 0, .string ⟨#[]⟩, .bool true] 59))) := (Below.refl _ _).alloc (Nat.le_refl _) _
  obtain ⟨bx, hbx⟩ : ∃ bx, w.heap.size = bx := ⟨_, rfl⟩
  have q0 : (w.alloc (.cells #[.int .i64 fk, .int .i64 fn, .string fs, .int .i64 0, .int .i64 0, .string ⟨#[]⟩, .bool true] 59)).cell? ⟨bx, 0, none⟩ = some (.int .i64 fk) := by subst hbx; exact World.cell?_alloc_mark w #[.int .i64 fk, .int .i64 fn, .string fs, .int .i64 0, .int .i64 0, .string ⟨#[]⟩, .bool true] 59 (0, 0) 0
  have q1 : (w.alloc (.cells #[.int .i64 fk, .int .i64 fn, .string fs, .int .i64 0, .int .i64 0, .string ⟨#[]⟩, .bool true] 59)).cell? ⟨bx, 1, none⟩ = some (.int .i64 fn) := by subst hbx; exact World.cell?_alloc_mark w #[.int .i64 fk, .int .i64 fn, .string fs, .int .i64 0, .int .i64 0, .string ⟨#[]⟩, .bool true] 59 (0, 0) 1
  have q2 : (w.alloc (.cells #[.int .i64 fk, .int .i64 fn, .string fs, .int .i64 0, .int .i64 0, .string ⟨#[]⟩, .bool true] 59)).cell? ⟨bx, 2, none⟩ = some (.string fs) := by subst hbx; exact World.cell?_alloc_mark w #[.int .i64 fk, .int .i64 fn, .string fs, .int .i64 0, .int .i64 0, .string ⟨#[]⟩, .bool true] 59 (0, 0) 2
  have q3 : (w.alloc (.cells #[.int .i64 fk, .int .i64 fn, .string fs, .int .i64 0, .int .i64 0, .string ⟨#[]⟩, .bool true] 59)).cell? ⟨bx, 3, none⟩ = some (.int .i64 0) := by subst hbx; exact World.cell?_alloc_mark w #[.int .i64 fk, .int .i64 fn, .string fs, .int .i64 0, .int .i64 0, .string ⟨#[]⟩, .bool true] 59 (0, 0) 3
  have q4 : (w.alloc (.cells #[.int .i64 fk, .int .i64 fn, .string fs, .int .i64 0, .int .i64 0, .string ⟨#[]⟩, .bool true] 59)).cell? ⟨bx, 4, none⟩ = some (.int .i64 0) := by subst hbx; exact World.cell?_alloc_mark w #[.int .i64 fk, .int .i64 fn, .string fs, .int .i64 0, .int .i64 0, .string ⟨#[]⟩, .bool true] 59 (0, 0) 4
  have q5 : (w.alloc (.cells #[.int .i64 fk, .int .i64 fn, .string fs, .int .i64 0, .int .i64 0, .string ⟨#[]⟩, .bool true] 59)).cell? ⟨bx, 5, none⟩ = some (.string ⟨#[]⟩) := by subst hbx; exact World.cell?_alloc_mark w #[.int .i64 fk, .int .i64 fn, .string fs, .int .i64 0, .int .i64 0, .string ⟨#[]⟩, .bool true] 59 (0, 0) 5
  have q6 : (w.alloc (.cells #[.int .i64 fk, .int .i64 fn, .string fs, .int .i64 0, .int .i64 0, .string ⟨#[]⟩, .bool true] 59)).cell? ⟨bx, 6, none⟩ = some (.bool true) := by subst hbx; exact World.cell?_alloc_mark w #[.int .i64 fk, .int .i64 fn, .string fs, .int .i64 0, .int .i64 0, .string ⟨#[]⟩, .bool true] 59 (0, 0) 6
  have t0 : (w.alloc (.cells #[.int .i64 fk, .int .i64 fn, .string fs, .int .i64 0, .int .i64 0, .string ⟨#[]⟩, .bool true] 59)).cell? ⟨g0, m0 * 7 + 3, none⟩ = some (.int .i64 uk) := (HB5.out.cell (p := ⟨g0, m0 * 7 + 3 + 0, none⟩) hgl).trans r3
  have t1 : (w.alloc (.cells #[.int .i64 fk, .int .i64 fn, .string fs, .int .i64 0, .int .i64 0, .string ⟨#[]⟩, .bool true] 59)).cell? ⟨g0, m0 * 7 + 3 + 1, none⟩ = some (.int .i64 un) := (HB5.out.cell (p := ⟨g0, m0 * 7 + 3 + 1, none⟩) hgl).trans r4
  have t2 : (w.alloc (.cells #[.int .i64 fk, .int .i64 fn, .string fs, .int .i64 0, .int .i64 0, .string ⟨#[]⟩, .bool true] 59)).cell? ⟨g0, m0 * 7 + 3 + 2, none⟩ = some (.string us) := (HB5.out.cell (p := ⟨g0, m0 * 7 + 3 + 2, none⟩) hgl).trans r5
  have t3 : (w.alloc (.cells #[.int .i64 fk, .int .i64 fn, .string fs, .int .i64 0, .int .i64 0, .string ⟨#[]⟩, .bool true] 59)).cell? ⟨g0, m0 * 7 + 3 + 3, none⟩ = some (.bool false) := (HB5.out.cell (p := ⟨g0, m0 * 7 + 3 + 3, none⟩) hgl).trans r6
  have fz5 : ∀ j, (w.alloc (.cells #[.int .i64 fk, .int .i64 fn, .string fs, .int .i64 0, .int .i64 0, .string ⟨#[]⟩, .bool true] 59)).frozen? ⟨g0, j, none⟩ = false := fun j => (HB5.out.frozen (p := ⟨g0, j, none⟩) hgl).trans (fz j)
  have zt : g0 < (w.alloc (.cells #[.int .i64 fk, .int .i64 fn, .string fs, .int .i64 0, .int .i64 0, .string ⟨#[]⟩, .bool true] 59)).heap.size := by simp only [World.size_alloc]; omega
  have hgx : g0 ≠ bx := by omega
  have zq : bx < (w.alloc (.cells #[.int .i64 fk, .int .i64 fn, .string fs, .int .i64 0, .int .i64 0, .string ⟨#[]⟩, .bool true] 59)).heap.size := by simp only [World.size_alloc]; omega
  have HOW5 : Hid ((w.alloc (.cells #[.int .i64 fk, .int .i64 fn, .string fs, .int .i64 0, .int .i64 0, .string ⟨#[]⟩, .bool true] 59)).ownsRow base 59 7 (.slice (some ⟨g0, 0, none⟩) nm mc) nm (ivCells (M0 ++ [⟨⟨yk, yn, ys⟩, ⟨uk, un, us⟩, false⟩]))) := HOWN.out.alloc _
  have hb5 : base ≤ (w.alloc (.cells #[.int .i64 fk, .int .i64 fn, .string fs, .int .i64 0, .int .i64 0, .string ⟨#[]⟩, .bool true] 59)).heap.size := by simp only [World.size_alloc]; omega
  rw [hbx]
  have HBX : Hid (base ≤ bx) := by show _ ≤ _; omega
  have HBW : Hid (Below base w (w.alloc (.cells #[.int .i64 fk, .int .i64 fn, .string fs, .int .i64 0, .int .i64 0, .string ⟨#[]⟩, .bool true] 59))) := HB5.out.mono (by omega)
  generalize (w.alloc (.cells #[.int .i64 fk, .int .i64 fn, .string fs, .int .i64 0, .int .i64 0, .string ⟨#[]⟩, .bool true] 59)) = w5 at *
  clear HB5 hbx p0 p1 p2 hbw r3 r4 r5 r6 fz hgl hbase HOWN
  have HK : Hid (∀ W, Below w5.heap.size w5 W → W.cell? ⟨bx, 0, none⟩ = some (.int .i64 fk) ∧ W.cell? ⟨bx, 1, none⟩ = some (.int .i64 fn) ∧ W.cell? ⟨bx, 2, none⟩ = some (.string fs) ∧ W.cell? ⟨bx, 3, none⟩ = some (.int .i64 0) ∧ W.cell? ⟨bx, 4, none⟩ = some (.int .i64 0) ∧ W.cell? ⟨bx, 5, none⟩ = some (.string ⟨#[]⟩) ∧ W.cell? ⟨bx, 6, none⟩ = some (.bool true) ∧ W.cell? ⟨g0, m0 * 7 + 3, none⟩ = some (.int .i64 uk) ∧ W.cell? ⟨g0, m0 * 7 + 3 + 1, none⟩ = some (.int .i64 un) ∧ W.cell? ⟨g0, m0 * 7 + 3 + 2, none⟩ = some (.string us) ∧ W.cell? ⟨g0, m0 * 7 + 3 + 3, none⟩ = some (.bool false)) := fun W hb => ⟨(hb.cell (p := ⟨bx, 0, none⟩) zq).trans q0, (hb.cell (p := ⟨bx, 1, none⟩) zq).trans q1, (hb.cell (p := ⟨bx, 2, none⟩) zq).trans q2, (hb.cell (p := ⟨bx, 3, none⟩) zq).trans q3, (hb.cell (p := ⟨bx, 4, none⟩) zq).trans q4, (hb.cell (p := ⟨bx, 5, none⟩) zq).trans q5, (hb.cell (p := ⟨bx, 6, none⟩) zq).trans q6, (hb.cell (p := ⟨g0, m0 * 7 + 3, none⟩) zt).trans t0, (hb.cell (p := ⟨g0, m0 * 7 + 3 + 1, none⟩) zt).trans t1, (hb.cell (p := ⟨g0, m0 * 7 + 3 + 2, none⟩) zt).trans t2, (hb.cell (p := ⟨g0, m0 * 7 + 3 + 3, none⟩) zt).trans t3⟩
  go_region_held3 (fun W => W.cell? ⟨bx, 0, none⟩ = some (.int .i64 fk) ∧ W.cell? ⟨bx, 1, none⟩ = some (.int .i64 fn) ∧ W.cell? ⟨bx, 2, none⟩ = some (.string fs) ∧ W.cell? ⟨bx, 3, none⟩ = some (.int .i64 0) ∧ W.cell? ⟨bx, 4, none⟩ = some (.int .i64 0) ∧ W.cell? ⟨bx, 5, none⟩ = some (.string ⟨#[]⟩) ∧ W.cell? ⟨bx, 6, none⟩ = some (.bool true) ∧ W.cell? ⟨g0, m0 * 7 + 3, none⟩ = some (.int .i64 uk) ∧ W.cell? ⟨g0, m0 * 7 + 3 + 1, none⟩ = some (.int .i64 un) ∧ W.cell? ⟨g0, m0 * 7 + 3 + 2, none⟩ = some (.string us) ∧ W.cell? ⟨g0, m0 * 7 + 3 + 3, none⟩ = some (.bool false))
    (first | exact ⟨q0d, q1d, q2d, q3d, q4d, q5d, q6d, t0d, t1d, t2d, t3d⟩ | exact ⟨q0, q1, q2, q3, q4, q5, q6, t0, t1, t2, t3⟩)
    (first | (go_at_call 35; (with_reducible refine (HPC.out _).mono ?_); rintro e wzd ⟨rfl, hg⟩; have hbd : Below w5.heap.size w5 wzd := Below.trans (by (repeat (first | exact Below.refl _ _ | assumption | refine Below.drew ?_ | refine Below.setCell ?_ (by simp; try omega) _ | refine Below.alloc ?_ (by simp; try omega) _))) (hg.mono (by first | (simp; done) | ((try simp); exact Below.size (by assumption)))); obtain ⟨q0d, q1d, q2d, q3d, q4d, q5d, q6d, t0d, t1d, t2d, t3d⟩ := HK.out wzd hbd; clear hg))
  have HBZ : Hid (Below w5.heap.size w5 wzd) := hbd
  have HOWZ : Hid (wzd.ownsRow base 59 7 (.slice (some ⟨g0, 0, none⟩) nm mc) nm (ivCells (M0 ++ [⟨⟨yk, yn, ys⟩, ⟨uk, un, us⟩, false⟩]))) := own_below HOW5.out hbd
  clear hbd
  have A1 : Hid (nm + 1 ≤ maxLen) := by show _ ≤ _; unfold maxLen; omega
  have A2 : Hid ((nm + 1) * 72 ≤ 140737488355328) := by show _ ≤ _; omega
  have A3 : Hid (∀ O : Obj, base ≤ (wzd.alloc O).heap.size) := fun O => by have := HBZ.out.size; simp only [World.size_alloc]; omega
  have A4 : Hid (∀ t (j : Nat) (u : Value), ([.int .i64 fk, .int .i64 fn, .string fs, .int .i64 0, .int .i64 0, .string ⟨#[]⟩, .bool true] : List Value)[j]? = some u → (wzd.alloc (.cells #[.int .i64 fk, .int .i64 fn, .string fs, .int .i64 0, .int .i64 0, .string ⟨#[]⟩, .bool true] t)).cell? ((⟨wzd.heap.size, 0, none⟩ : Addr).add j) = some u) := by
    intro t j u hj
    have ha : (⟨wzd.heap.size, 0, none⟩ : Addr).add j = ⟨wzd.heap.size, j, none⟩ := by unfold Addr.add; split <;> simp_all
    rw [ha]
    refine (World.cell?_alloc_mark wzd #[.int .i64 fk, .int .i64 fn, .string fs, .int .i64 0, .int .i64 0, .string ⟨#[]⟩, .bool true] t (0, 0) j).trans ?_
    rw [← hj]; simp
  have A5 : Hid (∀ u ∈ ([.int .i64 fk, .int .i64 fn, .string fs, .int .i64 0, .int .i64 0, .string ⟨#[]⟩, .bool true] : List Value), u.oneCell' = true) := by
    intro u hu
    simp only [List.mem_cons, List.not_mem_nil, or_false] at hu
    rcases hu with rfl | rfl | rfl | rfl | rfl | rfl | rfl <;> rfl
  go_wp2_with (at_builtin; refine wpList_append_own _ (by rfl) _ _ 23 (by rfl) base 59 i0 (.agg #[.int .i64 0, .int .i64 0, .string ⟨#[]⟩, .int .i64 0, .int .i64 0, .string ⟨#[]⟩, .bool false]) 7 72 Try.underlying23 HI.out HZ0.out HZ1.out HZ2.out rfl (by decide) (.slice (some ⟨g0, 0, none⟩) nm mc) nm (ivCells (M0 ++ [⟨⟨yk, yn, ys⟩, ⟨uk, un, us⟩, false⟩])) (by rfl) (HOWZ.out.alloc _) ⟨wzd.heap.size, 0, none⟩ 1 1 [.int .i64 fk, .int .i64 fn, .string fs, .int .i64 0, .int .i64 0, .string ⟨#[]⟩, .bool true] (by rfl) (by rfl) (A4.out _) A5.out A1.out A2.out (A3.out _) ?_; intro v' w3 hown2 hgr _; have HOWN2 := Lib.hid hown2; have HGR := Lib.hid hgr; clear hown2 hgr)
  go_ret
  have hbz : Below base w wzd := HBW.out.trans (HBZ.out.mono hb5)
  have hsz : base ≤ wzd.heap.size := Nat.le_trans hb5 HBZ.out.size
  have hsz2 : base ≤ wzd.heap.size := hsz
  refine ⟨v', (M0 ++ [⟨⟨yk, yn, ys⟩, ⟨uk, un, us⟩, false⟩]) ++ [(⟨⟨fk, fn, fs⟩, z0, true⟩ : IV)], rfl, ?_, (hbz.alloc hsz _).grown HGR.out (by first | (simp only [World.size_alloc]; omega) | (simp; omega)) (fun k e => (hkr k e).1), by have := HGR.out.size; first | (simp only [World.size_alloc] at this; omega) | (simp at this; omega), .inr ⟨?_, rfl⟩⟩
  · rw [ivCells_snoc, List.length_append, HLN.out]
    exact HOWN2.out
  · intro L0 y e
    have e2 : (⟨⟨yk, yn, ys⟩, ⟨uk, un, us⟩, false⟩ : IV) = y := by simpa using (List.append_inj' e rfl).2
    rw [← e2]
    exact HCM.out

set_option linter.unusedSimpArgs false in
set_option maxRecDepth 100000 in
set_option maxHeartbeats 3000000 in
theorem rJoin_LastTouch (base : Nat) (m : Value) (nm : Nat) (L : List IV) (b off i np c : Nat) (fk fn : Int) (fs : ByteArray) (w : World) (hown : w.ownsRow base 59 7 m nm (ivCells L)) (hL : L.length = nm) (hl : nm ≤ 4398046511) (hbase : base ≤ w.heap.size) (hb : b < base)
    (hi : i + 1 = np) (hnp : np ≤ 4398046511104) (hp : CellsV w b (off + i * 3) ⟨fk, fn, fs⟩) (M0 : List IV) (y : IV) (hM : L = M0 ++ [y]) (hyo : y.o = false) (hcm : cmpV y.t ⟨fk, fn, fs⟩ = 0) :
    Calls Try.prog 63 #[m, .slice (some ⟨b, off, none⟩) np c, .int .i64 i] w (JoinPost base L (⟨⟨fk, fn, fs⟩, z0, true⟩ : IV) w) := by
  obtain ⟨p0, p1, p2⟩ := hp
  simp only at p0 p1 p2
  have hinfo : (Try.prog.info? 59).map (fun i => (i.zero, i.size, i.bytes)) = some (some (.agg #[.int .i64 0, .int .i64 0, .string ⟨#[]⟩, .int .i64 0, .int .i64 0, .string ⟨#[]⟩, .bool false]), 7, 72) := by kernel_rfl
  obtain ⟨i0, hi0, hz0, hz1, hz2⟩ := info_parts hinfo
  have HI := Lib.hid hi0
  have HZ0 := Lib.hid hz0
  have HZ1 := Lib.hid hz1
  have HZ2 := Lib.hid hz2
  clear hi0 hz0 hz1 hz2 hinfo
  have hbw : b < w.heap.size := by omega
  have hi1 : (i : Int) < np := by omega
  have hi2 : (0 : Int) ≤ i := by omega
  have hw1 : IntKind.i64.wrap ((np : Int) - 1) = np - 1 := by rw [IntKind.wrap_i64]; omega
  have he : ((i : Int) == (np : Int) - 1) = true := by rw [beq_iff_eq]; omega
  clear hi
  subst hM
  obtain ⟨m0, hm0⟩ : ∃ m, M0.length = m := ⟨_, rfl⟩
  have hnm0 : nm = m0 + 1 := by rw [← hL, List.length_append, hm0]; rfl
  obtain ⟨g0, mc, rfl, hown⟩ := own_some (by omega) hown
  have hcx : ∀ j, j < 7 → w.cell? ⟨g0, m0 * 7 + j, none⟩ = (y.cells)[j]? := fun j hj => by
    rw [hown.cellAt (m0 * 7 + j) (by omega), ivCells_at (M0 ++ [y]) m0 (by rw [List.length_append, hm0]; simp) j hj]
    simp [← hm0]
  obtain ⟨⟨yk, yn, ys⟩, ⟨uk, un, us⟩, yo⟩ := y
  simp only at hyo
  subst hyo
  have r3 : w.cell? ⟨g0, m0 * 7 + 3, none⟩ = some (.int .i64 uk) := hcx 3 (by omega)
  have r4 : w.cell? ⟨g0, m0 * 7 + 4, none⟩ = some (.int .i64 un) := hcx 4 (by omega)
  have r5 : w.cell? ⟨g0, m0 * 7 + 5, none⟩ = some (.string us) := hcx 5 (by omega)
  have r6 : w.cell? ⟨g0, m0 * 7 + 6, none⟩ = some (.bool false) := hcx 6 (by omega)
  have hg0 := hown.lt g0 rfl
  have hgl : g0 < w.heap.size := hg0.2
  have fz : ∀ j, w.frozen? ⟨g0, j, none⟩ = false := fun j => hown.frozenAt j
  have hm1 : (m0 : Int) < nm := by omega
  have hm2 : (0 : Int) ≤ m0 := by omega
  have hm3 : IntKind.i64.wrap ((nm : Int) - 1) = m0 := by rw [IntKind.wrap_i64]; omega
  have hm4 : (nm : Int) - 1 = m0 := by omega
  have hm5 : IntKind.i64.wrap (m0 : Int) = m0 := by rw [IntKind.wrap_i64]; omega
  have hn0 : decide (0 < nm) = true := by simp; omega
  have HPC : Hid (∀ W, Calls Try.prog 35 _ W (fun e w' => e = _ ∧ Below W.heap.size W w')) := fun W => (rCompare_any uk un us fk fn fs W).mono fun e w' h => ⟨h.1, h.2.below⟩
  simp only at hcm
  have HCM := Lib.hid hcm
  generalize cmpV ⟨uk, un, us⟩ ⟨fk, fn, fs⟩ = cc at HPC hcm
  have hcb : (cc == 0) = true := by simpa using hcm
  have HM0 := Lib.hid hm0
  have HNM0 := Lib.hid hnm0
  clear hcx hm0 hnm0 hcm
  have HOWN := Lib.hid hown
  have HLN := Lib.hid hL
  have hkr := hown.lt
  clear hown hL
  go_enter Try.func63, Try.ntmps63
  go_wp2_with fail
  have HB5 : Hid (Below w.heap.size w (w.alloc (.cells #[.int .i64 fk, .int .i64 fn, .string fs, .int .i64 0, .int .i64 0, .string ⟨#[]⟩, .bool true] 59))) := (Below.refl _ _).alloc (Nat.le_refl _) _
  obtain ⟨bx, hbx⟩ : ∃ bx, w.heap.size = bx := ⟨_, rfl⟩
  have q0 : (w.alloc (.cells #[.int .i64 fk, .int .i64 fn, .string fs, .int .i64 0, .int .i64 0, .string ⟨#[]⟩, .bool true] 59)).cell? ⟨bx, 0, none⟩ = some (.int .i64 fk) := by subst hbx; exact World.cell?_alloc_mark w #[.int .i64 fk, .int .i64 fn, .string fs, .int .i64 0, .int .i64 0, .string ⟨#[]⟩, .bool true] 59 (0, 0) 0
  have q1 : (w.alloc (.cells #[.int .i64 fk, .int .i64 fn, .string fs, .int .i64 0, .int .i64 0, .string ⟨#[]⟩, .bool true] 59)).cell? ⟨bx, 1, none⟩ = some (.int .i64 fn) := by subst hbx; exact World.cell?_alloc_mark w #[.int .i64 fk, .int .i64 fn, .string fs, .int .i64 0, .int .i64 0, .string ⟨#[]⟩, .bool true] 59 (0, 0) 1
  have q2 : (w.alloc (.cells #[.int .i64 fk, .int .i64 fn, .string fs, .int .i64 0, .int .i64 0, .string ⟨#[]⟩, .bool true] 59)).cell? ⟨bx, 2, none⟩ = some (.string fs) := by subst hbx; exact World.cell?_alloc_mark w #[.int .i64 fk, .int .i64 fn, .string fs, .int .i64 0, .int .i64 0, .string ⟨#[]⟩, .bool true] 59 (0, 0) 2
  have q3 : (w.alloc (.cells #[.int .i64 fk, .int .i64 fn, .string fs, .int .i64 0, .int .i64 0, .string ⟨#[]⟩, .bool true] 59)).cell? ⟨bx, 3, none⟩ = some (.int .i64 0) := by subst hbx; exact World.cell?_alloc_mark w #[.int .i64 fk, .int .i64 fn, .string fs, .int .i64 0, .int .i64 0, .string ⟨#[]⟩, .bool true] 59 (0, 0) 3
  have q4 : (w.alloc (.cells #[.int .i64 fk, .int .i64 fn, .string fs, .int .i64 0, .int .i64 0, .string ⟨#[]⟩, .bool true] 59)).cell? ⟨bx, 4, none⟩ = some (.int .i64 0) := by subst hbx; exact World.cell?_alloc_mark w #[.int .i64 fk, .int .i64 fn, .string fs, .int .i64 0, .int .i64 0, .string ⟨#[]⟩, .bool true] 59 (0, 0) 4
  have q5 : (w.alloc (.cells #[.int .i64 fk, .int .i64 fn, .string fs, .int .i64 0, .int .i64 0, .string ⟨#[]⟩, .bool true] 59)).cell? ⟨bx, 5, none⟩ = some (.string ⟨#[]⟩) := by subst hbx; exact World.cell?_alloc_mark w #[.int .i64 fk, .int .i64 fn, .string fs, .int .i64 0, .int .i64 0, .string ⟨#[]⟩, .bool true] 59 (0, 0) 5
  have q6 : (w.alloc (.cells #[.int .i64 fk, .int .i64 fn, .string fs, .int .i64 0, .int .i64 0, .string ⟨#[]⟩, .bool true] 59)).cell? ⟨bx, 6, none⟩ = some (.bool true) := by subst hbx; exact World.cell?_alloc_mark w #[.int .i64 fk, .int .i64 fn, .string fs, .int .i64 0, .int .i64 0, .string ⟨#[]⟩, .bool true] 59 (0, 0) 6
  have t0 : (w.alloc (.cells #[.int .i64 fk, .int .i64 fn, .string fs, .int .i64 0, .int .i64 0, .string ⟨#[]⟩, .bool true] 59)).cell? ⟨g0, m0 * 7 + 3, none⟩ = some (.int .i64 uk) := (HB5.out.cell (p := ⟨g0, m0 * 7 + 3 + 0, none⟩) hgl).trans r3
  have t1 : (w.alloc (.cells #[.int .i64 fk, .int .i64 fn, .string fs, .int .i64 0, .int .i64 0, .string ⟨#[]⟩, .bool true] 59)).cell? ⟨g0, m0 * 7 + 3 + 1, none⟩ = some (.int .i64 un) := (HB5.out.cell (p := ⟨g0, m0 * 7 + 3 + 1, none⟩) hgl).trans r4
  have t2 : (w.alloc (.cells #[.int .i64 fk, .int .i64 fn, .string fs, .int .i64 0, .int .i64 0, .string ⟨#[]⟩, .bool true] 59)).cell? ⟨g0, m0 * 7 + 3 + 2, none⟩ = some (.string us) := (HB5.out.cell (p := ⟨g0, m0 * 7 + 3 + 2, none⟩) hgl).trans r5
  have t3 : (w.alloc (.cells #[.int .i64 fk, .int .i64 fn, .string fs, .int .i64 0, .int .i64 0, .string ⟨#[]⟩, .bool true] 59)).cell? ⟨g0, m0 * 7 + 3 + 3, none⟩ = some (.bool false) := (HB5.out.cell (p := ⟨g0, m0 * 7 + 3 + 3, none⟩) hgl).trans r6
  have fz5 : ∀ j, (w.alloc (.cells #[.int .i64 fk, .int .i64 fn, .string fs, .int .i64 0, .int .i64 0, .string ⟨#[]⟩, .bool true] 59)).frozen? ⟨g0, j, none⟩ = false := fun j => (HB5.out.frozen (p := ⟨g0, j, none⟩) hgl).trans (fz j)
  have zt : g0 < (w.alloc (.cells #[.int .i64 fk, .int .i64 fn, .string fs, .int .i64 0, .int .i64 0, .string ⟨#[]⟩, .bool true] 59)).heap.size := by simp only [World.size_alloc]; omega
  have hgx : g0 ≠ bx := by omega
  have zq : bx < (w.alloc (.cells #[.int .i64 fk, .int .i64 fn, .string fs, .int .i64 0, .int .i64 0, .string ⟨#[]⟩, .bool true] 59)).heap.size := by simp only [World.size_alloc]; omega
  have HOW5 : Hid ((w.alloc (.cells #[.int .i64 fk, .int .i64 fn, .string fs, .int .i64 0, .int .i64 0, .string ⟨#[]⟩, .bool true] 59)).ownsRow base 59 7 (.slice (some ⟨g0, 0, none⟩) nm mc) nm (ivCells (M0 ++ [⟨⟨yk, yn, ys⟩, ⟨uk, un, us⟩, false⟩]))) := HOWN.out.alloc _
  have hb5 : base ≤ (w.alloc (.cells #[.int .i64 fk, .int .i64 fn, .string fs, .int .i64 0, .int .i64 0, .string ⟨#[]⟩, .bool true] 59)).heap.size := by simp only [World.size_alloc]; omega
  rw [hbx]
  have HBX : Hid (base ≤ bx) := by show _ ≤ _; omega
  have HBW : Hid (Below base w (w.alloc (.cells #[.int .i64 fk, .int .i64 fn, .string fs, .int .i64 0, .int .i64 0, .string ⟨#[]⟩, .bool true] 59))) := HB5.out.mono (by omega)
  generalize (w.alloc (.cells #[.int .i64 fk, .int .i64 fn, .string fs, .int .i64 0, .int .i64 0, .string ⟨#[]⟩, .bool true] 59)) = w5 at *
  clear HB5 hbx p0 p1 p2 hbw r3 r4 r5 r6 fz hgl hbase HOWN
  have HK : Hid (∀ W, Below w5.heap.size w5 W → W.cell? ⟨bx, 0, none⟩ = some (.int .i64 fk) ∧ W.cell? ⟨bx, 1, none⟩ = some (.int .i64 fn) ∧ W.cell? ⟨bx, 2, none⟩ = some (.string fs) ∧ W.cell? ⟨bx, 3, none⟩ = some (.int .i64 0) ∧ W.cell? ⟨bx, 4, none⟩ = some (.int .i64 0) ∧ W.cell? ⟨bx, 5, none⟩ = some (.string ⟨#[]⟩) ∧ W.cell? ⟨bx, 6, none⟩ = some (.bool true) ∧ W.cell? ⟨g0, m0 * 7 + 3, none⟩ = some (.int .i64 uk) ∧ W.cell? ⟨g0, m0 * 7 + 3 + 1, none⟩ = some (.int .i64 un) ∧ W.cell? ⟨g0, m0 * 7 + 3 + 2, none⟩ = some (.string us) ∧ W.cell? ⟨g0, m0 * 7 + 3 + 3, none⟩ = some (.bool false)) := fun W hb => ⟨(hb.cell (p := ⟨bx, 0, none⟩) zq).trans q0, (hb.cell (p := ⟨bx, 1, none⟩) zq).trans q1, (hb.cell (p := ⟨bx, 2, none⟩) zq).trans q2, (hb.cell (p := ⟨bx, 3, none⟩) zq).trans q3, (hb.cell (p := ⟨bx, 4, none⟩) zq).trans q4, (hb.cell (p := ⟨bx, 5, none⟩) zq).trans q5, (hb.cell (p := ⟨bx, 6, none⟩) zq).trans q6, (hb.cell (p := ⟨g0, m0 * 7 + 3, none⟩) zt).trans t0, (hb.cell (p := ⟨g0, m0 * 7 + 3 + 1, none⟩) zt).trans t1, (hb.cell (p := ⟨g0, m0 * 7 + 3 + 2, none⟩) zt).trans t2, (hb.cell (p := ⟨g0, m0 * 7 + 3 + 3, none⟩) zt).trans t3⟩
  go_region_held3 (fun W => W.cell? ⟨bx, 0, none⟩ = some (.int .i64 fk) ∧ W.cell? ⟨bx, 1, none⟩ = some (.int .i64 fn) ∧ W.cell? ⟨bx, 2, none⟩ = some (.string fs) ∧ W.cell? ⟨bx, 3, none⟩ = some (.int .i64 0) ∧ W.cell? ⟨bx, 4, none⟩ = some (.int .i64 0) ∧ W.cell? ⟨bx, 5, none⟩ = some (.string ⟨#[]⟩) ∧ W.cell? ⟨bx, 6, none⟩ = some (.bool true) ∧ W.cell? ⟨g0, m0 * 7 + 3, none⟩ = some (.int .i64 uk) ∧ W.cell? ⟨g0, m0 * 7 + 3 + 1, none⟩ = some (.int .i64 un) ∧ W.cell? ⟨g0, m0 * 7 + 3 + 2, none⟩ = some (.string us) ∧ W.cell? ⟨g0, m0 * 7 + 3 + 3, none⟩ = some (.bool false))
    (first | exact ⟨q0d, q1d, q2d, q3d, q4d, q5d, q6d, t0d, t1d, t2d, t3d⟩ | exact ⟨q0, q1, q2, q3, q4, q5, q6, t0, t1, t2, t3⟩)
    (first | (go_at_call 35; (with_reducible refine (HPC.out _).mono ?_); rintro e wzd ⟨rfl, hg⟩; have hbd : Below w5.heap.size w5 wzd := Below.trans (by (repeat (first | exact Below.refl _ _ | assumption | refine Below.drew ?_ | refine Below.setCell ?_ (by simp; try omega) _ | refine Below.alloc ?_ (by simp; try omega) _))) (hg.mono (by first | (simp; done) | ((try simp); exact Below.size (by assumption)))); obtain ⟨q0d, q1d, q2d, q3d, q4d, q5d, q6d, t0d, t1d, t2d, t3d⟩ := HK.out wzd hbd; clear hg))
  have HBZ : Hid (Below w5.heap.size w5 wzd) := hbd
  have HOWZ : Hid (wzd.ownsRow base 59 7 (.slice (some ⟨g0, 0, none⟩) nm mc) nm (ivCells (M0 ++ [⟨⟨yk, yn, ys⟩, ⟨uk, un, us⟩, false⟩]))) := own_below HOW5.out hbd
  clear hbd
  have fzd : ∀ j, wzd.frozen? ⟨g0, j, none⟩ = false := fun j => (HBZ.out.frozen (p := ⟨g0, j, none⟩) zt).trans (fz5 j)
  have hzz : g0 < wzd.heap.size := Nat.lt_of_lt_of_le zt HBZ.out.size
  have hzx : bx < wzd.heap.size := Nat.lt_of_lt_of_le zq HBZ.out.size
  clear q0 q1 q2 q3 q4 q5 q6 t0 t1 t2 t3 fz5 HK
  go_wp2_with fail
  go_region
  all_goals
    go_wp2_with fail
    go_ret
    refine ⟨.slice (some ⟨g0, 0, none⟩) nm mc, M0 ++ [⟨⟨yk, yn, ys⟩, z0, true⟩], rfl, ?_, ?_, ?_, .inl ⟨M0, _, rfl, HCM.out, rfl⟩⟩
    · rw [show (M0 ++ [(⟨⟨yk, yn, ys⟩, z0, true⟩ : IV)]).length = nm by rw [List.length_append, HM0.out, HNM0.out]; rfl, ← ivCells_turn M0 ⟨⟨yk, yn, ys⟩, ⟨uk, un, us⟩, false⟩ z0 true, HM0.out]
      exact ((((HOWZ.out.stored (m0 * 7 + 3) _).1.stored (m0 * 7 + 4) _).1.stored (m0 * 7 + 5) _).1.stored (m0 * 7 + 6) _).1.drew
    · have hgb : base ≤ g0 := hg0.1
      have h1 : Below base w wzd := HBW.out.trans (HBZ.out.mono hb5)
      exact ((((h1.setCell hgb _).setCell hgb _).setCell hgb _).setCell hgb _).drew
    · have := HBZ.out.size; simp; omega

set_option linter.unusedSimpArgs false in
set_option maxRecDepth 100000 in
set_option maxHeartbeats 3000000 in
theorem rJoin_InnerEmpty (base : Nat) (m : Value) (nm : Nat) (L : List IV) (b off i np c : Nat) (fk fn : Int) (fs : ByteArray) (tk tn : Int) (ts : ByteArray) (w : World) (hown : w.ownsRow base 59 7 m nm (ivCells L)) (hL : L.length = nm) (hl : nm ≤ 4398046511) (hbase : base ≤ w.heap.size) (hb : b < base)
    (hi : i + 1 < np) (hnp : np ≤ 4398046511104) (hp : CellsV w b (off + i * 3) ⟨fk, fn, fs⟩) (hq : CellsV w b (off + (i + 1) * 3) ⟨tk, tn, ts⟩) (h0 : L = []) :
    Calls Try.prog 63 #[m, .slice (some ⟨b, off, none⟩) np c, .int .i64 i] w (JoinPost base L (⟨⟨fk, fn, fs⟩, ⟨tk, tn, ts⟩, false⟩ : IV) w) := by
  obtain ⟨p0, p1, p2⟩ := hp
  simp only at p0 p1 p2
  obtain ⟨s0, s1, s2⟩ := hq
  simp only at s0 s1 s2
  have hinfo : (Try.prog.info? 59).map (fun i => (i.zero, i.size, i.bytes)) = some (some (.agg #[.int .i64 0, .int .i64 0, .string ⟨#[]⟩, .int .i64 0, .int .i64 0, .string ⟨#[]⟩, .bool false]), 7, 72) := by kernel_rfl
  obtain ⟨i0, hi0, hz0, hz1, hz2⟩ := info_parts hinfo
  have HI := Lib.hid hi0
  have HZ0 := Lib.hid hz0
  have HZ1 := Lib.hid hz1
  have HZ2 := Lib.hid hz2
  clear hi0 hz0 hz1 hz2 hinfo
  have hbw : b < w.heap.size := by omega
  have hi1 : (i : Int) < np := by omega
  have hi2 : (0 : Int) ≤ i := by omega
  have hw1 : IntKind.i64.wrap ((np : Int) - 1) = np - 1 := by rw [IntKind.wrap_i64]; omega
  have he : ((i : Int) == (np : Int) - 1) = false := by rw [beq_eq_false_iff_ne]; omega
  have hw2 : IntKind.i64.wrap ((i : Int) + 1) = i + 1 := by rw [IntKind.wrap_i64]; omega
  have hi3 : (i : Int) + 1 < np := by omega
  have hi4 : (0 : Int) ≤ (i : Int) + 1 := by omega
  clear hi
  subst h0
  obtain rfl : nm = 0 := by simpa using hL.symm
  obtain ⟨ma, mc, rfl⟩ := own_slice hown
  have HOWN := Lib.hid hown
  have HLN := Lib.hid hL
  have hkr := hown.lt
  clear hown hL
  go_enter Try.func63, Try.ntmps63
  go_wp2_with fail
  have HB5 : Hid (Below w.heap.size w (w.alloc (.cells #[.int .i64 fk, .int .i64 fn, .string fs, .int .i64 tk, .int .i64 tn, .string ts, .bool false] 59))) := (Below.refl _ _).alloc (Nat.le_refl _) _
  obtain ⟨bx, hbx⟩ : ∃ bx, w.heap.size = bx := ⟨_, rfl⟩
  have q0 : (w.alloc (.cells #[.int .i64 fk, .int .i64 fn, .string fs, .int .i64 tk, .int .i64 tn, .string ts, .bool false] 59)).cell? ⟨bx, 0, none⟩ = some (.int .i64 fk) := by subst hbx; exact World.cell?_alloc_mark w #[.int .i64 fk, .int .i64 fn, .string fs, .int .i64 tk, .int .i64 tn, .string ts, .bool false] 59 (0, 0) 0
  have q1 : (w.alloc (.cells #[.int .i64 fk, .int .i64 fn, .string fs, .int .i64 tk, .int .i64 tn, .string ts, .bool false] 59)).cell? ⟨bx, 1, none⟩ = some (.int .i64 fn) := by subst hbx; exact World.cell?_alloc_mark w #[.int .i64 fk, .int .i64 fn, .string fs, .int .i64 tk, .int .i64 tn, .string ts, .bool false] 59 (0, 0) 1
  have q2 : (w.alloc (.cells #[.int .i64 fk, .int .i64 fn, .string fs, .int .i64 tk, .int .i64 tn, .string ts, .bool false] 59)).cell? ⟨bx, 2, none⟩ = some (.string fs) := by subst hbx; exact World.cell?_alloc_mark w #[.int .i64 fk, .int .i64 fn, .string fs, .int .i64 tk, .int .i64 tn, .string ts, .bool false] 59 (0, 0) 2
  have q3 : (w.alloc (.cells #[.int .i64 fk, .int .i64 fn, .string fs, .int .i64 tk, .int .i64 tn, .string ts, .bool false] 59)).cell? ⟨bx, 3, none⟩ = some (.int .i64 tk) := by subst hbx; exact World.cell?_alloc_mark w #[.int .i64 fk, .int .i64 fn, .string fs, .int .i64 tk, .int .i64 tn, .string ts, .bool false] 59 (0, 0) 3
  have q4 : (w.alloc (.cells #[.int .i64 fk, .int .i64 fn, .string fs, .int .i64 tk, .int .i64 tn, .string ts, .bool false] 59)).cell? ⟨bx, 4, none⟩ = some (.int .i64 tn) := by subst hbx; exact World.cell?_alloc_mark w #[.int .i64 fk, .int .i64 fn, .string fs, .int .i64 tk, .int .i64 tn, .string ts, .bool false] 59 (0, 0) 4
  have q5 : (w.alloc (.cells #[.int .i64 fk, .int .i64 fn, .string fs, .int .i64 tk, .int .i64 tn, .string ts, .bool false] 59)).cell? ⟨bx, 5, none⟩ = some (.string ts) := by subst hbx; exact World.cell?_alloc_mark w #[.int .i64 fk, .int .i64 fn, .string fs, .int .i64 tk, .int .i64 tn, .string ts, .bool false] 59 (0, 0) 5
  have q6 : (w.alloc (.cells #[.int .i64 fk, .int .i64 fn, .string fs, .int .i64 tk, .int .i64 tn, .string ts, .bool false] 59)).cell? ⟨bx, 6, none⟩ = some (.bool false) := by subst hbx; exact World.cell?_alloc_mark w #[.int .i64 fk, .int .i64 fn, .string fs, .int .i64 tk, .int .i64 tn, .string ts, .bool false] 59 (0, 0) 6
  have zq : bx < (w.alloc (.cells #[.int .i64 fk, .int .i64 fn, .string fs, .int .i64 tk, .int .i64 tn, .string ts, .bool false] 59)).heap.size := by simp only [World.size_alloc]; omega
  have HOW5 : Hid ((w.alloc (.cells #[.int .i64 fk, .int .i64 fn, .string fs, .int .i64 tk, .int .i64 tn, .string ts, .bool false] 59)).ownsRow base 59 7 (.slice ma 0 mc) 0 (ivCells [])) := HOWN.out.alloc _
  have hb5 : base ≤ (w.alloc (.cells #[.int .i64 fk, .int .i64 fn, .string fs, .int .i64 tk, .int .i64 tn, .string ts, .bool false] 59)).heap.size := by simp only [World.size_alloc]; omega
  rw [hbx]
  have HBX : Hid (base ≤ bx) := by show _ ≤ _; omega
  have HBW : Hid (Below base w (w.alloc (.cells #[.int .i64 fk, .int .i64 fn, .string fs, .int .i64 tk, .int .i64 tn, .string ts, .bool false] 59))) := HB5.out.mono (by omega)
  generalize (w.alloc (.cells #[.int .i64 fk, .int .i64 fn, .string fs, .int .i64 tk, .int .i64 tn, .string ts, .bool false] 59)) = w5 at *
  clear HB5 hbx p0 p1 p2 hbw s0 s1 s2 hbase HOWN
  have HK : Hid (∀ W, Below w5.heap.size w5 W → W.cell? ⟨bx, 0, none⟩ = some (.int .i64 fk) ∧ W.cell? ⟨bx, 1, none⟩ = some (.int .i64 fn) ∧ W.cell? ⟨bx, 2, none⟩ = some (.string fs) ∧ W.cell? ⟨bx, 3, none⟩ = some (.int .i64 tk) ∧ W.cell? ⟨bx, 4, none⟩ = some (.int .i64 tn) ∧ W.cell? ⟨bx, 5, none⟩ = some (.string ts) ∧ W.cell? ⟨bx, 6, none⟩ = some (.bool false)) := fun W hb => ⟨(hb.cell (p := ⟨bx, 0, none⟩) zq).trans q0, (hb.cell (p := ⟨bx, 1, none⟩) zq).trans q1, (hb.cell (p := ⟨bx, 2, none⟩) zq).trans q2, (hb.cell (p := ⟨bx, 3, none⟩) zq).trans q3, (hb.cell (p := ⟨bx, 4, none⟩) zq).trans q4, (hb.cell (p := ⟨bx, 5, none⟩) zq).trans q5, (hb.cell (p := ⟨bx, 6, none⟩) zq).trans q6⟩
  refine wp_region_held_drew (S := (fun W => W.cell? ⟨bx, 0, none⟩ = some (.int .i64 fk) ∧ W.cell? ⟨bx, 1, none⟩ = some (.int .i64 fn) ∧ W.cell? ⟨bx, 2, none⟩ = some (.string fs) ∧ W.cell? ⟨bx, 3, none⟩ = some (.int .i64 tk) ∧ W.cell? ⟨bx, 4, none⟩ = some (.int .i64 tn) ∧ W.cell? ⟨bx, 5, none⟩ = some (.string ts) ∧ W.cell? ⟨bx, 6, none⟩ = some (.bool false))) (by kernel_rfl) (by exact ⟨q0, q1, q2, q3, q4, q5, q6⟩) (fun hHeld => ?_)
  refine wpAnyH_takeD (i := 0) (d := 30) (v := ?_) rfl rfl (by kernel_rfl) (by kernel_rfl) (by kernel_rfl) (fun _ _ _ h => h) (Or.inl ⟨by rfl, ?_⟩) (by assumption) ?_; rotate_left
  · intro W hSw; (try dsimp only at hSw); go_simp; (try with_reducible rfl)
  (try simp only [List.set_cons_zero, List.set_cons_succ])
  refine wpAnyH_takeD (i := 1) (d := 31) (v := ?_) rfl rfl (by kernel_rfl) (by kernel_rfl) (by kernel_rfl) (fun _ _ _ h => h) (Or.inl ⟨by rfl, ?_⟩) (by assumption) ?_; rotate_left
  · intro W hSw; (try dsimp only at hSw); go_simp; (try with_reducible rfl)
  (try simp only [List.set_cons_zero, List.set_cons_succ])
  refine wpAnyH_takeD (i := 2) (d := 32) (v := ?_) rfl rfl (by kernel_rfl) (by kernel_rfl) (by kernel_rfl) (fun _ _ _ h => h) (Or.inl ⟨by rfl, ?_⟩) (by assumption) ?_; rotate_left
  · intro W hSw; (try dsimp only at hSw); go_simp; (try with_reducible rfl)
  (try simp only [List.set_cons_zero, List.set_cons_succ])
  refine wpAnyH_skips (by kernel_rfl) (fun _ _ _ _ _ h => h) (by assumption) [(3, 33), (4, 34), (5, 35), (6, 36), (7, 37), (8, 38), (9, 39)] (fuel := 13) (by kernel_rfl) ?_
  simp only [skipPut, skipList]
  (try simp only [List.set_cons_zero, List.set_cons_succ])
  refine wpAnyH_takeD (i := 10) (d := 40) (v := ?_) rfl rfl (by kernel_rfl) (by kernel_rfl) (by kernel_rfl) (fun _ _ _ h => h) (Or.inl ⟨by rfl, ?_⟩) (by assumption) ?_; rotate_left
  · intro W hSw; (try dsimp only at hSw); go_simp; (try with_reducible rfl)
  (try simp only [List.set_cons_zero, List.set_cons_succ])
  refine wpAnyH_takeD (i := 11) (d := 41) (v := ?_) rfl rfl (by kernel_rfl) (by kernel_rfl) (by kernel_rfl) (fun _ _ _ h => h) (Or.inl ⟨by rfl, ?_⟩) (by assumption) ?_; rotate_left
  · intro W hSw; (try dsimp only at hSw); go_simp; (try with_reducible rfl)
  (try simp only [List.set_cons_zero, List.set_cons_succ])
  refine wpAnyH_skips (by kernel_rfl) (fun _ _ _ _ _ h => h) (by assumption) [(12, 42), (13, 43), (14, 44), (15, 45), (16, 46), (17, 47), (18, 48), (19, 49), (20, 50), (21, 51)] (fuel := 1) (by kernel_rfl) ?_
  simp only [skipPut, skipList]
  (try simp only [List.set_cons_zero, List.set_cons_succ])
  refine wpAnyH_takeD (i := 22) (d := 52) (v := ?_) rfl rfl (by kernel_rfl) (by kernel_rfl) (by kernel_rfl) (fun _ _ _ h => h) (Or.inl ⟨by rfl, ?_⟩) (by assumption) ?_; rotate_left
  · intro W hSw; (try dsimp only at hSw); go_simp; (try with_reducible rfl)
  (try simp only [List.set_cons_zero, List.set_cons_succ])
  refine wpAnyH_done (by kernel_rfl) ?_ _
  have HBZ : Hid (Below w5.heap.size w5 w5.drew) := (Below.refl _ _).drew
  have HOWZ : Hid (w5.drew.ownsRow base 59 7 (.slice ma 0 mc) 0 (ivCells [])) := HOW5.out.drew
  have A1 : Hid (0 + 1 ≤ maxLen) := by show _ ≤ _; unfold maxLen; omega
  have A2 : Hid ((0 + 1) * 72 ≤ 140737488355328) := by show _ ≤ _; omega
  have A3 : Hid (∀ O : Obj, base ≤ (w5.drew.alloc O).heap.size) := fun O => by have := HBZ.out.size; simp only [World.size_alloc]; omega
  have A4 : Hid (∀ t (j : Nat) (u : Value), ([.int .i64 fk, .int .i64 fn, .string fs, .int .i64 tk, .int .i64 tn, .string ts, .bool false] : List Value)[j]? = some u → (w5.drew.alloc (.cells #[.int .i64 fk, .int .i64 fn, .string fs, .int .i64 tk, .int .i64 tn, .string ts, .bool false] t)).cell? ((⟨w5.drew.heap.size, 0, none⟩ : Addr).add j) = some u) := by
    intro t j u hj
    have ha : (⟨w5.drew.heap.size, 0, none⟩ : Addr).add j = ⟨w5.drew.heap.size, j, none⟩ := by unfold Addr.add; split <;> simp_all
    rw [ha]
    refine (World.cell?_alloc_mark w5.drew #[.int .i64 fk, .int .i64 fn, .string fs, .int .i64 tk, .int .i64 tn, .string ts, .bool false] t (0, 0) j).trans ?_
    rw [← hj]; simp
  have A5 : Hid (∀ u ∈ ([.int .i64 fk, .int .i64 fn, .string fs, .int .i64 tk, .int .i64 tn, .string ts, .bool false] : List Value), u.oneCell' = true) := by
    intro u hu
    simp only [List.mem_cons, List.not_mem_nil, or_false] at hu
    rcases hu with rfl | rfl | rfl | rfl | rfl | rfl | rfl <;> rfl
  go_wp2_with (at_builtin; refine wpList_append_own _ (by rfl) _ _ 23 (by rfl) base 59 i0 (.agg #[.int .i64 0, .int .i64 0, .string ⟨#[]⟩, .int .i64 0, .int .i64 0, .string ⟨#[]⟩, .bool false]) 7 72 Try.underlying23 HI.out HZ0.out HZ1.out HZ2.out rfl (by decide) (.slice ma 0 mc) 0 (ivCells []) (by rfl) (HOWZ.out.alloc _) ⟨w5.drew.heap.size, 0, none⟩ 1 1 [.int .i64 fk, .int .i64 fn, .string fs, .int .i64 tk, .int .i64 tn, .string ts, .bool false] (by rfl) (by rfl) (A4.out _) A5.out A1.out A2.out (A3.out _) ?_; intro v' w3 hown2 hgr _; have HOWN2 := Lib.hid hown2; have HGR := Lib.hid hgr; clear hown2 hgr)
  go_ret
  have hbz : Below base w w5.drew := HBW.out.trans (HBZ.out.mono hb5)
  have hsz : base ≤ w5.drew.heap.size := Nat.le_trans hb5 HBZ.out.size
  have hsz2 : base ≤ w5.heap.size := hsz
  refine ⟨v', [] ++ [(⟨⟨fk, fn, fs⟩, ⟨tk, tn, ts⟩, false⟩ : IV)], rfl, ?_, (hbz.alloc hsz _).grown HGR.out (by first | (simp only [World.size_alloc]; omega) | (simp; omega)) (fun k e => (hkr k e).1), by have := HGR.out.size; first | (simp only [World.size_alloc] at this; omega) | (simp at this; omega), .inr ⟨?_, rfl⟩⟩
  · rw [ivCells_snoc, List.length_append, HLN.out]
    exact HOWN2.out
  · intro L0 y e; simp at e

set_option linter.unusedSimpArgs false in
set_option maxRecDepth 100000 in
set_option maxHeartbeats 3000000 in
theorem rJoin_InnerOther (base : Nat) (m : Value) (nm : Nat) (L : List IV) (b off i np c : Nat) (fk fn : Int) (fs : ByteArray) (tk tn : Int) (ts : ByteArray) (w : World) (hown : w.ownsRow base 59 7 m nm (ivCells L)) (hL : L.length = nm) (hl : nm ≤ 4398046511) (hbase : base ≤ w.heap.size) (hb : b < base)
    (hi : i + 1 < np) (hnp : np ≤ 4398046511104) (hp : CellsV w b (off + i * 3) ⟨fk, fn, fs⟩) (hq : CellsV w b (off + (i + 1) * 3) ⟨tk, tn, ts⟩) (M0 : List IV) (y : IV) (hM : L = M0 ++ [y]) (hyo : y.o = false) (hcm : cmpV y.t ⟨fk, fn, fs⟩ ≠ 0) :
    Calls Try.prog 63 #[m, .slice (some ⟨b, off, none⟩) np c, .int .i64 i] w (JoinPost base L (⟨⟨fk, fn, fs⟩, ⟨tk, tn, ts⟩, false⟩ : IV) w) := by
  obtain ⟨p0, p1, p2⟩ := hp
  simp only at p0 p1 p2
  obtain ⟨s0, s1, s2⟩ := hq
  simp only at s0 s1 s2
  have hinfo : (Try.prog.info? 59).map (fun i => (i.zero, i.size, i.bytes)) = some (some (.agg #[.int .i64 0, .int .i64 0, .string ⟨#[]⟩, .int .i64 0, .int .i64 0, .string ⟨#[]⟩, .bool false]), 7, 72) := by kernel_rfl
  obtain ⟨i0, hi0, hz0, hz1, hz2⟩ := info_parts hinfo
  have HI := Lib.hid hi0
  have HZ0 := Lib.hid hz0
  have HZ1 := Lib.hid hz1
  have HZ2 := Lib.hid hz2
  clear hi0 hz0 hz1 hz2 hinfo
  have hbw : b < w.heap.size := by omega
  have hi1 : (i : Int) < np := by omega
  have hi2 : (0 : Int) ≤ i := by omega
  have hw1 : IntKind.i64.wrap ((np : Int) - 1) = np - 1 := by rw [IntKind.wrap_i64]; omega
  have he : ((i : Int) == (np : Int) - 1) = false := by rw [beq_eq_false_iff_ne]; omega
  have hw2 : IntKind.i64.wrap ((i : Int) + 1) = i + 1 := by rw [IntKind.wrap_i64]; omega
  have hi3 : (i : Int) + 1 < np := by omega
  have hi4 : (0 : Int) ≤ (i : Int) + 1 := by omega
  clear hi
  subst hM
  obtain ⟨m0, hm0⟩ : ∃ m, M0.length = m := ⟨_, rfl⟩
  have hnm0 : nm = m0 + 1 := by rw [← hL, List.length_append, hm0]; rfl
  obtain ⟨g0, mc, rfl, hown⟩ := own_some (by omega) hown
  have hcx : ∀ j, j < 7 → w.cell? ⟨g0, m0 * 7 + j, none⟩ = (y.cells)[j]? := fun j hj => by
    rw [hown.cellAt (m0 * 7 + j) (by omega), ivCells_at (M0 ++ [y]) m0 (by rw [List.length_append, hm0]; simp) j hj]
    simp [← hm0]
  obtain ⟨⟨yk, yn, ys⟩, ⟨uk, un, us⟩, yo⟩ := y
  simp only at hyo
  subst hyo
  have r3 : w.cell? ⟨g0, m0 * 7 + 3, none⟩ = some (.int .i64 uk) := hcx 3 (by omega)
  have r4 : w.cell? ⟨g0, m0 * 7 + 4, none⟩ = some (.int .i64 un) := hcx 4 (by omega)
  have r5 : w.cell? ⟨g0, m0 * 7 + 5, none⟩ = some (.string us) := hcx 5 (by omega)
  have r6 : w.cell? ⟨g0, m0 * 7 + 6, none⟩ = some (.bool false) := hcx 6 (by omega)
  have hg0 := hown.lt g0 rfl
  have hgl : g0 < w.heap.size := hg0.2
  have fz : ∀ j, w.frozen? ⟨g0, j, none⟩ = false := fun j => hown.frozenAt j
  have hm1 : (m0 : Int) < nm := by omega
  have hm2 : (0 : Int) ≤ m0 := by omega
  have hm3 : IntKind.i64.wrap ((nm : Int) - 1) = m0 := by rw [IntKind.wrap_i64]; omega
  have hm4 : (nm : Int) - 1 = m0 := by omega
  have hm5 : IntKind.i64.wrap (m0 : Int) = m0 := by rw [IntKind.wrap_i64]; omega
  have hn0 : decide (0 < nm) = true := by simp; omega
  have HPC : Hid (∀ W, Calls Try.prog 35 _ W (fun e w' => e = _ ∧ Below W.heap.size W w')) := fun W => (rCompare_any uk un us fk fn fs W).mono fun e w' h => ⟨h.1, h.2.below⟩
  simp only at hcm
  have HCM := Lib.hid hcm
  generalize cmpV ⟨uk, un, us⟩ ⟨fk, fn, fs⟩ = cc at HPC hcm
  have hcb : (cc == 0) = false := by simpa using hcm
  have HM0 := Lib.hid hm0
  have HNM0 := Lib.hid hnm0
  clear hcx hm0 hnm0 hcm
  have HOWN := Lib.hid hown
  have HLN := Lib.hid hL
  have hkr := hown.lt
  clear hown hL
  go_enter Try.func63, Try.ntmps63
  go_wp2_with fail
  have HB5 : Hid (Below w.heap.size w (w.alloc (.cells #[.int .i64 fk, .int .i64 fn, .string fs, .int .i64 tk, .int .i64 tn, .string ts, .bool false] 59))) := (Below.refl _ _).alloc (Nat.le_refl _) _
  obtain ⟨bx, hbx⟩ : ∃ bx, w.heap.size = bx := ⟨_, rfl⟩
  have q0 : (w.alloc (.cells #[.int .i64 fk, .int .i64 fn, .string fs, .int .i64 tk, .int .i64 tn, .string ts, .bool false] 59)).cell? ⟨bx, 0, none⟩ = some (.int .i64 fk) := by subst hbx; exact World.cell?_alloc_mark w #[.int .i64 fk, .int .i64 fn, .string fs, .int .i64 tk, .int .i64 tn, .string ts, .bool false] 59 (0, 0) 0
  have q1 : (w.alloc (.cells #[.int .i64 fk, .int .i64 fn, .string fs, .int .i64 tk, .int .i64 tn, .string ts, .bool false] 59)).cell? ⟨bx, 1, none⟩ = some (.int .i64 fn) := by subst hbx; exact World.cell?_alloc_mark w #[.int .i64 fk, .int .i64 fn, .string fs, .int .i64 tk, .int .i64 tn, .string ts, .bool false] 59 (0, 0) 1
  have q2 : (w.alloc (.cells #[.int .i64 fk, .int .i64 fn, .string fs, .int .i64 tk, .int .i64 tn, .string ts, .bool false] 59)).cell? ⟨bx, 2, none⟩ = some (.string fs) := by subst hbx; exact World.cell?_alloc_mark w #[.int .i64 fk, .int .i64 fn, .string fs, .int .i64 tk, .int .i64 tn, .string ts, .bool false] 59 (0, 0) 2
  have q3 : (w.alloc (.cells #[.int .i64 fk, .int .i64 fn, .string fs, .int .i64 tk, .int .i64 tn, .string ts, .bool false] 59)).cell? ⟨bx, 3, none⟩ = some (.int .i64 tk) := by subst hbx; exact World.cell?_alloc_mark w #[.int .i64 fk, .int .i64 fn, .string fs, .int .i64 tk, .int .i64 tn, .string ts, .bool false] 59 (0, 0) 3
  have q4 : (w.alloc (.cells #[.int .i64 fk, .int .i64 fn, .string fs, .int .i64 tk, .int .i64 tn, .string ts, .bool false] 59)).cell? ⟨bx, 4, none⟩ = some (.int .i64 tn) := by subst hbx; exact World.cell?_alloc_mark w #[.int .i64 fk, .int .i64 fn, .string fs, .int .i64 tk, .int .i64 tn, .string ts, .bool false] 59 (0, 0) 4
  have q5 : (w.alloc (.cells #[.int .i64 fk, .int .i64 fn, .string fs, .int .i64 tk, .int .i64 tn, .string ts, .bool false] 59)).cell? ⟨bx, 5, none⟩ = some (.string ts) := by subst hbx; exact World.cell?_alloc_mark w #[.int .i64 fk, .int .i64 fn, .string fs, .int .i64 tk, .int .i64 tn, .string ts, .bool false] 59 (0, 0) 5
  have q6 : (w.alloc (.cells #[.int .i64 fk, .int .i64 fn, .string fs, .int .i64 tk, .int .i64 tn, .string ts, .bool false] 59)).cell? ⟨bx, 6, none⟩ = some (.bool false) := by subst hbx; exact World.cell?_alloc_mark w #[.int .i64 fk, .int .i64 fn, .string fs, .int .i64 tk, .int .i64 tn, .string ts, .bool false] 59 (0, 0) 6
  have t0 : (w.alloc (.cells #[.int .i64 fk, .int .i64 fn, .string fs, .int .i64 tk, .int .i64 tn, .string ts, .bool false] 59)).cell? ⟨g0, m0 * 7 + 3, none⟩ = some (.int .i64 uk) := (HB5.out.cell (p := ⟨g0, m0 * 7 + 3 + 0, none⟩) hgl).trans r3
  have t1 : (w.alloc (.cells #[.int .i64 fk, .int .i64 fn, .string fs, .int .i64 tk, .int .i64 tn, .string ts, .bool false] 59)).cell? ⟨g0, m0 * 7 + 3 + 1, none⟩ = some (.int .i64 un) := (HB5.out.cell (p := ⟨g0, m0 * 7 + 3 + 1, none⟩) hgl).trans r4
  have t2 : (w.alloc (.cells #[.int .i64 fk, .int .i64 fn, .string fs, .int .i64 tk, .int .i64 tn, .string ts, .bool false] 59)).cell? ⟨g0, m0 * 7 + 3 + 2, none⟩ = some (.string us) := (HB5.out.cell (p := ⟨g0, m0 * 7 + 3 + 2, none⟩) hgl).trans r5
  have t3 : (w.alloc (.cells #[.int .i64 fk, .int .i64 fn, .string fs, .int .i64 tk, .int .i64 tn, .string ts, .bool false] 59)).cell? ⟨g0, m0 * 7 + 3 + 3, none⟩ = some (.bool false) := (HB5.out.cell (p := ⟨g0, m0 * 7 + 3 + 3, none⟩) hgl).trans r6
  have fz5 : ∀ j, (w.alloc (.cells #[.int .i64 fk, .int .i64 fn, .string fs, .int .i64 tk, .int .i64 tn, .string ts, .bool false] 59)).frozen? ⟨g0, j, none⟩ = false := fun j => (HB5.out.frozen (p := ⟨g0, j, none⟩) hgl).trans (fz j)
  have zt : g0 < (w.alloc (.cells #[.int .i64 fk, .int .i64 fn, .string fs, .int .i64 tk, .int .i64 tn, .string ts, .bool false] 59)).heap.size := by simp only [World.size_alloc]; omega
  have hgx : g0 ≠ bx := by omega
  have zq : bx < (w.alloc (.cells #[.int .i64 fk, .int .i64 fn, .string fs, .int .i64 tk, .int .i64 tn, .string ts, .bool false] 59)).heap.size := by simp only [World.size_alloc]; omega
  have HOW5 : Hid ((w.alloc (.cells #[.int .i64 fk, .int .i64 fn, .string fs, .int .i64 tk, .int .i64 tn, .string ts, .bool false] 59)).ownsRow base 59 7 (.slice (some ⟨g0, 0, none⟩) nm mc) nm (ivCells (M0 ++ [⟨⟨yk, yn, ys⟩, ⟨uk, un, us⟩, false⟩]))) := HOWN.out.alloc _
  have hb5 : base ≤ (w.alloc (.cells #[.int .i64 fk, .int .i64 fn, .string fs, .int .i64 tk, .int .i64 tn, .string ts, .bool false] 59)).heap.size := by simp only [World.size_alloc]; omega
  rw [hbx]
  have HBX : Hid (base ≤ bx) := by show _ ≤ _; omega
  have HBW : Hid (Below base w (w.alloc (.cells #[.int .i64 fk, .int .i64 fn, .string fs, .int .i64 tk, .int .i64 tn, .string ts, .bool false] 59))) := HB5.out.mono (by omega)
  generalize (w.alloc (.cells #[.int .i64 fk, .int .i64 fn, .string fs, .int .i64 tk, .int .i64 tn, .string ts, .bool false] 59)) = w5 at *
  clear HB5 hbx p0 p1 p2 hbw s0 s1 s2 r3 r4 r5 r6 fz hgl hbase HOWN
  have HK : Hid (∀ W, Below w5.heap.size w5 W → W.cell? ⟨bx, 0, none⟩ = some (.int .i64 fk) ∧ W.cell? ⟨bx, 1, none⟩ = some (.int .i64 fn) ∧ W.cell? ⟨bx, 2, none⟩ = some (.string fs) ∧ W.cell? ⟨bx, 3, none⟩ = some (.int .i64 tk) ∧ W.cell? ⟨bx, 4, none⟩ = some (.int .i64 tn) ∧ W.cell? ⟨bx, 5, none⟩ = some (.string ts) ∧ W.cell? ⟨bx, 6, none⟩ = some (.bool false) ∧ W.cell? ⟨g0, m0 * 7 + 3, none⟩ = some (.int .i64 uk) ∧ W.cell? ⟨g0, m0 * 7 + 3 + 1, none⟩ = some (.int .i64 un) ∧ W.cell? ⟨g0, m0 * 7 + 3 + 2, none⟩ = some (.string us) ∧ W.cell? ⟨g0, m0 * 7 + 3 + 3, none⟩ = some (.bool false)) := fun W hb => ⟨(hb.cell (p := ⟨bx, 0, none⟩) zq).trans q0, (hb.cell (p := ⟨bx, 1, none⟩) zq).trans q1, (hb.cell (p := ⟨bx, 2, none⟩) zq).trans q2, (hb.cell (p := ⟨bx, 3, none⟩) zq).trans q3, (hb.cell (p := ⟨bx, 4, none⟩) zq).trans q4, (hb.cell (p := ⟨bx, 5, none⟩) zq).trans q5, (hb.cell (p := ⟨bx, 6, none⟩) zq).trans q6, (hb.cell (p := ⟨g0, m0 * 7 + 3, none⟩) zt).trans t0, (hb.cell (p := ⟨g0, m0 * 7 + 3 + 1, none⟩) zt).trans t1, (hb.cell (p := ⟨g0, m0 * 7 + 3 + 2, none⟩) zt).trans t2, (hb.cell (p := ⟨g0, m0 * 7 + 3 + 3, none⟩) zt).trans t3⟩
  go_region_held3 (fun W => W.cell? ⟨bx, 0, none⟩ = some (.int .i64 fk) ∧ W.cell? ⟨bx, 1, none⟩ = some (.int .i64 fn) ∧ W.cell? ⟨bx, 2, none⟩ = some (.string fs) ∧ W.cell? ⟨bx, 3, none⟩ = some (.int .i64 tk) ∧ W.cell? ⟨bx, 4, none⟩ = some (.int .i64 tn) ∧ W.cell? ⟨bx, 5, none⟩ = some (.string ts) ∧ W.cell? ⟨bx, 6, none⟩ = some (.bool false) ∧ W.cell? ⟨g0, m0 * 7 + 3, none⟩ = some (.int .i64 uk) ∧ W.cell? ⟨g0, m0 * 7 + 3 + 1, none⟩ = some (.int .i64 un) ∧ W.cell? ⟨g0, m0 * 7 + 3 + 2, none⟩ = some (.string us) ∧ W.cell? ⟨g0, m0 * 7 + 3 + 3, none⟩ = some (.bool false))
    (first | exact ⟨q0d, q1d, q2d, q3d, q4d, q5d, q6d, t0d, t1d, t2d, t3d⟩ | exact ⟨q0, q1, q2, q3, q4, q5, q6, t0, t1, t2, t3⟩)
    (first | (go_at_call 35; (with_reducible refine (HPC.out _).mono ?_); rintro e wzd ⟨rfl, hg⟩; have hbd : Below w5.heap.size w5 wzd := Below.trans (by (repeat (first | exact Below.refl _ _ | assumption | refine Below.drew ?_ | refine Below.setCell ?_ (by simp; try omega) _ | refine Below.alloc ?_ (by simp; try omega) _))) (hg.mono (by first | (simp; done) | ((try simp); exact Below.size (by assumption)))); obtain ⟨q0d, q1d, q2d, q3d, q4d, q5d, q6d, t0d, t1d, t2d, t3d⟩ := HK.out wzd hbd; clear hg))
  have HBZ : Hid (Below w5.heap.size w5 wzd) := hbd
  have HOWZ : Hid (wzd.ownsRow base 59 7 (.slice (some ⟨g0, 0, none⟩) nm mc) nm (ivCells (M0 ++ [⟨⟨yk, yn, ys⟩, ⟨uk, un, us⟩, false⟩]))) := own_below HOW5.out hbd
  clear hbd
  have A1 : Hid (nm + 1 ≤ maxLen) := by show _ ≤ _; unfold maxLen; omega
  have A2 : Hid ((nm + 1) * 72 ≤ 140737488355328) := by show _ ≤ _; omega
  have A3 : Hid (∀ O : Obj, base ≤ (wzd.alloc O).heap.size) := fun O => by have := HBZ.out.size; simp only [World.size_alloc]; omega
  have A4 : Hid (∀ t (j : Nat) (u : Value), ([.int .i64 fk, .int .i64 fn, .string fs, .int .i64 tk, .int .i64 tn, .string ts, .bool false] : List Value)[j]? = some u → (wzd.alloc (.cells #[.int .i64 fk, .int .i64 fn, .string fs, .int .i64 tk, .int .i64 tn, .string ts, .bool false] t)).cell? ((⟨wzd.heap.size, 0, none⟩ : Addr).add j) = some u) := by
    intro t j u hj
    have ha : (⟨wzd.heap.size, 0, none⟩ : Addr).add j = ⟨wzd.heap.size, j, none⟩ := by unfold Addr.add; split <;> simp_all
    rw [ha]
    refine (World.cell?_alloc_mark wzd #[.int .i64 fk, .int .i64 fn, .string fs, .int .i64 tk, .int .i64 tn, .string ts, .bool false] t (0, 0) j).trans ?_
    rw [← hj]; simp
  have A5 : Hid (∀ u ∈ ([.int .i64 fk, .int .i64 fn, .string fs, .int .i64 tk, .int .i64 tn, .string ts, .bool false] : List Value), u.oneCell' = true) := by
    intro u hu
    simp only [List.mem_cons, List.not_mem_nil, or_false] at hu
    rcases hu with rfl | rfl | rfl | rfl | rfl | rfl | rfl <;> rfl
  go_wp2_with (at_builtin; refine wpList_append_own _ (by rfl) _ _ 23 (by rfl) base 59 i0 (.agg #[.int .i64 0, .int .i64 0, .string ⟨#[]⟩, .int .i64 0, .int .i64 0, .string ⟨#[]⟩, .bool false]) 7 72 Try.underlying23 HI.out HZ0.out HZ1.out HZ2.out rfl (by decide) (.slice (some ⟨g0, 0, none⟩) nm mc) nm (ivCells (M0 ++ [⟨⟨yk, yn, ys⟩, ⟨uk, un, us⟩, false⟩])) (by rfl) (HOWZ.out.alloc _) ⟨wzd.heap.size, 0, none⟩ 1 1 [.int .i64 fk, .int .i64 fn, .string fs, .int .i64 tk, .int .i64 tn, .string ts, .bool false] (by rfl) (by rfl) (A4.out _) A5.out A1.out A2.out (A3.out _) ?_; intro v' w3 hown2 hgr _; have HOWN2 := Lib.hid hown2; have HGR := Lib.hid hgr; clear hown2 hgr)
  go_ret
  have hbz : Below base w wzd := HBW.out.trans (HBZ.out.mono hb5)
  have hsz : base ≤ wzd.heap.size := Nat.le_trans hb5 HBZ.out.size
  have hsz2 : base ≤ wzd.heap.size := hsz
  refine ⟨v', (M0 ++ [⟨⟨yk, yn, ys⟩, ⟨uk, un, us⟩, false⟩]) ++ [(⟨⟨fk, fn, fs⟩, ⟨tk, tn, ts⟩, false⟩ : IV)], rfl, ?_, (hbz.alloc hsz _).grown HGR.out (by first | (simp only [World.size_alloc]; omega) | (simp; omega)) (fun k e => (hkr k e).1), by have := HGR.out.size; first | (simp only [World.size_alloc] at this; omega) | (simp at this; omega), .inr ⟨?_, rfl⟩⟩
  · rw [ivCells_snoc, List.length_append, HLN.out]
    exact HOWN2.out
  · intro L0 y e
    have e2 : (⟨⟨yk, yn, ys⟩, ⟨uk, un, us⟩, false⟩ : IV) = y := by simpa using (List.append_inj' e rfl).2
    rw [← e2]
    exact HCM.out

set_option linter.unusedSimpArgs false in
set_option maxRecDepth 100000 in
set_option maxHeartbeats 3000000 in
theorem rJoin_InnerTouch (base : Nat) (m : Value) (nm : Nat) (L : List IV) (b off i np c : Nat) (fk fn : Int) (fs : ByteArray) (tk tn : Int) (ts : ByteArray) (w : World) (hown : w.ownsRow base 59 7 m nm (ivCells L)) (hL : L.length = nm) (hl : nm ≤ 4398046511) (hbase : base ≤ w.heap.size) (hb : b < base)
    (hi : i + 1 < np) (hnp : np ≤ 4398046511104) (hp : CellsV w b (off + i * 3) ⟨fk, fn, fs⟩) (hq : CellsV w b (off + (i + 1) * 3) ⟨tk, tn, ts⟩) (M0 : List IV) (y : IV) (hM : L = M0 ++ [y]) (hyo : y.o = false) (hcm : cmpV y.t ⟨fk, fn, fs⟩ = 0) :
    Calls Try.prog 63 #[m, .slice (some ⟨b, off, none⟩) np c, .int .i64 i] w (JoinPost base L (⟨⟨fk, fn, fs⟩, ⟨tk, tn, ts⟩, false⟩ : IV) w) := by
  obtain ⟨p0, p1, p2⟩ := hp
  simp only at p0 p1 p2
  obtain ⟨s0, s1, s2⟩ := hq
  simp only at s0 s1 s2
  have hinfo : (Try.prog.info? 59).map (fun i => (i.zero, i.size, i.bytes)) = some (some (.agg #[.int .i64 0, .int .i64 0, .string ⟨#[]⟩, .int .i64 0, .int .i64 0, .string ⟨#[]⟩, .bool false]), 7, 72) := by kernel_rfl
  obtain ⟨i0, hi0, hz0, hz1, hz2⟩ := info_parts hinfo
  have HI := Lib.hid hi0
  have HZ0 := Lib.hid hz0
  have HZ1 := Lib.hid hz1
  have HZ2 := Lib.hid hz2
  clear hi0 hz0 hz1 hz2 hinfo
  have hbw : b < w.heap.size := by omega
  have hi1 : (i : Int) < np := by omega
  have hi2 : (0 : Int) ≤ i := by omega
  have hw1 : IntKind.i64.wrap ((np : Int) - 1) = np - 1 := by rw [IntKind.wrap_i64]; omega
  have he : ((i : Int) == (np : Int) - 1) = false := by rw [beq_eq_false_iff_ne]; omega
  have hw2 : IntKind.i64.wrap ((i : Int) + 1) = i + 1 := by rw [IntKind.wrap_i64]; omega
  have hi3 : (i : Int) + 1 < np := by omega
  have hi4 : (0 : Int) ≤ (i : Int) + 1 := by omega
  clear hi
  subst hM
  obtain ⟨m0, hm0⟩ : ∃ m, M0.length = m := ⟨_, rfl⟩
  have hnm0 : nm = m0 + 1 := by rw [← hL, List.length_append, hm0]; rfl
  obtain ⟨g0, mc, rfl, hown⟩ := own_some (by omega) hown
  have hcx : ∀ j, j < 7 → w.cell? ⟨g0, m0 * 7 + j, none⟩ = (y.cells)[j]? := fun j hj => by
    rw [hown.cellAt (m0 * 7 + j) (by omega), ivCells_at (M0 ++ [y]) m0 (by rw [List.length_append, hm0]; simp) j hj]
    simp [← hm0]
  obtain ⟨⟨yk, yn, ys⟩, ⟨uk, un, us⟩, yo⟩ := y
  simp only at hyo
  subst hyo
  have r3 : w.cell? ⟨g0, m0 * 7 + 3, none⟩ = some (.int .i64 uk) := hcx 3 (by omega)
  have r4 : w.cell? ⟨g0, m0 * 7 + 4, none⟩ = some (.int .i64 un) := hcx 4 (by omega)
  have r5 : w.cell? ⟨g0, m0 * 7 + 5, none⟩ = some (.string us) := hcx 5 (by omega)
  have r6 : w.cell? ⟨g0, m0 * 7 + 6, none⟩ = some (.bool false) := hcx 6 (by omega)
  have hg0 := hown.lt g0 rfl
  have hgl : g0 < w.heap.size := hg0.2
  have fz : ∀ j, w.frozen? ⟨g0, j, none⟩ = false := fun j => hown.frozenAt j
  have hm1 : (m0 : Int) < nm := by omega
  have hm2 : (0 : Int) ≤ m0 := by omega
  have hm3 : IntKind.i64.wrap ((nm : Int) - 1) = m0 := by rw [IntKind.wrap_i64]; omega
  have hm4 : (nm : Int) - 1 = m0 := by omega
  have hm5 : IntKind.i64.wrap (m0 : Int) = m0 := by rw [IntKind.wrap_i64]; omega
  have hn0 : decide (0 < nm) = true := by simp; omega
  have HPC : Hid (∀ W, Calls Try.prog 35 _ W (fun e w' => e = _ ∧ Below W.heap.size W w')) := fun W => (rCompare_any uk un us fk fn fs W).mono fun e w' h => ⟨h.1, h.2.below⟩
  simp only at hcm
  have HCM := Lib.hid hcm
  generalize cmpV ⟨uk, un, us⟩ ⟨fk, fn, fs⟩ = cc at HPC hcm
  have hcb : (cc == 0) = true := by simpa using hcm
  have HM0 := Lib.hid hm0
  have HNM0 := Lib.hid hnm0
  clear hcx hm0 hnm0 hcm
  have HOWN := Lib.hid hown
  have HLN := Lib.hid hL
  have hkr := hown.lt
  clear hown hL
  go_enter Try.func63, Try.ntmps63
  go_wp2_with fail
  have HB5 : Hid (Below w.heap.size w (w.alloc (.cells #[.int .i64 fk, .int .i64 fn, .string fs, .int .i64 tk, .int .i64 tn, .string ts, .bool false] 59))) := (Below.refl _ _).alloc (Nat.le_refl _) _
  obtain ⟨bx, hbx⟩ : ∃ bx, w.heap.size = bx := ⟨_, rfl⟩
  have q0 : (w.alloc (.cells #[.int .i64 fk, .int .i64 fn, .string fs, .int .i64 tk, .int .i64 tn, .string ts, .bool false] 59)).cell? ⟨bx, 0, none⟩ = some (.int .i64 fk) := by subst hbx; exact World.cell?_alloc_mark w #[.int .i64 fk, .int .i64 fn, .string fs, .int .i64 tk, .int .i64 tn, .string ts, .bool false] 59 (0, 0) 0
  have q1 : (w.alloc (.cells #[.int .i64 fk, .int .i64 fn, .string fs, .int .i64 tk, .int .i64 tn, .string ts, .bool false] 59)).cell? ⟨bx, 1, none⟩ = some (.int .i64 fn) := by subst hbx; exact World.cell?_alloc_mark w #[.int .i64 fk, .int .i64 fn, .string fs, .int .i64 tk, .int .i64 tn, .string ts, .bool false] 59 (0, 0) 1
  have q2 : (w.alloc (.cells #[.int .i64 fk, .int .i64 fn, .string fs, .int .i64 tk, .int .i64 tn, .string ts, .bool false] 59)).cell? ⟨bx, 2, none⟩ = some (.string fs) := by subst hbx; exact World.cell?_alloc_mark w #[.int .i64 fk, .int .i64 fn, .string fs, .int .i64 tk, .int .i64 tn, .string ts, .bool false] 59 (0, 0) 2
  have q3 : (w.alloc (.cells #[.int .i64 fk, .int .i64 fn, .string fs, .int .i64 tk, .int .i64 tn, .string ts, .bool false] 59)).cell? ⟨bx, 3, none⟩ = some (.int .i64 tk) := by subst hbx; exact World.cell?_alloc_mark w #[.int .i64 fk, .int .i64 fn, .string fs, .int .i64 tk, .int .i64 tn, .string ts, .bool false] 59 (0, 0) 3
  have q4 : (w.alloc (.cells #[.int .i64 fk, .int .i64 fn, .string fs, .int .i64 tk, .int .i64 tn, .string ts, .bool false] 59)).cell? ⟨bx, 4, none⟩ = some (.int .i64 tn) := by subst hbx; exact World.cell?_alloc_mark w #[.int .i64 fk, .int .i64 fn, .string fs, .int .i64 tk, .int .i64 tn, .string ts, .bool false] 59 (0, 0) 4
  have q5 : (w.alloc (.cells #[.int .i64 fk, .int .i64 fn, .string fs, .int .i64 tk, .int .i64 tn, .string ts, .bool false] 59)).cell? ⟨bx, 5, none⟩ = some (.string ts) := by subst hbx; exact World.cell?_alloc_mark w #[.int .i64 fk, .int .i64 fn, .string fs, .int .i64 tk, .int .i64 tn, .string ts, .bool false] 59 (0, 0) 5
  have q6 : (w.alloc (.cells #[.int .i64 fk, .int .i64 fn, .string fs, .int .i64 tk, .int .i64 tn, .string ts, .bool false] 59)).cell? ⟨bx, 6, none⟩ = some (.bool false) := by subst hbx; exact World.cell?_alloc_mark w #[.int .i64 fk, .int .i64 fn, .string fs, .int .i64 tk, .int .i64 tn, .string ts, .bool false] 59 (0, 0) 6
  have t0 : (w.alloc (.cells #[.int .i64 fk, .int .i64 fn, .string fs, .int .i64 tk, .int .i64 tn, .string ts, .bool false] 59)).cell? ⟨g0, m0 * 7 + 3, none⟩ = some (.int .i64 uk) := (HB5.out.cell (p := ⟨g0, m0 * 7 + 3 + 0, none⟩) hgl).trans r3
  have t1 : (w.alloc (.cells #[.int .i64 fk, .int .i64 fn, .string fs, .int .i64 tk, .int .i64 tn, .string ts, .bool false] 59)).cell? ⟨g0, m0 * 7 + 3 + 1, none⟩ = some (.int .i64 un) := (HB5.out.cell (p := ⟨g0, m0 * 7 + 3 + 1, none⟩) hgl).trans r4
  have t2 : (w.alloc (.cells #[.int .i64 fk, .int .i64 fn, .string fs, .int .i64 tk, .int .i64 tn, .string ts, .bool false] 59)).cell? ⟨g0, m0 * 7 + 3 + 2, none⟩ = some (.string us) := (HB5.out.cell (p := ⟨g0, m0 * 7 + 3 + 2, none⟩) hgl).trans r5
  have t3 : (w.alloc (.cells #[.int .i64 fk, .int .i64 fn, .string fs, .int .i64 tk, .int .i64 tn, .string ts, .bool false] 59)).cell? ⟨g0, m0 * 7 + 3 + 3, none⟩ = some (.bool false) := (HB5.out.cell (p := ⟨g0, m0 * 7 + 3 + 3, none⟩) hgl).trans r6
  have fz5 : ∀ j, (w.alloc (.cells #[.int .i64 fk, .int .i64 fn, .string fs, .int .i64 tk, .int .i64 tn, .string ts, .bool false] 59)).frozen? ⟨g0, j, none⟩ = false := fun j => (HB5.out.frozen (p := ⟨g0, j, none⟩) hgl).trans (fz j)
  have zt : g0 < (w.alloc (.cells #[.int .i64 fk, .int .i64 fn, .string fs, .int .i64 tk, .int .i64 tn, .string ts, .bool false] 59)).heap.size := by simp only [World.size_alloc]; omega
  have hgx : g0 ≠ bx := by omega
  have zq : bx < (w.alloc (.cells #[.int .i64 fk, .int .i64 fn, .string fs, .int .i64 tk, .int .i64 tn, .string ts, .bool false] 59)).heap.size := by simp only [World.size_alloc]; omega
  have HOW5 : Hid ((w.alloc (.cells #[.int .i64 fk, .int .i64 fn, .string fs, .int .i64 tk, .int .i64 tn, .string ts, .bool false] 59)).ownsRow base 59 7 (.slice (some ⟨g0, 0, none⟩) nm mc) nm (ivCells (M0 ++ [⟨⟨yk, yn, ys⟩, ⟨uk, un, us⟩, false⟩]))) := HOWN.out.alloc _
  have hb5 : base ≤ (w.alloc (.cells #[.int .i64 fk, .int .i64 fn, .string fs, .int .i64 tk, .int .i64 tn, .string ts, .bool false] 59)).heap.size := by simp only [World.size_alloc]; omega
  rw [hbx]
  have HBX : Hid (base ≤ bx) := by show _ ≤ _; omega
  have HBW : Hid (Below base w (w.alloc (.cells #[.int .i64 fk, .int .i64 fn, .string fs, .int .i64 tk, .int .i64 tn, .string ts, .bool false] 59))) := HB5.out.mono (by omega)
  generalize (w.alloc (.cells #[.int .i64 fk, .int .i64 fn, .string fs, .int .i64 tk, .int .i64 tn, .string ts, .bool false] 59)) = w5 at *
  clear HB5 hbx p0 p1 p2 hbw s0 s1 s2 r3 r4 r5 r6 fz hgl hbase HOWN
  have HK : Hid (∀ W, Below w5.heap.size w5 W → W.cell? ⟨bx, 0, none⟩ = some (.int .i64 fk) ∧ W.cell? ⟨bx, 1, none⟩ = some (.int .i64 fn) ∧ W.cell? ⟨bx, 2, none⟩ = some (.string fs) ∧ W.cell? ⟨bx, 3, none⟩ = some (.int .i64 tk) ∧ W.cell? ⟨bx, 4, none⟩ = some (.int .i64 tn) ∧ W.cell? ⟨bx, 5, none⟩ = some (.string ts) ∧ W.cell? ⟨bx, 6, none⟩ = some (.bool false) ∧ W.cell? ⟨g0, m0 * 7 + 3, none⟩ = some (.int .i64 uk) ∧ W.cell? ⟨g0, m0 * 7 + 3 + 1, none⟩ = some (.int .i64 un) ∧ W.cell? ⟨g0, m0 * 7 + 3 + 2, none⟩ = some (.string us) ∧ W.cell? ⟨g0, m0 * 7 + 3 + 3, none⟩ = some (.bool false)) := fun W hb => ⟨(hb.cell (p := ⟨bx, 0, none⟩) zq).trans q0, (hb.cell (p := ⟨bx, 1, none⟩) zq).trans q1, (hb.cell (p := ⟨bx, 2, none⟩) zq).trans q2, (hb.cell (p := ⟨bx, 3, none⟩) zq).trans q3, (hb.cell (p := ⟨bx, 4, none⟩) zq).trans q4, (hb.cell (p := ⟨bx, 5, none⟩) zq).trans q5, (hb.cell (p := ⟨bx, 6, none⟩) zq).trans q6, (hb.cell (p := ⟨g0, m0 * 7 + 3, none⟩) zt).trans t0, (hb.cell (p := ⟨g0, m0 * 7 + 3 + 1, none⟩) zt).trans t1, (hb.cell (p := ⟨g0, m0 * 7 + 3 + 2, none⟩) zt).trans t2, (hb.cell (p := ⟨g0, m0 * 7 + 3 + 3, none⟩) zt).trans t3⟩
  go_region_held3 (fun W => W.cell? ⟨bx, 0, none⟩ = some (.int .i64 fk) ∧ W.cell? ⟨bx, 1, none⟩ = some (.int .i64 fn) ∧ W.cell? ⟨bx, 2, none⟩ = some (.string fs) ∧ W.cell? ⟨bx, 3, none⟩ = some (.int .i64 tk) ∧ W.cell? ⟨bx, 4, none⟩ = some (.int .i64 tn) ∧ W.cell? ⟨bx, 5, none⟩ = some (.string ts) ∧ W.cell? ⟨bx, 6, none⟩ = some (.bool false) ∧ W.cell? ⟨g0, m0 * 7 + 3, none⟩ = some (.int .i64 uk) ∧ W.cell? ⟨g0, m0 * 7 + 3 + 1, none⟩ = some (.int .i64 un) ∧ W.cell? ⟨g0, m0 * 7 + 3 + 2, none⟩ = some (.string us) ∧ W.cell? ⟨g0, m0 * 7 + 3 + 3, none⟩ = some (.bool false))
    (first | exact ⟨q0d, q1d, q2d, q3d, q4d, q5d, q6d, t0d, t1d, t2d, t3d⟩ | exact ⟨q0, q1, q2, q3, q4, q5, q6, t0, t1, t2, t3⟩)
    (first | (go_at_call 35; (with_reducible refine (HPC.out _).mono ?_); rintro e wzd ⟨rfl, hg⟩; have hbd : Below w5.heap.size w5 wzd := Below.trans (by (repeat (first | exact Below.refl _ _ | assumption | refine Below.drew ?_ | refine Below.setCell ?_ (by simp; try omega) _ | refine Below.alloc ?_ (by simp; try omega) _))) (hg.mono (by first | (simp; done) | ((try simp); exact Below.size (by assumption)))); obtain ⟨q0d, q1d, q2d, q3d, q4d, q5d, q6d, t0d, t1d, t2d, t3d⟩ := HK.out wzd hbd; clear hg))
  have HBZ : Hid (Below w5.heap.size w5 wzd) := hbd
  have HOWZ : Hid (wzd.ownsRow base 59 7 (.slice (some ⟨g0, 0, none⟩) nm mc) nm (ivCells (M0 ++ [⟨⟨yk, yn, ys⟩, ⟨uk, un, us⟩, false⟩]))) := own_below HOW5.out hbd
  clear hbd
  have fzd : ∀ j, wzd.frozen? ⟨g0, j, none⟩ = false := fun j => (HBZ.out.frozen (p := ⟨g0, j, none⟩) zt).trans (fz5 j)
  have hzz : g0 < wzd.heap.size := Nat.lt_of_lt_of_le zt HBZ.out.size
  have hzx : bx < wzd.heap.size := Nat.lt_of_lt_of_le zq HBZ.out.size
  clear q0 q1 q2 q3 q4 q5 q6 t0 t1 t2 t3 fz5 HK
  go_wp2_with fail
  go_region
  all_goals
    go_wp2_with fail
    go_ret
    refine ⟨.slice (some ⟨g0, 0, none⟩) nm mc, M0 ++ [⟨⟨yk, yn, ys⟩, ⟨tk, tn, ts⟩, false⟩], rfl, ?_, ?_, ?_, .inl ⟨M0, _, rfl, HCM.out, rfl⟩⟩
    · rw [show (M0 ++ [(⟨⟨yk, yn, ys⟩, ⟨tk, tn, ts⟩, false⟩ : IV)]).length = nm by rw [List.length_append, HM0.out, HNM0.out]; rfl, ← ivCells_turn M0 ⟨⟨yk, yn, ys⟩, ⟨uk, un, us⟩, false⟩ ⟨tk, tn, ts⟩ false, HM0.out]
      exact ((((HOWZ.out.stored (m0 * 7 + 3) _).1.stored (m0 * 7 + 4) _).1.stored (m0 * 7 + 5) _).1.stored (m0 * 7 + 6) _).1.drew
    · have hgb : base ≤ g0 := hg0.1
      have h1 : Below base w wzd := HBW.out.trans (HBZ.out.mono hb5)
      exact ((((h1.setCell hgb _).setCell hgb _).setCell hgb _).setCell hgb _).drew
    · have := HBZ.out.size; simp; omega
end Go.Proofs.Ytmhgmlnnipdomaa
