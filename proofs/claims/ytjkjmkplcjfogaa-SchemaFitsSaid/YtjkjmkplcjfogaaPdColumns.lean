
/- predicate's appendColumn, and Columns' closure. -/
import Derived.Test.YtjkjmkplcjfogaaPdEvery

import Derived.Test.YtjkjmkplcjfogaaPdHolds

import Derived.Test.YtjkjmkplcjfogaaCase5

import Derived.Maps.AppendAt

import Derived.Test.YtjkjmkplcjfogaaPdInts

import Derived.Test.YtjkjmkplcjfogaaSortI

import Derived.Laws.EntriesVeiled

namespace Go.Proofs.Ytjkjmkplcjfogaa

open Go.RowKit

def iC (s : List Int) : List Value := s.map (Value.int .i64)
theorem iC_app (s x : List Int) : iC (s ++ x) = iC s ++ iC x := by unfold iC; rw [List.map_append]
def AppPost (base : Nat) (s x : List Int) (v : Value) (w : World) (e : Ending) (w' : World) : Prop :=
  ∃ v', e = .returned v' ∧ w'.ownsRow base 3 1 v' (s ++ x).length (iC (s ++ x)) ∧ w.grownBy w' v.ownBlock ∧ (v'.ownBlock = v.ownBlock ∨ ∀ k, v'.ownBlock = some k → w.heap.size ≤ k)
theorem grown_of_alloc {w w' : World} {o : Obj} {row : Option Nat} (h : (w.alloc o).grownBy w' row) : w.grownBy w' row :=
  ⟨h.os, h.tape, h.output, by have := h.size; simp at this; omega, fun k hk hn => (h.block k (by simp; omega) hn).trans ((World.grownBy_alloc w o row).block k hk hn)⟩

set_option maxRecDepth 100000 in
set_option maxHeartbeats 4000000 in
theorem pAppendColumn_any (base : Nat) (s : List Int) (v : Value) (o : Od) (w : World) (hs : s.length ≤ 1099511627776) (hb : base ≤ w.heap.size) (ho : w.ownsRow base 3 1 v s.length (iC s)) : Calls Try.prog 44 #[v, oA o] w (AppPost base s (colO o) v w) := by
  obtain ⟨ok, oi, ⟨vk, vn, vs⟩⟩ := o
  obtain ⟨va, vc, rfl⟩ := own_slice ho
  have HO := Lib.hid ho
  unfold colO
  simp only [oA]
  by_cases h1 : ok = 1
  · by_cases h0 : 0 ≤ oi
    · rw [if_pos ⟨h1, h0⟩]
      obtain rfl := h1
      have d0 : decide (0 ≤ oi) = true := by simpa using h0
      have hinfo : (Try.prog.info? 3).map (fun i => (i.zero, i.size, i.bytes)) = some (some (.int .i64 0), 1, 8) := by kernel_rfl
      obtain ⟨i0, hi, hz0, hz1, hz2⟩ := info_parts hinfo
      have HI := Lib.hid hi
      have HZ0 := Lib.hid hz0
      have HZ1 := Lib.hid hz1
      have HZ2 := Lib.hid hz2
      have A1 : Hid (s.length + 1 ≤ maxLen) := by show _ ≤ _; unfold maxLen; omega
      have A2 : Hid ((s.length + 1) * 8 ≤ 140737488355328) := by show _ ≤ _; omega
      have A3 : Hid (∀ O O' : Obj, base ≤ ((w.alloc O).alloc O').heap.size) := fun O O' => by simp; omega
      have A4 : Hid (∀ O t (j : Nat) (u : Value), ([.int .i64 oi] : List Value)[j]? = some u → ((w.alloc O).alloc (.cells #[.int .i64 oi] t)).cell? ((⟨w.heap.size + 1, 0, none⟩ : Addr).add j) = some u) := fun O t j u hj => by have := one_cell (w.alloc O) (.int .i64 oi) t j u hj; rwa [World.size_alloc] at this
      have A5 : Hid (∀ u ∈ ([.int .i64 oi] : List Value), u.oneCell' = true) := by intro u hu; simp only [List.mem_singleton] at hu; subst hu; rfl
      have A6 : Hid (∀ (O O' : Obj) (v' : Value) (w2 : World), w2.ownsRow base 3 1 v' (s.length + 1) (iC s ++ [.int .i64 oi]) → ((w.alloc O).alloc O').grownBy w2 (Value.slice va s.length vc).ownBlock → (v'.ownBlock = (Value.slice va s.length vc).ownBlock ∨ v'.ownBlock = some ((w.alloc O).alloc O').heap.size) → AppPost base s [oi] (.slice va s.length vc) w (.returned v') w2) := fun O O' v' w2 h1 h2 h3 => by
        refine ⟨v', rfl, by rw [iC_app]; simpa [iC] using h1, grown_of_alloc (grown_of_alloc h2), h3.imp id (fun e k hk => ?_)⟩
        rw [e] at hk
        simp at hk
        omega
      clear hi hz0 hz1 hz2 hinfo ho
      generalize s.length = n at *
      go_enter Try.func44, Try.ntmps44
      go_wp2_with (at_builtin; go_loud (refine wpList_append_own_at _ rfl _ _ 32 rfl base 3 i0 (.int .i64 0) 1 8 Try.underlying32 HI.out HZ0.out HZ1.out HZ2.out rfl (by decide) _ _ _ rfl ((HO.out.alloc _).alloc _) ⟨w.heap.size + 1, 0, none⟩ 1 1 [.int .i64 oi] rfl rfl (A4.out _ _) A5.out A1.out A2.out (A3.out _ _) ?_; intro v' w2 hown2 hgr _ hblk; have HX := Lib.hid (A6.out _ _ v' w2 hown2 hgr hblk); clear hown2 hgr hblk))
      go_ret
      exact HX.out
    · rw [if_neg (fun x => h0 x.2), ]
      obtain rfl := h1
      have d0 : decide (0 ≤ oi) = false := by simpa using h0
      have HX : Hid (∀ O, AppPost base s [] (.slice va s.length vc) w (.returned (.slice va s.length vc)) (w.alloc O)) := fun O =>
        ⟨_, rfl, by rw [List.append_nil]; exact HO.out.alloc _, World.grownBy_alloc _ _ _, .inl rfl⟩
      clear ho HO
      generalize s.length = n at *
      go_enter Try.func44, Try.ntmps44
      go_wp2_with fail
      go_ret
      exact HX.out _
  · rw [if_neg (fun x => h1 x.1)]
    have d0 : (ok == 1) = false := by simpa using h1
    have HX : Hid (∀ O, AppPost base s [] (.slice va s.length vc) w (.returned (.slice va s.length vc)) (w.alloc O)) := fun O =>
      ⟨_, rfl, by rw [List.append_nil]; exact HO.out.alloc _, World.grownBy_alloc _ _ _, .inl rfl⟩
    clear ho HO
    generalize s.length = n at *
    go_enter Try.func44, Try.ntmps44
    go_wp2_with fail
    go_ret
    exact HX.out _
end Go.Proofs.Ytjkjmkplcjfogaa

/- predicate.Columns. -/
namespace Go.Proofs.Ytjkjmkplcjfogaa

open Go.RowKit Go.Sort

theorem iC_length (s : List Int) : (iC s).length = s.length := by unfold iC; simp
theorem iC_at (s : List Int) (j : Nat) : (iC s)[j]? = (s[j]?).map (Value.int .i64) := by unfold iC; simp
/-- An own row of ints, as the shelf has it. -/
theorem own_holds {w : World} {base : Nat} {g n c : Nat} {s : List Int} (ho : w.ownsRow base 3 1 (.slice (some ⟨g, 0, none⟩) n c) s.length (iC s)) : Holds (Value.int .i64) w g 0 s.toArray ∧ g < w.heap.size ∧ base ≤ g ∧ n = s.length ∧ s.length ≤ c ∧ c ≤ maxLen := by
  rcases ho.2 with ⟨h, _⟩ | ⟨g', cap, cur, hv, hg, hgg, hnc, hcm, hcs, htake⟩
  · simp at h
  · simp only [Value.slice.injEq, Option.some.injEq, Addr.mk.injEq, and_true] at hv
    obtain ⟨rfl, rfl, rfl⟩ := hv
    have hlt := (Array.getElem?_eq_some_iff.1 hgg).1
    refine ⟨fun j hj => ?_, hlt, hg, rfl, hnc, hcm⟩
    simp only [List.size_toArray] at hj
    have hcell := ho.cellAt (g := g) j (by simpa using hj)
    refine ⟨?_, ?_⟩
    · rw [Nat.zero_add, hcell, iC_at, List.getElem?_eq_getElem hj]
      simp [hj]
    · unfold World.frozen?
      rw [hgg]
      simp
theorem mv_sort (w : World) (g : Nat) (n : Nat) (d : Array Int) (os : Array Obj) : Mv g w (grow (putRow (Value.int .i64) (Sort.ahead w n) g 0 d) os) := by
  refine ⟨rfl, rfl, rfl, ?_, fun k hk hn => ?_⟩
  · simp [Sort.grow, Sort.putRow, Sort.mapBlock, Sort.ahead]
  · simp only [Sort.grow, Sort.putRow, Sort.mapBlock, Sort.ahead]
    rw [Array.getElem?_append_left (by simp; omega), Array.getElem?_modify, if_neg (by omega)]
theorem mv_compact (w : World) (g : Nat) (n : Nat) (d : Array Int) : Mv g w (putRow (Value.int .i64) (Sort.ahead w n) g 0 d) := by
  refine ⟨rfl, rfl, rfl, ?_, fun k hk hn => ?_⟩
  · simp [Sort.putRow, Sort.mapBlock, Sort.ahead]
  · simp only [Sort.putRow, Sort.mapBlock, Sort.ahead]
    rw [Array.getElem?_modify, if_neg (by omega)]

theorem sortI_any (g c : Nat) (s : List Int) (w : World) (hH : Holds (Value.int .i64) w g 0 s.toArray) (hg : g < w.heap.size) (hs : s.length ≤ 1099511627776) : Calls Try.prog 45 #[.slice (some ⟨g, 0, none⟩) s.length c] w fun e w' => e = .returned (.tuple #[]) ∧ Mv g w w' ∧ Holds (Value.int .i64) w' g 0 (s.mergeSort fun x y => decide (x ≤ y)).toArray := by
  refine (Any.slices_Sort_int Try.laysSortI g 0 c s w hH hg (by omega)).mono fun e w' h => ?_
  obtain ⟨he, n, os, rfl⟩ := h
  refine ⟨he, mv_sort w g n _ os, holds_grow _ _ _ _ _ _ ?_ (holds_putRow _ _ _ _ s.toArray _ (holds_ahead _ _ _ _ _ _ hH) (by simp))⟩
  simp [Sort.putRow, Sort.mapBlock, Sort.ahead]; omega
theorem sortI_nil (a : Option Addr) (c : Nat) (w : World) : Calls Try.prog 45 #[.slice a 0 c] w fun e w' => e = .returned (.tuple #[]) ∧ w = w' :=
  (Any.slices_Sort_int_none Try.laysSortI a c w).mono fun _ _ h => ⟨h.1, h.2.symm⟩
theorem compactI_any (g c : Nat) (s : List Int) (w : World) (hH : Holds (Value.int .i64) w g 0 s.toArray) (hc : s.length ≤ c) (hs : s.length ≤ 1099511627776) : Calls Try.prog 46 #[.slice (some ⟨g, 0, none⟩) s.length c] w fun e w' => e = .returned (.slice (some ⟨g, 0, none⟩) (Lib.compact s).length c) ∧ Mv g w w' ∧ ∀ j (h : j < (Lib.compact s).length), w'.cell? ⟨g, j, none⟩ = some (.int .i64 (Lib.compact s)[j]) := by
  refine (Any.slices_Compact_int Try.laysCompactI g 0 c s w hH (by omega) hc).mono fun e w' h => ?_
  obtain ⟨he, q, rfl⟩ := h
  have hle : (Lib.compact s).length ≤ s.length := by
    unfold Lib.compact Lib.compactUpTo
    rw [List.length_map]
    refine Nat.le_trans (List.length_filter_le _ _) ?_
    simp
  refine ⟨he, mv_compact w g q _, fun j hj => ?_⟩
  have := holds_putRow (Value.int .i64) (Sort.ahead w q) g 0 s.toArray (Lib.compact s ++ List.replicate (s.length - (Lib.compact s).length) 0).toArray (holds_ahead _ _ _ _ _ _ hH) (by simp; omega)
  have h1 := (this j (by simp; omega)).1
  rw [Nat.zero_add] at h1
  rw [h1]
  simp only [Option.some.injEq, Value.int.injEq, true_and]
  rw [getElem!_pos _ j (by simp; omega)]
  simp only [List.getElem_toArray]
  rw [List.getElem_append_left hj]
theorem compactI_nil (a : Option Addr) (c : Nat) (w : World) : Calls Try.prog 46 #[.slice a 0 c] w fun e w' => e = .returned (.slice a 0 c) ∧ w = w' :=
  (Any.slices_Compact_int_empty Try.laysCompactI a c w).mono fun _ _ h => ⟨h.1, h.2.symm⟩

/-- What the box of Columns holds. -/
structure CoInv (B bx : Nat) (s : List Int) (w : World) : Prop where
  lt : bx < w.heap.size
  ge : B ≤ bx
  fz : w.frozen? ⟨bx, 0, none⟩ = false
  own : ∃ v, w.cell? ⟨bx, 0, none⟩ = some v ∧ w.ownsRow (bx + 1) 3 1 v s.length (iC s)
def CoSafe (bx k : Nat) (w : World) : Prop := k ≠ bx ∧ ∀ v, w.cell? ⟨bx, 0, none⟩ = some v → v.ownBlock ≠ some k
theorem own_belowI {w w' : World} {base : Nat} {v : Value} {n : Nat} {xs : List Value} (h : w.ownsRow base 3 1 v n xs) (hb : Below w.heap.size w w') : w'.ownsRow base 3 1 v n xs := by
  refine h.kept (row := none) ⟨hb.os, hb.tape, hb.output, hb.size, fun k hk _ => hb.block k hk⟩ ?_
  cases hob : v.ownBlock with
  | none => exact .inl rfl
  | some k => exact .inr (by simp)
theorem CoInv.below {B bx : Nat} {s : List Int} {w w' : World} (h : CoInv B bx s w) (hb : Below w.heap.size w w') : CoInv B bx s w' := by
  obtain ⟨v, hc, ho⟩ := h.own
  exact ⟨Nat.lt_of_lt_of_le h.lt hb.size, h.ge, (hb.frozen (p := ⟨bx, 0, none⟩) h.lt).trans h.fz, v, (hb.cell (p := ⟨bx, 0, none⟩) h.lt).trans hc, own_belowI ho hb⟩
/-- One append into the box. -/
theorem CoInv.app {B bx : Nat} {s x : List Int} {v : Value} {e : Ending} {w w1 : World} (hI : CoInv B bx s w) (hv : w.cell? ⟨bx, 0, none⟩ = some v) (h : AppPost (bx + 1) s x v w e w1) : ∃ v', e = .returned v' ∧ (∃ a n c, v' = .slice a n c) ∧ w1.cell? ⟨bx, 0, none⟩ = some v ∧ bx < w1.heap.size ∧ w1.frozen? ⟨bx, 0, none⟩ = false ∧ CoInv B bx (s ++ x) (w1.setCell ⟨bx, 0, none⟩ v') ∧ Below B w (w1.setCell ⟨bx, 0, none⟩ v') ∧ (w1.setCell ⟨bx, 0, none⟩ v').cell? ⟨bx, 0, none⟩ = some v' ∧
    ∀ k, k < w.heap.size → CoSafe bx k w → (w1.setCell ⟨bx, 0, none⟩ v').heap[k]? = w.heap[k]? ∧ CoSafe bx k (w1.setCell ⟨bx, 0, none⟩ v') := by
  obtain ⟨v', rfl, ho', hg, hblk⟩ := h
  obtain ⟨v0, hv0, ho⟩ := hI.own
  rw [hv] at hv0
  obtain rfl : v = v0 := by simpa using hv0
  have hne : some bx ≠ v.ownBlock := fun e => by have := ho.lt bx e.symm; omega
  have hcb : w1.heap[bx]? = w.heap[bx]? := hg.block bx hI.lt hne
  have c1 : w1.cell? ⟨bx, 0, none⟩ = some v := (World.cell?_of_block (w := w) (a := ⟨bx, 0, none⟩) hcb).trans hv
  have z1 : bx < w1.heap.size := Nat.lt_of_lt_of_le hI.lt hg.size
  have f1 : w1.frozen? ⟨bx, 0, none⟩ = false := (World.frozen?_of_block (w := w) (a := ⟨bx, 0, none⟩) hcb).trans hI.fz
  have cs : (w1.setCell ⟨bx, 0, none⟩ v').cell? ⟨bx, 0, none⟩ = some v' := World.cell?_setCell_same _ _ _ c1
  have hgset : ∀ k, k ≠ bx → (w1.setCell ⟨bx, 0, none⟩ v').heap[k]? = w1.heap[k]? := fun k hk => Below.heap_setCell _ _ _ _ hk
  have hown : (w1.setCell ⟨bx, 0, none⟩ v').ownsRow (bx + 1) 3 1 v' (s ++ x).length (iC (s ++ x)) := by
    refine ho'.kept (row := some bx) ⟨rfl, rfl, rfl, by simp, fun k _ hn => hgset k (fun e => hn (by rw [e]))⟩ ?_
    cases hob : v'.ownBlock with
    | none => exact .inl rfl
    | some k => right; intro e; simp only [Option.some.injEq] at e; have := (ho'.lt k hob).1; omega
  obtain ⟨va, vc, hvs⟩ := own_slice ho'
  refine ⟨v', rfl, ⟨va, _, vc, hvs⟩, c1, z1, f1, ⟨by simp; exact z1, hI.ge, by rw [World.frozen?_setCell]; exact f1, v', cs, hown⟩, ?_, cs, fun k hk hS => ?_⟩
  · refine Below.setCell ⟨hg.os, hg.tape, hg.output, hg.size, fun k hk => hg.block k (by have := hI.lt; have := hI.ge; omega) (fun e => by have := (ho.lt k e.symm).1; have := hI.ge; omega)⟩ hI.ge _
  · refine ⟨(hgset k hS.1).trans (hg.block k hk (fun e => hS.2 v hv e.symm)), hS.1, fun u hu e => ?_⟩
    rw [cs] at hu
    obtain rfl : v' = u := by simpa using hu
    rcases hblk with hb | hb
    · rw [hb] at e; exact hS.2 v hv e
    · have := hb k e; omega
end Go.Proofs.Ytjkjmkplcjfogaa
