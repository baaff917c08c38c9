
/- predicate's appendColumn, and Columns' closure. -/
import Derived.Test.YtjkjmkplcjfogaaPdEvery

import Derived.Test.YtjkjmkplcjfogaaPdHolds

import Derived.Test.YtjkjmkplcjfogaaCase5

import Derived.Maps.AppendAt

namespace Go.Proofs.Ytjkjmkplcjfogaa

open Go.RowKit

def iC (s : List Int) : List Value := s.map (Value.int .i64)
theorem iC_app (s x : List Int) : iC (s ++ x) = iC s ++ iC x := by unfold iC; rw [List.map_append]
def AppPost (base : Nat) (s x : List Int) (v : Value) (w : World) (e : Ending) (w' : World) : Prop :=
  ∃ v', e = .returned v' ∧ w'.ownsRow base 3 1 v' (s ++ x).length (iC (s ++ x)) ∧ w.grownBy w' v.ownBlock ∧ (v'.ownBlock = v.ownBlock ∨ ∀ k, v'.ownBlock = some k → w.heap.size ≤ k)
theorem grown_of_alloc {w w' : World} {o : Obj} {row : Option Nat} (h : (w.alloc o).grownBy w' row) : w.grownBy w' row :=
  ⟨h.os, h.tape, h.output, by have := h.size; simp at this; omega, fun k hk hn => (h.block k (by simp; omega) hn).trans ((World.grownBy_alloc w o row).block k hk hn)⟩

set_option maxRecDepth 100000 in
set_option maxHeartbeats 4000000 in
theorem pAppendColumn_any (base : Nat) (s : List Int) (v : Value) (o : Od) (w : World) (hs : s.length ≤ 1099511627776) (hb : base ≤ w.heap.size) (ho : w.ownsRow base 3 1 v s.length (iC s)) : Calls Try.prog 44 #[v, oA o] w (AppPost base s (colO o) v w) := by
  obtain ⟨ok, oi, ⟨vk, vn, vs⟩⟩ := o
  obtain ⟨va, vc, rfl⟩ := own_slice ho
  have HO := Lib.hid ho
  unfold colO
  simp only [oA]
  by_cases h1 : ok = 1
  · by_cases h0 : 0 ≤ oi
    · rw [if_pos ⟨h1, h0⟩]
      obtain rfl := h1
      have d0 : decide (0 ≤ oi) = true := by simpa using h0
      have hinfo : (Try.prog.info? 3).map (fun i => (i.zero, i.size, i.bytes)) = some (some (.int .i64 0), 1, 8) := by kernel_rfl
      obtain ⟨i0, hi, hz0, hz1, hz2⟩ := info_parts hinfo
      have HI := Lib.hid hi
      have HZ0 := Lib.hid hz0
      have HZ1 := Lib.hid hz1
      have HZ2 := Lib.hid hz2
      have A1 : Hid (s.length + 1 ≤ maxLen) := by show _ ≤ _; unfold maxLen; omega
      have A2 : Hid ((s.length + 1) * 8 ≤ 140737488355328) := by show _ ≤ _; omega
      have A3 : Hid (∀ O O' : Obj, base ≤ ((w.alloc O).alloc O').heap.size) := fun O O' => by simp; omega
      have A4 : Hid (∀ O t (j : Nat) (u : Value), ([.int .i64 oi] : List Value)[j]? = some u → ((w.alloc O).alloc (.cells #[.int .i64 oi] t)).cell? ((⟨w.heap.size + 1, 0, none⟩ : Addr).add j) = some u) := fun O t j u hj => by have := one_cell (w.alloc O) (.int .i64 oi) t j u hj; rwa [World.size_alloc] at this
      have A5 : Hid (∀ u ∈ ([.int .i64 oi] : List Value), u.oneCell' = true) := by intro u hu; simp only [List.mem_singleton] at hu; subst hu; rfl
      have A6 : Hid (∀ (O O' : Obj) (v' : Value) (w2 : World), w2.ownsRow base 3 1 v' (s.length + 1) (iC s ++ [.int .i64 oi]) → ((w.alloc O).alloc O').grownBy w2 (Value.slice va s.length vc).ownBlock → (v'.ownBlock = (Value.slice va s.length vc).ownBlock ∨ v'.ownBlock = some ((w.alloc O).alloc O').heap.size) → AppPost base s [oi] (.slice va s.length vc) w (.returned v') w2) := fun O O' v' w2 h1 h2 h3 => by
        refine ⟨v', rfl, by rw [iC_app]; simpa [iC] using h1, grown_of_alloc (grown_of_alloc h2), h3.imp id (fun e k hk => ?_)⟩
        rw [e] at hk
        simp at hk
        omega
      clear hi hz0 hz1 hz2 hinfo ho
      generalize s.length = n at *
      go_enter Try.func44, Try.ntmps44
      go_wp2_with (at_builtin; go_loud (refine wpList_append_own_at _ rfl _ _ 32 rfl base 3 i0 (.int .i64 0) 1 8 Try.underlying32 HI.out HZ0.out HZ1.out HZ2.out rfl (by decide) _ _ _ rfl ((HO.out.alloc _).alloc _) ⟨w.heap.size + 1, 0, none⟩ 1 1 [.int .i64 oi] rfl rfl (A4.out _ _) A5.out A1.out A2.out (A3.out _ _) ?_; intro v' w2 hown2 hgr _ hblk; have HX := Lib.hid (A6.out _ _ v' w2 hown2 hgr hblk); clear hown2 hgr hblk))
      go_ret
      exact HX.out
    · rw [if_neg (fun x => h0 x.2), ]
      obtain rfl := h1
      have d0 : decide (0 ≤ oi) = false := by simpa using h0
      have HX : Hid (∀ O, AppPost base s [] (.slice va s.length vc) w (.returned (.slice va s.length vc)) (w.alloc O)) := fun O =>
        ⟨_, rfl, by rw [List.append_nil]; exact HO.out.alloc _, World.grownBy_alloc _ _ _, .inl rfl⟩
      clear ho HO
      generalize s.length = n at *
      go_enter Try.func44, Try.ntmps44
      go_wp2_with fail
      go_ret
      exact HX.out _
  · rw [if_neg (fun x => h1 x.1)]
    have d0 : (ok == 1) = false := by simpa using h1
    have HX : Hid (∀ O, AppPost base s [] (.slice va s.length vc) w (.returned (.slice va s.length vc)) (w.alloc O)) := fun O =>
      ⟨_, rfl, by rw [List.append_nil]; exact HO.out.alloc _, World.grownBy_alloc _ _ _, .inl rfl⟩
    clear ho HO
    generalize s.length = n at *
    go_enter Try.func44, Try.ntmps44
    go_wp2_with fail
    go_ret
    exact HX.out _
end Go.Proofs.Ytjkjmkplcjfogaa
