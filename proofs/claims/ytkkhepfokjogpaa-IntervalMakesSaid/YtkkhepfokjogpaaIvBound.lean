
/- interval.bound. -/
import Derived.Test.YtkkhepfokjogpaaIvMake

import Derived.BigRegion

namespace Go.Proofs.Ytkkhepfokjogpaa

open Go.RowKit

/-- The n-th of the values at which a set begins or ends. -/
def bdV (L : List IV) (n : Nat) : V × Bool := match L[n / 2]? with
  | none => (z0, false)
  | some x => if n % 2 = 0 then (x.f, true) else (x.t, !x.o)

set_option linter.unusedSimpArgs false in
set_option maxHeartbeats 1000000 in
theorem iBound_any (v : Value) (L : List IV) (n : Nat) (w : World) (h : Ivs w v L) (hn : n ≤ 4398046511104) : Calls Try.prog 86 #[v, .int .i64 n] w fun e w' => e = .returned (retV (bdV L n)) ∧ Below w.heap.size w w' := by
  obtain ⟨a, c, rfl, hc1, hc2, hnil, hl, hi⟩ := h
  obtain ⟨l, hll⟩ : ∃ l, L.length = l := ⟨_, rfl⟩
  rw [hll] at hc1 hl ⊢
  obtain ⟨m2, hh⟩ : ∃ h, h = n / 2 := ⟨_, rfl⟩
  have hq : Int.tdiv (n : Int) 2 = (m2 : Int) := by rw [Int.tdiv_eq_ediv_of_nonneg (by omega)]; omega
  have hw : IntKind.i64.wrap (m2 : Int) = m2 := by rw [IntKind.wrap_i64]; omega
  have hq1 : IntKind.i64.wrap (Int.tdiv (n : Int) 2) = m2 := by rw [hq]; exact hw
  have hq3 : (n : Int) / 2 = m2 := by omega
  have hq2 : IntKind.i64.wrap ((n : Int) / 2) = m2 := by rw [hq3]; exact hw
  have hm0 : (0 : Int) ≤ m2 := by omega
  unfold bdV
  rw [← hh]
  by_cases hlt : m2 < l
  · have hmL : m2 < L.length := by omega
    obtain ⟨b, off, rfl, -, hb, hc⟩ := hi m2 hmL
    rw [List.getElem?_eq_getElem hmL]
    generalize L[m2] = x at hc ⊢
    obtain ⟨⟨fk, fn, fs⟩, ⟨tk, tn, ts⟩, xo⟩ := x
    obtain ⟨⟨p0, p1, p2⟩, ⟨p3, p4, p5⟩, p6⟩ := hc
    simp only at p0 p1 p2 p3 p4 p5 p6
    have hd : decide ((l : Int) ≤ m2) = false := by simp; omega
    have hlt' : (m2 : Int) < l := by omega
    clear hi hnil hmL hll
    simp only [retV]
    by_cases h2 : n % 2 = 0
    · have ht : Int.tmod (n : Int) 2 = 0 := by rw [Int.tmod_eq_emod_of_nonneg (by omega)]; omega
      have ht2 : (n : Int) % 2 = 0 := by omega
      simp only [h2, if_true]
      clear h2 hh
      go_enter Try.func86, Try.ntmps86
      go_wp2_with fail
      refine bodyPost_ret (v := .tuple #[.agg #[.int .i64 fk, .int .i64 fn, .string fs], .bool true]) (by simp [results, Try.results86, go_sem, *]) rfl ?_
      exact ⟨rfl, by (repeat (first | exact Below.refl _ _ | assumption | refine Below.drew ?_ | refine Below.setCell ?_ (by first | omega | (simp only [World.size_alloc]; omega) | (simp; try omega)) _ | refine Below.alloc ?_ (by first | omega | (simp only [World.size_alloc]; omega) | (simp; try omega)) _))⟩
    · have ht : Int.tmod (n : Int) 2 = 1 := by rw [Int.tmod_eq_emod_of_nonneg (by omega)]; omega
      have ht2 : (n : Int) % 2 = 1 := by omega
      simp only [h2, if_false]
      clear h2 hh
      go_enter Try.func86, Try.ntmps86
      go_wp2_with fail
      go_region
      all_goals
        go_wp2_with fail
        refine bodyPost_ret (v := .tuple #[.agg #[.int .i64 tk, .int .i64 tn, .string ts], .bool !xo]) (by simp [results, Try.results86, go_sem, *]) rfl ?_
        exact ⟨rfl, by (repeat (first | exact Below.refl _ _ | assumption | refine Below.drew ?_ | refine Below.setCell ?_ (by first | omega | (simp only [World.size_alloc]; omega) | (simp; try omega)) _ | refine Below.alloc ?_ (by first | omega | (simp only [World.size_alloc]; omega) | (simp; try omega)) _))⟩
  · have hd : decide ((l : Int) ≤ m2) = true := by simp; omega
    rw [List.getElem?_eq_none (by omega)]
    simp only [retV, z0]
    clear hi hnil hll hh
    go_enter Try.func86, Try.ntmps86
    go_wp2_with fail
    refine bodyPost_ret (v := .tuple #[.agg #[.int .i64 0, .int .i64 0, .string ⟨#[]⟩], .bool false]) (by simp [results, Try.results86, go_sem, *]) rfl ?_
    exact ⟨rfl, by (repeat (first | exact Below.refl _ _ | assumption | refine Below.drew ?_ | refine Below.setCell ?_ (by first | omega | (simp only [World.size_alloc]; omega) | (simp; try omega)) _ | refine Below.alloc ?_ (by first | omega | (simp only [World.size_alloc]; omega) | (simp; try omega)) _))⟩
end Go.Proofs.Ytkkhepfokjogpaa
