
/- The leaves of package predicate: the order's methods, comparison, compare, at, denoted; the reference's denoted, Compares. -/
import Derived.Test.YtjkjmkplcjfogaaPdMath

import Derived.Laws.EntriesVeiled

import Derived.Outline

import Derived.Test.YtjkjmkplcjfogaaRNext

namespace Go.Proofs.Ytjkjmkplcjfogaa

open Go.RowKit

theorem pEqual_any (r : Int) (w : World) : Calls Try.prog 103 #[.int .i64 r] w fun e w' => e = .returned (.bool (r == 0)) ∧ w = w' := by
  go_enter Try.func103, Try.ntmps103
  go_wp2_with fail
  go_ret
  exact ⟨rfl, rfl⟩
theorem pOther_any (r : Int) (w : World) : Calls Try.prog 104 #[.int .i64 r] w fun e w' => e = .returned (.bool (r != 0)) ∧ w = w' := by
  go_enter Try.func104, Try.ntmps104
  go_wp2_with fail
  go_ret
  exact ⟨rfl, rfl⟩
theorem pLess_any (r : Int) (w : World) : Calls Try.prog 105 #[.int .i64 r] w fun e w' => e = .returned (.bool (decide (r < 0))) ∧ w = w' := by
  go_enter Try.func105, Try.ntmps105
  go_wp2_with fail
  go_ret
  exact ⟨rfl, rfl⟩
theorem pAtMost_any (r : Int) (w : World) : Calls Try.prog 106 #[.int .i64 r] w fun e w' => e = .returned (.bool (decide (r ≤ 0))) ∧ w = w' := by
  go_enter Try.func106, Try.ntmps106
  go_wp2_with fail
  go_ret
  exact ⟨rfl, rfl⟩
theorem pGreater_any (r : Int) (w : World) : Calls Try.prog 107 #[.int .i64 r] w fun e w' => e = .returned (.bool (decide (0 < r))) ∧ w = w' := by
  go_enter Try.func107, Try.ntmps107
  go_wp2_with fail
  go_ret
  exact ⟨rfl, rfl⟩
theorem pAtLeast_any (r : Int) (w : World) : Calls Try.prog 108 #[.int .i64 r] w fun e w' => e = .returned (.bool (decide (0 ≤ r))) ∧ w = w' := by
  go_enter Try.func108, Try.ntmps108
  go_wp2_with fail
  go_ret
  exact ⟨rfl, rfl⟩

/-- The test of a comparison, a function. -/
def tstF (c : Int) : Value := if c = 1 then .func (.func 103) #[] #[] else if c = 2 then .func (.func 104) #[] #[] else if c = 3 then .func (.func 105) #[] #[] else if c = 4 then .func (.func 106) #[] #[] else if c = 5 then .func (.func 107) #[] #[] else if c = 6 then .func (.func 108) #[] #[] else .nilFunc
theorem tstF_hit (c : Int) (k : Nat) (h : c = (k : Int) + 1) (h6 : k < 6) : c = 1 ∨ c = 2 ∨ c = 3 ∨ c = 4 ∨ c = 5 ∨ c = 6 := by omega

theorem tstF_none {c : Int} (h : ∀ j : Nat, j < 6 → c ≠ j + 1) : tstF c = .nilFunc := by
  have h0 := h 0 (by omega); have h1 := h 1 (by omega); have h2 := h 2 (by omega); have h3 := h 3 (by omega); have h4 := h 4 (by omega); have h5 := h 5 (by omega)
  unfold tstF
  rw [if_neg (by omega), if_neg (by omega), if_neg (by omega), if_neg (by omega), if_neg (by omega), if_neg (by omega)]

set_option maxRecDepth 100000 in
set_option maxHeartbeats 2000000 in
theorem pComparison_any (c : Int) (w : World) : Calls Try.prog 81 #[.int .i64 c] w fun e w' => e = .returned (tstF c) ∧ Below w.heap.size w w' := by
  obtain ⟨F, hF⟩ : ∃ F, tstF c = F := ⟨_, rfl⟩
  rw [hF]
  have HF := Lib.hid hF
  clear hF
  have i0 : ∀ w, (Instr.index 137 (.agg #[.int .i64 1, .func (.func 103) #[] #[], .int .i64 2, .func (.func 104) #[] #[], .int .i64 3, .func (.func 105) #[] #[], .int .i64 4, .func (.func 106) #[] #[], .int .i64 5, .func (.func 107) #[] #[], .int .i64 6, .func (.func 108) #[] #[]]) (.int .i64 0)).run Try.prog w = .ok (.agg #[.int .i64 1, .func (.func 103) #[] #[]]) w := fun _ => by kernel_rfl
  have i1 : ∀ w, (Instr.index 137 (.agg #[.int .i64 1, .func (.func 103) #[] #[], .int .i64 2, .func (.func 104) #[] #[], .int .i64 3, .func (.func 105) #[] #[], .int .i64 4, .func (.func 106) #[] #[], .int .i64 5, .func (.func 107) #[] #[], .int .i64 6, .func (.func 108) #[] #[]]) (.int .i64 1)).run Try.prog w = .ok (.agg #[.int .i64 2, .func (.func 104) #[] #[]]) w := fun _ => by kernel_rfl
  have i2 : ∀ w, (Instr.index 137 (.agg #[.int .i64 1, .func (.func 103) #[] #[], .int .i64 2, .func (.func 104) #[] #[], .int .i64 3, .func (.func 105) #[] #[], .int .i64 4, .func (.func 106) #[] #[], .int .i64 5, .func (.func 107) #[] #[], .int .i64 6, .func (.func 108) #[] #[]]) (.int .i64 2)).run Try.prog w = .ok (.agg #[.int .i64 3, .func (.func 105) #[] #[]]) w := fun _ => by kernel_rfl
  have i3 : ∀ w, (Instr.index 137 (.agg #[.int .i64 1, .func (.func 103) #[] #[], .int .i64 2, .func (.func 104) #[] #[], .int .i64 3, .func (.func 105) #[] #[], .int .i64 4, .func (.func 106) #[] #[], .int .i64 5, .func (.func 107) #[] #[], .int .i64 6, .func (.func 108) #[] #[]]) (.int .i64 3)).run Try.prog w = .ok (.agg #[.int .i64 4, .func (.func 106) #[] #[]]) w := fun _ => by kernel_rfl
  have i4 : ∀ w, (Instr.index 137 (.agg #[.int .i64 1, .func (.func 103) #[] #[], .int .i64 2, .func (.func 104) #[] #[], .int .i64 3, .func (.func 105) #[] #[], .int .i64 4, .func (.func 106) #[] #[], .int .i64 5, .func (.func 107) #[] #[], .int .i64 6, .func (.func 108) #[] #[]]) (.int .i64 4)).run Try.prog w = .ok (.agg #[.int .i64 5, .func (.func 107) #[] #[]]) w := fun _ => by kernel_rfl
  have i5 : ∀ w, (Instr.index 137 (.agg #[.int .i64 1, .func (.func 103) #[] #[], .int .i64 2, .func (.func 104) #[] #[], .int .i64 3, .func (.func 105) #[] #[], .int .i64 4, .func (.func 106) #[] #[], .int .i64 5, .func (.func 107) #[] #[], .int .i64 6, .func (.func 108) #[] #[]]) (.int .i64 5)).run Try.prog w = .ok (.agg #[.int .i64 6, .func (.func 108) #[] #[]]) w := fun _ => by kernel_rfl
  go_enter Try.func81, Try.ntmps81
  go_wp2_with fail
  obtain ⟨wq, hwq⟩ : ∃ wq, w.alloc (.cells #[.int .i64 1, .func (.func 103) #[] #[], .int .i64 2, .func (.func 104) #[] #[], .int .i64 3, .func (.func 105) #[] #[], .int .i64 4, .func (.func 106) #[] #[], .int .i64 5, .func (.func 107) #[] #[], .int .i64 6, .func (.func 108) #[] #[]] 137) = wq := ⟨_, rfl⟩
  have HB : Hid (Below w.heap.size w wq) := by rw [← hwq]; exact (Below.refl _ _).alloc (Nat.le_refl _) _
  rw [hwq]
  clear hwq
  go_loopw [14] (fun i wr => ∃ k : Nat, k ≤ 6 ∧ i = .int .i64 k ∧ Hid (∀ j : Nat, j < k → c ≠ j + 1) ∧ Hid (Below w.heap.size w wr)) (fun i _ => 6 - (intOf i).toNat)
  case atStart => exact ⟨0, by omega, rfl, fun j hj => by omega, HB.out⟩
  case round =>
    obtain ⟨k, hk, rfl, HN, HR⟩ := hrel
    have hcase : k = 0 ∨ k = 1 ∨ k = 2 ∨ k = 3 ∨ k = 4 ∨ k = 5 ∨ k = 6 := by omega
    clear HB hk
    rcases hcase with rfl | rfl | rfl | rfl | rfl | rfl | rfl
    · by_cases hc : c = 1
      · subst hc
        obtain rfl := HF.out
        go_wp2_with fail
        go_ret
        exact ⟨rfl, HR.out.alloc HR.out.size _⟩
      · have hb : (1 == c) = false := by simp; omega
        have HN' : Hid (∀ j : Nat, j < 0 + 1 → c ≠ j + 1) := fun j hj => by
          by_cases e : j = 0
          · subst e; simpa using hc
          · exact HN.out j (by omega)
        clear hc HN
        go_wp2_with fail
        go_roundw
        case rel => exact ⟨0 + 1, by omega, by go_num, HN'.out, HR.out.alloc HR.out.size _⟩
        case measure => simp [intOf]
    · by_cases hc : c = 2
      · subst hc
        obtain rfl := HF.out
        go_wp2_with fail
        go_ret
        exact ⟨rfl, HR.out.alloc HR.out.size _⟩
      · have hb : (2 == c) = false := by simp; omega
        have HN' : Hid (∀ j : Nat, j < 1 + 1 → c ≠ j + 1) := fun j hj => by
          by_cases e : j = 1
          · subst e; simpa using hc
          · exact HN.out j (by omega)
        clear hc HN
        go_wp2_with fail
        go_roundw
        case rel => exact ⟨1 + 1, by omega, by go_num, HN'.out, HR.out.alloc HR.out.size _⟩
        case measure => simp [intOf]
    · by_cases hc : c = 3
      · subst hc
        obtain rfl := HF.out
        go_wp2_with fail
        go_ret
        exact ⟨rfl, HR.out.alloc HR.out.size _⟩
      · have hb : (3 == c) = false := by simp; omega
        have HN' : Hid (∀ j : Nat, j < 2 + 1 → c ≠ j + 1) := fun j hj => by
          by_cases e : j = 2
          · subst e; simpa using hc
          · exact HN.out j (by omega)
        clear hc HN
        go_wp2_with fail
        go_roundw
        case rel => exact ⟨2 + 1, by omega, by go_num, HN'.out, HR.out.alloc HR.out.size _⟩
        case measure => simp [intOf]
    · by_cases hc : c = 4
      · subst hc
        obtain rfl := HF.out
        go_wp2_with fail
        go_ret
        exact ⟨rfl, HR.out.alloc HR.out.size _⟩
      · have hb : (4 == c) = false := by simp; omega
        have HN' : Hid (∀ j : Nat, j < 3 + 1 → c ≠ j + 1) := fun j hj => by
          by_cases e : j = 3
          · subst e; simpa using hc
          · exact HN.out j (by omega)
        clear hc HN
        go_wp2_with fail
        go_roundw
        case rel => exact ⟨3 + 1, by omega, by go_num, HN'.out, HR.out.alloc HR.out.size _⟩
        case measure => simp [intOf]
    · by_cases hc : c = 5
      · subst hc
        obtain rfl := HF.out
        go_wp2_with fail
        go_ret
        exact ⟨rfl, HR.out.alloc HR.out.size _⟩
      · have hb : (5 == c) = false := by simp; omega
        have HN' : Hid (∀ j : Nat, j < 4 + 1 → c ≠ j + 1) := fun j hj => by
          by_cases e : j = 4
          · subst e; simpa using hc
          · exact HN.out j (by omega)
        clear hc HN
        go_wp2_with fail
        go_roundw
        case rel => exact ⟨4 + 1, by omega, by go_num, HN'.out, HR.out.alloc HR.out.size _⟩
        case measure => simp [intOf]
    · by_cases hc : c = 6
      · subst hc
        obtain rfl := HF.out
        go_wp2_with fail
        go_ret
        exact ⟨rfl, HR.out.alloc HR.out.size _⟩
      · have hb : (6 == c) = false := by simp; omega
        have HN' : Hid (∀ j : Nat, j < 5 + 1 → c ≠ j + 1) := fun j hj => by
          by_cases e : j = 5
          · subst e; simpa using hc
          · exact HN.out j (by omega)
        clear hc HN
        go_wp2_with fail
        go_roundw
        case rel => exact ⟨5 + 1, by omega, by go_num, HN'.out, HR.out.alloc HR.out.size _⟩
        case measure => simp [intOf]
    · have HX := Lib.hid (tstF_none HN.out)
      go_wp2_with fail
      go_ret
      exact ⟨by rw [← HF.out, HX.out]; rfl, HR.out⟩
end Go.Proofs.Ytjkjmkplcjfogaa

/- predicate.compare, at, denoted; the reference's denoted, Compares. -/
namespace Go.Proofs.Ytjkjmkplcjfogaa

open Go.RowKit

/-- A value as the program has it. -/
abbrev vA (v : V) : Value := .agg #[.int .i64 v.k, .int .i64 v.n, .string v.s]
/-- An operand as the program has it. -/
abbrev oA (o : Od) : Value := .agg #[.int .i64 o.k, .int .i64 o.i, .int .i64 o.v.k, .int .i64 o.v.n, .string o.v.s]

set_option maxHeartbeats 1000000 in
theorem pAtV_any (rv : Value) (l : List V) (i : Int) (w : World) (h : RowAt w rv l) : Calls Try.prog 83 #[rv, .int .i64 i] w fun e w' => e = .returned (.tuple #[vA (atV l i), .bool (inB l.length i)]) ∧ Below w.heap.size w w' := by
  obtain ⟨a, c, rfl, hl, hi⟩ := h
  cases hin : inB l.length i with
  | true =>
    obtain ⟨k, rfl, hk⟩ := inB_true hin
    obtain ⟨b, off, rfl, hb, c0, c1, c2⟩ := hi k hk
    rw [atV_in hk]
    clear hi hin
    generalize l[k] = v at *
    generalize l.length = n at *
    obtain ⟨vk, vn, vs⟩ := v
    simp only at c0 c1 c2
    have d1 : decide ((k : Int) < 0) = false := by simp
    have d2 : decide ((n : Int) ≤ k) = false := by simp; omega
    have hlt' : (k : Int) < n := by omega
    go_enter Try.func83, Try.ntmps83
    go_wp2_with fail
    exact bodyPost_ret (v := .tuple #[.agg #[.int .i64 vk, .int .i64 vn, .string vs], .bool true]) (by simp [results, Try.results83, go_sem]) rfl ⟨rfl, by (repeat (first | exact Below.refl _ _ | assumption | refine Below.drew ?_ | refine Below.setCell ?_ (by first | omega | (simp only [World.size_alloc]; omega) | (simp; try omega)) _ | refine Below.alloc ?_ (by first | omega | (simp only [World.size_alloc]; omega) | (simp; try omega)) _))⟩
  | false =>
    rw [atV_out hin]
    have hcs := inB_false hin
    clear hi hin
    generalize l.length = n at *
    by_cases h0 : i < 0
    · have d1 : decide (i < 0) = true := by simpa using h0
      go_enter Try.func83, Try.ntmps83
      go_wp2_with fail
      exact bodyPost_ret (v := .tuple #[.agg #[.int .i64 0, .int .i64 0, .string ⟨#[]⟩], .bool false]) (by simp [results, Try.results83, go_sem]) rfl ⟨rfl, by (repeat (first | exact Below.refl _ _ | assumption | refine Below.drew ?_ | refine Below.setCell ?_ (by first | omega | (simp only [World.size_alloc]; omega) | (simp; try omega)) _ | refine Below.alloc ?_ (by first | omega | (simp only [World.size_alloc]; omega) | (simp; try omega)) _))⟩
    · have d1 : decide (i < 0) = false := by simpa using h0
      have d2 : decide ((n : Int) ≤ i) = true := by simp; omega
      go_enter Try.func83, Try.ntmps83
      go_wp2_with fail
      exact bodyPost_ret (v := .tuple #[.agg #[.int .i64 0, .int .i64 0, .string ⟨#[]⟩], .bool false]) (by simp [results, Try.results83, go_sem]) rfl ⟨rfl, by (repeat (first | exact Below.refl _ _ | assumption | refine Below.drew ?_ | refine Below.setCell ?_ (by first | omega | (simp only [World.size_alloc]; omega) | (simp; try omega)) _ | refine Below.alloc ?_ (by first | omega | (simp only [World.size_alloc]; omega) | (simp; try omega)) _))⟩

set_option maxHeartbeats 1000000 in
theorem pDenoted_any (o : Od) (rv qv : Value) (R Q : List V) (w : World) (hr : RowAt w rv R) (hq : RowAt w qv Q) : Calls Try.prog 52 #[oA o, rv, qv] w fun e w' => e = .returned (vA (denV o R Q)) ∧ Below w.heap.size w w' := by
  have HR : Hid (∀ W, Below w.heap.size w W → Calls Try.prog 83 #[rv, .int .i64 o.i] W fun e w' => e = .returned (.tuple #[vA (atV R o.i), .bool (inB R.length o.i)]) ∧ Below W.heap.size W w') := fun W hb => pAtV_any rv R o.i W (hr.blw hb)
  have HQ : Hid (∀ W, Below w.heap.size w W → Calls Try.prog 83 #[qv, .int .i64 o.i] W fun e w' => e = .returned (.tuple #[vA (atV Q o.i), .bool (inB Q.length o.i)]) ∧ Below W.heap.size W w') := fun W hb => pAtV_any qv Q o.i W (hq.blw hb)
  unfold denV
  clear hr hq
  obtain ⟨ok, oi, ⟨vk, vn, vs⟩⟩ := o
  simp only at HR HQ ⊢
  generalize inB R.length oi = x1 at *
  generalize inB Q.length oi = x2 at *
  generalize atV R oi = y1 at *
  generalize atV Q oi = y2 at *
  obtain ⟨y1k, y1n, y1s⟩ := y1
  obtain ⟨y2k, y2n, y2s⟩ := y2
  simp only [vA, oA] at HR HQ ⊢
  by_cases h1 : ok = 1
  · subst h1
    simp only [if_true]
    go_enter Try.func52, Try.ntmps52
    go_wp2_with fail
    refine (HR.out _ (by (repeat (first | exact Below.refl _ _ | assumption | refine Below.drew ?_ | refine Below.setCell ?_ (by first | omega | (simp only [World.size_alloc]; omega) | (simp; try omega)) _ | refine Below.alloc ?_ (by first | omega | (simp only [World.size_alloc]; omega) | (simp; try omega)) _)))).mono ?_
    rintro e w1 ⟨rfl, hb⟩
    have B1 : Hid (Below w.heap.size w w1) := Below.trans (by (repeat (first | exact Below.refl _ _ | assumption | refine Below.drew ?_ | refine Below.setCell ?_ (by first | omega | (simp only [World.size_alloc]; omega) | (simp; try omega)) _ | refine Below.alloc ?_ (by first | omega | (simp only [World.size_alloc]; omega) | (simp; try omega)) _))) (hb.mono (by simp only [World.size_alloc]; omega))
    have z1 := hb.size
    simp only [World.size_alloc] at z1
    have p0 : w1.cell? ⟨w.heap.size + 1, 0, none⟩ = some (.int .i64 0) := (hb.cell (p := ⟨w.heap.size + 1, 0, none⟩) (show w.heap.size + 1 < _ by simp only [World.size_alloc]; omega)).trans (by go_simp)
    have p1 : w1.cell? ⟨w.heap.size + 1, 1, none⟩ = some (.int .i64 0) := (hb.cell (p := ⟨w.heap.size + 1, 1, none⟩) (show w.heap.size + 1 < _ by simp only [World.size_alloc]; omega)).trans (by go_simp)
    have p2 : w1.cell? ⟨w.heap.size + 1, 2, none⟩ = some (.string ⟨#[]⟩) := (hb.cell (p := ⟨w.heap.size + 1, 2, none⟩) (show w.heap.size + 1 < _ by simp only [World.size_alloc]; omega)).trans (by go_simp)
    have r0 : w1.cell? ⟨w.heap.size + 1 + 1, 0, none⟩ = some (.int .i64 0) := (hb.cell (p := ⟨w.heap.size + 1 + 1, 0, none⟩) (show w.heap.size + 1 + 1 < _ by simp only [World.size_alloc]; omega)).trans (by go_simp)
    have r1 : w1.cell? ⟨w.heap.size + 1 + 1, 1, none⟩ = some (.int .i64 0) := (hb.cell (p := ⟨w.heap.size + 1 + 1, 1, none⟩) (show w.heap.size + 1 + 1 < _ by simp only [World.size_alloc]; omega)).trans (by go_simp)
    have r2 : w1.cell? ⟨w.heap.size + 1 + 1, 2, none⟩ = some (.string ⟨#[]⟩) := (hb.cell (p := ⟨w.heap.size + 1 + 1, 2, none⟩) (show w.heap.size + 1 + 1 < _ by simp only [World.size_alloc]; omega)).trans (by go_simp)
    have f1 : ∀ o, w1.frozen? ⟨w.heap.size + 1, o, none⟩ = false := fun o => (hb.frozen (p := ⟨w.heap.size + 1, o, none⟩) (show w.heap.size + 1 < _ by simp only [World.size_alloc]; omega)).trans (by go_simp)
    have f2 : ∀ o, w1.frozen? ⟨w.heap.size + 1 + 1, o, none⟩ = false := fun o => (hb.frozen (p := ⟨w.heap.size + 1 + 1, o, none⟩) (show w.heap.size + 1 + 1 < _ by simp only [World.size_alloc]; omega)).trans (by go_simp)
    clear hb
    go_wp2_with fail
    have hB := B1.out
    refine bodyPost_ret (v := .agg #[.int .i64 y1k, .int .i64 y1n, .string y1s]) ?_ rfl ?_
    · simp [results, Try.results52, go_sem, p0, p1, p2]
    · exact ⟨rfl, by with_reducible (repeat (first | exact hB | refine Below.setCell ?_ (show w.heap.size ≤ _ by simp only []; omega) _))⟩
  · by_cases h2 : ok = 2
    · subst h2
      simp only [if_true, if_neg (show ¬ (2 : Int) = 1 by omega)]
      go_enter Try.func52, Try.ntmps52
      go_wp2_with fail
      refine (HQ.out _ (by (repeat (first | exact Below.refl _ _ | assumption | refine Below.drew ?_ | refine Below.setCell ?_ (by first | omega | (simp only [World.size_alloc]; omega) | (simp; try omega)) _ | refine Below.alloc ?_ (by first | omega | (simp only [World.size_alloc]; omega) | (simp; try omega)) _)))).mono ?_
      rintro e w1 ⟨rfl, hb⟩
      have B1 : Hid (Below w.heap.size w w1) := Below.trans (by (repeat (first | exact Below.refl _ _ | assumption | refine Below.drew ?_ | refine Below.setCell ?_ (by first | omega | (simp only [World.size_alloc]; omega) | (simp; try omega)) _ | refine Below.alloc ?_ (by first | omega | (simp only [World.size_alloc]; omega) | (simp; try omega)) _))) (hb.mono (by simp only [World.size_alloc]; omega))
      have z1 := hb.size
      simp only [World.size_alloc] at z1
      have p0 : w1.cell? ⟨w.heap.size + 1, 0, none⟩ = some (.int .i64 0) := (hb.cell (p := ⟨w.heap.size + 1, 0, none⟩) (show w.heap.size + 1 < _ by simp only [World.size_alloc]; omega)).trans (by go_simp)
      have p1 : w1.cell? ⟨w.heap.size + 1, 1, none⟩ = some (.int .i64 0) := (hb.cell (p := ⟨w.heap.size + 1, 1, none⟩) (show w.heap.size + 1 < _ by simp only [World.size_alloc]; omega)).trans (by go_simp)
      have p2 : w1.cell? ⟨w.heap.size + 1, 2, none⟩ = some (.string ⟨#[]⟩) := (hb.cell (p := ⟨w.heap.size + 1, 2, none⟩) (show w.heap.size + 1 < _ by simp only [World.size_alloc]; omega)).trans (by go_simp)
      have r0 : w1.cell? ⟨w.heap.size + 1 + 1, 0, none⟩ = some (.int .i64 0) := (hb.cell (p := ⟨w.heap.size + 1 + 1, 0, none⟩) (show w.heap.size + 1 + 1 < _ by simp only [World.size_alloc]; omega)).trans (by go_simp)
      have r1 : w1.cell? ⟨w.heap.size + 1 + 1, 1, none⟩ = some (.int .i64 0) := (hb.cell (p := ⟨w.heap.size + 1 + 1, 1, none⟩) (show w.heap.size + 1 + 1 < _ by simp only [World.size_alloc]; omega)).trans (by go_simp)
      have r2 : w1.cell? ⟨w.heap.size + 1 + 1, 2, none⟩ = some (.string ⟨#[]⟩) := (hb.cell (p := ⟨w.heap.size + 1 + 1, 2, none⟩) (show w.heap.size + 1 + 1 < _ by simp only [World.size_alloc]; omega)).trans (by go_simp)
      have f1 : ∀ o, w1.frozen? ⟨w.heap.size + 1, o, none⟩ = false := fun o => (hb.frozen (p := ⟨w.heap.size + 1, o, none⟩) (show w.heap.size + 1 < _ by simp only [World.size_alloc]; omega)).trans (by go_simp)
      have f2 : ∀ o, w1.frozen? ⟨w.heap.size + 1 + 1, o, none⟩ = false := fun o => (hb.frozen (p := ⟨w.heap.size + 1 + 1, o, none⟩) (show w.heap.size + 1 + 1 < _ by simp only [World.size_alloc]; omega)).trans (by go_simp)
      clear hb
      go_wp2_with fail
      have hB := B1.out
      refine bodyPost_ret (v := .agg #[.int .i64 y2k, .int .i64 y2n, .string y2s]) ?_ rfl ?_
      · simp [results, Try.results52, go_sem, p0, p1, p2]
      · exact ⟨rfl, by with_reducible (repeat (first | exact hB | refine Below.setCell ?_ (show w.heap.size ≤ _ by simp only []; omega) _))⟩
    · by_cases h3 : ok = 3
      · subst h3
        simp only [if_true, if_neg (show ¬ (3 : Int) = 1 by omega), if_neg (show ¬ (3 : Int) = 2 by omega)]
        go_enter Try.func52, Try.ntmps52
        go_wp2_with fail
        exact bodyPost_ret (v := .agg #[.int .i64 vk, .int .i64 vn, .string vs]) (by simp [results, Try.results52, go_sem]) rfl ⟨rfl, by (repeat (first | exact Below.refl _ _ | assumption | refine Below.drew ?_ | refine Below.setCell ?_ (by first | omega | (simp only [World.size_alloc]; omega) | (simp; try omega)) _ | refine Below.alloc ?_ (by first | omega | (simp only [World.size_alloc]; omega) | (simp; try omega)) _))⟩
      · simp only [if_neg h1, if_neg h2, if_neg h3]
        have b1 : (ok == 1) = false := by simpa using h1
        have b2 : (ok == 2) = false := by simpa using h2
        have b3 : (ok == 3) = false := by simpa using h3
        go_enter Try.func52, Try.ntmps52
        go_wp2_with fail
        exact bodyPost_ret (v := .agg #[.int .i64 0, .int .i64 0, .string ⟨#[]⟩]) (by simp [results, Try.results52, go_sem]) rfl ⟨rfl, by (repeat (first | exact Below.refl _ _ | assumption | refine Below.drew ?_ | refine Below.setCell ?_ (by first | omega | (simp only [World.size_alloc]; omega) | (simp; try omega)) _ | refine Below.alloc ?_ (by first | omega | (simp only [World.size_alloc]; omega) | (simp; try omega)) _))⟩

end Go.Proofs.Ytjkjmkplcjfogaa
