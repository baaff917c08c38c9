
/- The leaves of package predicate: the order's methods, comparison, compare, at, denoted; the reference's denoted, Compares. -/
import Derived.Test.YtjcbmeannhafjaaPdMath

import Derived.Laws.EntriesVeiled

import Derived.Outline

import Derived.Test.YtjcbmeannhafjaaRNext

namespace Go.Proofs.Ytjcbmeannhafjaa

open Go.RowKit

theorem pEqual_any (r : Int) (w : World) : Calls Try.prog 104 #[.int .i64 r] w fun e w' => e = .returned (.bool (r == 0)) ∧ w = w' := by
  go_enter Try.func104, Try.ntmps104
  go_wp2_with fail
  go_ret
  exact ⟨rfl, rfl⟩
theorem pOther_any (r : Int) (w : World) : Calls Try.prog 105 #[.int .i64 r] w fun e w' => e = .returned (.bool (r != 0)) ∧ w = w' := by
  go_enter Try.func105, Try.ntmps105
  go_wp2_with fail
  go_ret
  exact ⟨rfl, rfl⟩
theorem pLess_any (r : Int) (w : World) : Calls Try.prog 106 #[.int .i64 r] w fun e w' => e = .returned (.bool (decide (r < 0))) ∧ w = w' := by
  go_enter Try.func106, Try.ntmps106
  go_wp2_with fail
  go_ret
  exact ⟨rfl, rfl⟩
theorem pAtMost_any (r : Int) (w : World) : Calls Try.prog 107 #[.int .i64 r] w fun e w' => e = .returned (.bool (decide (r ≤ 0))) ∧ w = w' := by
  go_enter Try.func107, Try.ntmps107
  go_wp2_with fail
  go_ret
  exact ⟨rfl, rfl⟩
theorem pGreater_any (r : Int) (w : World) : Calls Try.prog 108 #[.int .i64 r] w fun e w' => e = .returned (.bool (decide (0 < r))) ∧ w = w' := by
  go_enter Try.func108, Try.ntmps108
  go_wp2_with fail
  go_ret
  exact ⟨rfl, rfl⟩
theorem pAtLeast_any (r : Int) (w : World) : Calls Try.prog 109 #[.int .i64 r] w fun e w' => e = .returned (.bool (decide (0 ≤ r))) ∧ w = w' := by
  go_enter Try.func109, Try.ntmps109
  go_wp2_with fail
  go_ret
  exact ⟨rfl, rfl⟩

/-- The test of a comparison, a function. -/
def tstF (c : Int) : Value := if c = 1 then .func (.func 104) #[] #[] else if c = 2 then .func (.func 105) #[] #[] else if c = 3 then .func (.func 106) #[] #[] else if c = 4 then .func (.func 107) #[] #[] else if c = 5 then .func (.func 108) #[] #[] else if c = 6 then .func (.func 109) #[] #[] else .nilFunc
theorem tstF_hit (c : Int) (k : Nat) (h : c = (k : Int) + 1) (h6 : k < 6) : c = 1 ∨ c = 2 ∨ c = 3 ∨ c = 4 ∨ c = 5 ∨ c = 6 := by omega

theorem tstF_none {c : Int} (h : ∀ j : Nat, j < 6 → c ≠ j + 1) : tstF c = .nilFunc := by
  have h0 := h 0 (by omega); have h1 := h 1 (by omega); have h2 := h 2 (by omega); have h3 := h 3 (by omega); have h4 := h 4 (by omega); have h5 := h 5 (by omega)
  unfold tstF
  rw [if_neg (by omega), if_neg (by omega), if_neg (by omega), if_neg (by omega), if_neg (by omega), if_neg (by omega)]

set_option maxRecDepth 100000 in
set_option maxHeartbeats 2000000 in
theorem pComparison_any (c : Int) (w : World) : Calls Try.prog 88 #[.int .i64 c] w fun e w' => e = .returned (tstF c) ∧ Below w.heap.size w w' := by
  obtain ⟨F, hF⟩ : ∃ F, tstF c = F := ⟨_, rfl⟩
  rw [hF]
  have HF := Lib.hid hF
  clear hF
  have i0 : ∀ w, (Instr.index 145 (.agg #[.int .i64 1, .func (.func 104) #[] #[], .int .i64 2, .func (.func 105) #[] #[], .int .i64 3, .func (.func 106) #[] #[], .int .i64 4, .func (.func 107) #[] #[], .int .i64 5, .func (.func 108) #[] #[], .int .i64 6, .func (.func 109) #[] #[]]) (.int .i64 0)).run Try.prog w = .ok (.agg #[.int .i64 1, .func (.func 104) #[] #[]]) w := fun _ => by kernel_rfl
  have i1 : ∀ w, (Instr.index 145 (.agg #[.int .i64 1, .func (.func 104) #[] #[], .int .i64 2, .func (.func 105) #[] #[], .int .i64 3, .func (.func 106) #[] #[], .int .i64 4, .func (.func 107) #[] #[], .int .i64 5, .func (.func 108) #[] #[], .int .i64 6, .func (.func 109) #[] #[]]) (.int .i64 1)).run Try.prog w = .ok (.agg #[.int .i64 2, .func (.func 105) #[] #[]]) w := fun _ => by kernel_rfl
  have i2 : ∀ w, (Instr.index 145 (.agg #[.int .i64 1, .func (.func 104) #[] #[], .int .i64 2, .func (.func 105) #[] #[], .int .i64 3, .func (.func 106) #[] #[], .int .i64 4, .func (.func 107) #[] #[], .int .i64 5, .func (.func 108) #[] #[], .int .i64 6, .func (.func 109) #[] #[]]) (.int .i64 2)).run Try.prog w = .ok (.agg #[.int .i64 3, .func (.func 106) #[] #[]]) w := fun _ => by kernel_rfl
  have i3 : ∀ w, (Instr.index 145 (.agg #[.int .i64 1, .func (.func 104) #[] #[], .int .i64 2, .func (.func 105) #[] #[], .int .i64 3, .func (.func 106) #[] #[], .int .i64 4, .func (.func 107) #[] #[], .int .i64 5, .func (.func 108) #[] #[], .int .i64 6, .func (.func 109) #[] #[]]) (.int .i64 3)).run Try.prog w = .ok (.agg #[.int .i64 4, .func (.func 107) #[] #[]]) w := fun _ => by kernel_rfl
  have i4 : ∀ w, (Instr.index 145 (.agg #[.int .i64 1, .func (.func 104) #[] #[], .int .i64 2, .func (.func 105) #[] #[], .int .i64 3, .func (.func 106) #[] #[], .int .i64 4, .func (.func 107) #[] #[], .int .i64 5, .func (.func 108) #[] #[], .int .i64 6, .func (.func 109) #[] #[]]) (.int .i64 4)).run Try.prog w = .ok (.agg #[.int .i64 5, .func (.func 108) #[] #[]]) w := fun _ => by kernel_rfl
  have i5 : ∀ w, (Instr.index 145 (.agg #[.int .i64 1, .func (.func 104) #[] #[], .int .i64 2, .func (.func 105) #[] #[], .int .i64 3, .func (.func 106) #[] #[], .int .i64 4, .func (.func 107) #[] #[], .int .i64 5, .func (.func 108) #[] #[], .int .i64 6, .func (.func 109) #[] #[]]) (.int .i64 5)).run Try.prog w = .ok (.agg #[.int .i64 6, .func (.func 109) #[] #[]]) w := fun _ => by kernel_rfl
  go_enter Try.func88, Try.ntmps88
  go_wp2_with fail
  obtain ⟨wq, hwq⟩ : ∃ wq, w.alloc (.cells #[.int .i64 1, .func (.func 104) #[] #[], .int .i64 2, .func (.func 105) #[] #[], .int .i64 3, .func (.func 106) #[] #[], .int .i64 4, .func (.func 107) #[] #[], .int .i64 5, .func (.func 108) #[] #[], .int .i64 6, .func (.func 109) #[] #[]] 145) = wq := ⟨_, rfl⟩
  have HB : Hid (Below w.heap.size w wq) := by rw [← hwq]; exact (Below.refl _ _).alloc (Nat.le_refl _) _
  rw [hwq]
  clear hwq
  go_loopw [14] (fun i wr => ∃ k : Nat, k ≤ 6 ∧ i = .int .i64 k ∧ Hid (∀ j : Nat, j < k → c ≠ j + 1) ∧ Hid (Below w.heap.size w wr)) (fun i _ => 6 - (intOf i).toNat)
  case atStart => exact ⟨0, by omega, rfl, fun j hj => by omega, HB.out⟩
  case round =>
    obtain ⟨k, hk, rfl, HN, HR⟩ := hrel
    have hcase : k = 0 ∨ k = 1 ∨ k = 2 ∨ k = 3 ∨ k = 4 ∨ k = 5 ∨ k = 6 := by omega
    clear HB hk
    rcases hcase with rfl | rfl | rfl | rfl | rfl | rfl | rfl
    · by_cases hc : c = 1
      · subst hc
        obtain rfl := HF.out
        go_wp2_with fail
        go_ret
        exact ⟨rfl, HR.out.alloc HR.out.size _⟩
      · have hb : (1 == c) = false := by simp; omega
        have HN' : Hid (∀ j : Nat, j < 0 + 1 → c ≠ j + 1) := fun j hj => by
          by_cases e : j = 0
          · subst e; simpa using hc
          · exact HN.out j (by omega)
        clear hc HN
        go_wp2_with fail
        go_roundw
        case rel => exact ⟨0 + 1, by omega, by go_num, HN'.out, HR.out.alloc HR.out.size _⟩
        case measure => simp [intOf]
    · by_cases hc : c = 2
      · subst hc
        obtain rfl := HF.out
        go_wp2_with fail
        go_ret
        exact ⟨rfl, HR.out.alloc HR.out.size _⟩
      · have hb : (2 == c) = false := by simp; omega
        have HN' : Hid (∀ j : Nat, j < 1 + 1 → c ≠ j + 1) := fun j hj => by
          by_cases e : j = 1
          · subst e; simpa using hc
          · exact HN.out j (by omega)
        clear hc HN
        go_wp2_with fail
        go_roundw
        case rel => exact ⟨1 + 1, by omega, by go_num, HN'.out, HR.out.alloc HR.out.size _⟩
        case measure => simp [intOf]
    · by_cases hc : c = 3
      · subst hc
        obtain rfl := HF.out
        go_wp2_with fail
        go_ret
        exact ⟨rfl, HR.out.alloc HR.out.size _⟩
      · have hb : (3 == c) = false := by simp; omega
        have HN' : Hid (∀ j : Nat, j < 2 + 1 → c ≠ j + 1) := fun j hj => by
          by_cases e : j = 2
          · subst e; simpa using hc
          · exact HN.out j (by omega)
        clear hc HN
        go_wp2_with fail
        go_roundw
        case rel => exact ⟨2 + 1, by omega, by go_num, HN'.out, HR.out.alloc HR.out.size _⟩
        case measure => simp [intOf]
    · by_cases hc : c = 4
      · subst hc
        obtain rfl := HF.out
        go_wp2_with fail
        go_ret
        exact ⟨rfl, HR.out.alloc HR.out.size _⟩
      · have hb : (4 == c) = false := by simp; omega
        have HN' : Hid (∀ j : Nat, j < 3 + 1 → c ≠ j + 1) := fun j hj => by
          by_cases e : j = 3
          · subst e; simpa using hc
          · exact HN.out j (by omega)
        clear hc HN
        go_wp2_with fail
        go_roundw
        case rel => exact ⟨3 + 1, by omega, by go_num, HN'.out, HR.out.alloc HR.out.size _⟩
        case measure => simp [intOf]
    · by_cases hc : c = 5
      · subst hc
        obtain rfl := HF.out
        go_wp2_with fail
        go_ret
        exact ⟨rfl, HR.out.alloc HR.out.size _⟩
      · have hb : (5 == c) = false := by simp; omega
        have HN' : Hid (∀ j : Nat, j < 4 + 1 → c ≠ j + 1) := fun j hj => by
          by_cases e : j = 4
          · subst e; simpa using hc
          · exact HN.out j (by omega)
        clear hc HN
        go_wp2_with fail
        go_roundw
        case rel => exact ⟨4 + 1, by omega, by go_num, HN'.out, HR.out.alloc HR.out.size _⟩
        case measure => simp [intOf]
    · by_cases hc : c = 6
      · subst hc
        obtain rfl := HF.out
        go_wp2_with fail
        go_ret
        exact ⟨rfl, HR.out.alloc HR.out.size _⟩
      · have hb : (6 == c) = false := by simp; omega
        have HN' : Hid (∀ j : Nat, j < 5 + 1 → c ≠ j + 1) := fun j hj => by
          by_cases e : j = 5
          · subst e; simpa using hc
          · exact HN.out j (by omega)
        clear hc HN
        go_wp2_with fail
        go_roundw
        case rel => exact ⟨5 + 1, by omega, by go_num, HN'.out, HR.out.alloc HR.out.size _⟩
        case measure => simp [intOf]
    · have HX := Lib.hid (tstF_none HN.out)
      go_wp2_with fail
      go_ret
      exact ⟨by rw [← HF.out, HX.out]; rfl, HR.out⟩
end Go.Proofs.Ytjcbmeannhafjaa

/- predicate.compare, at, denoted; the reference's denoted, Compares. -/
namespace Go.Proofs.Ytjcbmeannhafjaa

open Go.RowKit

/-- A value as the program has it. -/
abbrev vA (v : V) : Value := .agg #[.int .i64 v.k, .int .i64 v.n, .string v.s]
/-- An operand as the program has it. -/
abbrev oA (o : Od) : Value := .agg #[.int .i64 o.k, .int .i64 o.i, .int .i64 o.v.k, .int .i64 o.v.n, .string o.v.s]

end Go.Proofs.Ytjcbmeannhafjaa
