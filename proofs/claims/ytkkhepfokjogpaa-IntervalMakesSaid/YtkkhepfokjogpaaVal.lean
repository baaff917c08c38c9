
/- Walks of value.Valid, Real, Compare and of their references. -/
import Derived.Test.YtkkhepfokjogpaaLeaf

import Derived.Laws.StructEq

namespace Go.Proofs.Ytkkhepfokjogpaa

open Go.RowKit

/-- A value is valid. -/
def vldB (k n : Int) (s : ByteArray) : Bool :=
  decide (((k = 1 ∨ k = 2) ∧ n = 0 ∧ s.size = 0) ∨ (k = 3 ∧ (n = 0 ∨ n = 1) ∧ s.size = 0) ∨ (k = 4 ∧ s.size = 0) ∨ (k = 5 ∧ n = 0 ∧ s.size ≤ 64))

theorem empty_toList (s : ByteArray) (h : s.size = 0) : s.toList = [] := by
  rw [Lib.toList_data]
  exact List.eq_nil_of_length_eq_zero (by simpa using h)
theorem nonempty_toList (s : ByteArray) (h : ¬ s.size = 0) : s.toList ≠ [] := by
  rw [Lib.toList_data]
  intro e
  exact h (by have := congrArg List.length e; simpa using this)

theorem empty_iff (s : ByteArray) : s = ⟨#[]⟩ ↔ s.size = 0 := by
  constructor
  · intro e; rw [e]; rfl
  · intro e
    apply (toList_inj _ _).1
    rw [empty_toList s e, Lib.toList_data]

theorem eqV_run (k n : Int) (s : ByteArray) (k' n' : Int) (s' : ByteArray) (w : World) :
    (binOp .eql 25 (.agg #[.int .i64 k, .int .i64 n, .string s]) (.agg #[.int .i64 k', .int .i64 n', .string s'])).run Try.prog w = .ok (.bool (decide (V.mk k n s = V.mk k' n' s'))) w := by
  have u3 := Try.underlying3
  have a3 := Try.isAgg3
  have z3 := Try.sizeOf3
  have u2 := Try.underlying2
  have a2 := Try.isAgg2
  have z2 := Try.sizeOf2
  have u9 := Try.underlying9
  have a9 := Try.isAgg9
  have z9 := Try.sizeOf9
  have hS : Try.prog.underlying 25 = some (.struct (Try.prog.fieldsOf 25)) := by kernel_rfl
  have hp : Try.prog.stoodInHeld 25 = false := by kernel_rfl
  rw [run_eql_struct, show (10000 : Nat) = 9999 + 1 from rfl, run_equalIn_agg w 9999 25 _ _ hS hp]
  simp only [Program.fieldsOf, Try.underlying25]
  go_simp
  by_cases h1 : k = k' <;> by_cases h2 : n = n' <;> by_cases h3 : s = s' <;> simp [h1, h2, h3, toList_inj]
theorem neV_run (k n : Int) (s : ByteArray) (k' n' : Int) (s' : ByteArray) (w : World) :
    (binOp .neq 25 (.agg #[.int .i64 k, .int .i64 n, .string s]) (.agg #[.int .i64 k', .int .i64 n', .string s'])).run Try.prog w = .ok (.bool !(decide (V.mk k n s = V.mk k' n' s'))) w := by
  have u3 := Try.underlying3
  have a3 := Try.isAgg3
  have z3 := Try.sizeOf3
  have u2 := Try.underlying2
  have a2 := Try.isAgg2
  have z2 := Try.sizeOf2
  have u9 := Try.underlying9
  have a9 := Try.isAgg9
  have z9 := Try.sizeOf9
  have hS : Try.prog.underlying 25 = some (.struct (Try.prog.fieldsOf 25)) := by kernel_rfl
  have hp : Try.prog.stoodInHeld 25 = false := by kernel_rfl
  rw [run_neq_struct, show (10000 : Nat) = 9999 + 1 from rfl, run_equalIn_agg w 9999 25 _ _ hS hp]
  simp only [Program.fieldsOf, Try.underlying25]
  go_simp
  by_cases h1 : k = k' <;> by_cases h2 : n = n' <;> by_cases h3 : s = s' <;> simp [h1, h2, h3, toList_inj]

set_option maxHeartbeats 400000 in
theorem vCompare_any (k n : Int) (s : ByteArray) (k' n' : Int) (s' : ByteArray) (w : World) :
    Calls Try.prog 58 #[.agg #[.int .i64 k, .int .i64 n, .string s], .agg #[.int .i64 k', .int .i64 n', .string s']] w fun e w' => e = .returned (.int .i64 (cmpV ⟨k, n, s⟩ ⟨k', n', s'⟩)) ∧ Gr w w' := by
  unfold cmpV
  by_cases h : k = k'
  · simp only [h, if_true]
    have hk : (k' == k') = true := by simp
    by_cases h2 : n = n'
    · simp only [h2, if_true]
      have hn : (n' == n') = true := by simp
      clear h h2
      go_enter Try.func58, Try.ntmps58
      go_wp2_with (go_at_call 77; refine (cmpStr_any _ _ _).mono ?_; rintro e w' ⟨rfl, rfl⟩)
      go_ret
      exact ⟨rfl, ((Gr.refl _).alloc _).alloc _⟩
    · simp only [h2, if_false]
      have hn : (n == n') = false := by simpa using h2
      clear h h2
      go_enter Try.func58, Try.ntmps58
      go_wp2_with (go_at_call 76; refine (cmpInt64_any _ _ _).mono ?_; rintro e w' ⟨rfl, rfl⟩)
      go_ret
      exact ⟨rfl, ((Gr.refl _).alloc _).alloc _⟩
  · simp only [h, if_false]
    have hk : (k == k') = false := by simpa using h
    clear h
    go_enter Try.func58, Try.ntmps58
    go_wp2_with (go_at_call 75; refine (cmpInt_any _ _ _).mono ?_; rintro e w' ⟨rfl, rfl⟩)
    go_ret
    exact ⟨rfl, ((Gr.refl _).alloc _).alloc _⟩

set_option maxHeartbeats 400000 in
theorem vValid_any (k n : Int) (s : ByteArray) (w : World) :
    Calls Try.prog 53 #[.agg #[.int .i64 k, .int .i64 n, .string s]] w fun e w' => e = .returned (.bool (vldB k n s)) ∧ Gr w w' := by
  have he := eqV_run
  by_cases h12 : k = 1 ∨ k = 2
  · have hv : vldB k n s = (decide (n = 0) && decide (s = ⟨#[]⟩)) := by
      unfold vldB
      rw [Bool.eq_iff_iff]
      simp only [decide_eq_true_eq, Bool.and_eq_true, empty_iff]
      omega
    rw [hv]; clear hv
    rcases h12 with rfl | rfl
    all_goals
      go_enter Try.func53, Try.ntmps53
      go_wp2
      go_ret
      exact ⟨rfl, (Gr.refl _).alloc _⟩
  · clear he
    by_cases h3 : k = 3
    · subst h3
      by_cases hs : s.size = 0
      · have es := empty_toList s hs
        by_cases h0 : n = 0
        · subst h0
          have hv : vldB 3 0 s = true := by simp [vldB, hs]
          rw [hv]; clear hv
          go_enter Try.func53, Try.ntmps53
          go_wp2
          go_ret
          exact ⟨rfl, (Gr.refl _).alloc _⟩
        · by_cases h1 : n = 1
          · subst h1
            have hv : vldB 3 1 s = true := by simp [vldB, hs]
            rw [hv]; clear hv
            go_enter Try.func53, Try.ntmps53
            go_wp2
            go_ret
            exact ⟨rfl, (Gr.refl _).alloc _⟩
          · have hv : vldB 3 n s = false := by simp [vldB, hs, h0, h1]
            rw [hv]; clear hv
            have b0 : (n == 0) = false := by simpa using h0
            have b1 : (n == 1) = false := by simpa using h1
            go_enter Try.func53, Try.ntmps53
            go_wp2
            go_ret
            exact ⟨rfl, (Gr.refl _).alloc _⟩
      · have es : s.toList.isEmpty = false := by simpa using nonempty_toList s hs
        have hv : vldB 3 n s = false := by simp [vldB, hs]
        rw [hv]; clear hv
        go_enter Try.func53, Try.ntmps53
        go_wp2
        go_ret
        exact ⟨rfl, (Gr.refl _).alloc _⟩
    · by_cases h4 : k = 4
      · subst h4
        by_cases hs : s.size = 0
        · have es := empty_toList s hs
          have hv : vldB 4 n s = true := by simp [vldB, hs]
          rw [hv]; clear hv
          go_enter Try.func53, Try.ntmps53
          go_wp2
          go_ret
          exact ⟨rfl, (Gr.refl _).alloc _⟩
        · have es : s.toList.isEmpty = false := by simpa using nonempty_toList s hs
          have hv : vldB 4 n s = false := by simp [vldB, hs]
          rw [hv]; clear hv
          go_enter Try.func53, Try.ntmps53
          go_wp2
          go_ret
          exact ⟨rfl, (Gr.refl _).alloc _⟩
      · by_cases h5 : k = 5
        · subst h5
          by_cases h0 : n = 0
          · subst h0
            by_cases hs : s.size ≤ 64
            · have hv : vldB 5 0 s = true := by simp [vldB, hs]
              rw [hv]; clear hv
              go_enter Try.func53, Try.ntmps53
              go_wp2
              go_ret
              exact ⟨ret_bool (by simp; omega), (Gr.refl _).alloc _⟩
            · have hv : vldB 5 0 s = false := by simp [vldB, hs]
              rw [hv]; clear hv
              go_enter Try.func53, Try.ntmps53
              go_wp2
              go_ret
              exact ⟨ret_bool (by simp; omega), (Gr.refl _).alloc _⟩
          · have hv : vldB 5 n s = false := by simp [vldB, h0]
            rw [hv]; clear hv
            have b0 : (n == 0) = false := by simpa using h0
            go_enter Try.func53, Try.ntmps53
            go_wp2
            go_ret
            exact ⟨rfl, (Gr.refl _).alloc _⟩
        · have hv : vldB k n s = false := by simp [vldB]; omega
          rw [hv]; clear hv
          have b1 : (k == 1) = false := by simp; omega
          have b2 : (k == 2) = false := by simp; omega
          have b3 : (k == 3) = false := by simp; omega
          have b4 : (k == 4) = false := by simp; omega
          have b5 : (k == 5) = false := by simp; omega
          clear h12 h3 h4 h5
          go_enter Try.func53, Try.ntmps53
          go_wp2
          go_ret
          exact ⟨rfl, (Gr.refl _).alloc _⟩

theorem vldB_kind {k n : Int} {s : ByteArray} (h : vldB k n s = true) : 1 ≤ k ∧ k ≤ 5 := by
  unfold vldB at h
  have := of_decide_eq_true h
  omega

def realB (k n : Int) (s : ByteArray) : Bool := decide (3 ≤ k) && vldB k n s

/- the references -/
set_option maxHeartbeats 400000 in
theorem rCompare_any (k n : Int) (s : ByteArray) (k' n' : Int) (s' : ByteArray) (w : World) :
    Calls Try.prog 46 #[.agg #[.int .i64 k, .int .i64 n, .string s], .agg #[.int .i64 k', .int .i64 n', .string s']] w fun e w' => e = .returned (.int .i64 (cmpV ⟨k, n, s⟩ ⟨k', n', s'⟩)) ∧ Gr w w' := by
  unfold cmpV
  rcases Int.lt_trichotomy k k' with h | h | h
  · rw [if_neg (by simp; omega)]
    have e : cmpI k k' = -1 := by simp [cmpI, h]
    simp only [e]; clear e
    have hd : decide (k < k') = true := by simpa using h
    go_enter Try.func46, Try.ntmps46
    go_wp2
    go_ret
    exact ⟨rfl, ((Gr.refl _).alloc _).alloc _⟩
  · rw [if_pos (by simpa using h)]
    subst h
    rcases Int.lt_trichotomy n n' with h2 | h2 | h2
    · rw [if_neg (by simp; omega)]
      have e : cmpI n n' = -1 := by simp [cmpI, h2]
      simp only [e]; clear e
      go_enter Try.func46, Try.ntmps46
      go_wp2
      go_ret
      exact ⟨rfl, ((Gr.refl _).alloc _).alloc _⟩
    · rw [if_pos (by simpa using h2)]
      subst h2
      unfold cmpS
      rcases cmpL_range s.toList s'.toList with h | h | h
      · have e1 : Op.bytesLess s.toList s'.toList = true := by rw [bytesLess_cmpL, h]; decide
        simp only [h]; clear h
        go_enter Try.func46, Try.ntmps46
        go_wp2
        go_ret
        exact ⟨rfl, ((Gr.refl _).alloc _).alloc _⟩
      · have e1 : Op.bytesLess s.toList s'.toList = false := by rw [bytesLess_cmpL, h]; decide
        have e2 : (s.toList == s'.toList) = true := by simpa using (cmpL_zero _ _).1 h
        simp only [h]; clear h
        go_enter Try.func46, Try.ntmps46
        go_wp2
        go_ret
        exact ⟨rfl, ((Gr.refl _).alloc _).alloc _⟩
      · have e1 : Op.bytesLess s.toList s'.toList = false := by rw [bytesLess_cmpL, h]; decide
        have e2 : (s.toList == s'.toList) = false := by
          have : s.toList ≠ s'.toList := fun e => by rw [(cmpL_zero _ _).2 e] at h; omega
          simpa using this
        simp only [h]; clear h
        go_enter Try.func46, Try.ntmps46
        go_wp2
        go_ret
        exact ⟨rfl, ((Gr.refl _).alloc _).alloc _⟩
    · rw [if_neg (by simp; omega)]
      have e : cmpI n n' = 1 := by simp [cmpI, h2]; omega
      simp only [e]; clear e
      go_enter Try.func46, Try.ntmps46
      go_wp2
      go_ret
      exact ⟨rfl, ((Gr.refl _).alloc _).alloc _⟩
  · rw [if_neg (by simp; omega)]
    have e : cmpI k k' = 1 := by simp [cmpI, h]; omega
    simp only [e]; clear e
    go_enter Try.func46, Try.ntmps46
    go_wp2
    go_ret
    exact ⟨rfl, ((Gr.refl _).alloc _).alloc _⟩
end Go.Proofs.Ytkkhepfokjogpaa
