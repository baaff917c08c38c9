
/- Operands compared. -/
import Derived.Test.YtjkjmkplcjfogaaPdMath2

import Derived.Test.YtjkjmkplcjfogaaPdLeaf2

import Derived.BigRegion

namespace Go.Proofs.Ytjkjmkplcjfogaa

open Go.RowKit

theorem eqVin_run2 (d : Nat) (k n : Int) (s : ByteArray) (k' n' : Int) (s' : ByteArray) (w : World) :
    (Op.equalIn (d + 2) 24 (.agg #[.int .i64 k, .int .i64 n, .string s]) (.agg #[.int .i64 k', .int .i64 n', .string s'])).run Try.prog w = .ok (decide (V.mk k n s = V.mk k' n' s')) w := by
  have u3 := Try.underlying3
  have a3 := Try.isAgg3
  have z3 := Try.sizeOf3
  have u2 := Try.underlying2
  have a2 := Try.isAgg2
  have z2 := Try.sizeOf2
  have u9 := Try.underlying9
  have a9 := Try.isAgg9
  have z9 := Try.sizeOf9
  have hS : Try.prog.underlying 24 = some (.struct (Try.prog.fieldsOf 24)) := by kernel_rfl
  have hp : Try.prog.stoodInHeld 24 = false := by kernel_rfl
  rw [run_equalIn_agg w (d + 1) 24 _ _ hS hp]
  simp only [Program.fieldsOf, Try.underlying24]
  clear hS hp
  go_simp
  by_cases h1 : k = k' <;> by_cases h2 : n = n' <;> by_cases h3 : s = s' <;> simp [h1, h2, h3, toList_inj]
theorem eqO_run (k i vk vn : Int) (vs : ByteArray) (k' i' vk' vn' : Int) (vs' : ByteArray) (w : World) :
    (binOp .eql 26 (.agg #[.int .i64 k, .int .i64 i, .int .i64 vk, .int .i64 vn, .string vs]) (.agg #[.int .i64 k', .int .i64 i', .int .i64 vk', .int .i64 vn', .string vs'])).run Try.prog w = .ok (.bool (decide (Od.mk k i ⟨vk, vn, vs⟩ = Od.mk k' i' ⟨vk', vn', vs'⟩))) w := by
  have e1 := eqVin_run2 9997 vk vn vs vk' vn' vs'
  have u4 := Try.underlying3
  have a4 := Try.isAgg3
  have z4 := Try.sizeOf3
  have av := Try.isAgg24
  have zv := Try.sizeOf24
  have hS : Try.prog.underlying 26 = some (.struct (Try.prog.fieldsOf 26)) := by kernel_rfl
  have hp : Try.prog.stoodInHeld 26 = false := by kernel_rfl
  rw [run_eql_struct, show (10000 : Nat) = 9999 + 1 from rfl, run_equalIn_agg w 9999 26 _ _ hS hp]
  simp only [Program.fieldsOf, Try.underlying26]
  clear hS hp
  have hx : (Od.mk k i ⟨vk, vn, vs⟩ = Od.mk k' i' ⟨vk', vn', vs'⟩) ↔ (k = k' ∧ i = i' ∧ V.mk vk vn vs = V.mk vk' vn' vs') := by rw [Od.mk.injEq]
  have hd : decide (Od.mk k i ⟨vk, vn, vs⟩ = Od.mk k' i' ⟨vk', vn', vs'⟩) = ((k == k') && ((i == i') && decide (V.mk vk vn vs = V.mk vk' vn' vs'))) := by
    rw [Bool.eq_iff_iff]; simp only [decide_eq_true_eq, Bool.and_eq_true, beq_iff_eq]; exact hx
  rw [hd]
  clear hx hd
  generalize decide (V.mk vk vn vs = V.mk vk' vn' vs') = p at e1 ⊢
  cases h1 : (k == k') <;> cases h2 : (i == i') <;> cases p <;> (go_simp; try rfl)
theorem neO_run (k i vk vn : Int) (vs : ByteArray) (k' i' vk' vn' : Int) (vs' : ByteArray) (w : World) :
    (binOp .neq 26 (.agg #[.int .i64 k, .int .i64 i, .int .i64 vk, .int .i64 vn, .string vs]) (.agg #[.int .i64 k', .int .i64 i', .int .i64 vk', .int .i64 vn', .string vs'])).run Try.prog w = .ok (.bool !(decide (Od.mk k i ⟨vk, vn, vs⟩ = Od.mk k' i' ⟨vk', vn', vs'⟩))) w := by
  have e1 := eqVin_run2 9997 vk vn vs vk' vn' vs'
  have u4 := Try.underlying3
  have a4 := Try.isAgg3
  have z4 := Try.sizeOf3
  have av := Try.isAgg24
  have zv := Try.sizeOf24
  have hS : Try.prog.underlying 26 = some (.struct (Try.prog.fieldsOf 26)) := by kernel_rfl
  have hp : Try.prog.stoodInHeld 26 = false := by kernel_rfl
  rw [run_neq_struct, show (10000 : Nat) = 9999 + 1 from rfl, run_equalIn_agg w 9999 26 _ _ hS hp]
  simp only [Program.fieldsOf, Try.underlying26]
  clear hS hp
  have hx : (Od.mk k i ⟨vk, vn, vs⟩ = Od.mk k' i' ⟨vk', vn', vs'⟩) ↔ (k = k' ∧ i = i' ∧ V.mk vk vn vs = V.mk vk' vn' vs') := by rw [Od.mk.injEq]
  have hd : decide (Od.mk k i ⟨vk, vn, vs⟩ = Od.mk k' i' ⟨vk', vn', vs'⟩) = ((k == k') && ((i == i') && decide (V.mk vk vn vs = V.mk vk' vn' vs'))) := by
    rw [Bool.eq_iff_iff]; simp only [decide_eq_true_eq, Bool.and_eq_true, beq_iff_eq]; exact hx
  rw [hd]
  clear hx hd
  generalize decide (V.mk vk vn vs = V.mk vk' vn' vs') = p at e1 ⊢
  cases h1 : (k == k') <;> cases h2 : (i == i') <;> cases p <;> (go_simp; try rfl)
end Go.Proofs.Ytjkjmkplcjfogaa
