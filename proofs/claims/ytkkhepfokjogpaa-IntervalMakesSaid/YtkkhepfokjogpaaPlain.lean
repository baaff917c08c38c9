
/- Plain mathematics of layer 1 (values): the values as records, their order. No program. -/
import Derived.WalkKit

import Derived.Lib.Strings

namespace Go.Proofs.Ytkkhepfokjogpaa

/-- A value of package api, as its three cells. -/
structure V where
  k : Int
  n : Int
  s : ByteArray

instance : DecidableEq V := fun a b => decidable_of_iff (a.k = b.k ∧ a.n = b.n ∧ a.s = b.s) (by obtain ⟨k, n, s⟩ := a; obtain ⟨k', n', s'⟩ := b; simp)
instance : Inhabited V := ⟨⟨0, 0, ByteArray.empty⟩⟩

/-- The three cells lie in their ranges. -/
structure V.Ok (a : V) : Prop where
  k0 : -9223372036854775808 ≤ a.k
  k1 : a.k ≤ 9223372036854775807
  n0 : -9223372036854775808 ≤ a.n
  n1 : a.n ≤ 9223372036854775807
  sz : a.s.size ≤ 140737488351232

def V.cells (a : V) : List Value := [.int .i64 a.k, .int .i64 a.n, .string a.s]
def V.agg (a : V) : Value := .agg #[.int .i64 a.k, .int .i64 a.n, .string a.s]

def cmpI (a b : Int) : Int := if a < b then -1 else if b < a then 1 else 0
def cmpL : List UInt8 → List UInt8 → Int
  | [], [] => 0
  | [], _ :: _ => -1
  | _ :: _, [] => 1
  | a :: x, b :: y => if a < b then -1 else if b < a then 1 else cmpL x y
def cmpS (a b : ByteArray) : Int := cmpL a.toList b.toList
def cmpV (a b : V) : Int := if a.k = b.k then if a.n = b.n then cmpS a.s b.s else cmpI a.n b.n else cmpI a.k b.k

theorem cmpI_flip (a b : Int) : cmpI b a = - cmpI a b := by unfold cmpI; split <;> split <;> omega
theorem cmpI_zero (a b : Int) : cmpI a b = 0 ↔ a = b := by unfold cmpI; split <;> (try split) <;> omega
theorem cmpI_range (a b : Int) : cmpI a b = -1 ∨ cmpI a b = 0 ∨ cmpI a b = 1 := by unfold cmpI; split <;> (try split) <;> omega
theorem cmpI_le (a b : Int) : cmpI a b ≤ 0 ↔ a ≤ b := by unfold cmpI; split <;> (try split) <;> omega

theorem u8_lt_irrefl (a : UInt8) : ¬ a < a := by rw [UInt8.lt_iff_toNat_lt]; omega
theorem cmpL_flip : ∀ a b : List UInt8, cmpL b a = - cmpL a b
  | [], [] => rfl
  | [], _ :: _ => rfl
  | _ :: _, [] => rfl
  | a :: x, b :: y => by
    simp only [cmpL]
    by_cases h : a < b
    · have : ¬ b < a := by rw [UInt8.lt_iff_toNat_lt] at *; omega
      simp [h, this]
    · by_cases h2 : b < a
      · simp [h, h2]
      · simp only [h, h2, if_false]; exact cmpL_flip x y
theorem cmpL_zero : ∀ a b : List UInt8, cmpL a b = 0 ↔ a = b
  | [], [] => by simp [cmpL]
  | [], _ :: _ => by simp [cmpL]
  | _ :: _, [] => by simp [cmpL]
  | a :: x, b :: y => by
    simp only [cmpL]
    by_cases h : a < b
    · have : a ≠ b := by intro e; subst e; exact u8_lt_irrefl _ h
      simp [h, this]
    · by_cases h2 : b < a
      · have : a ≠ b := by intro e; subst e; exact u8_lt_irrefl _ h2
        simp [h, h2, this]
      · have : a = b := by apply UInt8.toNat_inj.1; rw [UInt8.lt_iff_toNat_lt] at *; omega
        subst this
        simp only [h, if_false, cmpL_zero x y, List.cons.injEq, true_and]
theorem cmpL_range : ∀ a b : List UInt8, cmpL a b = -1 ∨ cmpL a b = 0 ∨ cmpL a b = 1
  | [], [] => by simp [cmpL]
  | [], _ :: _ => by simp [cmpL]
  | _ :: _, [] => by simp [cmpL]
  | a :: x, b :: y => by
    simp only [cmpL]
    have := cmpL_range x y
    split
    · simp
    · split
      · simp
      · exact this
theorem cmpL_trans : ∀ a b c : List UInt8, cmpL a b ≤ 0 → cmpL b c ≤ 0 → cmpL a c ≤ 0
  | [], _, [] => by simp [cmpL]
  | [], _, _ :: _ => by simp [cmpL]
  | _ :: _, [], _ => by simp [cmpL]
  | _ :: _, _ :: _, [] => by simp [cmpL]
  | a :: x, b :: y, c :: z => by
    simp only [cmpL]
    intro h1 h2
    have ih := cmpL_trans x y z
    by_cases e1 : a < b
    · by_cases e2 : b < c
      · have : a < c := by rw [UInt8.lt_iff_toNat_lt] at *; omega
        simp [this]
      · by_cases e3 : c < b
        · simp [e2, e3] at h2
        · have : a < c := by rw [UInt8.lt_iff_toNat_lt] at *; omega
          simp [this]
    · by_cases e4 : b < a
      · simp [e1, e4] at h1
      · have hab : a = b := by apply UInt8.toNat_inj.1; rw [UInt8.lt_iff_toNat_lt] at *; omega
        subst hab
        by_cases e2 : a < c
        · simp [e2]
        · by_cases e3 : c < a
          · simp [e2, e3] at h2
          · simp only [e2, e3, u8_lt_irrefl, if_false] at h1 h2 ⊢
            exact ih h1 h2
theorem bytesLess_cmpL : ∀ a b : List UInt8, Op.bytesLess a b = decide (cmpL a b < 0)
  | [], [] => by simp [Op.bytesLess, cmpL]
  | [], _ :: _ => by simp [Op.bytesLess, cmpL]
  | _ :: _, [] => by simp [Op.bytesLess, cmpL]
  | a :: x, b :: y => by
    rw [Op.bytesLess, bytesLess_cmpL x y]
    simp only [cmpL]
    by_cases h : a < b
    · simp [h]
    · by_cases h2 : b < a
      · have : a ≠ b := by intro e; subst e; exact u8_lt_irrefl _ h2
        simp [h, h2, this]
      · have : a = b := by apply UInt8.toNat_inj.1; rw [UInt8.lt_iff_toNat_lt] at *; omega
        subst this
        simp [h]
theorem toList_inj (a b : ByteArray) : a.toList = b.toList ↔ a = b := by
  constructor
  · intro h
    rw [Lib.toList_data, Lib.toList_data] at h
    cases a; cases b
    simp only [ByteArray.mk.injEq]
    exact Array.toList_inj.1 h
  · intro h; rw [h]

theorem cmpV_flip (a b : V) : cmpV b a = - cmpV a b := by
  unfold cmpV cmpS
  by_cases h : a.k = b.k
  · by_cases h2 : a.n = b.n
    · simp [h, h2, cmpL_flip a.s.toList b.s.toList]
    · have : ¬ b.n = a.n := fun e => h2 e.symm
      simp [h, h2, this, cmpI_flip a.n b.n]
  · have : ¬ b.k = a.k := fun e => h e.symm
    simp [h, this, cmpI_flip a.k b.k]
theorem cmpV_range (a b : V) : cmpV a b = -1 ∨ cmpV a b = 0 ∨ cmpV a b = 1 := by
  unfold cmpV
  split
  · split
    · exact cmpL_range _ _
    · exact cmpI_range _ _
  · exact cmpI_range _ _
theorem cmpV_zero (a b : V) : cmpV a b = 0 ↔ a = b := by
  obtain ⟨k, n, s⟩ := a
  obtain ⟨k', n', s'⟩ := b
  simp only [cmpV, V.mk.injEq]
  by_cases h : k = k'
  · by_cases h2 : n = n'
    · simp only [h, h2, if_true, true_and, cmpS, cmpL_zero, toList_inj]
    · simp only [h, h2, if_true, if_false, true_and, false_and, cmpI_zero]
  · simp only [h, if_false, false_and, cmpI_zero]
theorem cmpV_trans (a b c : V) (h1 : cmpV a b ≤ 0) (h2 : cmpV b c ≤ 0) : cmpV a c ≤ 0 := by
  obtain ⟨k, n, s⟩ := a
  obtain ⟨k', n', s'⟩ := b
  obtain ⟨k'', n'', s''⟩ := c
  simp only [cmpV] at *
  by_cases e1 : k = k'
  · by_cases e2 : k' = k''
    · have e3 : k = k'' := e1.trans e2
      simp only [e1, e2, if_true] at *
      by_cases f1 : n = n'
      · by_cases f2 : n' = n''
        · have f3 : n = n'' := f1.trans f2
          simp only [f1, f2, if_true] at *
          exact cmpL_trans _ _ _ h1 h2
        · simp only [f1, f2, if_true, if_false] at *; exact h2
      · simp only [f1, if_false, cmpI_le] at h1
        by_cases f2 : n' = n''
        · rw [if_neg (by omega)]; rw [cmpI_le]; omega
        · simp only [f2, if_false, cmpI_le] at h2
          rw [if_neg (by omega)]; rw [cmpI_le]; omega
    · simp only [e1, e2, if_true, if_false] at *; exact h2
  · simp only [e1, if_false, cmpI_le] at h1
    by_cases e2 : k' = k''
    · rw [if_neg (by omega)]; rw [cmpI_le]; omega
    · simp only [e2, if_false, cmpI_le] at h2
      rw [if_neg (by omega)]; rw [cmpI_le]; omega
end Go.Proofs.Ytkkhepfokjogpaa
