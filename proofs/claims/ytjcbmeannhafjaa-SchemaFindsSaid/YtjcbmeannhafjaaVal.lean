
/- Plain mathematics of layer 1 (values): the values as records, their order. No program. -/
import Derived.WalkKit

import Derived.Lib.Strings

import Derived.Test.YtjcbmeannhafjaaRows

import Derived.WalkSpells

import Derived.WalkLawsBesides

import Derived.Lib.Hide

import Derived.Sort.Grow

import Derived.Deep.QuietTactic

import Derived.BigQuiet

import Derived.Laws.StructEq

namespace Go.Proofs.Ytjcbmeannhafjaa

/-- A value of package api, as its three cells. -/
structure V where
  k : Int
  n : Int
  s : ByteArray

instance : DecidableEq V := fun a b => decidable_of_iff (a.k = b.k ∧ a.n = b.n ∧ a.s = b.s) (by obtain ⟨k, n, s⟩ := a; obtain ⟨k', n', s'⟩ := b; simp)
instance : Inhabited V := ⟨⟨0, 0, ByteArray.empty⟩⟩

/-- The three cells lie in their ranges. -/
structure V.Ok (a : V) : Prop where
  k0 : -9223372036854775808 ≤ a.k
  k1 : a.k ≤ 9223372036854775807
  n0 : -9223372036854775808 ≤ a.n
  n1 : a.n ≤ 9223372036854775807
  sz : a.s.size ≤ 140737488351232

def V.cells (a : V) : List Value := [.int .i64 a.k, .int .i64 a.n, .string a.s]
def V.agg (a : V) : Value := .agg #[.int .i64 a.k, .int .i64 a.n, .string a.s]

def cmpI (a b : Int) : Int := if a < b then -1 else if b < a then 1 else 0
def cmpL : List UInt8 → List UInt8 → Int
  | [], [] => 0
  | [], _ :: _ => -1
  | _ :: _, [] => 1
  | a :: x, b :: y => if a < b then -1 else if b < a then 1 else cmpL x y
def cmpS (a b : ByteArray) : Int := cmpL a.toList b.toList
def cmpV (a b : V) : Int := if a.k = b.k then if a.n = b.n then cmpS a.s b.s else cmpI a.n b.n else cmpI a.k b.k

theorem cmpI_flip (a b : Int) : cmpI b a = - cmpI a b := by unfold cmpI; split <;> split <;> omega
theorem cmpI_zero (a b : Int) : cmpI a b = 0 ↔ a = b := by unfold cmpI; split <;> (try split) <;> omega
theorem cmpI_range (a b : Int) : cmpI a b = -1 ∨ cmpI a b = 0 ∨ cmpI a b = 1 := by unfold cmpI; split <;> (try split) <;> omega
theorem cmpI_le (a b : Int) : cmpI a b ≤ 0 ↔ a ≤ b := by unfold cmpI; split <;> (try split) <;> omega

theorem u8_lt_irrefl (a : UInt8) : ¬ a < a := by rw [UInt8.lt_iff_toNat_lt]; omega
theorem cmpL_flip : ∀ a b : List UInt8, cmpL b a = - cmpL a b
  | [], [] => rfl
  | [], _ :: _ => rfl
  | _ :: _, [] => rfl
  | a :: x, b :: y => by
    simp only [cmpL]
    by_cases h : a < b
    · have : ¬ b < a := by rw [UInt8.lt_iff_toNat_lt] at *; omega
      simp [h, this]
    · by_cases h2 : b < a
      · simp [h, h2]
      · simp only [h, h2, if_false]; exact cmpL_flip x y
theorem cmpL_zero : ∀ a b : List UInt8, cmpL a b = 0 ↔ a = b
  | [], [] => by simp [cmpL]
  | [], _ :: _ => by simp [cmpL]
  | _ :: _, [] => by simp [cmpL]
  | a :: x, b :: y => by
    simp only [cmpL]
    by_cases h : a < b
    · have : a ≠ b := by intro e; subst e; exact u8_lt_irrefl _ h
      simp [h, this]
    · by_cases h2 : b < a
      · have : a ≠ b := by intro e; subst e; exact u8_lt_irrefl _ h2
        simp [h, h2, this]
      · have : a = b := by apply UInt8.toNat_inj.1; rw [UInt8.lt_iff_toNat_lt] at *; omega
        subst this
        simp only [h, if_false, cmpL_zero x y, List.cons.injEq, true_and]
theorem cmpL_range : ∀ a b : List UInt8, cmpL a b = -1 ∨ cmpL a b = 0 ∨ cmpL a b = 1
  | [], [] => by simp [cmpL]
  | [], _ :: _ => by simp [cmpL]
  | _ :: _, [] => by simp [cmpL]
  | a :: x, b :: y => by
    simp only [cmpL]
    have := cmpL_range x y
    split
    · simp
    · split
      · simp
      · exact this
theorem cmpL_trans : ∀ a b c : List UInt8, cmpL a b ≤ 0 → cmpL b c ≤ 0 → cmpL a c ≤ 0
  | [], _, [] => by simp [cmpL]
  | [], _, _ :: _ => by simp [cmpL]
  | _ :: _, [], _ => by simp [cmpL]
  | _ :: _, _ :: _, [] => by simp [cmpL]
  | a :: x, b :: y, c :: z => by
    simp only [cmpL]
    intro h1 h2
    have ih := cmpL_trans x y z
    by_cases e1 : a < b
    · by_cases e2 : b < c
      · have : a < c := by rw [UInt8.lt_iff_toNat_lt] at *; omega
        simp [this]
      · by_cases e3 : c < b
        · simp [e2, e3] at h2
        · have : a < c := by rw [UInt8.lt_iff_toNat_lt] at *; omega
          simp [this]
    · by_cases e4 : b < a
      · simp [e1, e4] at h1
      · have hab : a = b := by apply UInt8.toNat_inj.1; rw [UInt8.lt_iff_toNat_lt] at *; omega
        subst hab
        by_cases e2 : a < c
        · simp [e2]
        · by_cases e3 : c < a
          · simp [e2, e3] at h2
          · simp only [e2, e3, u8_lt_irrefl, if_false] at h1 h2 ⊢
            exact ih h1 h2
theorem bytesLess_cmpL : ∀ a b : List UInt8, Op.bytesLess a b = decide (cmpL a b < 0)
  | [], [] => by simp [Op.bytesLess, cmpL]
  | [], _ :: _ => by simp [Op.bytesLess, cmpL]
  | _ :: _, [] => by simp [Op.bytesLess, cmpL]
  | a :: x, b :: y => by
    rw [Op.bytesLess, bytesLess_cmpL x y]
    simp only [cmpL]
    by_cases h : a < b
    · simp [h]
    · by_cases h2 : b < a
      · have : a ≠ b := by intro e; subst e; exact u8_lt_irrefl _ h2
        simp [h, h2, this]
      · have : a = b := by apply UInt8.toNat_inj.1; rw [UInt8.lt_iff_toNat_lt] at *; omega
        subst this
        simp [h]
theorem toList_inj (a b : ByteArray) : a.toList = b.toList ↔ a = b := by
  constructor
  · intro h
    rw [Lib.toList_data, Lib.toList_data] at h
    cases a; cases b
    simp only [ByteArray.mk.injEq]
    exact Array.toList_inj.1 h
  · intro h; rw [h]

theorem cmpV_flip (a b : V) : cmpV b a = - cmpV a b := by
  unfold cmpV cmpS
  by_cases h : a.k = b.k
  · by_cases h2 : a.n = b.n
    · simp [h, h2, cmpL_flip a.s.toList b.s.toList]
    · have : ¬ b.n = a.n := fun e => h2 e.symm
      simp [h, h2, this, cmpI_flip a.n b.n]
  · have : ¬ b.k = a.k := fun e => h e.symm
    simp [h, this, cmpI_flip a.k b.k]
theorem cmpV_range (a b : V) : cmpV a b = -1 ∨ cmpV a b = 0 ∨ cmpV a b = 1 := by
  unfold cmpV
  split
  · split
    · exact cmpL_range _ _
    · exact cmpI_range _ _
  · exact cmpI_range _ _
theorem cmpV_zero (a b : V) : cmpV a b = 0 ↔ a = b := by
  obtain ⟨k, n, s⟩ := a
  obtain ⟨k', n', s'⟩ := b
  simp only [cmpV, V.mk.injEq]
  by_cases h : k = k'
  · by_cases h2 : n = n'
    · simp only [h, h2, if_true, true_and, cmpS, cmpL_zero, toList_inj]
    · simp only [h, h2, if_true, if_false, true_and, false_and, cmpI_zero]
  · simp only [h, if_false, false_and, cmpI_zero]
theorem cmpV_trans (a b c : V) (h1 : cmpV a b ≤ 0) (h2 : cmpV b c ≤ 0) : cmpV a c ≤ 0 := by
  obtain ⟨k, n, s⟩ := a
  obtain ⟨k', n', s'⟩ := b
  obtain ⟨k'', n'', s''⟩ := c
  simp only [cmpV] at *
  by_cases e1 : k = k'
  · by_cases e2 : k' = k''
    · have e3 : k = k'' := e1.trans e2
      simp only [e1, e2, if_true] at *
      by_cases f1 : n = n'
      · by_cases f2 : n' = n''
        · have f3 : n = n'' := f1.trans f2
          simp only [f1, f2, if_true] at *
          exact cmpL_trans _ _ _ h1 h2
        · simp only [f1, f2, if_true, if_false] at *; exact h2
      · simp only [f1, if_false, cmpI_le] at h1
        by_cases f2 : n' = n''
        · rw [if_neg (by omega)]; rw [cmpI_le]; omega
        · simp only [f2, if_false, cmpI_le] at h2
          rw [if_neg (by omega)]; rw [cmpI_le]; omega
    · simp only [e1, e2, if_true, if_false] at *; exact h2
  · simp only [e1, if_false, cmpI_le] at h1
    by_cases e2 : k' = k''
    · rw [if_neg (by omega)]; rw [cmpI_le]; omega
    · simp only [e2, if_false, cmpI_le] at h2
      rw [if_neg (by omega)]; rw [cmpI_le]; omega
end Go.Proofs.Ytjcbmeannhafjaa

/- Walks of the leaves of layer 1: cmp.Compare at int, int64, string; value.Compare and its reference; Valid, Real. -/
namespace Go.Proofs.Ytjcbmeannhafjaa

open Go.RowKit

/-- The world has drawn and grown; nothing that was there has turned. -/
def Gr (w w' : World) : Prop := ∃ q os, w' = Sort.grow (w.drewN q) os
theorem Gr.refl (w : World) : Gr w w := ⟨0, #[], by simp; rfl⟩
theorem Gr.alloc {w w' : World} (h : Gr w w') (o : Obj) : Gr w (w'.alloc o) := by
  obtain ⟨q, os, rfl⟩ := h
  exact ⟨q, os ++ #[o], by rw [Sort.alloc_eq_grow, Sort.grow_grow]⟩
theorem Gr.drewN {w w' : World} (h : Gr w w') (n : Nat) : Gr w (w'.drewN n) := by
  obtain ⟨q, os, rfl⟩ := h
  refine ⟨q + n, os, ?_⟩
  unfold Sort.grow World.drewN
  simp [Nat.add_assoc]
theorem Gr.drew {w w' : World} (h : Gr w w') : Gr w w'.drew := h.drewN 1
theorem Gr.trans {a b c : World} (h : Gr a b) (k : Gr b c) : Gr a c := by
  obtain ⟨q, os, rfl⟩ := h
  obtain ⟨q', os', rfl⟩ := k
  refine ⟨q + q', os ++ os', ?_⟩
  unfold Sort.grow World.drewN
  simp [Nat.add_assoc, Array.append_assoc]
theorem Gr.below {w w' : World} (h : Gr w w') : Below w.heap.size w w' := by
  obtain ⟨q, os, rfl⟩ := h
  refine ⟨rfl, rfl, rfl, by simp [Sort.grow, World.drewN], fun k hk => ?_⟩
  simp only [Sort.grow, World.drewN]
  rw [Array.getElem?_append_left hk]
theorem bcell {W w1 : World} (hb : Below W.heap.size W w1) : (∀ b o, b < W.heap.size → w1.cell? ⟨b, o, none⟩ = W.cell? ⟨b, o, none⟩) ∧ (∀ b o, b < W.heap.size → w1.frozen? ⟨b, o, none⟩ = W.frozen? ⟨b, o, none⟩) :=
  ⟨fun b o h => hb.cell (p := ⟨b, o, none⟩) h, fun b o h => hb.frozen (p := ⟨b, o, none⟩) h⟩

theorem ret_int {k : IntKind} {a b : Int} (h : a = b) : Ending.returned (.int k a) = .returned (.int k b) := by rw [h]
theorem ret_bool {a b : Bool} (h : a = b) : Ending.returned (.bool a) = .returned (.bool b) := by rw [h]

set_option maxHeartbeats 400000 in
theorem cmpInt_any (a b : Int) (w : World) : Calls Try.prog 93 #[.int .i64 a, .int .i64 b] w fun e w' => e = .returned (.int .i64 (cmpI a b)) ∧ w = w' := by
  rcases Int.lt_trichotomy a b with h | h | h
  · have e : cmpI a b = -1 := by simp [cmpI, h]
    rw [e]; clear e
    go_enter Try.func93, Try.ntmps93
    go_wp2
    go_ret
    exact ⟨rfl, rfl⟩
  · subst h
    have e : cmpI a a = 0 := by simp [cmpI]
    rw [e]; clear e
    go_enter Try.func93, Try.ntmps93
    go_wp2
    go_ret
    exact ⟨rfl, rfl⟩
  · have e : cmpI a b = 1 := by simp [cmpI, h]; omega
    rw [e]; clear e
    go_enter Try.func93, Try.ntmps93
    go_wp2
    go_ret
    exact ⟨rfl, rfl⟩

set_option maxHeartbeats 400000 in
theorem cmpInt64_any (a b : Int) (w : World) : Calls Try.prog 112 #[.int .i64 a, .int .i64 b] w fun e w' => e = .returned (.int .i64 (cmpI a b)) ∧ w = w' := by
  rcases Int.lt_trichotomy a b with h | h | h
  · have e : cmpI a b = -1 := by simp [cmpI, h]
    rw [e]; clear e
    go_enter Try.func112, Try.ntmps112
    go_wp2
    go_ret
    exact ⟨rfl, rfl⟩
  · subst h
    have e : cmpI a a = 0 := by simp [cmpI]
    rw [e]; clear e
    go_enter Try.func112, Try.ntmps112
    go_wp2
    go_ret
    exact ⟨rfl, rfl⟩
  · have e : cmpI a b = 1 := by simp [cmpI, h]; omega
    rw [e]; clear e
    go_enter Try.func112, Try.ntmps112
    go_wp2
    go_ret
    exact ⟨rfl, rfl⟩

set_option maxHeartbeats 400000 in
theorem cmpStr_any (a b : ByteArray) (w : World) : Calls Try.prog 113 #[.string a, .string b] w fun e w' => e = .returned (.int .i64 (cmpS a b)) ∧ w = w' := by
  have ha : (a.toList == a.toList) = true := by simp
  have hb : (b.toList == b.toList) = true := by simp
  unfold cmpS
  rcases cmpL_range a.toList b.toList with h | h | h
  · have e1 : Op.bytesLess a.toList b.toList = true := by rw [bytesLess_cmpL, h]; decide
    rw [h]; clear h
    go_enter Try.func113, Try.ntmps113
    go_wp2
    go_ret
    exact ⟨rfl, rfl⟩
  · have e1 : Op.bytesLess a.toList b.toList = false := by rw [bytesLess_cmpL, h]; decide
    have e2 : (a.toList == b.toList) = true := by simpa using (cmpL_zero _ _).1 h
    rw [h]; clear h
    go_enter Try.func113, Try.ntmps113
    go_wp2
    go_ret
    exact ⟨rfl, rfl⟩
  · have e1 : Op.bytesLess a.toList b.toList = false := by rw [bytesLess_cmpL, h]; decide
    have e2 : (a.toList == b.toList) = false := by
      have : a.toList ≠ b.toList := fun e => by rw [(cmpL_zero _ _).2 e] at h; omega
      simpa using this
    rw [h]; clear h
    go_enter Try.func113, Try.ntmps113
    go_wp2
    go_ret
    exact ⟨rfl, rfl⟩
end Go.Proofs.Ytjcbmeannhafjaa

/- Walks of value.Valid, Real, Compare and of their references. -/
namespace Go.Proofs.Ytjcbmeannhafjaa

open Go.RowKit

/-- A value is valid. -/
def vldB (k n : Int) (s : ByteArray) : Bool :=
  decide (((k = 1 ∨ k = 2) ∧ n = 0 ∧ s.size = 0) ∨ (k = 3 ∧ (n = 0 ∨ n = 1) ∧ s.size = 0) ∨ (k = 4 ∧ s.size = 0) ∨ (k = 5 ∧ n = 0 ∧ s.size ≤ 64))

theorem empty_toList (s : ByteArray) (h : s.size = 0) : s.toList = [] := by
  rw [Lib.toList_data]
  exact List.eq_nil_of_length_eq_zero (by simpa using h)
theorem nonempty_toList (s : ByteArray) (h : ¬ s.size = 0) : s.toList ≠ [] := by
  rw [Lib.toList_data]
  intro e
  exact h (by have := congrArg List.length e; simpa using this)

theorem empty_iff (s : ByteArray) : s = ⟨#[]⟩ ↔ s.size = 0 := by
  constructor
  · intro e; rw [e]; rfl
  · intro e
    apply (toList_inj _ _).1
    rw [empty_toList s e, Lib.toList_data]

theorem eqV_run (k n : Int) (s : ByteArray) (k' n' : Int) (s' : ByteArray) (w : World) :
    (binOp .eql 57 (.agg #[.int .i64 k, .int .i64 n, .string s]) (.agg #[.int .i64 k', .int .i64 n', .string s'])).run Try.prog w = .ok (.bool (decide (V.mk k n s = V.mk k' n' s'))) w := by
  have u3 := Try.underlying3
  have a3 := Try.isAgg3
  have z3 := Try.sizeOf3
  have u2 := Try.underlying2
  have a2 := Try.isAgg2
  have z2 := Try.sizeOf2
  have u9 := Try.underlying9
  have a9 := Try.isAgg9
  have z9 := Try.sizeOf9
  have hS : Try.prog.underlying 57 = some (.struct (Try.prog.fieldsOf 57)) := by kernel_rfl
  have hp : Try.prog.stoodInHeld 57 = false := by kernel_rfl
  rw [run_eql_struct, show (10000 : Nat) = 9999 + 1 from rfl, run_equalIn_agg w 9999 57 _ _ hS hp]
  simp only [Program.fieldsOf, Try.underlying57]
  go_simp
  by_cases h1 : k = k' <;> by_cases h2 : n = n' <;> by_cases h3 : s = s' <;> simp [h1, h2, h3, toList_inj]
theorem neV_run (k n : Int) (s : ByteArray) (k' n' : Int) (s' : ByteArray) (w : World) :
    (binOp .neq 57 (.agg #[.int .i64 k, .int .i64 n, .string s]) (.agg #[.int .i64 k', .int .i64 n', .string s'])).run Try.prog w = .ok (.bool !(decide (V.mk k n s = V.mk k' n' s'))) w := by
  have u3 := Try.underlying3
  have a3 := Try.isAgg3
  have z3 := Try.sizeOf3
  have u2 := Try.underlying2
  have a2 := Try.isAgg2
  have z2 := Try.sizeOf2
  have u9 := Try.underlying9
  have a9 := Try.isAgg9
  have z9 := Try.sizeOf9
  have hS : Try.prog.underlying 57 = some (.struct (Try.prog.fieldsOf 57)) := by kernel_rfl
  have hp : Try.prog.stoodInHeld 57 = false := by kernel_rfl
  rw [run_neq_struct, show (10000 : Nat) = 9999 + 1 from rfl, run_equalIn_agg w 9999 57 _ _ hS hp]
  simp only [Program.fieldsOf, Try.underlying57]
  go_simp
  by_cases h1 : k = k' <;> by_cases h2 : n = n' <;> by_cases h3 : s = s' <;> simp [h1, h2, h3, toList_inj]

set_option maxHeartbeats 400000 in
theorem vCompare_any (k n : Int) (s : ByteArray) (k' n' : Int) (s' : ByteArray) (w : World) :
    Calls Try.prog 92 #[.agg #[.int .i64 k, .int .i64 n, .string s], .agg #[.int .i64 k', .int .i64 n', .string s']] w fun e w' => e = .returned (.int .i64 (cmpV ⟨k, n, s⟩ ⟨k', n', s'⟩)) ∧ Gr w w' := by
  unfold cmpV
  by_cases h : k = k'
  · simp only [h, if_true]
    have hk : (k' == k') = true := by simp
    by_cases h2 : n = n'
    · simp only [h2, if_true]
      have hn : (n' == n') = true := by simp
      clear h h2
      go_enter Try.func92, Try.ntmps92
      go_wp2_with (go_at_call 113; refine (cmpStr_any _ _ _).mono ?_; rintro e w' ⟨rfl, rfl⟩)
      go_ret
      exact ⟨rfl, ((Gr.refl _).alloc _).alloc _⟩
    · simp only [h2, if_false]
      have hn : (n == n') = false := by simpa using h2
      clear h h2
      go_enter Try.func92, Try.ntmps92
      go_wp2_with (go_at_call 112; refine (cmpInt64_any _ _ _).mono ?_; rintro e w' ⟨rfl, rfl⟩)
      go_ret
      exact ⟨rfl, ((Gr.refl _).alloc _).alloc _⟩
  · simp only [h, if_false]
    have hk : (k == k') = false := by simpa using h
    clear h
    go_enter Try.func92, Try.ntmps92
    go_wp2_with (go_at_call 93; refine (cmpInt_any _ _ _).mono ?_; rintro e w' ⟨rfl, rfl⟩)
    go_ret
    exact ⟨rfl, ((Gr.refl _).alloc _).alloc _⟩

set_option maxHeartbeats 400000 in
theorem vValid_any (k n : Int) (s : ByteArray) (w : World) :
    Calls Try.prog 83 #[.agg #[.int .i64 k, .int .i64 n, .string s]] w fun e w' => e = .returned (.bool (vldB k n s)) ∧ Gr w w' := by
  have he := eqV_run
  by_cases h12 : k = 1 ∨ k = 2
  · have hv : vldB k n s = (decide (n = 0) && decide (s = ⟨#[]⟩)) := by
      unfold vldB
      rw [Bool.eq_iff_iff]
      simp only [decide_eq_true_eq, Bool.and_eq_true, empty_iff]
      omega
    rw [hv]; clear hv
    rcases h12 with rfl | rfl
    all_goals
      go_enter Try.func83, Try.ntmps83
      go_wp2
      go_ret
      exact ⟨rfl, (Gr.refl _).alloc _⟩
  · clear he
    by_cases h3 : k = 3
    · subst h3
      by_cases hs : s.size = 0
      · have es := empty_toList s hs
        by_cases h0 : n = 0
        · subst h0
          have hv : vldB 3 0 s = true := by simp [vldB, hs]
          rw [hv]; clear hv
          go_enter Try.func83, Try.ntmps83
          go_wp2
          go_ret
          exact ⟨rfl, (Gr.refl _).alloc _⟩
        · by_cases h1 : n = 1
          · subst h1
            have hv : vldB 3 1 s = true := by simp [vldB, hs]
            rw [hv]; clear hv
            go_enter Try.func83, Try.ntmps83
            go_wp2
            go_ret
            exact ⟨rfl, (Gr.refl _).alloc _⟩
          · have hv : vldB 3 n s = false := by simp [vldB, hs, h0, h1]
            rw [hv]; clear hv
            have b0 : (n == 0) = false := by simpa using h0
            have b1 : (n == 1) = false := by simpa using h1
            go_enter Try.func83, Try.ntmps83
            go_wp2
            go_ret
            exact ⟨rfl, (Gr.refl _).alloc _⟩
      · have es : s.toList.isEmpty = false := by simpa using nonempty_toList s hs
        have hv : vldB 3 n s = false := by simp [vldB, hs]
        rw [hv]; clear hv
        go_enter Try.func83, Try.ntmps83
        go_wp2
        go_ret
        exact ⟨rfl, (Gr.refl _).alloc _⟩
    · by_cases h4 : k = 4
      · subst h4
        by_cases hs : s.size = 0
        · have es := empty_toList s hs
          have hv : vldB 4 n s = true := by simp [vldB, hs]
          rw [hv]; clear hv
          go_enter Try.func83, Try.ntmps83
          go_wp2
          go_ret
          exact ⟨rfl, (Gr.refl _).alloc _⟩
        · have es : s.toList.isEmpty = false := by simpa using nonempty_toList s hs
          have hv : vldB 4 n s = false := by simp [vldB, hs]
          rw [hv]; clear hv
          go_enter Try.func83, Try.ntmps83
          go_wp2
          go_ret
          exact ⟨rfl, (Gr.refl _).alloc _⟩
      · by_cases h5 : k = 5
        · subst h5
          by_cases h0 : n = 0
          · subst h0
            by_cases hs : s.size ≤ 64
            · have hv : vldB 5 0 s = true := by simp [vldB, hs]
              rw [hv]; clear hv
              go_enter Try.func83, Try.ntmps83
              go_wp2
              go_ret
              exact ⟨ret_bool (by simp; omega), (Gr.refl _).alloc _⟩
            · have hv : vldB 5 0 s = false := by simp [vldB, hs]
              rw [hv]; clear hv
              go_enter Try.func83, Try.ntmps83
              go_wp2
              go_ret
              exact ⟨ret_bool (by simp; omega), (Gr.refl _).alloc _⟩
          · have hv : vldB 5 n s = false := by simp [vldB, h0]
            rw [hv]; clear hv
            have b0 : (n == 0) = false := by simpa using h0
            go_enter Try.func83, Try.ntmps83
            go_wp2
            go_ret
            exact ⟨rfl, (Gr.refl _).alloc _⟩
        · have hv : vldB k n s = false := by simp [vldB]; omega
          rw [hv]; clear hv
          have b1 : (k == 1) = false := by simp; omega
          have b2 : (k == 2) = false := by simp; omega
          have b3 : (k == 3) = false := by simp; omega
          have b4 : (k == 4) = false := by simp; omega
          have b5 : (k == 5) = false := by simp; omega
          clear h12 h3 h4 h5
          go_enter Try.func83, Try.ntmps83
          go_wp2
          go_ret
          exact ⟨rfl, (Gr.refl _).alloc _⟩

theorem vldB_kind {k n : Int} {s : ByteArray} (h : vldB k n s = true) : 1 ≤ k ∧ k ≤ 5 := by
  unfold vldB at h
  have := of_decide_eq_true h
  omega

def realB (k n : Int) (s : ByteArray) : Bool := decide (3 ≤ k) && vldB k n s

set_option maxHeartbeats 400000 in
theorem vReal_any (k n : Int) (s : ByteArray) (w : World) :
    Calls Try.prog 118 #[.agg #[.int .i64 k, .int .i64 n, .string s]] w fun e w' => e = .returned (.bool (realB k n s)) ∧ Gr w w' := by
  by_cases h : 3 ≤ k
  · have hr : realB k n s = vldB k n s := by simp [realB, h]
    rw [hr]; clear hr
    have hd : decide (3 ≤ k) = true := by simpa using h
    generalize hx : vldB k n s = x
    have hc := fun W => vValid_any k n s W
    rw [hx] at hc
    have HC := Lib.hid hc
    clear hc hx
    go_enter Try.func118, Try.ntmps118
    go_wp2_with (go_at_call 83; refine (HC.out _).mono ?_; rintro e w' ⟨rfl, hg⟩)
    go_ret
    exact ⟨rfl, Gr.trans ((Gr.refl _).alloc _) hg⟩
  · have hr : realB k n s = false := by simp [realB, h]
    rw [hr]; clear hr
    have hd : decide (3 ≤ k) = false := by simpa using h
    go_enter Try.func118, Try.ntmps118
    go_wp2_with fail
    go_ret
    exact ⟨rfl, (Gr.refl _).alloc _⟩

/- the references -/
set_option maxHeartbeats 400000 in
theorem rCompare_any (k n : Int) (s : ByteArray) (k' n' : Int) (s' : ByteArray) (w : World) :
    Calls Try.prog 45 #[.agg #[.int .i64 k, .int .i64 n, .string s], .agg #[.int .i64 k', .int .i64 n', .string s']] w fun e w' => e = .returned (.int .i64 (cmpV ⟨k, n, s⟩ ⟨k', n', s'⟩)) ∧ Gr w w' := by
  unfold cmpV
  rcases Int.lt_trichotomy k k' with h | h | h
  · rw [if_neg (by simp; omega)]
    have e : cmpI k k' = -1 := by simp [cmpI, h]
    simp only [e]; clear e
    have hd : decide (k < k') = true := by simpa using h
    go_enter Try.func45, Try.ntmps45
    go_wp2
    go_ret
    exact ⟨rfl, ((Gr.refl _).alloc _).alloc _⟩
  · rw [if_pos (by simpa using h)]
    subst h
    rcases Int.lt_trichotomy n n' with h2 | h2 | h2
    · rw [if_neg (by simp; omega)]
      have e : cmpI n n' = -1 := by simp [cmpI, h2]
      simp only [e]; clear e
      go_enter Try.func45, Try.ntmps45
      go_wp2
      go_ret
      exact ⟨rfl, ((Gr.refl _).alloc _).alloc _⟩
    · rw [if_pos (by simpa using h2)]
      subst h2
      unfold cmpS
      rcases cmpL_range s.toList s'.toList with h | h | h
      · have e1 : Op.bytesLess s.toList s'.toList = true := by rw [bytesLess_cmpL, h]; decide
        simp only [h]; clear h
        go_enter Try.func45, Try.ntmps45
        go_wp2
        go_ret
        exact ⟨rfl, ((Gr.refl _).alloc _).alloc _⟩
      · have e1 : Op.bytesLess s.toList s'.toList = false := by rw [bytesLess_cmpL, h]; decide
        have e2 : (s.toList == s'.toList) = true := by simpa using (cmpL_zero _ _).1 h
        simp only [h]; clear h
        go_enter Try.func45, Try.ntmps45
        go_wp2
        go_ret
        exact ⟨rfl, ((Gr.refl _).alloc _).alloc _⟩
      · have e1 : Op.bytesLess s.toList s'.toList = false := by rw [bytesLess_cmpL, h]; decide
        have e2 : (s.toList == s'.toList) = false := by
          have : s.toList ≠ s'.toList := fun e => by rw [(cmpL_zero _ _).2 e] at h; omega
          simpa using this
        simp only [h]; clear h
        go_enter Try.func45, Try.ntmps45
        go_wp2
        go_ret
        exact ⟨rfl, ((Gr.refl _).alloc _).alloc _⟩
    · rw [if_neg (by simp; omega)]
      have e : cmpI n n' = 1 := by simp [cmpI, h2]; omega
      simp only [e]; clear e
      go_enter Try.func45, Try.ntmps45
      go_wp2
      go_ret
      exact ⟨rfl, ((Gr.refl _).alloc _).alloc _⟩
  · rw [if_neg (by simp; omega)]
    have e : cmpI k k' = 1 := by simp [cmpI, h]; omega
    simp only [e]; clear e
    go_enter Try.func45, Try.ntmps45
    go_wp2
    go_ret
    exact ⟨rfl, ((Gr.refl _).alloc _).alloc _⟩
end Go.Proofs.Ytjcbmeannhafjaa
