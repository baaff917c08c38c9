
/- The laws' and, or, not; operations on short canonical lists. -/
import Derived.Test.YtmhgmlnnipdomaaIvLaw

import Derived.Test.YtmhgmlnnipdomaaIvSame

import Derived.Test.YtmhgmlnnipdomaaIvInterval

import Derived.Test.YtmhgmlnnipdomaaIvBegun

namespace Go.Proofs.Ytmhgmlnnipdomaa

open Go.RowKit Go.Deep

/-- A new canonical list: the result of an operation on two short ones. -/
def AOut (k : Bool → Bool → Bool) (A B : List IV) (n : Nat) (w : World) (e : Ending) (w' : World) : Prop :=
  ∃ v L, e = .returned v ∧ IvsAt (fun b => w.heap.size ≤ b) w' v L ∧ IsOp k A B L ∧ Can n L ∧ Below w.heap.size w w'
def AOut2 (k : Bool → Bool → Bool) (A B : List IV) (n : Nat) (w : World) (e : Ending) (w' : World) : Prop :=
  ∃ v L, e = .returned (.tuple #[v, .int .i64 0]) ∧ IvsAt (fun b => w.heap.size ≤ b) w' v L ∧ IsOp k A B L ∧ Can n L ∧ Below w.heap.size w w'
theorem OpOut.short {k : Bool → Bool → Bool} {A B : List IV} {n m : Nat} {w : World} (hA : Can n A) (hB : Can m B) (h : n + m ≤ 64) {e : Ending} {w' : World} (ho : OpOut k A B w e w') : AOut2 k A B (n + m) w e w' := by
  obtain ⟨v, L, er, rfl, hv, hr, hb⟩ := ho
  obtain ⟨rfl, h1, h2⟩ := hr.op hA hB h
  exact ⟨v, L, rfl, hv, h1, h2, hb⟩
theorem IvsAt.mvn {bc : Nat} {w w' : World} {v : Value} {L : List IV} (h : IvsAt (fun b => b ≠ bc) w v L) (hm : Mv bc w w') : IvsAt (fun b => b ≠ bc) w' v L := h.keep hm.size fun b hb hlt => hm.block b hlt hb
theorem IvsAt.ne {lo bc : Nat} {w : World} {v : Value} {L : List IV} (h : IvsAt (fun b => lo ≤ b) w v L) (hb : bc < lo) : IvsAt (fun b => b ≠ bc) w v L := h.weak fun b hlb => by omega
theorem sameL_eq (va vb : Value) (A B : List IV) (w : World) (ha : Ivs w va A) (hb : Ivs w vb B) (h : A = B) : Calls Try.prog 21 #[va, vb] w fun e w' => e = .returned (.bool true) ∧ Below w.heap.size w w' := by
  have h1 := rSameL_any va vb A B w ha hb
  rw [decide_eq_true h] at h1
  exact h1
theorem sUnion (va vb : Value) (A B : List IV) {n m : Nat} (w : World) (ha : Ivs w va A) (hb : Ivs w vb B) (hA : Can n A) (hB : Can m B) (h : n + m ≤ 64) : Calls Try.prog 22 #[va, vb] w (AOut2 kOr A B (n + m) w) :=
  (iUnion_any va vb A B w ha hb).mono fun _ _ h' => OpOut.short hA hB h h'
theorem sIntersect (va vb : Value) (A B : List IV) {n m : Nat} (w : World) (ha : Ivs w va A) (hb : Ivs w vb B) (hA : Can n A) (hB : Can m B) (h : n + m ≤ 64) : Calls Try.prog 24 #[va, vb] w (AOut2 kAnd A B (n + m) w) :=
  (iIntersect_any va vb A B w ha hb).mono fun _ _ h' => OpOut.short hA hB h h'
theorem sMinus (va vb : Value) (A B : List IV) {n m : Nat} (w : World) (ha : Ivs w va A) (hb : Ivs w vb B) (hA : Can n A) (hB : Can m B) (h : n + m ≤ 64) : Calls Try.prog 26 #[va, vb] w (AOut2 kNot A B (n + m) w) :=
  (iMinus_any va vb A B w ha hb).mono fun _ _ h' => OpOut.short hA hB h h'
theorem sComplement (va : Value) (A : List IV) {n : Nat} (w : World) (ha : Ivs w va A) (hA : Can n A) (h : 1 + n ≤ 64) : Calls Try.prog 19 #[va] w (AOut2 kNot allL A (1 + n) w) :=
  (iComplement_any va A w ha).mono fun _ _ h' => OpOut.short allL_can hA h h'

set_option maxHeartbeats 400000 in
theorem land_any (va vb : Value) (A B : List IV) {n m : Nat} (w : World) (ha : Ivs w va A) (hb : Ivs w vb B) (hA : Can n A) (hB : Can m B) (h : n + m ≤ 64) : Calls Try.prog 32 #[va, vb] w (AOut kAnd A B (n + m) w) := by
  have H := Lib.hid (sIntersect va vb A B w ha hb hA hB h)
  obtain ⟨aa, ac, rfl⟩ := ha.shape
  obtain ⟨ba, bc, rfl⟩ := hb.shape
  clear ha hb hB hA h
  go_enter Try.func32, Try.ntmps32
  go_wp2_with fail
  refine H.out.mono ?_
  rintro e w1 ⟨v, L, rfl, hv, ho, hc, hb⟩
  obtain ⟨a, c, rfl⟩ := hv.shape
  have HH := Lib.hid (And.intro hv (And.intro ho (And.intro hc hb)))
  clear hv ho hc hb
  go_wp2_with fail
  go_ret
  exact ⟨_, L, rfl, HH.out.1, HH.out.2.1, HH.out.2.2.1, HH.out.2.2.2⟩

set_option maxHeartbeats 400000 in
theorem lor_any (va vb : Value) (A B : List IV) {n m : Nat} (w : World) (ha : Ivs w va A) (hb : Ivs w vb B) (hA : Can n A) (hB : Can m B) (h : n + m ≤ 64) : Calls Try.prog 31 #[va, vb] w (AOut kOr A B (n + m) w) := by
  have H := Lib.hid (sUnion va vb A B w ha hb hA hB h)
  obtain ⟨aa, ac, rfl⟩ := ha.shape
  obtain ⟨ba, bc, rfl⟩ := hb.shape
  clear ha hb hB hA h
  go_enter Try.func31, Try.ntmps31
  go_wp2_with fail
  refine H.out.mono ?_
  rintro e w1 ⟨v, L, rfl, hv, ho, hc, hb⟩
  obtain ⟨a, c, rfl⟩ := hv.shape
  have HH := Lib.hid (And.intro hv (And.intro ho (And.intro hc hb)))
  clear hv ho hc hb
  go_wp2_with fail
  go_ret
  exact ⟨_, L, rfl, HH.out.1, HH.out.2.1, HH.out.2.2.1, HH.out.2.2.2⟩

set_option maxHeartbeats 400000 in
theorem lnot_any (va : Value) (A : List IV) {n : Nat} (w : World) (ha : Ivs w va A) (hA : Can n A) (h : 1 + n ≤ 64) : Calls Try.prog 30 #[va] w (AOut kNot allL A (1 + n) w) := by
  have H := Lib.hid (sComplement va A w ha hA h)
  obtain ⟨aa, ac, rfl⟩ := ha.shape
  skip
  clear ha hA h
  go_enter Try.func30, Try.ntmps30
  go_wp2_with fail
  refine H.out.mono ?_
  rintro e w1 ⟨v, L, rfl, hv, ho, hc, hb⟩
  obtain ⟨a, c, rfl⟩ := hv.shape
  have HH := Lib.hid (And.intro hv (And.intro ho (And.intro hc hb)))
  clear hv ho hc hb
  go_wp2_with fail
  go_ret
  exact ⟨_, L, rfl, HH.out.1, HH.out.2.1, HH.out.2.2.1, HH.out.2.2.2⟩

end Go.Proofs.Ytmhgmlnnipdomaa
