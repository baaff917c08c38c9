
/- Rows in memory, their order, and the walk of value.CompareRows. -/
import Derived.Test.YtjcbmeannhafjaaVal

import Derived.Outline

import Derived.Deep.RegionWith

import Derived.Deep.LoopGhost

import Derived.Lib.SliceRun

import Derived.Shelf.Abstract

import Derived.Deep.RegionHeld3

namespace Go.Proofs.Ytjcbmeannhafjaa

open Go.RowKit

def cmpRows : List V → List V → Int
  | [], [] => 0
  | [], _ :: _ => -1
  | _ :: _, [] => 1
  | a :: x, b :: y => if a = b then cmpRows x y else cmpV a b

theorem cmpRows_flip : ∀ a b : List V, cmpRows b a = - cmpRows a b
  | [], [] => rfl
  | [], _ :: _ => rfl
  | _ :: _, [] => rfl
  | a :: x, b :: y => by
    simp only [cmpRows]
    by_cases h : a = b
    · simp [h, cmpRows_flip x y]
    · have : ¬ b = a := fun e => h e.symm
      simp [h, this, cmpV_flip a b]
theorem cmpRows_zero : ∀ a b : List V, cmpRows a b = 0 ↔ a = b
  | [], [] => by simp [cmpRows]
  | [], _ :: _ => by simp [cmpRows]
  | _ :: _, [] => by simp [cmpRows]
  | a :: x, b :: y => by
    simp only [cmpRows]
    by_cases h : a = b
    · simp [h, cmpRows_zero x y]
    · simp [h, cmpV_zero]
theorem cmpRows_range : ∀ a b : List V, cmpRows a b = -1 ∨ cmpRows a b = 0 ∨ cmpRows a b = 1
  | [], [] => by simp [cmpRows]
  | [], _ :: _ => by simp [cmpRows]
  | _ :: _, [] => by simp [cmpRows]
  | a :: x, b :: y => by
    simp only [cmpRows]
    have := cmpRows_range x y
    split
    · exact this
    · exact cmpV_range a b
theorem cmpRows_trans : ∀ a b c : List V, cmpRows a b ≤ 0 → cmpRows b c ≤ 0 → cmpRows a c ≤ 0
  | [], _, [] => by simp [cmpRows]
  | [], _, _ :: _ => by simp [cmpRows]
  | _ :: _, [], _ => by simp [cmpRows]
  | _ :: _, _ :: _, [] => by simp [cmpRows]
  | a :: x, b :: y, c :: z => by
    simp only [cmpRows]
    intro h1 h2
    by_cases e1 : a = b
    · subst e1
      by_cases e2 : a = c
      · subst e2
        simp only [if_true] at *
        exact cmpRows_trans x y z h1 h2
      · simp only [e2, if_false] at *; exact h2
    · simp only [e1, if_false] at h1
      by_cases e2 : b = c
      · subst e2
        simp only [e1, if_false]; exact h1
      · simp only [e2, if_false] at h2
        have h3 := cmpV_trans a b c h1 h2
        by_cases e3 : a = c
        · subst e3
          exfalso
          have f1 := cmpV_flip a b
          have f2 : cmpV a b = 0 := by omega
          exact e1 ((cmpV_zero a b).1 f2)
        · simp only [e3, if_false]; exact h3

theorem cmpRows_end (l1 l2 : List V) (k : Nat) (h1 : k ≤ l1.length) (h2 : k ≤ l2.length) (h : k = l1.length ∨ k = l2.length) : cmpRows (l1.drop k) (l2.drop k) = cmpI l1.length l2.length := by
  rcases h with h | h
  · rw [List.drop_eq_nil_of_le (by omega : l1.length ≤ k)]
    by_cases e : k = l2.length
    · rw [List.drop_eq_nil_of_le (by omega : l2.length ≤ k)]
      have : (l1.length : Int) = l2.length := by omega
      simp [cmpRows, cmpI, this]
    · rw [List.drop_eq_getElem_cons (by omega : k < l2.length)]
      have : (l1.length : Int) < l2.length := by omega
      simp [cmpRows, cmpI]; omega
  · rw [List.drop_eq_nil_of_le (by omega : l2.length ≤ k)]
    by_cases e : k = l1.length
    · rw [List.drop_eq_nil_of_le (by omega : l1.length ≤ k)]
      have : (l1.length : Int) = l2.length := by omega
      simp [cmpRows, cmpI, this]
    · rw [List.drop_eq_getElem_cons (by omega : k < l1.length)]
      have : (l2.length : Int) < l1.length := by omega
      simp [cmpRows, cmpI]; omega

/-- The three cells of a value stand at an address. -/
def CellsV (w : World) (b o : Nat) (v : V) : Prop := w.cell? ⟨b, o, none⟩ = some (.int .i64 v.k) ∧ w.cell? ⟨b, o + 1, none⟩ = some (.int .i64 v.n) ∧ w.cell? ⟨b, o + 2, none⟩ = some (.string v.s)

/-- A slice value reads as a row. -/
def RowAt (w : World) (rv : Value) (l : List V) : Prop :=
  ∃ (a : Option Addr) (c : Nat), rv = .slice a l.length c ∧ l.length ≤ 4398046511104 ∧
    ∀ i (h : i < l.length), ∃ b off, a = some ⟨b, off, none⟩ ∧ b < w.heap.size ∧ CellsV w b (off + i * 3) l[i]

set_option maxHeartbeats 400000 in
theorem vCompareRows_nn (b1 o1 c1 b2 o2 c2 : Nat) (l1 l2 : List V) (w : World) (h1 : l1.length ≤ 4398046511104) (h2 : l2.length ≤ 4398046511104)
    (hb1 : b1 < w.heap.size) (hb2 : b2 < w.heap.size) (hc1 : ∀ i (h : i < l1.length), CellsV w b1 (o1 + i * 3) l1[i]) (hc2 : ∀ i (h : i < l2.length), CellsV w b2 (o2 + i * 3) l2[i]) :
    Calls Try.prog 77 #[.slice (some ⟨b1, o1, none⟩) l1.length c1, .slice (some ⟨b2, o2, none⟩) l2.length c2] w fun e w' => e = .returned (.int .i64 (cmpRows l1 l2)) ∧ Gr w w' := by
  have HC1 := Lib.hid hc1
  have HC2 := Lib.hid hc2
  clear hc1 hc2
  go_enter Try.func77, Try.ntmps77
  by_cases hlen : l2.length < l1.length
  · go_wp2_with fail
    go_loopw [11] (fun i wr => ∃ k : Nat, k ≤ l2.length ∧ i = .int .i64 k ∧ Gr w wr ∧ Hid (cmpRows l1 l2 = cmpRows (l1.drop k) (l2.drop k))) (fun i _ => l2.length - (intOf i).toNat)
    case atStart => exact ⟨0, by omega, rfl, Gr.refl _, rfl⟩
    case round =>
      obtain ⟨k, hk, rfl, hg, ht⟩ := hrel
      obtain ⟨hcl, hfz⟩ := bcell hg.below
      by_cases hlt : k < l2.length
      · have i1 : k < l1.length := by omega
        have i2 : k < l2.length := by omega
        obtain ⟨p1, p2, p3⟩ := HC1.out k i1
        obtain ⟨q1, q2, q3⟩ := HC2.out k i2
        rw [← hcl _ _ hb1] at p1 p2 p3
        rw [← hcl _ _ hb2] at q1 q2 q3
        have hd : cmpRows (l1.drop k) (l2.drop k) = if l1[k] = l2[k] then cmpRows (l1.drop (k + 1)) (l2.drop (k + 1)) else cmpV l1[k] l2[k] := by
          rw [List.drop_eq_getElem_cons i1, List.drop_eq_getElem_cons i2]; rfl
        have HD := Lib.hid hd
        clear hd hcl hfz
        generalize l1[k] = u at p1 p2 p3 HD
        generalize l2[k] = v at q1 q2 q3 HD
        obtain ⟨uk, un, us⟩ := u
        obtain ⟨vk, vn, vs⟩ := v
        simp only at p1 p2 p3 q1 q2 q3
        have hne := fun W => neV_run uk un us vk vn vs W
        by_cases he : V.mk uk un us = V.mk vk vn vs
        · simp only [he, decide_true, Bool.not_true] at hne
          have hx : Hid (cmpRows l1 l2 = cmpRows (l1.drop (k + 1)) (l2.drop (k + 1))) := by
            have := HD.out; rw [if_pos he] at this; exact ht.out.trans this
          clear he ht HD
          go_wp2_with fail
          go_quiet (fail)
          go_wp2_with fail
          go_roundw
          case rel => exact ⟨k + 1, by omega, by go_num, by first | exact hg.drewN _ | exact (hg.drewN _).drew, hx⟩
          case measure => simp [intOf]; omega
        · simp only [he, decide_false, Bool.not_false] at hne
          have hx : Hid (cmpRows l1 l2 = cmpV ⟨uk, un, us⟩ ⟨vk, vn, vs⟩) := by
            have := HD.out; rw [if_neg he] at this; exact ht.out.trans this
          clear he ht HD
          go_wp2_with fail
          go_quiet (fail)
          clear hne
          go_wp2_with fail
          go_region_with (go_at_call 92; refine (vCompare_any _ _ _ _ _ _ _).mono ?_; rintro e w2 ⟨rfl, hg2⟩)
          all_goals
            go_wp2_with fail
            go_ret
            exact ⟨by rw [hx.out]; try rfl, hg.trans (((Gr.refl _).drewN _).trans ‹_›)⟩
      · have hkM : k = l2.length := by omega
        have hx : Hid (cmpRows l1 l2 = cmpI l1.length l2.length) := by
          refine ht.out.trans ?_
          exact cmpRows_end l1 l2 k (by omega) (by omega) (by omega)
        clear ht hkM hcl hfz
        go_wp2_with (go_at_call 93; refine (cmpInt_any _ _ _).mono ?_; rintro e w2 ⟨rfl, rfl⟩)
        go_ret
        exact ⟨by rw [hx.out]; try rfl, hg⟩
  · go_wp2_with fail
    go_loopw [11] (fun i wr => ∃ k : Nat, k ≤ l1.length ∧ i = .int .i64 k ∧ Gr w wr ∧ Hid (cmpRows l1 l2 = cmpRows (l1.drop k) (l2.drop k))) (fun i _ => l1.length - (intOf i).toNat)
    case atStart => exact ⟨0, by omega, rfl, Gr.refl _, rfl⟩
    case round =>
      obtain ⟨k, hk, rfl, hg, ht⟩ := hrel
      obtain ⟨hcl, hfz⟩ := bcell hg.below
      by_cases hlt : k < l1.length
      · have i1 : k < l1.length := by omega
        have i2 : k < l2.length := by omega
        obtain ⟨p1, p2, p3⟩ := HC1.out k i1
        obtain ⟨q1, q2, q3⟩ := HC2.out k i2
        rw [← hcl _ _ hb1] at p1 p2 p3
        rw [← hcl _ _ hb2] at q1 q2 q3
        have hd : cmpRows (l1.drop k) (l2.drop k) = if l1[k] = l2[k] then cmpRows (l1.drop (k + 1)) (l2.drop (k + 1)) else cmpV l1[k] l2[k] := by
          rw [List.drop_eq_getElem_cons i1, List.drop_eq_getElem_cons i2]; rfl
        have HD := Lib.hid hd
        clear hd hcl hfz
        generalize l1[k] = u at p1 p2 p3 HD
        generalize l2[k] = v at q1 q2 q3 HD
        obtain ⟨uk, un, us⟩ := u
        obtain ⟨vk, vn, vs⟩ := v
        simp only at p1 p2 p3 q1 q2 q3
        have hne := fun W => neV_run uk un us vk vn vs W
        by_cases he : V.mk uk un us = V.mk vk vn vs
        · simp only [he, decide_true, Bool.not_true] at hne
          have hx : Hid (cmpRows l1 l2 = cmpRows (l1.drop (k + 1)) (l2.drop (k + 1))) := by
            have := HD.out; rw [if_pos he] at this; exact ht.out.trans this
          clear he ht HD
          go_wp2_with fail
          go_quiet (fail)
          go_wp2_with fail
          go_roundw
          case rel => exact ⟨k + 1, by omega, by go_num, by first | exact hg.drewN _ | exact (hg.drewN _).drew, hx⟩
          case measure => simp [intOf]; omega
        · simp only [he, decide_false, Bool.not_false] at hne
          have hx : Hid (cmpRows l1 l2 = cmpV ⟨uk, un, us⟩ ⟨vk, vn, vs⟩) := by
            have := HD.out; rw [if_neg he] at this; exact ht.out.trans this
          clear he ht HD
          go_wp2_with fail
          go_quiet (fail)
          clear hne
          go_wp2_with fail
          go_region_with (go_at_call 92; refine (vCompare_any _ _ _ _ _ _ _).mono ?_; rintro e w2 ⟨rfl, hg2⟩)
          all_goals
            go_wp2_with fail
            go_ret
            exact ⟨by rw [hx.out]; try rfl, hg.trans (((Gr.refl _).drewN _).trans ‹_›)⟩
      · have hkM : k = l1.length := by omega
        have hx : Hid (cmpRows l1 l2 = cmpI l1.length l2.length) := by
          refine ht.out.trans ?_
          exact cmpRows_end l1 l2 k (by omega) (by omega) (by omega)
        clear ht hkM hcl hfz
        go_wp2_with (go_at_call 93; refine (cmpInt_any _ _ _).mono ?_; rintro e w2 ⟨rfl, rfl⟩)
        go_ret
        exact ⟨by rw [hx.out]; try rfl, hg⟩

set_option maxHeartbeats 400000 in
/-- One of the rows is empty. -/
theorem vCompareRows_e (a1 a2 : Option Addr) (c1 c2 : Nat) (l1 l2 : List V) (w : World) (h : l1 = [] ∨ l2 = []) (h1 : l1.length ≤ 4398046511104) (h2 : l2.length ≤ 4398046511104) :
    Calls Try.prog 77 #[.slice a1 l1.length c1, .slice a2 l2.length c2] w fun e w' => e = .returned (.int .i64 (cmpRows l1 l2)) ∧ Gr w w' := by
  have hx : Hid (cmpRows l1 l2 = cmpI l1.length l2.length) := by
    have := cmpRows_end l1 l2 0 (by omega) (by omega) (by rcases h with h | h <;> simp [h])
    simp only [List.drop_zero] at this
    exact this
  have hm : l1.length = 0 ∨ l2.length = 0 := by rcases h with h | h <;> simp [h]
  clear h
  generalize l1.length = n1 at *
  generalize l2.length = n2 at *
  rcases hm with rfl | rfl
  · by_cases e : n2 < 0
    · omega
    · go_enter Try.func77, Try.ntmps77
      go_wp2_with fail
      refine wp_loop_rounds 1 ?_; rw [rounds_succ]
      go_wp2_with (go_at_call 93; refine (cmpInt_any _ _ _).mono ?_; rintro e w2 ⟨rfl, rfl⟩)
      go_ret
      exact ⟨by rw [hx.out]; try rfl, Gr.refl _⟩
  · by_cases e : 0 < n1
    all_goals
      go_enter Try.func77, Try.ntmps77
      go_wp2_with fail
      refine wp_loop_rounds 1 ?_; rw [rounds_succ]
      go_wp2_with (go_at_call 93; refine (cmpInt_any _ _ _).mono ?_; rintro e w2 ⟨rfl, rfl⟩)
      go_ret
      exact ⟨by rw [hx.out]; try rfl, Gr.refl _⟩

theorem vCompareRows_any (r1 r2 : Value) (l1 l2 : List V) (w : World) (h1 : RowAt w r1 l1) (h2 : RowAt w r2 l2) :
    Calls Try.prog 77 #[r1, r2] w fun e w' => e = .returned (.int .i64 (cmpRows l1 l2)) ∧ Gr w w' := by
  obtain ⟨a1, c1, rfl, n1, h1⟩ := h1
  obtain ⟨a2, c2, rfl, n2, h2⟩ := h2
  by_cases e1 : l1 = []
  · exact vCompareRows_e a1 a2 c1 c2 l1 l2 w (.inl e1) n1 n2
  · by_cases e2 : l2 = []
    · exact vCompareRows_e a1 a2 c1 c2 l1 l2 w (.inr e2) n1 n2
    · have p1 : 0 < l1.length := List.length_pos_iff.2 e1
      have p2 : 0 < l2.length := List.length_pos_iff.2 e2
      obtain ⟨b1, o1, rfl, hb1, _⟩ := h1 0 p1
      obtain ⟨b2, o2, rfl, hb2, _⟩ := h2 0 p2
      refine vCompareRows_nn b1 o1 c1 b2 o2 c2 l1 l2 w n1 n2 hb1 hb2 (fun i h => ?_) (fun i h => ?_)
      · obtain ⟨b, o, e, _, hc⟩ := h1 i h
        simp only [Option.some.injEq, Addr.mk.injEq] at e
        obtain ⟨rfl, rfl, _⟩ := e
        exact hc
      · obtain ⟨b, o, e, _, hc⟩ := h2 i h
        simp only [Option.some.injEq, Addr.mk.injEq] at e
        obtain ⟨rfl, rfl, _⟩ := e
        exact hc
end Go.Proofs.Ytjcbmeannhafjaa

/- Walks of slices.Equal on rows and of value.equalRows. -/
namespace Go.Proofs.Ytjcbmeannhafjaa

open Go.RowKit

/-- The world has drawn; nothing else. -/
def Dr (w w' : World) : Prop := ∃ m, w' = w.drewN m
theorem Dr.refl (w : World) : Dr w w := ⟨0, rfl⟩
theorem Dr.drewN {w w' : World} (h : Dr w w') (n : Nat) : Dr w (w'.drewN n) := by
  obtain ⟨m, rfl⟩ := h
  exact ⟨m + n, by rw [World.drewN_drewN]⟩
theorem Dr.drew {w w' : World} (h : Dr w w') : Dr w w'.drew := h.drewN 1
theorem Dr.gr {w w' : World} (h : Dr w w') : Gr w w' := by
  obtain ⟨m, rfl⟩ := h
  exact (Gr.refl _).drewN _

theorem drop_eq_iff (l1 l2 : List V) (k : Nat) (i1 : k < l1.length) (i2 : k < l2.length) : (l1.drop k = l2.drop k) ↔ (l1[k] = l2[k] ∧ l1.drop (k + 1) = l2.drop (k + 1)) := by
  rw [List.drop_eq_getElem_cons i1, List.drop_eq_getElem_cons i2, List.cons.injEq]

set_option maxHeartbeats 400000 in
theorem sEqual_len (a1 a2 : Option Addr) (c1 c2 n1 n2 : Nat) (w : World) (h : ¬ n1 = n2) :
    Calls Try.prog 75 #[.slice a1 n1 c1, .slice a2 n2 c2] w fun e w' => e = .returned (.bool false) ∧ Dr w w' := by
  have hb : ((n1 : Int) != n2) = true := by simp; omega
  go_enter Try.func75, Try.ntmps75
  go_wp2_with fail
  go_ret
  exact ⟨rfl, Dr.refl _⟩

set_option maxHeartbeats 400000 in
theorem sEqual_e (a1 a2 : Option Addr) (c1 c2 : Nat) (w : World) :
    Calls Try.prog 75 #[.slice a1 0 c1, .slice a2 0 c2] w fun e w' => e = .returned (.bool true) ∧ Dr w w' := by
  go_enter Try.func75, Try.ntmps75
  go_wp2_with fail
  refine wp_loop_rounds 1 ?_; rw [rounds_succ]
  go_wp2_with fail
  go_ret
  exact ⟨rfl, Dr.refl _⟩

set_option maxHeartbeats 400000 in
theorem sEqual_nn (b1 o1 c1 b2 o2 c2 : Nat) (l1 l2 : List V) (w : World) (hn : l1.length = l2.length) (h1 : l1.length ≤ 4398046511104)
    (hb1 : b1 < w.heap.size) (hb2 : b2 < w.heap.size) (hc1 : ∀ i (h : i < l1.length), CellsV w b1 (o1 + i * 3) l1[i]) (hc2 : ∀ i (h : i < l2.length), CellsV w b2 (o2 + i * 3) l2[i]) :
    Calls Try.prog 75 #[.slice (some ⟨b1, o1, none⟩) l1.length c1, .slice (some ⟨b2, o2, none⟩) l1.length c2] w fun e w' => e = .returned (.bool (decide (l1 = l2))) ∧ Dr w w' := by
  have HC1 := Lib.hid hc1
  have HC2 := Lib.hid hc2
  have HN := Lib.hid hn
  clear hc1 hc2 hn
  go_enter Try.func75, Try.ntmps75
  go_wp2_with fail
  go_loopw [13] (fun i wr => ∃ k : Nat, k ≤ l1.length ∧ i = .int .i64 k ∧ Dr w wr ∧ Hid ((l1 = l2) ↔ (l1.drop k = l2.drop k))) (fun i _ => l1.length - (intOf i).toNat)
  case atStart => exact ⟨0, by omega, rfl, Dr.refl _, Iff.rfl⟩
  case round =>
    obtain ⟨k, hk, rfl, hg, ht⟩ := hrel
    obtain ⟨hcl, hfz⟩ := bcell hg.gr.below
    by_cases hlt : k < l1.length
    · have i2 : k < l2.length := by have := HN.out; omega
      obtain ⟨p1, p2, p3⟩ := HC1.out k hlt
      obtain ⟨q1, q2, q3⟩ := HC2.out k i2
      rw [← hcl _ _ hb1] at p1 p2 p3
      rw [← hcl _ _ hb2] at q1 q2 q3
      have hd := drop_eq_iff l1 l2 k hlt i2
      have HD := Lib.hid hd
      clear hd hcl hfz
      generalize l1[k] = u at p1 p2 p3 HD
      generalize l2[k] = v at q1 q2 q3 HD
      obtain ⟨uk, un, us⟩ := u
      obtain ⟨vk, vn, vs⟩ := v
      simp only at p1 p2 p3 q1 q2 q3
      have hne := fun W => neV_run uk un us vk vn vs W
      by_cases he : V.mk uk un us = V.mk vk vn vs
      · simp only [he, decide_true, Bool.not_true] at hne
        have hx : Hid ((l1 = l2) ↔ (l1.drop (k + 1) = l2.drop (k + 1))) := by
          refine ht.out.trans (HD.out.trans ⟨fun h => h.2, fun h => ⟨he, h⟩⟩)
        clear he ht HD
        go_wp2_with fail
        go_quiet (fail)
        go_wp2_with fail
        go_roundw
        case rel => exact ⟨k + 1, by omega, by go_num, by first | exact hg.drewN _ | exact (hg.drewN _).drew, hx⟩
        case measure => simp [intOf]; omega
      · simp only [he, decide_false, Bool.not_false] at hne
        have hx : Hid (decide (l1 = l2) = false) := by
          have : ¬ l1 = l2 := fun h => he (HD.out.1 (ht.out.1 h)).1
          show decide (l1 = l2) = false
          simpa using this
        clear he ht HD
        go_wp2_with fail
        go_quiet (fail)
        go_wp2_with fail
        go_ret
        exact ⟨by rw [hx.out]; try rfl, by first | exact hg.drewN _ | exact (hg.drewN _).drew⟩
    · have hx : Hid (decide (l1 = l2) = true) := by
        have hkl : k = l1.length := by omega
        have : l1 = l2 := by
          refine ht.out.2 ?_
          rw [List.drop_eq_nil_of_le (by omega), List.drop_eq_nil_of_le (by have := HN.out; omega)]
        show decide (l1 = l2) = true
        simpa using this
      clear ht hcl hfz
      go_wp2_with fail
      go_ret
      exact ⟨by rw [hx.out]; try rfl, hg⟩

theorem sEqual_any (r1 r2 : Value) (l1 l2 : List V) (w : World) (h1 : RowAt w r1 l1) (h2 : RowAt w r2 l2) :
    Calls Try.prog 75 #[r1, r2] w fun e w' => e = .returned (.bool (decide (l1 = l2))) ∧ Dr w w' := by
  obtain ⟨a1, c1, rfl, n1, h1⟩ := h1
  obtain ⟨a2, c2, rfl, n2, h2⟩ := h2
  by_cases hl : l1.length = l2.length
  · by_cases e1 : l1 = []
    · subst e1
      have e2 : l2 = [] := List.eq_nil_of_length_eq_zero (by simpa using hl.symm)
      subst e2
      exact sEqual_e a1 a2 c1 c2 w
    · have p1 : 0 < l1.length := List.length_pos_iff.2 e1
      obtain ⟨b1, o1, rfl, hb1, _⟩ := h1 0 p1
      obtain ⟨b2, o2, rfl, hb2, _⟩ := h2 0 (by omega)
      have := sEqual_nn b1 o1 c1 b2 o2 c2 l1 l2 w hl n1 hb1 hb2 (fun i h => ?_) (fun i h => ?_)
      · rw [← hl]; exact this
      · obtain ⟨b, o, e, _, hc⟩ := h1 i h
        simp only [Option.some.injEq, Addr.mk.injEq] at e
        obtain ⟨rfl, rfl, _⟩ := e
        exact hc
      · obtain ⟨b, o, e, _, hc⟩ := h2 i h
        simp only [Option.some.injEq, Addr.mk.injEq] at e
        obtain ⟨rfl, rfl, _⟩ := e
        exact hc
  · have hd : decide (l1 = l2) = false := by
      have : ¬ l1 = l2 := fun e => hl (by rw [e])
      simpa using this
    rw [hd]
    exact sEqual_len a1 a2 c1 c2 l1.length l2.length w hl

end Go.Proofs.Ytjcbmeannhafjaa

/- Walk of slices.CompactFunc over rows with value.equalRows. -/
namespace Go.Proofs.Ytjcbmeannhafjaa

open Go.RowKit

/-- A row: its slice value and what it reads as. -/
abbrev E := Value × List V
/-- Which elements stay, of the first m: the first of each run of equal ones. -/
def compN (f : Nat → E) : Nat → List E
  | 0 => []
  | m + 1 => if m = 0 ∨ (f m).2 ≠ (f (m - 1)).2 then compN f m ++ [f m] else compN f m

/-- A slice value reads as a row, in blocks below B. -/
def RowB (B : Nat) (w : World) (rv : Value) (l : List V) : Prop :=
  ∃ (a : Option Addr) (c : Nat), rv = .slice a l.length c ∧ l.length ≤ 4398046511104 ∧
    ∀ i (h : i < l.length), ∃ b off, a = some ⟨b, off, none⟩ ∧ b < B ∧ CellsV w b (off + i * 3) l[i]

theorem CellsV.below {B : Nat} {w w' : World} (h : Below B w w') {b o : Nat} {v : V} (hb : b < B) (hc : CellsV w b o v) : CellsV w' b o v := by
  obtain ⟨h1, h2, h3⟩ := hc
  exact ⟨(h.cell (p := ⟨b, o, none⟩) hb).trans h1, (h.cell (p := ⟨b, o + 1, none⟩) hb).trans h2, (h.cell (p := ⟨b, o + 2, none⟩) hb).trans h3⟩
theorem RowB.below {B B' : Nat} {w w' : World} {rv : Value} {l : List V} (hr : RowB B w rv l) (h : Below B' w w') (hB : B ≤ B') : RowB B w' rv l := by
  obtain ⟨a, c, e, hn, hi⟩ := hr
  refine ⟨a, c, e, hn, fun i h' => ?_⟩
  obtain ⟨b, off, ea, hb, hc⟩ := hi i h'
  exact ⟨b, off, ea, hb, hc.below h (by omega)⟩
theorem RowB.mono {B B' : Nat} {w : World} {rv : Value} {l : List V} (hr : RowB B w rv l) (hB : B ≤ B') : RowB B' w rv l := by
  obtain ⟨a, c, e, hn, hi⟩ := hr
  refine ⟨a, c, e, hn, fun i h' => ?_⟩
  obtain ⟨b, off, ea, hb, hc⟩ := hi i h'
  exact ⟨b, off, ea, by omega, hc⟩
theorem RowB.at {B : Nat} {w : World} {rv : Value} {l : List V} (hr : RowB B w rv l) (hB : B ≤ w.heap.size) : RowAt w rv l := by
  obtain ⟨a, c, e, hn, hi⟩ := hr
  refine ⟨a, c, e, hn, fun i h' => ?_⟩
  obtain ⟨b, off, ea, hb, hc⟩ := hi i h'
  exact ⟨b, off, ea, by omega, hc⟩
theorem RowAt.b {w : World} {rv : Value} {l : List V} (hr : RowAt w rv l) : RowB w.heap.size w rv l := hr

theorem compN_len (f : Nat → E) : ∀ m, (compN f m).length ≤ m
  | 0 => by simp [compN]
  | m + 1 => by
    have := compN_len f m
    simp only [compN]
    split <;> simp <;> omega
theorem compN_all (f : Nat → E) : ∀ m, (∀ j, j < m → j = 0 ∨ (f j).2 ≠ (f (j - 1)).2) → (compN f m).length = m ∧ ∀ j (h : j < (compN f m).length), (compN f m)[j] = f j
  | 0, _ => by simp [compN]
  | m + 1, h => by
    have ih := compN_all f m (fun j hj => h j (by omega))
    have e : compN f (m + 1) = compN f m ++ [f m] := by
      simp only [compN]; rw [if_pos (h m (by omega))]
    rw [e]
    refine ⟨by simp [ih.1], fun j hj => ?_⟩
    rw [List.getElem_append]
    split
    · exact ih.2 j _
    · simp only [List.length_append, List.length_singleton, ih.1] at hj
      have : j = m := by omega
      subst this; simp

/-- What the second loop knows. -/
structure CInv (w : World) (blk off n : Nat) (f : Nat → E) (m kk : Nat) (wr : World) : Prop where
  below : Below blk w wr
  hb : blk < wr.heap.size
  len : (compN f m).length = kk
  lt : kk < m
  low : ∀ j (h : j < (compN f m).length), wr.cell? ⟨blk, off + j, none⟩ = some (compN f m)[j].1
  high : ∀ j, m ≤ j + 1 → j < n → wr.cell? ⟨blk, off + j, none⟩ = some (f j).1
  any : ∀ j, j < n → ∃ v, wr.cell? ⟨blk, off + j, none⟩ = some v
  fz : ∀ j, j < n → wr.frozen? ⟨blk, off + j, none⟩ = false

theorem CInv.gr {w : World} {blk off n : Nat} {f : Nat → E} {m kk : Nat} {wr w' : World} (h : CInv w blk off n f m kk wr) (g : Below wr.heap.size wr w') : CInv w blk off n f m kk w' := by
  have hb := h.hb
  have hc : ∀ o, w'.cell? ⟨blk, o, none⟩ = wr.cell? ⟨blk, o, none⟩ := fun o => g.cell (p := ⟨blk, o, none⟩) hb
  have hf : ∀ o, w'.frozen? ⟨blk, o, none⟩ = wr.frozen? ⟨blk, o, none⟩ := fun o => g.frozen (p := ⟨blk, o, none⟩) hb
  exact ⟨h.below.trans (g.mono (by omega)), Nat.lt_of_lt_of_le hb g.size, h.len, h.lt, fun j hj => (hc _).trans (h.low j hj), fun j h1 h2 => (hc _).trans (h.high j h1 h2), fun j hj => by rw [hc]; exact h.any j hj, fun j hj => (hf _).trans (h.fz j hj)⟩
theorem CInv.skip {w : World} {blk off n : Nat} {f : Nat → E} {m kk : Nat} {wr : World} (h : CInv w blk off n f m kk wr) (hm : 0 < m) (he : (f m).2 = (f (m - 1)).2) : CInv w blk off n f (m + 1) kk wr := by
  have e : compN f (m + 1) = compN f m := by
    simp only [compN]; rw [if_neg]; intro h; rcases h with h | h
    · omega
    · exact h he
  have lt := h.lt
  exact ⟨h.below, h.hb, by rw [e]; exact h.len, by omega, by rw [e]; exact h.low, fun j h1 h2 => h.high j (by omega) h2, h.any, h.fz⟩
theorem CInv.keep {w : World} {blk off n : Nat} {f : Nat → E} {m kk : Nat} {wr : World} (h : CInv w blk off n f m kk wr) (hm : m < n) (he : (f m).2 ≠ (f (m - 1)).2) : CInv w blk off n f (m + 1) (kk + 1) (wr.setCell ⟨blk, off + kk, none⟩ (f m).1) := by
  have e : compN f (m + 1) = compN f m ++ [f m] := by
    simp only [compN]; rw [if_pos (.inr he)]
  have lt := h.lt
  have hother : ∀ j, j ≠ kk → (wr.setCell ⟨blk, off + kk, none⟩ (f m).1).cell? ⟨blk, off + j, none⟩ = wr.cell? ⟨blk, off + j, none⟩ := fun j hj => World.cell?_setCell_other _ _ _ _ (by simp <;> omega)
  obtain ⟨old, ho⟩ := h.any kk (by omega)
  have hsame := World.cell?_setCell_same (v := (f m).1) (h := ho)
  refine ⟨h.below.setCell (by simp) _, by simp; exact h.hb, by rw [e]; simp [h.len], by omega, ?_, fun j h1 h2 => ?_, fun j hj => ?_, fun j hj => by rw [World.frozen?_setCell]; exact h.fz j hj⟩
  · rw [e]
    intro j hj
    rw [List.getElem_append]
    split
    · rename_i hlt
      rw [hother j (by have := h.len; omega)]; exact h.low j hlt
    · rename_i hlt
      have hl := h.len
      simp only [List.length_append, List.length_singleton] at hj
      have : j = kk := by omega
      subst this
      rw [hsame]
      simp [hl]
  · rw [hother j (by omega)]; exact h.high j (by omega) h2
  · by_cases ej : j = kk
    · subst ej; exact ⟨_, hsame⟩
    · rw [hother j ej]; exact h.any j hj

theorem size_setCells (b : Nat) : ∀ (vs : List Value) (o : Nat) (w : World), (w.setCells b o vs).heap.size = w.heap.size
  | [], _, _ => rfl
  | v :: r, o, w => by rw [World.setCells, size_setCells b r]; simp
theorem below_setCells {B : Nat} {a : World} {b : Nat} (hB : B ≤ b) : ∀ (vs : List Value) (o : Nat) {w : World}, Below B a w → Below B a (w.setCells b o vs)
  | [], _, _, h => h
  | v :: r, o, _, h => below_setCells hB r (o + 1) (h.setCell hB v)

def CompactPost (w : World) (blk off cap n : Nat) (f : Nat → E) (e : Ending) (w' : World) : Prop :=
  e = .returned (.slice (some ⟨blk, off, none⟩) (compN f n).length cap) ∧ Below blk w w' ∧ blk < w'.heap.size ∧
    (∀ j (h : j < (compN f n).length), w'.cell? ⟨blk, off + j, none⟩ = some (compN f n)[j].1) ∧ ∀ j, j < n → w'.frozen? ⟨blk, off + j, none⟩ = false

end Go.Proofs.Ytjcbmeannhafjaa

/- Walk of the reference's CompareRows. -/
namespace Go.Proofs.Ytjcbmeannhafjaa

open Go.RowKit

theorem cmpRows_drop (l1 l2 : List V) (k : Nat) (i1 : k < l1.length) (i2 : k < l2.length) : cmpRows (l1.drop k) (l2.drop k) = if l1[k] = l2[k] then cmpRows (l1.drop (k + 1)) (l2.drop (k + 1)) else cmpV l1[k] l2[k] := by
  rw [List.drop_eq_getElem_cons i1, List.drop_eq_getElem_cons i2]; rfl

set_option maxHeartbeats 1000000 in
theorem rCompareRows_nn (a1 a2 : Option Addr) (c1 c2 : Nat) (l1 l2 : List V) (w : World) (h1 : l1.length ≤ 4398046511104) (h2 : l2.length ≤ 4398046511104)
    (H1 : Hid (∀ i (h : i < l1.length), ∃ b off, a1 = some ⟨b, off, none⟩ ∧ b < w.heap.size ∧ CellsV w b (off + i * 3) l1[i])) (H2 : Hid (∀ i (h : i < l2.length), ∃ b off, a2 = some ⟨b, off, none⟩ ∧ b < w.heap.size ∧ CellsV w b (off + i * 3) l2[i])) :
    Calls Try.prog 22 #[.slice a1 l1.length c1, .slice a2 l2.length c2] w fun e w' => e = .returned (.int .i64 (cmpRows l1 l2)) ∧ Gr w w' := by
  go_enter Try.func22, Try.ntmps22
  go_wp2_with fail
  go_loopg [5] l1.length (fun g i wr => ∃ k : Nat, k ≤ l1.length ∧ k ≤ l2.length ∧ l1.length - k ≤ g ∧ i = .int .i64 k ∧ Hid (Gr w wr) ∧ Hid (cmpRows l1 l2 = cmpRows (l1.drop k) (l2.drop k)))
  case atStart => exact ⟨0, by omega, by omega, by omega, rfl, Gr.refl _, rfl⟩
  case round =>
    obtain ⟨k, hk1, hk2, hgk, rfl, hg, ht⟩ := hrel
    by_cases i1 : k < l1.length
    · by_cases i2 : k < l2.length
      · obtain ⟨b1, o1, rfl, hb1, hc1⟩ := H1.out k i1
        obtain ⟨b2, o2, rfl, hb2, hc2⟩ := H2.out k i2
        have hd := cmpRows_drop l1 l2 k i1 i2
        generalize l1[k] = p at hc1 hd
        generalize l2[k] = q at hc2 hd
        have HK : Hid (∀ W, Below w.heap.size w W → CellsV W b1 (o1 + k * 3) p ∧ CellsV W b2 (o2 + k * 3) q) := fun W hb =>
          ⟨⟨(hb.cell (p := ⟨b1, _, none⟩) hb1).trans hc1.1, (hb.cell (p := ⟨b1, _, none⟩) hb1).trans hc1.2.1, (hb.cell (p := ⟨b1, _, none⟩) hb1).trans hc1.2.2⟩,
           ⟨(hb.cell (p := ⟨b2, _, none⟩) hb2).trans hc2.1, (hb.cell (p := ⟨b2, _, none⟩) hb2).trans hc2.2.1, (hb.cell (p := ⟨b2, _, none⟩) hb2).trans hc2.2.2⟩⟩
        obtain ⟨⟨p0, p1, p2⟩, ⟨q0, q1, q2⟩⟩ := HK.out wr hg.out.below
        have hz := cmpV_zero p q
        have hC : Hid (∀ W, Calls Try.prog 45 #[.agg #[.int .i64 p.k, .int .i64 p.n, .string p.s], .agg #[.int .i64 q.k, .int .i64 q.n, .string q.s]] W fun e w' => e = .returned (.int .i64 (cmpV p q)) ∧ Gr W w') := fun W => rCompare_any p.k p.n p.s q.k q.n q.s W
        have HD : Hid (cmpRows l1 l2 = if cmpV p q = 0 then cmpRows (l1.drop (k + 1)) (l2.drop (k + 1)) else cmpV p q) := by
          refine (ht.out.trans hd).trans ?_
          by_cases e : p = q
          · rw [if_pos e, if_pos (hz.2 e)]
          · rw [if_neg e, if_neg (fun h => e (hz.1 h))]
        generalize cmpV p q = c at hC HD
        have HG : Hid (Gr w wr) := hg
        clear hc1 hc2 hd hz ht hb1 hb2
        have i1' : (k : Int) < l1.length := by omega
        have i2' : (k : Int) < l2.length := by omega
        have k0 : (0 : Int) ≤ k := by omega
        go_wp2_with fail
        go_region_held3 (fun W => W.cell? ⟨b1, o1 + k * 3, none⟩ = some (.int .i64 p.k) ∧ W.cell? ⟨b1, o1 + k * 3 + 1, none⟩ = some (.int .i64 p.n) ∧ W.cell? ⟨b1, o1 + k * 3 + 2, none⟩ = some (.string p.s) ∧ W.cell? ⟨b2, o2 + k * 3, none⟩ = some (.int .i64 q.k) ∧ W.cell? ⟨b2, o2 + k * 3 + 1, none⟩ = some (.int .i64 q.n) ∧ W.cell? ⟨b2, o2 + k * 3 + 2, none⟩ = some (.string q.s))
          (first | exact ⟨r0, r1, r2, s0, s1, s2⟩ | exact ⟨p0, p1, p2, q0, q1, q2⟩)
          (first | (go_at_call 45; refine (hC.out _).mono ?_; rintro e wz ⟨rfl, hgz⟩; have HGZ : Hid (Gr w wz) := (Gr.drew HG.out).trans hgz; obtain ⟨⟨r0, r1, r2⟩, ⟨s0, s1, s2⟩⟩ := HK.out wz HGZ.out.below; clear hgz))
        by_cases hc : c = 0
        · subst hc
          have ht' : Hid (cmpRows l1 l2 = cmpRows (l1.drop (k + 1)) (l2.drop (k + 1))) := by have := HD.out; rwa [if_pos rfl] at this
          go_wp2_with fail
          go_roundg (l1.length - (k + 1))
          case measure => omega
          case rel => exact ⟨k + 1, by omega, by omega, Nat.le_refl _, by go_num, HGZ, ht'⟩
        · have hcb : (c != 0) = true := by simpa using hc
          have ht' : Hid (cmpRows l1 l2 = c) := by have := HD.out; rwa [if_neg hc] at this
          go_wp2_with fail
          go_ret
          exact ⟨by rw [ht'.out]; try rfl, HGZ.out⟩
      · have hx : Hid (cmpRows l1 l2 = cmpI l1.length l2.length) := ht.out.trans (cmpRows_end l1 l2 k (by omega) (by omega) (by omega))
        have d2 : decide ((k : Int) < l2.length) = false := by simp; omega
        have d3 : decide (l1.length < l2.length) = false := by simp; omega
        have d3' : decide ((l1.length : Int) < l2.length) = false := by simp; omega
        by_cases e : l2.length < l1.length
        · have hr : Hid (cmpRows l1 l2 = 1) := by have := hx.out; unfold cmpI at this; rw [if_neg (by omega), if_pos (by omega)] at this; exact this
          go_wp2_with fail
          go_ret
          exact ⟨by rw [hr.out]; try rfl, hg.out⟩
        · have hr : Hid (cmpRows l1 l2 = 0) := by have := hx.out; unfold cmpI at this; rw [if_neg (by omega), if_neg (by omega)] at this; exact this
          go_wp2_with fail
          go_ret
          exact ⟨by rw [hr.out]; try rfl, hg.out⟩
    · have hx : Hid (cmpRows l1 l2 = cmpI l1.length l2.length) := ht.out.trans (cmpRows_end l1 l2 k (by omega) (by omega) (by omega))
      by_cases e : l1.length < l2.length
      · have hr : Hid (cmpRows l1 l2 = -1) := by have := hx.out; unfold cmpI at this; rw [if_pos (by omega)] at this; exact this
        go_wp2_with fail
        go_ret
        exact ⟨by rw [hr.out]; try rfl, hg.out⟩
      · have hr : Hid (cmpRows l1 l2 = 0) := by have := hx.out; unfold cmpI at this; rw [if_neg (by omega), if_neg (by omega)] at this; exact this
        go_wp2_with fail
        go_ret
        exact ⟨by rw [hr.out]; try rfl, hg.out⟩

theorem rCompareRows_any (r1 r2 : Value) (l1 l2 : List V) (w : World) (h1 : RowAt w r1 l1) (h2 : RowAt w r2 l2) :
    Calls Try.prog 22 #[r1, r2] w fun e w' => e = .returned (.int .i64 (cmpRows l1 l2)) ∧ Gr w w' := by
  obtain ⟨a1, c1, rfl, n1, h1⟩ := h1
  obtain ⟨a2, c2, rfl, n2, h2⟩ := h2
  exact rCompareRows_nn a1 a2 c1 c2 l1 l2 w n1 n2 h1 h2
end Go.Proofs.Ytjcbmeannhafjaa
