/- Rows in memory, their order, and the walk of value.CompareRows. -/
import Derived.Test.YtkhbephcmcnfjaaVal
import Derived.Outline
import Derived.Deep.RegionWith
namespace Go.Proofs.Ytkhbephcmcnfjaa
open Go.RowKit

def cmpRows : List V → List V → Int
  | [], [] => 0
  | [], _ :: _ => -1
  | _ :: _, [] => 1
  | a :: x, b :: y => if a = b then cmpRows x y else cmpV a b

theorem cmpRows_flip : ∀ a b : List V, cmpRows b a = - cmpRows a b
  | [], [] => rfl
  | [], _ :: _ => rfl
  | _ :: _, [] => rfl
  | a :: x, b :: y => by
    simp only [cmpRows]
    by_cases h : a = b
    · simp [h, cmpRows_flip x y]
    · have : ¬ b = a := fun e => h e.symm
      simp [h, this, cmpV_flip a b]
theorem cmpRows_zero : ∀ a b : List V, cmpRows a b = 0 ↔ a = b
  | [], [] => by simp [cmpRows]
  | [], _ :: _ => by simp [cmpRows]
  | _ :: _, [] => by simp [cmpRows]
  | a :: x, b :: y => by
    simp only [cmpRows]
    by_cases h : a = b
    · simp [h, cmpRows_zero x y]
    · simp [h, cmpV_zero]
theorem cmpRows_range : ∀ a b : List V, cmpRows a b = -1 ∨ cmpRows a b = 0 ∨ cmpRows a b = 1
  | [], [] => by simp [cmpRows]
  | [], _ :: _ => by simp [cmpRows]
  | _ :: _, [] => by simp [cmpRows]
  | a :: x, b :: y => by
    simp only [cmpRows]
    have := cmpRows_range x y
    split
    · exact this
    · exact cmpV_range a b
theorem cmpRows_trans : ∀ a b c : List V, cmpRows a b ≤ 0 → cmpRows b c ≤ 0 → cmpRows a c ≤ 0
  | [], _, [] => by simp [cmpRows]
  | [], _, _ :: _ => by simp [cmpRows]
  | _ :: _, [], _ => by simp [cmpRows]
  | _ :: _, _ :: _, [] => by simp [cmpRows]
  | a :: x, b :: y, c :: z => by
    simp only [cmpRows]
    intro h1 h2
    by_cases e1 : a = b
    · subst e1
      by_cases e2 : a = c
      · subst e2
        simp only [if_true] at *
        exact cmpRows_trans x y z h1 h2
      · simp only [e2, if_false] at *; exact h2
    · simp only [e1, if_false] at h1
      by_cases e2 : b = c
      · subst e2
        simp only [e1, if_false]; exact h1
      · simp only [e2, if_false] at h2
        have h3 := cmpV_trans a b c h1 h2
        by_cases e3 : a = c
        · subst e3
          exfalso
          have f1 := cmpV_flip a b
          have f2 : cmpV a b = 0 := by omega
          exact e1 ((cmpV_zero a b).1 f2)
        · simp only [e3, if_false]; exact h3

theorem cmpRows_end (l1 l2 : List V) (k : Nat) (h1 : k ≤ l1.length) (h2 : k ≤ l2.length) (h : k = l1.length ∨ k = l2.length) : cmpRows (l1.drop k) (l2.drop k) = cmpI l1.length l2.length := by
  rcases h with h | h
  · rw [List.drop_eq_nil_of_le (by omega : l1.length ≤ k)]
    by_cases e : k = l2.length
    · rw [List.drop_eq_nil_of_le (by omega : l2.length ≤ k)]
      have : (l1.length : Int) = l2.length := by omega
      simp [cmpRows, cmpI, this]
    · rw [List.drop_eq_getElem_cons (by omega : k < l2.length)]
      have : (l1.length : Int) < l2.length := by omega
      simp [cmpRows, cmpI]; omega
  · rw [List.drop_eq_nil_of_le (by omega : l2.length ≤ k)]
    by_cases e : k = l1.length
    · rw [List.drop_eq_nil_of_le (by omega : l1.length ≤ k)]
      have : (l1.length : Int) = l2.length := by omega
      simp [cmpRows, cmpI, this]
    · rw [List.drop_eq_getElem_cons (by omega : k < l1.length)]
      have : (l2.length : Int) < l1.length := by omega
      simp [cmpRows, cmpI]; omega

/-- The three cells of a value stand at an address. -/
def CellsV (w : World) (b o : Nat) (v : V) : Prop := w.cell? ⟨b, o, none⟩ = some (.int .i64 v.k) ∧ w.cell? ⟨b, o + 1, none⟩ = some (.int .i64 v.n) ∧ w.cell? ⟨b, o + 2, none⟩ = some (.string v.s)

/-- A slice value reads as a row. -/
def RowAt (w : World) (rv : Value) (l : List V) : Prop :=
  ∃ (a : Option Addr) (c : Nat), rv = .slice a l.length c ∧ l.length ≤ 4398046511104 ∧
    ∀ i (h : i < l.length), ∃ b off, a = some ⟨b, off, none⟩ ∧ b < w.heap.size ∧ CellsV w b (off + i * 3) l[i]

set_option maxHeartbeats 400000 in
theorem vCompareRows_nn (b1 o1 c1 b2 o2 c2 : Nat) (l1 l2 : List V) (w : World) (h1 : l1.length ≤ 4398046511104) (h2 : l2.length ≤ 4398046511104)
    (hb1 : b1 < w.heap.size) (hb2 : b2 < w.heap.size) (hc1 : ∀ i (h : i < l1.length), CellsV w b1 (o1 + i * 3) l1[i]) (hc2 : ∀ i (h : i < l2.length), CellsV w b2 (o2 + i * 3) l2[i]) :
    Calls Try.prog 54 #[.slice (some ⟨b1, o1, none⟩) l1.length c1, .slice (some ⟨b2, o2, none⟩) l2.length c2] w fun e w' => e = .returned (.int .i64 (cmpRows l1 l2)) ∧ Gr w w' := by
  have HC1 := Lib.hid hc1
  have HC2 := Lib.hid hc2
  clear hc1 hc2
  go_enter Try.func54, Try.ntmps54
  by_cases hlen : l2.length < l1.length
  · go_wp2_with fail
    go_loopw [11] (fun i wr => ∃ k : Nat, k ≤ l2.length ∧ i = .int .i64 k ∧ Gr w wr ∧ Hid (cmpRows l1 l2 = cmpRows (l1.drop k) (l2.drop k))) (fun i _ => l2.length - (intOf i).toNat)
    case atStart => exact ⟨0, by omega, rfl, Gr.refl _, rfl⟩
    case round =>
      obtain ⟨k, hk, rfl, hg, ht⟩ := hrel
      obtain ⟨hcl, hfz⟩ := bcell hg.below
      by_cases hlt : k < l2.length
      · have i1 : k < l1.length := by omega
        have i2 : k < l2.length := by omega
        obtain ⟨p1, p2, p3⟩ := HC1.out k i1
        obtain ⟨q1, q2, q3⟩ := HC2.out k i2
        rw [← hcl _ _ hb1] at p1 p2 p3
        rw [← hcl _ _ hb2] at q1 q2 q3
        have hd : cmpRows (l1.drop k) (l2.drop k) = if l1[k] = l2[k] then cmpRows (l1.drop (k + 1)) (l2.drop (k + 1)) else cmpV l1[k] l2[k] := by
          rw [List.drop_eq_getElem_cons i1, List.drop_eq_getElem_cons i2]; rfl
        have HD := Lib.hid hd
        clear hd hcl hfz
        generalize l1[k] = u at p1 p2 p3 HD
        generalize l2[k] = v at q1 q2 q3 HD
        obtain ⟨uk, un, us⟩ := u
        obtain ⟨vk, vn, vs⟩ := v
        simp only at p1 p2 p3 q1 q2 q3
        have hne := fun W => neV_run uk un us vk vn vs W
        by_cases he : V.mk uk un us = V.mk vk vn vs
        · simp only [he, decide_true, Bool.not_true] at hne
          have hx : Hid (cmpRows l1 l2 = cmpRows (l1.drop (k + 1)) (l2.drop (k + 1))) := by
            have := HD.out; rw [if_pos he] at this; exact ht.out.trans this
          clear he ht HD
          go_wp2_with fail
          go_quiet (fail)
          go_wp2_with fail
          go_roundw
          case rel => exact ⟨k + 1, by omega, by go_num, by first | exact hg.drewN _ | exact (hg.drewN _).drew, hx⟩
          case measure => simp [intOf]; omega
        · simp only [he, decide_false, Bool.not_false] at hne
          have hx : Hid (cmpRows l1 l2 = cmpV ⟨uk, un, us⟩ ⟨vk, vn, vs⟩) := by
            have := HD.out; rw [if_neg he] at this; exact ht.out.trans this
          clear he ht HD
          go_wp2_with fail
          go_quiet (fail)
          clear hne
          go_wp2_with fail
          go_region_with (go_at_call 89; refine (vCompare_any _ _ _ _ _ _ _).mono ?_; rintro e w2 ⟨rfl, hg2⟩)
          all_goals
            go_wp2_with fail
            go_ret
            exact ⟨by rw [hx.out]; try rfl, hg.trans (((Gr.refl _).drewN _).trans ‹_›)⟩
      · have hkM : k = l2.length := by omega
        have hx : Hid (cmpRows l1 l2 = cmpI l1.length l2.length) := by
          refine ht.out.trans ?_
          exact cmpRows_end l1 l2 k (by omega) (by omega) (by omega)
        clear ht hkM hcl hfz
        go_wp2_with (go_at_call 90; refine (cmpInt_any _ _ _).mono ?_; rintro e w2 ⟨rfl, rfl⟩)
        go_ret
        exact ⟨by rw [hx.out]; try rfl, hg⟩
  · go_wp2_with fail
    go_loopw [11] (fun i wr => ∃ k : Nat, k ≤ l1.length ∧ i = .int .i64 k ∧ Gr w wr ∧ Hid (cmpRows l1 l2 = cmpRows (l1.drop k) (l2.drop k))) (fun i _ => l1.length - (intOf i).toNat)
    case atStart => exact ⟨0, by omega, rfl, Gr.refl _, rfl⟩
    case round =>
      obtain ⟨k, hk, rfl, hg, ht⟩ := hrel
      obtain ⟨hcl, hfz⟩ := bcell hg.below
      by_cases hlt : k < l1.length
      · have i1 : k < l1.length := by omega
        have i2 : k < l2.length := by omega
        obtain ⟨p1, p2, p3⟩ := HC1.out k i1
        obtain ⟨q1, q2, q3⟩ := HC2.out k i2
        rw [← hcl _ _ hb1] at p1 p2 p3
        rw [← hcl _ _ hb2] at q1 q2 q3
        have hd : cmpRows (l1.drop k) (l2.drop k) = if l1[k] = l2[k] then cmpRows (l1.drop (k + 1)) (l2.drop (k + 1)) else cmpV l1[k] l2[k] := by
          rw [List.drop_eq_getElem_cons i1, List.drop_eq_getElem_cons i2]; rfl
        have HD := Lib.hid hd
        clear hd hcl hfz
        generalize l1[k] = u at p1 p2 p3 HD
        generalize l2[k] = v at q1 q2 q3 HD
        obtain ⟨uk, un, us⟩ := u
        obtain ⟨vk, vn, vs⟩ := v
        simp only at p1 p2 p3 q1 q2 q3
        have hne := fun W => neV_run uk un us vk vn vs W
        by_cases he : V.mk uk un us = V.mk vk vn vs
        · simp only [he, decide_true, Bool.not_true] at hne
          have hx : Hid (cmpRows l1 l2 = cmpRows (l1.drop (k + 1)) (l2.drop (k + 1))) := by
            have := HD.out; rw [if_pos he] at this; exact ht.out.trans this
          clear he ht HD
          go_wp2_with fail
          go_quiet (fail)
          go_wp2_with fail
          go_roundw
          case rel => exact ⟨k + 1, by omega, by go_num, by first | exact hg.drewN _ | exact (hg.drewN _).drew, hx⟩
          case measure => simp [intOf]; omega
        · simp only [he, decide_false, Bool.not_false] at hne
          have hx : Hid (cmpRows l1 l2 = cmpV ⟨uk, un, us⟩ ⟨vk, vn, vs⟩) := by
            have := HD.out; rw [if_neg he] at this; exact ht.out.trans this
          clear he ht HD
          go_wp2_with fail
          go_quiet (fail)
          clear hne
          go_wp2_with fail
          go_region_with (go_at_call 89; refine (vCompare_any _ _ _ _ _ _ _).mono ?_; rintro e w2 ⟨rfl, hg2⟩)
          all_goals
            go_wp2_with fail
            go_ret
            exact ⟨by rw [hx.out]; try rfl, hg.trans (((Gr.refl _).drewN _).trans ‹_›)⟩
      · have hkM : k = l1.length := by omega
        have hx : Hid (cmpRows l1 l2 = cmpI l1.length l2.length) := by
          refine ht.out.trans ?_
          exact cmpRows_end l1 l2 k (by omega) (by omega) (by omega)
        clear ht hkM hcl hfz
        go_wp2_with (go_at_call 90; refine (cmpInt_any _ _ _).mono ?_; rintro e w2 ⟨rfl, rfl⟩)
        go_ret
        exact ⟨by rw [hx.out]; try rfl, hg⟩

set_option maxHeartbeats 400000 in
/-- One of the rows is empty. -/
theorem vCompareRows_e (a1 a2 : Option Addr) (c1 c2 : Nat) (l1 l2 : List V) (w : World) (h : l1 = [] ∨ l2 = []) (h1 : l1.length ≤ 4398046511104) (h2 : l2.length ≤ 4398046511104) :
    Calls Try.prog 54 #[.slice a1 l1.length c1, .slice a2 l2.length c2] w fun e w' => e = .returned (.int .i64 (cmpRows l1 l2)) ∧ Gr w w' := by
  have hx : Hid (cmpRows l1 l2 = cmpI l1.length l2.length) := by
    have := cmpRows_end l1 l2 0 (by omega) (by omega) (by rcases h with h | h <;> simp [h])
    simp only [List.drop_zero] at this
    exact this
  have hm : l1.length = 0 ∨ l2.length = 0 := by rcases h with h | h <;> simp [h]
  clear h
  generalize l1.length = n1 at *
  generalize l2.length = n2 at *
  rcases hm with rfl | rfl
  · by_cases e : n2 < 0
    · omega
    · go_enter Try.func54, Try.ntmps54
      go_wp2_with fail
      refine wp_loop_rounds 1 ?_; rw [rounds_succ]
      go_wp2_with (go_at_call 90; refine (cmpInt_any _ _ _).mono ?_; rintro e w2 ⟨rfl, rfl⟩)
      go_ret
      exact ⟨by rw [hx.out]; try rfl, Gr.refl _⟩
  · by_cases e : 0 < n1
    all_goals
      go_enter Try.func54, Try.ntmps54
      go_wp2_with fail
      refine wp_loop_rounds 1 ?_; rw [rounds_succ]
      go_wp2_with (go_at_call 90; refine (cmpInt_any _ _ _).mono ?_; rintro e w2 ⟨rfl, rfl⟩)
      go_ret
      exact ⟨by rw [hx.out]; try rfl, Gr.refl _⟩

theorem vCompareRows_any (r1 r2 : Value) (l1 l2 : List V) (w : World) (h1 : RowAt w r1 l1) (h2 : RowAt w r2 l2) :
    Calls Try.prog 54 #[r1, r2] w fun e w' => e = .returned (.int .i64 (cmpRows l1 l2)) ∧ Gr w w' := by
  obtain ⟨a1, c1, rfl, n1, h1⟩ := h1
  obtain ⟨a2, c2, rfl, n2, h2⟩ := h2
  by_cases e1 : l1 = []
  · exact vCompareRows_e a1 a2 c1 c2 l1 l2 w (.inl e1) n1 n2
  · by_cases e2 : l2 = []
    · exact vCompareRows_e a1 a2 c1 c2 l1 l2 w (.inr e2) n1 n2
    · have p1 : 0 < l1.length := List.length_pos_iff.2 e1
      have p2 : 0 < l2.length := List.length_pos_iff.2 e2
      obtain ⟨b1, o1, rfl, hb1, _⟩ := h1 0 p1
      obtain ⟨b2, o2, rfl, hb2, _⟩ := h2 0 p2
      refine vCompareRows_nn b1 o1 c1 b2 o2 c2 l1 l2 w n1 n2 hb1 hb2 (fun i h => ?_) (fun i h => ?_)
      · obtain ⟨b, o, e, _, hc⟩ := h1 i h
        simp only [Option.some.injEq, Addr.mk.injEq] at e
        obtain ⟨rfl, rfl, _⟩ := e
        exact hc
      · obtain ⟨b, o, e, _, hc⟩ := h2 i h
        simp only [Option.some.injEq, Addr.mk.injEq] at e
        obtain ⟨rfl, rfl, _⟩ := e
        exact hc
end Go.Proofs.Ytkhbephcmcnfjaa
