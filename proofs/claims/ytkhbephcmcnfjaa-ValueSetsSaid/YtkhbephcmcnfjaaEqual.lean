/- Walks of slices.Equal on rows and of value.equalRows. -/
import Derived.Test.YtkhbephcmcnfjaaRow
namespace Go.Proofs.Ytkhbephcmcnfjaa
open Go.RowKit

/-- The world has drawn; nothing else. -/
def Dr (w w' : World) : Prop := ∃ m, w' = w.drewN m
theorem Dr.refl (w : World) : Dr w w := ⟨0, rfl⟩
theorem Dr.drewN {w w' : World} (h : Dr w w') (n : Nat) : Dr w (w'.drewN n) := by
  obtain ⟨m, rfl⟩ := h
  exact ⟨m + n, by rw [World.drewN_drewN]⟩
theorem Dr.drew {w w' : World} (h : Dr w w') : Dr w w'.drew := h.drewN 1
theorem Dr.gr {w w' : World} (h : Dr w w') : Gr w w' := by
  obtain ⟨m, rfl⟩ := h
  exact (Gr.refl _).drewN _

theorem drop_eq_iff (l1 l2 : List V) (k : Nat) (i1 : k < l1.length) (i2 : k < l2.length) : (l1.drop k = l2.drop k) ↔ (l1[k] = l2[k] ∧ l1.drop (k + 1) = l2.drop (k + 1)) := by
  rw [List.drop_eq_getElem_cons i1, List.drop_eq_getElem_cons i2, List.cons.injEq]

set_option maxHeartbeats 400000 in
theorem sEqual_len (a1 a2 : Option Addr) (c1 c2 n1 n2 : Nat) (w : World) (h : ¬ n1 = n2) :
    Calls Try.prog 91 #[.slice a1 n1 c1, .slice a2 n2 c2] w fun e w' => e = .returned (.bool false) ∧ Dr w w' := by
  have hb : ((n1 : Int) != n2) = true := by simp; omega
  go_enter Try.func91, Try.ntmps91
  go_wp2_with fail
  go_ret
  exact ⟨rfl, Dr.refl _⟩

set_option maxHeartbeats 400000 in
theorem sEqual_e (a1 a2 : Option Addr) (c1 c2 : Nat) (w : World) :
    Calls Try.prog 91 #[.slice a1 0 c1, .slice a2 0 c2] w fun e w' => e = .returned (.bool true) ∧ Dr w w' := by
  go_enter Try.func91, Try.ntmps91
  go_wp2_with fail
  refine wp_loop_rounds 1 ?_; rw [rounds_succ]
  go_wp2_with fail
  go_ret
  exact ⟨rfl, Dr.refl _⟩

set_option maxHeartbeats 400000 in
theorem sEqual_nn (b1 o1 c1 b2 o2 c2 : Nat) (l1 l2 : List V) (w : World) (hn : l1.length = l2.length) (h1 : l1.length ≤ 4398046511104)
    (hb1 : b1 < w.heap.size) (hb2 : b2 < w.heap.size) (hc1 : ∀ i (h : i < l1.length), CellsV w b1 (o1 + i * 3) l1[i]) (hc2 : ∀ i (h : i < l2.length), CellsV w b2 (o2 + i * 3) l2[i]) :
    Calls Try.prog 91 #[.slice (some ⟨b1, o1, none⟩) l1.length c1, .slice (some ⟨b2, o2, none⟩) l1.length c2] w fun e w' => e = .returned (.bool (decide (l1 = l2))) ∧ Dr w w' := by
  have HC1 := Lib.hid hc1
  have HC2 := Lib.hid hc2
  have HN := Lib.hid hn
  clear hc1 hc2 hn
  go_enter Try.func91, Try.ntmps91
  go_wp2_with fail
  go_loopw [13] (fun i wr => ∃ k : Nat, k ≤ l1.length ∧ i = .int .i64 k ∧ Dr w wr ∧ Hid ((l1 = l2) ↔ (l1.drop k = l2.drop k))) (fun i _ => l1.length - (intOf i).toNat)
  case atStart => exact ⟨0, by omega, rfl, Dr.refl _, Iff.rfl⟩
  case round =>
    obtain ⟨k, hk, rfl, hg, ht⟩ := hrel
    obtain ⟨hcl, hfz⟩ := bcell hg.gr.below
    by_cases hlt : k < l1.length
    · have i2 : k < l2.length := by have := HN.out; omega
      obtain ⟨p1, p2, p3⟩ := HC1.out k hlt
      obtain ⟨q1, q2, q3⟩ := HC2.out k i2
      rw [← hcl _ _ hb1] at p1 p2 p3
      rw [← hcl _ _ hb2] at q1 q2 q3
      have hd := drop_eq_iff l1 l2 k hlt i2
      have HD := Lib.hid hd
      clear hd hcl hfz
      generalize l1[k] = u at p1 p2 p3 HD
      generalize l2[k] = v at q1 q2 q3 HD
      obtain ⟨uk, un, us⟩ := u
      obtain ⟨vk, vn, vs⟩ := v
      simp only at p1 p2 p3 q1 q2 q3
      have hne := fun W => neV_run uk un us vk vn vs W
      by_cases he : V.mk uk un us = V.mk vk vn vs
      · simp only [he, decide_true, Bool.not_true] at hne
        have hx : Hid ((l1 = l2) ↔ (l1.drop (k + 1) = l2.drop (k + 1))) := by
          refine ht.out.trans (HD.out.trans ⟨fun h => h.2, fun h => ⟨he, h⟩⟩)
        clear he ht HD
        go_wp2_with fail
        go_quiet (fail)
        go_wp2_with fail
        go_roundw
        case rel => exact ⟨k + 1, by omega, by go_num, by first | exact hg.drewN _ | exact (hg.drewN _).drew, hx⟩
        case measure => simp [intOf]; omega
      · simp only [he, decide_false, Bool.not_false] at hne
        have hx : Hid (decide (l1 = l2) = false) := by
          have : ¬ l1 = l2 := fun h => he (HD.out.1 (ht.out.1 h)).1
          show decide (l1 = l2) = false
          simpa using this
        clear he ht HD
        go_wp2_with fail
        go_quiet (fail)
        go_wp2_with fail
        go_ret
        exact ⟨by rw [hx.out]; try rfl, by first | exact hg.drewN _ | exact (hg.drewN _).drew⟩
    · have hx : Hid (decide (l1 = l2) = true) := by
        have hkl : k = l1.length := by omega
        have : l1 = l2 := by
          refine ht.out.2 ?_
          rw [List.drop_eq_nil_of_le (by omega), List.drop_eq_nil_of_le (by have := HN.out; omega)]
        show decide (l1 = l2) = true
        simpa using this
      clear ht hcl hfz
      go_wp2_with fail
      go_ret
      exact ⟨by rw [hx.out]; try rfl, hg⟩

theorem sEqual_any (r1 r2 : Value) (l1 l2 : List V) (w : World) (h1 : RowAt w r1 l1) (h2 : RowAt w r2 l2) :
    Calls Try.prog 91 #[r1, r2] w fun e w' => e = .returned (.bool (decide (l1 = l2))) ∧ Dr w w' := by
  obtain ⟨a1, c1, rfl, n1, h1⟩ := h1
  obtain ⟨a2, c2, rfl, n2, h2⟩ := h2
  by_cases hl : l1.length = l2.length
  · by_cases e1 : l1 = []
    · subst e1
      have e2 : l2 = [] := List.eq_nil_of_length_eq_zero (by simpa using hl.symm)
      subst e2
      exact sEqual_e a1 a2 c1 c2 w
    · have p1 : 0 < l1.length := List.length_pos_iff.2 e1
      obtain ⟨b1, o1, rfl, hb1, _⟩ := h1 0 p1
      obtain ⟨b2, o2, rfl, hb2, _⟩ := h2 0 (by omega)
      have := sEqual_nn b1 o1 c1 b2 o2 c2 l1 l2 w hl n1 hb1 hb2 (fun i h => ?_) (fun i h => ?_)
      · rw [← hl]; exact this
      · obtain ⟨b, o, e, _, hc⟩ := h1 i h
        simp only [Option.some.injEq, Addr.mk.injEq] at e
        obtain ⟨rfl, rfl, _⟩ := e
        exact hc
      · obtain ⟨b, o, e, _, hc⟩ := h2 i h
        simp only [Option.some.injEq, Addr.mk.injEq] at e
        obtain ⟨rfl, rfl, _⟩ := e
        exact hc
  · have hd : decide (l1 = l2) = false := by
      have : ¬ l1 = l2 := fun e => hl (by rw [e])
      simpa using this
    rw [hd]
    exact sEqual_len a1 a2 c1 c2 l1.length l2.length w hl

set_option maxHeartbeats 400000 in
theorem vEqualRows_any (r1 r2 : Value) (l1 l2 : List V) (w : World) (h1 : RowAt w r1 l1) (h2 : RowAt w r2 l2) :
    Calls Try.prog 56 #[r1, r2] w fun e w' => e = .returned (.bool (decide (l1 = l2))) ∧ Dr w w' := by
  have h := sEqual_any r1 r2 l1 l2 w h1 h2
  generalize decide (l1 = l2) = x at h ⊢
  have H := Lib.hid h
  clear h h1 h2
  go_enter Try.func56, Try.ntmps56
  go_wp2_with (go_at_call 91; refine H.out.mono ?_; rintro e w2 ⟨rfl, hg⟩)
  go_ret
  exact ⟨rfl, hg⟩
end Go.Proofs.Ytkhbephcmcnfjaa
