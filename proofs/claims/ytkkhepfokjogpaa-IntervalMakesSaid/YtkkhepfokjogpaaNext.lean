
/- Walk of value.Next. -/
import Derived.Test.YtkkhepfokjogpaaText

namespace Go.Proofs.Ytkkhepfokjogpaa

open Go.RowKit

/-- The value behind a value; the zero value and false if there is none. -/
def nextV (k n : Int) (s : ByteArray) : V × Bool :=
  if vldB k n s = false then (⟨0, 0, ⟨#[]⟩⟩, false)
  else if k = 3 ∧ n = 0 then (⟨3, 1, ⟨#[]⟩⟩, true)
  else if k = 4 ∧ n < 9223372036854775807 then (⟨4, n + 1, ⟨#[]⟩⟩, true)
  else if k = 5 then nextS s
  else firstV (k + 1)

set_option maxHeartbeats 400000 in
theorem vNext_bad (k n : Int) (s : ByteArray) (w : World) (h : vldB k n s = false) : Calls Try.prog 60 #[.agg #[.int .i64 k, .int .i64 n, .string s]] w fun e w' => e = .returned (retV (nextV k n s)) ∧ Below w.heap.size w w' := by
  have hf : nextV k n s = (⟨0, 0, ⟨#[]⟩⟩, false) := by simp only [nextV, if_pos h]
  rw [hf]; clear hf
  have hc := fun W => vValid_any k n s W
  simp only [h] at hc
  have HC := Lib.hid hc
  clear hc h
  go_enter Try.func60, Try.ntmps60
  go_wp2_with (go_at_call 53; refine (HC.out _).mono ?_; rintro e w1 ⟨rfl, hg⟩; have hb0 : Below w.heap.size w w1 := Below.trans (by (repeat (first | exact Below.refl _ _ | assumption | refine Below.drew ?_ | refine Below.setCell ?_ (by simp; try omega) _ | refine Below.alloc ?_ (by simp; try omega) _))) (hg.below.mono (by simp; try omega)); have hz : w.heap.size + 1 < w1.heap.size := (by have := hg.below.size; simp at this; omega); have hz' : w.heap.size < w1.heap.size := (by omega); obtain ⟨hcl, hfz⟩ := bcell hg.below; clear hg)
  exact bodyPost_ret (v := retV (⟨0, 0, ⟨#[]⟩⟩, false)) (by simp [results, Try.results60, go_sem, retV, hcl]) rfl ⟨rfl, by (repeat (first | exact Below.refl _ _ | assumption | refine Below.drew ?_ | refine Below.setCell ?_ (by simp; try omega) _ | refine Below.alloc ?_ (by simp; try omega) _))⟩

set_option maxHeartbeats 400000 in
theorem vNext_bool (s : ByteArray) (w : World) (h : vldB 3 0 s = true) : Calls Try.prog 60 #[.agg #[.int .i64 3, .int .i64 0, .string s]] w fun e w' => e = .returned (retV (nextV 3 0 s)) ∧ Below w.heap.size w w' := by
  have hf : nextV 3 0 s = (⟨3, 1, ⟨#[]⟩⟩, true) := by simp [nextV, h]
  rw [hf]; clear hf
  have hc := fun W => vValid_any 3 0 s W
  simp only [h] at hc
  have HC := Lib.hid hc
  clear hc h
  go_enter Try.func60, Try.ntmps60
  go_wp2_with (go_at_call 53; refine (HC.out _).mono ?_; rintro e w1 ⟨rfl, hg⟩; have hb0 : Below w.heap.size w w1 := Below.trans (by (repeat (first | exact Below.refl _ _ | assumption | refine Below.drew ?_ | refine Below.setCell ?_ (by simp; try omega) _ | refine Below.alloc ?_ (by simp; try omega) _))) (hg.below.mono (by simp; try omega)); have hz : w.heap.size + 1 < w1.heap.size := (by have := hg.below.size; simp at this; omega); have hz' : w.heap.size < w1.heap.size := (by omega); obtain ⟨hcl, hfz⟩ := bcell hg.below; clear hg)
  exact bodyPost_ret (v := retV (⟨3, 1, ⟨#[]⟩⟩, true)) (by simp [results, Try.results60, go_sem, retV, hcl]) rfl ⟨rfl, by (repeat (first | exact Below.refl _ _ | assumption | refine Below.drew ?_ | refine Below.setCell ?_ (by simp; try omega) _ | refine Below.alloc ?_ (by simp; try omega) _))⟩

set_option maxHeartbeats 400000 in
theorem vNext_int (n : Int) (s : ByteArray) (w : World) (h : vldB 4 n s = true) (hn : n < 9223372036854775807) (hlo : -9223372036854775808 ≤ n) : Calls Try.prog 60 #[.agg #[.int .i64 4, .int .i64 n, .string s]] w fun e w' => e = .returned (retV (nextV 4 n s)) ∧ Below w.heap.size w w' := by
  have hf : nextV 4 n s = (⟨4, n + 1, ⟨#[]⟩⟩, true) := by simp [nextV, h, hn]
  rw [hf]; clear hf
  have hc := fun W => vValid_any 4 n s W
  simp only [h] at hc
  have HC := Lib.hid hc
  clear hc h
  go_enter Try.func60, Try.ntmps60
  go_wp2_with (go_at_call 53; refine (HC.out _).mono ?_; rintro e w1 ⟨rfl, hg⟩; have hb0 : Below w.heap.size w w1 := Below.trans (by (repeat (first | exact Below.refl _ _ | assumption | refine Below.drew ?_ | refine Below.setCell ?_ (by simp; try omega) _ | refine Below.alloc ?_ (by simp; try omega) _))) (hg.below.mono (by simp; try omega)); have hz : w.heap.size + 1 < w1.heap.size := (by have := hg.below.size; simp at this; omega); have hz' : w.heap.size < w1.heap.size := (by omega); obtain ⟨hcl, hfz⟩ := bcell hg.below; clear hg)
  exact bodyPost_ret (v := retV (⟨4, n + 1, ⟨#[]⟩⟩, true)) (by simp [results, Try.results60, go_sem, retV, hcl]) rfl ⟨rfl, by (repeat (first | exact Below.refl _ _ | assumption | refine Below.drew ?_ | refine Below.setCell ?_ (by simp; try omega) _ | refine Below.alloc ?_ (by simp; try omega) _))⟩

set_option maxHeartbeats 400000 in
theorem vNext_text (s : ByteArray) (w : World) (h : vldB 5 0 s = true) : Calls Try.prog 60 #[.agg #[.int .i64 5, .int .i64 0, .string s]] w fun e w' => e = .returned (retV (nextV 5 0 s)) ∧ Below w.heap.size w w' := by
  have hs : s.size ≤ 140737488351232 := by
    unfold vldB at h; have := of_decide_eq_true h; omega
  have hf : nextV 5 0 s = nextS s := by simp [nextV, h]
  rw [hf]; clear hf
  have hc := fun W => vValid_any 5 0 s W
  simp only [h] at hc
  have HC := Lib.hid hc
  clear hc h
  have hx : ∀ W, Calls Try.prog 78 #[.string s] W fun e w' => e = .returned (retV (nextS s)) ∧ Below W.heap.size W w' := fun W => by
    by_cases h : s.size < 64
    · exact nextText_short s W h
    · exact nextText_long s W h hs
  generalize nextS s = r at hx ⊢
  simp only [retV] at hx ⊢
  have HX := Lib.hid hx
  clear hx
  go_enter Try.func60, Try.ntmps60
  go_wp2_with (first | (go_at_call 53; refine (HC.out _).mono ?_; rintro e w1 ⟨rfl, hg⟩; have hb0 : Below w.heap.size w w1 := Below.trans (by (repeat (first | exact Below.refl _ _ | assumption | refine Below.drew ?_ | refine Below.setCell ?_ (by simp; try omega) _ | refine Below.alloc ?_ (by simp; try omega) _))) (hg.below.mono (by simp; try omega)); have hz : w.heap.size + 1 < w1.heap.size := (by have := hg.below.size; simp at this; omega); have hz' : w.heap.size < w1.heap.size := (by omega); obtain ⟨hcl, hfz⟩ := bcell hg.below; clear hg) | (go_at_call 78; refine (HX.out _).mono ?_; rintro e w2 ⟨rfl, hg2⟩; have hb2 : Below w.heap.size w w2 := Below.trans ‹Below w.heap.size w _› (hg2.mono (by omega)); have hz2 := hg2.size; obtain ⟨hcl2, hfz2⟩ := bcell hg2; clear hg2))
  exact bodyPost_ret (v := retV r) (by simp [results, Try.results60, go_sem, retV, *]) rfl ⟨rfl, by (repeat (first | exact Below.refl _ _ | assumption | refine Below.drew ?_ | refine Below.setCell ?_ (by simp; try omega) _ | refine Below.alloc ?_ (by simp; try omega) _))⟩

set_option maxHeartbeats 400000 in
theorem vNext_first (k n : Int) (s : ByteArray) (w : World) (h : vldB k n s = true) (h1 : ¬ (k = 3 ∧ n = 0)) (h2 : ¬ (k = 4 ∧ n < 9223372036854775807)) (h5 : k ≠ 5) : Calls Try.prog 60 #[.agg #[.int .i64 k, .int .i64 n, .string s]] w fun e w' => e = .returned (retV (nextV k n s)) ∧ Below w.heap.size w w' := by
  have hf : nextV k n s = firstV (k + 1) := by simp [nextV, h, h1, h2, h5]
  rw [hf]; clear hf
  have hk := vldB_kind h
  have hc := fun W => vValid_any k n s W
  simp only [h] at hc
  have HC := Lib.hid hc
  clear hc h
  have hx : ∀ W, Calls Try.prog 62 #[.int .i64 (k + 1)] W fun e w' => e = .returned (retV (firstV (k + 1))) ∧ Gr W w' := fun W => vFirst_any (k + 1) W
  generalize firstV (k + 1) = r at hx ⊢
  simp only [retV] at hx ⊢
  have HX := Lib.hid hx
  clear hx
  have b5 : (k == 5) = false := by simpa using h5
  by_cases e3 : k = 3
  · have b3 : (n == 0) = false := by simp; omega
    subst e3
    clear h1 h2 h5
    go_enter Try.func60, Try.ntmps60
    go_wp2_with (first | (go_at_call 53; refine (HC.out _).mono ?_; rintro e w1 ⟨rfl, hg⟩; have hb0 : Below w.heap.size w w1 := Below.trans (by (repeat (first | exact Below.refl _ _ | assumption | refine Below.drew ?_ | refine Below.setCell ?_ (by simp; try omega) _ | refine Below.alloc ?_ (by simp; try omega) _))) (hg.below.mono (by simp; try omega)); have hz : w.heap.size + 1 < w1.heap.size := (by have := hg.below.size; simp at this; omega); have hz' : w.heap.size < w1.heap.size := (by omega); obtain ⟨hcl, hfz⟩ := bcell hg.below; clear hg) | (go_at_call 62; refine (HX.out _).mono ?_; rintro e w2 ⟨rfl, hg2⟩; have hb2 : Below w.heap.size w w2 := Below.trans ‹Below w.heap.size w _› (hg2.below.mono (by omega)); have hz2 := hg2.below.size; obtain ⟨hcl2, hfz2⟩ := bcell hg2.below; clear hg2))
    all_goals exact bodyPost_ret (v := retV r) (by simp [results, Try.results60, go_sem, retV, *]) rfl ⟨rfl, by (repeat (first | exact Below.refl _ _ | assumption | refine Below.drew ?_ | refine Below.setCell ?_ (by simp; try omega) _ | refine Below.alloc ?_ (by simp; try omega) _))⟩
  · have b3 : (k == 3) = false := by simpa using e3
    by_cases e4 : k = 4
    · have hn4 : 9223372036854775807 ≤ n := by omega
      subst e4
      clear h1 h2 h5 e3
      go_enter Try.func60, Try.ntmps60
      go_wp2_with (first | (go_at_call 53; refine (HC.out _).mono ?_; rintro e w1 ⟨rfl, hg⟩; have hb0 : Below w.heap.size w w1 := Below.trans (by (repeat (first | exact Below.refl _ _ | assumption | refine Below.drew ?_ | refine Below.setCell ?_ (by simp; try omega) _ | refine Below.alloc ?_ (by simp; try omega) _))) (hg.below.mono (by simp; try omega)); have hz : w.heap.size + 1 < w1.heap.size := (by have := hg.below.size; simp at this; omega); have hz' : w.heap.size < w1.heap.size := (by omega); obtain ⟨hcl, hfz⟩ := bcell hg.below; clear hg) | (go_at_call 62; refine (HX.out _).mono ?_; rintro e w2 ⟨rfl, hg2⟩; have hb2 : Below w.heap.size w w2 := Below.trans ‹Below w.heap.size w _› (hg2.below.mono (by omega)); have hz2 := hg2.below.size; obtain ⟨hcl2, hfz2⟩ := bcell hg2.below; clear hg2))
      all_goals exact bodyPost_ret (v := retV r) (by simp [results, Try.results60, go_sem, retV, *]) rfl ⟨rfl, by (repeat (first | exact Below.refl _ _ | assumption | refine Below.drew ?_ | refine Below.setCell ?_ (by simp; try omega) _ | refine Below.alloc ?_ (by simp; try omega) _))⟩
    · have b4 : (k == 4) = false := by simpa using e4
      clear h1 h2 h5 e3 e4
      go_enter Try.func60, Try.ntmps60
      go_wp2_with (first | (go_at_call 53; refine (HC.out _).mono ?_; rintro e w1 ⟨rfl, hg⟩; have hb0 : Below w.heap.size w w1 := Below.trans (by (repeat (first | exact Below.refl _ _ | assumption | refine Below.drew ?_ | refine Below.setCell ?_ (by simp; try omega) _ | refine Below.alloc ?_ (by simp; try omega) _))) (hg.below.mono (by simp; try omega)); have hz : w.heap.size + 1 < w1.heap.size := (by have := hg.below.size; simp at this; omega); have hz' : w.heap.size < w1.heap.size := (by omega); obtain ⟨hcl, hfz⟩ := bcell hg.below; clear hg) | (go_at_call 62; refine (HX.out _).mono ?_; rintro e w2 ⟨rfl, hg2⟩; have hb2 : Below w.heap.size w w2 := Below.trans ‹Below w.heap.size w _› (hg2.below.mono (by omega)); have hz2 := hg2.below.size; obtain ⟨hcl2, hfz2⟩ := bcell hg2.below; clear hg2))
      all_goals exact bodyPost_ret (v := retV r) (by simp [results, Try.results60, go_sem, retV, *]) rfl ⟨rfl, by (repeat (first | exact Below.refl _ _ | assumption | refine Below.drew ?_ | refine Below.setCell ?_ (by simp; try omega) _ | refine Below.alloc ?_ (by simp; try omega) _))⟩

theorem vNext_any (k n : Int) (s : ByteArray) (w : World) (hlo : -9223372036854775808 ≤ n) : Calls Try.prog 60 #[.agg #[.int .i64 k, .int .i64 n, .string s]] w fun e w' => e = .returned (retV (nextV k n s)) ∧ Below w.heap.size w w' := by
  by_cases h : vldB k n s = true
  · by_cases h1 : k = 3 ∧ n = 0
    · obtain ⟨rfl, rfl⟩ := h1; exact vNext_bool s w h
    · by_cases h2 : k = 4 ∧ n < 9223372036854775807
      · obtain ⟨rfl, h2⟩ := h2; exact vNext_int n s w h h2 hlo
      · by_cases h5 : k = 5
        · subst h5
          have h0 : n = 0 := by
            unfold vldB at h
            have := of_decide_eq_true h
            omega
          subst h0
          exact vNext_text s w h
        · exact vNext_first k n s w h h1 h2 h5
  · exact vNext_bad k n s w (by simpa using h)
end Go.Proofs.Ytkkhepfokjogpaa
