
/- Walks of value.First and its reference; the references Valid, Real. -/
import Derived.Test.YtjcbmeannhafjaaVal

namespace Go.Proofs.Ytjcbmeannhafjaa

open Go.RowKit

/-- The least value of a kind; the zero value and false if there is no such kind. -/
def firstV (k : Int) : V × Bool := if k = 1 ∨ k = 2 ∨ k = 3 ∨ k = 5 then (⟨k, 0, ⟨#[]⟩⟩, true) else if k = 4 then (⟨4, -9223372036854775808, ⟨#[]⟩⟩, true) else (⟨0, 0, ⟨#[]⟩⟩, false)

/-- A value and a boolean as a call returns them. -/
def retV (x : V × Bool) : Value := .tuple #[.agg #[.int .i64 x.1.k, .int .i64 x.1.n, .string x.1.s], .bool x.2]

set_option maxHeartbeats 400000 in
theorem rValid_any (k n : Int) (s : ByteArray) (w : World) :
    Calls Try.prog 119 #[.agg #[.int .i64 k, .int .i64 n, .string s]] w fun e w' => e = .returned (.bool (vldB k n s)) ∧ Gr w w' := by
  by_cases h12 : k = 1 ∨ k = 2
  · by_cases h0 : n = 0
    · subst h0
      by_cases hs : s.size = 0
      · have es := empty_toList s hs
        have hv : vldB k 0 s = true := by simp [vldB, hs]; omega
        rw [hv]; clear hv
        rcases h12 with rfl | rfl
        all_goals
          go_enter Try.func119, Try.ntmps119
          go_wp2
          go_ret
          exact ⟨rfl, (Gr.refl _).alloc _⟩
      · have es : s.toList.isEmpty = false := by simpa using nonempty_toList s hs
        have hv : vldB k 0 s = false := by simp [vldB, hs]; omega
        rw [hv]; clear hv
        rcases h12 with rfl | rfl
        all_goals
          go_enter Try.func119, Try.ntmps119
          go_wp2
          go_ret
          exact ⟨rfl, (Gr.refl _).alloc _⟩
    · have hv : vldB k n s = false := by simp [vldB, h0]; omega
      rw [hv]; clear hv
      have b0 : (n == 0) = false := by simpa using h0
      rcases h12 with rfl | rfl
      all_goals
        go_enter Try.func119, Try.ntmps119
        go_wp2
        go_ret
        exact ⟨rfl, (Gr.refl _).alloc _⟩
  · by_cases h3 : k = 3
    · subst h3
      by_cases hs : s.size = 0
      · have es := empty_toList s hs
        by_cases h0 : n = 0
        · subst h0
          have hv : vldB 3 0 s = true := by simp [vldB, hs]
          rw [hv]; clear hv
          go_enter Try.func119, Try.ntmps119
          go_wp2
          go_ret
          exact ⟨rfl, (Gr.refl _).alloc _⟩
        · by_cases h1 : n = 1
          · subst h1
            have hv : vldB 3 1 s = true := by simp [vldB, hs]
            rw [hv]; clear hv
            go_enter Try.func119, Try.ntmps119
            go_wp2
            go_ret
            exact ⟨rfl, (Gr.refl _).alloc _⟩
          · have hv : vldB 3 n s = false := by simp [vldB, hs, h0, h1]
            rw [hv]; clear hv
            have b0 : (n == 0) = false := by simpa using h0
            have b1 : (n == 1) = false := by simpa using h1
            go_enter Try.func119, Try.ntmps119
            go_wp2
            go_ret
            exact ⟨rfl, (Gr.refl _).alloc _⟩
      · have es : s.toList.isEmpty = false := by simpa using nonempty_toList s hs
        have hv : vldB 3 n s = false := by simp [vldB, hs]
        rw [hv]; clear hv
        by_cases h0 : n = 0
        · subst h0
          go_enter Try.func119, Try.ntmps119
          go_wp2
          go_ret
          exact ⟨rfl, (Gr.refl _).alloc _⟩
        · have b0 : (n == 0) = false := by simpa using h0
          by_cases h1 : n = 1
          · subst h1
            clear b0 h0
            go_enter Try.func119, Try.ntmps119
            go_wp2
            go_ret
            exact ⟨rfl, (Gr.refl _).alloc _⟩
          · have b1 : (n == 1) = false := by simpa using h1
            go_enter Try.func119, Try.ntmps119
            go_wp2
            go_ret
            exact ⟨rfl, (Gr.refl _).alloc _⟩
    · by_cases h4 : k = 4
      · subst h4
        by_cases hs : s.size = 0
        · have es := empty_toList s hs
          have hv : vldB 4 n s = true := by simp [vldB, hs]
          rw [hv]; clear hv
          go_enter Try.func119, Try.ntmps119
          go_wp2
          go_ret
          exact ⟨rfl, (Gr.refl _).alloc _⟩
        · have es : s.toList.isEmpty = false := by simpa using nonempty_toList s hs
          have hv : vldB 4 n s = false := by simp [vldB, hs]
          rw [hv]; clear hv
          go_enter Try.func119, Try.ntmps119
          go_wp2
          go_ret
          exact ⟨rfl, (Gr.refl _).alloc _⟩
      · by_cases h5 : k = 5
        · subst h5
          by_cases h0 : n = 0
          · subst h0
            by_cases hs : s.size ≤ 64
            · have hv : vldB 5 0 s = true := by simp [vldB, hs]
              rw [hv]; clear hv
              go_enter Try.func119, Try.ntmps119
              go_wp2
              go_ret
              exact ⟨ret_bool (by simp; omega), (Gr.refl _).alloc _⟩
            · have hv : vldB 5 0 s = false := by simp [vldB, hs]
              rw [hv]; clear hv
              go_enter Try.func119, Try.ntmps119
              go_wp2
              go_ret
              exact ⟨ret_bool (by simp; omega), (Gr.refl _).alloc _⟩
          · have hv : vldB 5 n s = false := by simp [vldB, h0]
            rw [hv]; clear hv
            have b0 : (n == 0) = false := by simpa using h0
            go_enter Try.func119, Try.ntmps119
            go_wp2
            go_ret
            exact ⟨rfl, (Gr.refl _).alloc _⟩
        · have hv : vldB k n s = false := by simp [vldB]; omega
          rw [hv]; clear hv
          have b1 : (k == 1) = false := by simp; omega
          have b2 : (k == 2) = false := by simp; omega
          have b3 : (k == 3) = false := by simp; omega
          have b4 : (k == 4) = false := by simp; omega
          have b5 : (k == 5) = false := by simp; omega
          clear h12 h3 h4 h5
          go_enter Try.func119, Try.ntmps119
          go_wp2
          go_ret
          exact ⟨rfl, (Gr.refl _).alloc _⟩

end Go.Proofs.Ytjcbmeannhafjaa
