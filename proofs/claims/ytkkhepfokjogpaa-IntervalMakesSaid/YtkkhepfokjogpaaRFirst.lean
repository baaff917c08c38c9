
/- The reference First. -/
import Derived.Test.YtkkhepfokjogpaaFirst

namespace Go.Proofs.Ytkkhepfokjogpaa

open Go.RowKit
set_option maxHeartbeats 400000 in
theorem rFirst_any (k : Int) (w : World) : Calls Try.prog 63 #[.int .i64 k] w fun e w' => e = .returned (retV (firstV k)) ∧ Gr w w' := by
  by_cases h : k = 1 ∨ k = 2 ∨ k = 3 ∨ k = 5
  · have hf : firstV k = (⟨k, 0, ⟨#[]⟩⟩, true) := by simp only [firstV, if_pos h]
    rw [hf]; clear hf
    rcases h with rfl | rfl | rfl | rfl
    all_goals
      go_enter Try.func63, Try.ntmps63
      go_wp2
      exact bodyPost_ret (by simp [results, Try.results63, go_sem, retV]) rfl ⟨rfl, (Gr.refl _).alloc _⟩
  · by_cases h4 : k = 4
    · subst h4
      have hf : firstV 4 = (⟨4, -9223372036854775808, ⟨#[]⟩⟩, true) := rfl
      rw [hf]; clear hf
      go_enter Try.func63, Try.ntmps63
      go_wp2
      exact bodyPost_ret (by simp [results, Try.results63, go_sem, retV]) rfl ⟨rfl, (Gr.refl _).alloc _⟩
    · have hf : firstV k = (⟨0, 0, ⟨#[]⟩⟩, false) := by simp only [firstV, if_neg h, if_neg h4]
      rw [hf]; clear hf
      have b1 : (k == 1) = false := by simp; omega
      have b2 : (k == 2) = false := by simp; omega
      have b3 : (k == 3) = false := by simp; omega
      have b4 : (k == 4) = false := by simp; omega
      have b5 : (k == 5) = false := by simp; omega
      clear h h4
      go_enter Try.func63, Try.ntmps63
      go_wp2
      exact bodyPost_ret (by simp [results, Try.results63, go_sem, retV]) rfl ⟨rfl, (Gr.refl _).alloc _⟩

end Go.Proofs.Ytkkhepfokjogpaa
