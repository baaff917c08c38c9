
/- Relations as plain lists: strictly ascending lists with the same members are one. -/
import Derived.Test.YtmhgmlnnipdomaaRow

namespace Go.Proofs.Ytmhgmlnnipdomaa

open Go.RowKit

/-- A relation: strictly ascending rows. -/
def Rel (L : List (List V)) : Prop := L.Pairwise (fun a b => cmpRows a b < 0)

theorem cmpRows_lt_trans {a b c : List V} (h1 : cmpRows a b < 0) (h2 : cmpRows b c < 0) : cmpRows a c < 0 := by
  have h := cmpRows_trans a b c (by omega) (by omega)
  by_cases e : cmpRows a c = 0
  · have e' := (cmpRows_zero _ _).1 e
    subst e'
    have := cmpRows_flip a b
    omega
  · omega
theorem cmpRows_le_lt {a b c : List V} (h1 : cmpRows a b ≤ 0) (h2 : cmpRows b c < 0) : cmpRows a c < 0 := by
  by_cases e : cmpRows a b = 0
  · rw [(cmpRows_zero _ _).1 e]; exact h2
  · exact cmpRows_lt_trans (by omega) h2

theorem rel_unique : ∀ (L M : List (List V)), Rel L → Rel M → (∀ r, r ∈ L ↔ r ∈ M) → L = M
  | [], [], _, _, _ => rfl
  | [], m :: M, _, _, h => by have := (h m).2 (by simp); simp at this
  | l :: L, [], _, _, h => by have := (h l).1 (by simp); simp at this
  | l :: L, m :: M, hL, hM, h => by
    unfold Rel at hL hM
    rw [List.pairwise_cons] at hL hM
    have e : l = m := by
      have h1 := (h l).1 (by simp)
      have h2 := (h m).2 (by simp)
      rw [List.mem_cons] at h1 h2
      rcases h1 with h1 | h1
      · exact h1
      · rcases h2 with h2 | h2
        · exact h2.symm
        · have a := hM.1 l h1
          have b := hL.1 m h2
          have := cmpRows_flip l m
          omega
    subst e
    have hs : ∀ (a : List V) (X : List (List V)), (∀ x ∈ X, cmpRows a x < 0) → ¬ a ∈ X := by
      intro a X hx ha
      have := hx a ha
      have := (cmpRows_zero a a).2 rfl
      omega
    congr 1
    refine rel_unique L M hL.2 hM.2 (fun r => ?_)
    have hr := h r
    simp only [List.mem_cons] at hr
    constructor
    · intro hm
      rcases hr.1 (.inr hm) with h1 | h1
      · subst h1; exact absurd hm (hs _ _ hL.1)
      · exact h1
    · intro hm
      rcases hr.2 (.inr hm) with h1 | h1
      · subst h1; exact absurd hm (hs _ _ hM.1)
      · exact h1

theorem mem_compN (f : Nat → E) : ∀ m z, z ∈ compN f m → ∃ j, j < m ∧ z = f j
  | 0, z, h => by simp [compN] at h
  | m + 1, z, h => by
    simp only [compN] at h
    split at h
    · rw [List.mem_append] at h
      rcases h with h | h
      · obtain ⟨j, hj, e⟩ := mem_compN f m z h; exact ⟨j, by omega, e⟩
      · simp at h; exact ⟨m, by omega, h⟩
    · obtain ⟨j, hj, e⟩ := mem_compN f m z h; exact ⟨j, by omega, e⟩
theorem rows_compN (f : Nat → E) : ∀ m r, r ∈ (compN f m).map (·.2) ↔ ∃ j, j < m ∧ (f j).2 = r
  | 0, r => by simp [compN]
  | m + 1, r => by
    have ih := rows_compN f m
    simp only [compN]
    split
    · rw [List.map_append, List.mem_append, ih]
      constructor
      · rintro (⟨j, hj, e⟩ | h)
        · exact ⟨j, by omega, e⟩
        · simp at h; exact ⟨m, by omega, h.symm⟩
      · rintro ⟨j, hj, e⟩
        by_cases hm : j = m
        · right; subst hm; simp [e]
        · left; exact ⟨j, by omega, e⟩
    · rename_i hk
      have h0 : m ≠ 0 := fun e => hk (.inl e)
      have he : (f m).2 = (f (m - 1)).2 := by
        by_cases e : (f m).2 = (f (m - 1)).2
        · exact e
        · exact absurd (.inr e) hk
      rw [ih]
      constructor
      · rintro ⟨j, hj, e⟩; exact ⟨j, by omega, e⟩
      · rintro ⟨j, hj, e⟩
        by_cases hm : j = m
        · subst hm; exact ⟨j - 1, by omega, by rw [← he]; exact e⟩
        · exact ⟨j, by omega, e⟩
theorem rel_compN (f : Nat → E) : ∀ m, (∀ i j, i < j → j < m → cmpRows (f i).2 (f j).2 ≤ 0) → Rel ((compN f m).map (·.2))
  | 0, _ => by simp [compN, Rel]
  | m + 1, h => by
    have ih := rel_compN f m (fun i j h1 h2 => h i j h1 (by omega))
    simp only [compN]
    split
    · rename_i hk
      unfold Rel at *
      rw [List.map_append, List.pairwise_append]
      refine ⟨ih, by simp, fun a ha b hb => ?_⟩
      simp at hb
      subst hb
      obtain ⟨j, hj, e⟩ := (rows_compN f m a).1 ha
      subst e
      rcases hk with hk | hk
      · omega
      · have h1 := h (m - 1) m (by omega) (by omega)
        have h2 : cmpRows (f (m - 1)).2 (f m).2 < 0 := by
          by_cases e : cmpRows (f (m - 1)).2 (f m).2 = 0
          · exact absurd ((cmpRows_zero _ _).1 e).symm hk
          · omega
        by_cases e : j = m - 1
        · subst e; exact h2
        · exact cmpRows_le_lt (h j (m - 1) (by omega) (by omega)) h2
    · exact ih
end Go.Proofs.Ytmhgmlnnipdomaa
