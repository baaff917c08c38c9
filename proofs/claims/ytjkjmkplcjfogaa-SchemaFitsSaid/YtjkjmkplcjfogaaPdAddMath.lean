
/- Adding into an ascending list, once each, is sorting and leaving out what stands twice. -/
import Derived.Test.YtjkjmkplcjfogaaPdMath

import Derived.Lib.SlicesCompact

namespace Go.Proofs.Ytjkjmkplcjfogaa

def addI : List Int → Int → List Int
  | [], n => [n]
  | x :: t, n => if x < n then x :: addI t n else if x = n then x :: t else n :: x :: t
theorem mem_addI : ∀ (l : List Int) (n x : Int), x ∈ addI l n ↔ x ∈ l ∨ x = n
  | [], n, x => by simp [addI]
  | y :: t, n, x => by
    unfold addI
    split
    · rw [List.mem_cons, mem_addI t n x, List.mem_cons]; constructor
      · rintro (h | h | h) <;> simp [h]
      · rintro ((h | h) | h) <;> simp [h]
    · split
      · rename_i h; subst h; constructor
        · intro h; exact .inl h
        · rintro (h | rfl)
          · exact h
          · simp
      · rw [List.mem_cons]; constructor
        · rintro (h | h)
          · exact .inr h
          · exact .inl h
        · rintro (h | h)
          · exact .inr h
          · exact .inl h
theorem asc_addI : ∀ (l : List Int) (n : Int), l.Pairwise (· < ·) → (addI l n).Pairwise (· < ·)
  | [], n, _ => by simp [addI]
  | y :: t, n, h => by
    rw [List.pairwise_cons] at h
    unfold addI
    split
    · rename_i hlt
      rw [List.pairwise_cons]
      refine ⟨fun z hz => ?_, asc_addI t n h.2⟩
      rcases (mem_addI t n z).1 hz with hz | rfl
      · exact h.1 z hz
      · exact hlt
    · split
      · rw [List.pairwise_cons]; exact h
      · rename_i h1 h2
        rw [List.pairwise_cons, List.pairwise_cons]
        refine ⟨fun z hz => ?_, h⟩
        rcases List.mem_cons.1 hz with rfl | hz
        · omega
        · have := h.1 z hz; omega
theorem len_addI : ∀ (l : List Int) (n : Int), (addI l n).length ≤ l.length + 1
  | [], n => by simp [addI]
  | y :: t, n => by
    have := len_addI t n
    unfold addI
    split
    · simp; omega
    · split <;> simp
/-- Ascending lists with the same members are the same. -/
theorem asc_ext : ∀ (l m : List Int), l.Pairwise (· < ·) → m.Pairwise (· < ·) → (∀ x, x ∈ l ↔ x ∈ m) → l = m
  | [], [], _, _, _ => rfl
  | [], y :: t, _, _, h => absurd ((h y).2 (by simp)) (by simp)
  | x :: t, [], _, _, h => absurd ((h x).1 (by simp)) (by simp)
  | x :: t, y :: s, hl, hm, h => by
    rw [List.pairwise_cons] at hl hm
    have hxy : x = y := by
      rcases List.mem_cons.1 ((h x).1 (by simp)) with e | hx
      · exact e
      · rcases List.mem_cons.1 ((h y).2 (by simp)) with e | hy
        · exact e.symm
        · have h1 := hm.1 x hx
          have h2 := hl.1 y hy
          omega
    subst hxy
    rw [asc_ext t s hl.2 hm.2 fun z => ?_]
    constructor
    · intro hz
      rcases List.mem_cons.1 ((h z).1 (by simp [hz])) with e | hz'
      · have := hl.1 z hz; omega
      · exact hz'
    · intro hz
      rcases List.mem_cons.1 ((h z).2 (by simp [hz])) with e | hz'
      · have := hm.1 z hz; omega
      · exact hz'
theorem mem_compact {s : List Int} (x : Int) : x ∈ Lib.compact s ↔ x ∈ s := by
  unfold Lib.compact Lib.compactUpTo
  rw [List.mem_map]
  constructor
  · rintro ⟨j, hj, rfl⟩
    rw [List.mem_filter, List.mem_range] at hj
    rw [getElem!_pos _ j (by simpa using hj.1)]
    simp
  · intro hx
    obtain ⟨j, hj, hjx, hmin⟩ : ∃ j, ∃ h : j < s.length, s[j] = x ∧ ∀ i (h' : i < j), s[i] ≠ x := by
      obtain ⟨j, hj, e⟩ := List.mem_iff_getElem.1 hx
      induction j using Nat.strongRecOn with
      | ind j ih =>
        by_cases hc : ∃ i, ∃ h : i < j, s[i] = x
        · obtain ⟨i, hi, ei⟩ := hc
          exact ih i hi (by omega) ei
        · exact ⟨j, hj, e, fun i hi ei => hc ⟨i, hi, ei⟩⟩
    refine ⟨j, ?_, ?_⟩
    · rw [List.mem_filter, List.mem_range]
      refine ⟨hj, ?_⟩
      by_cases h0 : j = 0
      · subst h0; simp [Lib.keeps]
      · refine Lib.keeps_pos ?_
        rw [getElem!_pos _ j (by simpa using hj), getElem!_pos _ (j - 1) (by simp; omega)]
        simp only [List.getElem_toArray]
        rw [hjx]
        exact fun e => hmin (j - 1) (by omega) e.symm
    · rw [getElem!_pos _ j (by simpa using hj)]; simpa using hjx
theorem asc_compact {s : List Int} (hs : s.Pairwise (· ≤ ·)) : (Lib.compact s).Pairwise (· < ·) := by
  unfold Lib.compact Lib.compactUpTo
  rw [List.pairwise_map]
  have hr : (List.range s.length).Pairwise (· < ·) := List.pairwise_lt_range
  refine List.Pairwise.imp_of_mem ?_ (hr.filter _)
  intro i j hi hj hij
  rw [List.mem_filter, List.mem_range] at hi hj
  rw [getElem!_pos _ i (by simpa using hi.1), getElem!_pos _ j (by simpa using hj.1)]
  simp only [List.getElem_toArray]
  have hle : ∀ a b (ha : a < s.length) (hb : b < s.length), a ≤ b → s[a] ≤ s[b] := fun a b ha hb hab => by
    rcases Nat.lt_or_eq_of_le hab with h | rfl
    · exact (List.pairwise_iff_getElem.1 hs) a b ha hb h
    · exact Int.le_refl _
  have h1 := hle i (j - 1) hi.1 (by omega) (by omega)
  have h2 := hle (j - 1) j (by omega) hj.1 (by omega)
  have hne : s[j - 1] ≠ s[j] := by
    intro e
    have := Lib.keeps_neg (d := s.toArray) (m := j) (by omega) (by
      rw [getElem!_pos _ j (by simpa using hj.1), getElem!_pos _ (j - 1) (by simp; omega)]
      simp only [List.getElem_toArray]; exact e.symm)
    rw [this] at hj
    exact absurd hj.2 (by simp)
  omega
def addAll (l s : List Int) : List Int := s.foldl addI l
theorem addAll_app (l s t : List Int) : addAll l (s ++ t) = addAll (addAll l s) t := by unfold addAll; rw [List.foldl_append]
theorem asc_addAll : ∀ (s l : List Int), l.Pairwise (· < ·) → (addAll l s).Pairwise (· < ·)
  | [], _, h => h
  | x :: t, l, h => asc_addAll t (addI l x) (asc_addI l x h)
theorem mem_addAll : ∀ (s l : List Int) (x : Int), x ∈ addAll l s ↔ x ∈ l ∨ x ∈ s
  | [], l, x => by simp [addAll]
  | y :: t, l, x => by
    show x ∈ addAll (addI l y) t ↔ _
    rw [mem_addAll t (addI l y) x, mem_addI, List.mem_cons]
    constructor
    · rintro ((h | h) | h) <;> simp [h]
    · rintro (h | h | h) <;> simp [h]
theorem len_addAll : ∀ (s l : List Int), (addAll l s).length ≤ l.length + s.length
  | [], l => by simp [addAll]
  | y :: t, l => by
    have h1 := len_addAll t (addI l y)
    have h2 := len_addI l y
    show (addAll (addI l y) t).length ≤ _
    rw [List.length_cons]; omega
theorem addAll_sort (s : List Int) : addAll [] s = Lib.compact (s.mergeSort fun x y => decide (x ≤ y)) := by
  have hs : (s.mergeSort fun x y => decide (x ≤ y)).Pairwise (· ≤ ·) := by
    have := List.pairwise_mergeSort (le := fun x y : Int => decide (x ≤ y)) (by intro a b c h1 h2; simp at *; omega) (by intro a b; simp; omega) s
    exact this.imp (by intro a b h; simpa using h)
  refine asc_ext _ _ (asc_addAll s [] List.Pairwise.nil) (asc_compact hs) fun x => ?_
  rw [mem_addAll, mem_compact, List.mem_mergeSort]
  simp
/-- Where a number is added: the place of the first that is not less. -/
def lowI : List Int → Int → Nat
  | [], _ => 0
  | x :: t, n => if x < n then lowI t n + 1 else 0
theorem lowI_le : ∀ (l : List Int) (n : Int), lowI l n ≤ l.length
  | [], _ => by simp [lowI]
  | x :: t, n => by
    have := lowI_le t n
    unfold lowI
    split <;> simp
    omega
theorem lowI_lt : ∀ (l : List Int) (n : Int) (j : Nat) (_ : j < lowI l n) (h' : j < l.length), l[j] < n
  | [], _, _, _, h' => by simp at h'
  | x :: t, n, j, h, h' => by
    unfold lowI at h
    split at h
    · rename_i hx
      cases j with
      | zero => exact hx
      | succ j => exact lowI_lt t n j (by omega) (by simpa using h')
    · omega
theorem lowI_at : ∀ (l : List Int) (n : Int) (h : lowI l n < l.length), ¬ l[lowI l n] < n
  | [], _, h => by simp at h
  | x :: t, n, h => by
    by_cases hx : x < n
    · have e : lowI (x :: t) n = lowI t n + 1 := by rw [lowI, if_pos hx]
      simp only [e] at h ⊢
      exact lowI_at t n (by simpa using h)
    · have e : lowI (x :: t) n = 0 := by rw [lowI, if_neg hx]
      simp only [e]
      exact hx
theorem addI_low : ∀ (l : List Int) (n : Int), addI l n = if l[lowI l n]? = some n then l else l.take (lowI l n) ++ [n] ++ l.drop (lowI l n)
  | [], n => by simp [addI]
  | x :: t, n => by
    by_cases hx : x < n
    · have e : lowI (x :: t) n = lowI t n + 1 := by rw [lowI, if_pos hx]
      rw [addI, if_pos hx, e, addI_low t n]
      simp only [List.getElem?_cons_succ, List.take_succ_cons, List.drop_succ_cons]
      split <;> simp
    · have e : lowI (x :: t) n = 0 := by rw [lowI, if_neg hx]
      rw [addI, if_neg hx, e]
      simp only [List.getElem?_cons_zero, Option.some.injEq, List.take_zero, List.drop_zero]
      split <;> simp
end Go.Proofs.Ytjkjmkplcjfogaa
