/- Walks of part and same. -/
import Derived.Test.YtkhbephcmcnfjaaRefUint
import Derived.Laws.IdiomStrings
import Derived.Laws.BytesArg
namespace Go.Proofs.Ytkhbephcmcnfjaa
open Go.RowKit Go.Deep

/-- What a slice of bytes is as a string. -/
theorem conv_bytes {w : World} {v : Value} {L : List UInt8} (h : Reads w v L) : (convert 22 9 v).run Try.prog w = .ok (.string ⟨L.toArray⟩) w := by
  obtain ⟨a, c, rfl, h1, h2, h3, h4⟩ := h
  cases a with
  | none =>
    have := h3 rfl
    have hl : L = [] := List.eq_nil_of_length_eq_zero (by omega)
    subst hl
    exact run_convert_bytes_nil w 22 5 Try.underlying22 Try.underlying5 _ _ _ Try.underlying9
  | some p =>
    exact run_convert_bytes_back w 22 9 5 p c L Try.underlying22 Try.underlying5 Try.underlying9 (fun j hj => h4 p rfl j _ (by simp [bts, hj]))

set_option maxRecDepth 100000 in
theorem part_any (v : Value) (L : List UInt8) (w : World) (h : Reads w v L) : Calls Try.prog 20 #[v] w fun e w' => ∃ v', e = .returned v' ∧ Reads w v' (L.take 200) ∧ w' = w := by
  obtain ⟨a, c, rfl, h1, h2, h3, h4⟩ := h
  have H4 := Lib.hid h4
  have hlc : (L.length : Int) ≤ c := by omega
  clear h4
  go_enter Try.func20, Try.ntmps20
  go_wp2
  case inl =>
    go_ret
    refine ⟨_, rfl, ⟨a, c, by rw [List.length_take, Nat.min_eq_left (by omega)]; rfl, by rw [List.length_take]; omega, h2, h3, fun p hp j u hj => ?_⟩, rfl⟩
    refine H4.out p hp j u ?_
    simp only [bts, List.getElem?_map, List.getElem?_take] at hj ⊢
    by_cases hjl : j < 200
    · rwa [if_pos hjl] at hj
    · rw [if_neg hjl] at hj; simp at hj
  case inr =>
    go_ret
    refine ⟨_, rfl, ?_, rfl⟩
    rw [List.take_of_length_le (by omega)]
    exact ⟨a, c, rfl, h1, h2, h3, H4.out⟩

set_option maxRecDepth 100000 in
theorem same_any (va vb : Value) (L M : List UInt8) (w : World) (ha : Reads w va L) (hb : Reads w vb M) : Calls Try.prog 22 #[va, vb] w fun e w' => e = .returned (.bool (decide (L = M))) ∧ w' = w := by
  have ca := conv_bytes ha
  have cb := conv_bytes hb
  clear ha hb
  go_enter Try.func22, Try.ntmps22
  go_wp2
  go_ret
  exact ⟨by show Ending.returned (.bool _) = _; congr 2; rw [Bool.eq_iff_iff]; simp, rfl⟩
end Go.Proofs.Ytkhbephcmcnfjaa
