
/- The reference First. -/
import Derived.Test.YtjcbmeannhafjaaFirst

import Derived.Test.YtjcbmeannhafjaaNext

import Derived.Deep.RegionHeld3

namespace Go.Proofs.Ytjcbmeannhafjaa

open Go.RowKit
set_option maxHeartbeats 400000 in
theorem rReal_any (k n : Int) (s : ByteArray) (w : World) :
    Calls Try.prog 111 #[.agg #[.int .i64 k, .int .i64 n, .string s]] w fun e w' => e = .returned (.bool (realB k n s)) ∧ Gr w w' := by
  have hc := fun W => rValid_any k n s W
  have hw : w.heap.size < w.heap.size + 1 := by omega
  by_cases hv : vldB k n s = true
  · by_cases h : 3 ≤ k
    all_goals
      simp only [realB, h, hv] at hc ⊢
      have HC := Lib.hid hc
      clear hc hv
      go_enter Try.func111, Try.ntmps111
      go_wp2_with (go_at_call 119; refine (HC.out _).mono ?_; rintro e w' ⟨rfl, hg⟩; obtain ⟨hcl, hfz⟩ := bcell hg.below)
      go_ret
      first | exact ⟨rfl, Gr.trans ((Gr.refl _).alloc _) hg⟩ | exact ⟨ret_bool (by simp; omega), Gr.trans ((Gr.refl _).alloc _) hg⟩
  · have hv' : vldB k n s = false := by simpa using hv
    simp only [realB, hv', Bool.and_false] at hc ⊢
    have HC := Lib.hid hc
    clear hc hv hv'
    go_enter Try.func111, Try.ntmps111
    go_wp2_with (go_at_call 119; refine (HC.out _).mono ?_; rintro e w' ⟨rfl, hg⟩)
    go_ret
    exact ⟨rfl, Gr.trans ((Gr.refl _).alloc _) hg⟩
end Go.Proofs.Ytjcbmeannhafjaa

/- Walk of the reference's Next. -/
namespace Go.Proofs.Ytjcbmeannhafjaa

open Go.RowKit

/-- What the reference's Next does once Valid has answered. -/
theorem rNext_pre (k n : Int) (s : ByteArray) (x : Bool) (h : vldB k n s = x) : Hid (∀ W, Calls Try.prog 119 #[.agg #[.int .i64 k, .int .i64 n, .string s]] W fun e w' => e = .returned (.bool x) ∧ Gr W w') := fun W => by
  have := rValid_any k n s W
  rw [h] at this
  exact this

/-- The cases without a loop: what comes out is known. -/
theorem nextV_small (k n : Int) (s : ByteArray) (h : vldB k n s = true) (hk : k ≠ 5) (hlo : -9223372036854775808 ≤ n) (hhi : n ≤ 9223372036854775807) :
    (k = 1 ∧ nextV k n s = (⟨2, 0, ⟨#[]⟩⟩, true)) ∨ (k = 2 ∧ nextV k n s = (⟨3, 0, ⟨#[]⟩⟩, true)) ∨ (k = 3 ∧ n = 0 ∧ nextV k n s = (⟨3, 1, ⟨#[]⟩⟩, true)) ∨ (k = 3 ∧ n = 1 ∧ nextV k n s = (⟨4, -9223372036854775808, ⟨#[]⟩⟩, true)) ∨
    (k = 4 ∧ n < 9223372036854775807 ∧ nextV k n s = (⟨4, n + 1, ⟨#[]⟩⟩, true)) ∨ (k = 4 ∧ n = 9223372036854775807 ∧ nextV k n s = (⟨5, 0, ⟨#[]⟩⟩, true)) := by
  have hv := h
  unfold vldB at hv
  have hv := of_decide_eq_true hv
  have hn : ¬ vldB k n s = false := by rw [h]; decide
  have hkk := vldB_kind h
  have hc : k = 1 ∨ k = 2 ∨ k = 3 ∨ k = 4 := by omega
  rcases hc with rfl | rfl | rfl | rfl
  · left; refine ⟨rfl, ?_⟩; unfold nextV; rw [if_neg hn, if_neg (by omega), if_neg (by omega), if_neg (by omega)]; rfl
  · right; left; refine ⟨rfl, ?_⟩; unfold nextV; rw [if_neg hn, if_neg (by omega), if_neg (by omega), if_neg (by omega)]; rfl
  · have h01 : n = 0 ∨ n = 1 := by omega
    rcases h01 with rfl | rfl
    · right; right; left; refine ⟨rfl, rfl, ?_⟩; unfold nextV; rw [if_neg hn, if_pos ⟨rfl, rfl⟩]
    · right; right; right; left; refine ⟨rfl, rfl, ?_⟩; unfold nextV; rw [if_neg hn, if_neg (by omega), if_neg (by omega), if_neg (by omega)]; rfl
  · by_cases hm : n < 9223372036854775807
    · right; right; right; right; left; refine ⟨rfl, hm, ?_⟩; unfold nextV; rw [if_neg hn, if_neg (by omega), if_pos ⟨rfl, hm⟩]
    · right; right; right; right; right; refine ⟨rfl, by omega, ?_⟩; unfold nextV; rw [if_neg hn, if_neg (by omega), if_neg (by omega), if_neg (by omega)]; rfl

theorem bytes_one (N : Nat) (b : UInt8) (h : b.toNat < 255) (W : World) (hc : W.cell? ⟨N, 0, none⟩ = some (.int .u8 ((b.toNat : Int) + 1))) : (convert 22 9 (.slice (some ⟨N, 0, none⟩) 1 1)).run Try.prog W = .ok (.string ⟨#[b + 1]⟩) W := by
  have h := run_convert_bytes_back (P := Try.prog) W 22 9 5 ⟨N, 0, none⟩ 1 [b + 1] Try.underlying22 Try.underlying5 Try.underlying9 ?_
  · exact h
  · intro j hj
    obtain rfl : j = 0 := by simpa using hj
    refine hc.trans ?_
    simp [u8_succ b (by assumption)]

end Go.Proofs.Ytjcbmeannhafjaa

/- The value behind a value, as plain mathematics: it is valid, greater, and no valid value lies between. -/
namespace Go.Proofs.Ytjcbmeannhafjaa

open Go.RowKit

theorem cmpI_lt (a b : Int) : cmpI a b < 0 ↔ a < b := by unfold cmpI; split <;> (try split) <;> omega
theorem cmpV_lt_iff (a b : V) : cmpV a b < 0 ↔ a.k < b.k ∨ (a.k = b.k ∧ (a.n < b.n ∨ (a.n = b.n ∧ cmpS a.s b.s < 0))) := by
  unfold cmpV
  by_cases h : a.k = b.k
  · rw [if_pos h]
    by_cases h2 : a.n = b.n
    · rw [if_pos h2]; omega
    · rw [if_neg h2, cmpI_lt]; omega
  · rw [if_neg h, cmpI_lt]; omega
theorem cmpV_m1 (a b : V) (h : cmpV a b < 0) : cmpV a b = -1 := by have := cmpV_range a b; omega

theorem size_strOf (l : List UInt8) : (strOf l).size = l.length := by
  show l.toArray.size = l.length
  simp
theorem cmpS_nil (s : ByteArray) : ¬ cmpS s ⟨#[]⟩ < 0 := by
  unfold cmpS
  rw [Lib.toList_data, Lib.toList_data]
  cases s.data.toList <;> simp [cmpL]
theorem cmpS_strOf (a : ByteArray) (l : List UInt8) : cmpS a (strOf l) = cmpL a.data.toList l := by
  unfold cmpS strOf; rw [Lib.toList_data, Lib.toList_data]
theorem cmpS_strOf' (a : ByteArray) (l : List UInt8) : cmpS (strOf l) a = cmpL l a.data.toList := by
  unfold cmpS strOf; rw [Lib.toList_data, Lib.toList_data]
theorem cmpS_self (s : ByteArray) : cmpS s s = 0 := by unfold cmpS; exact (cmpL_zero _ _).2 rfl

theorem cmpL_snoc0 : ∀ s : List UInt8, cmpL s (s ++ [0]) = -1
  | [] => rfl
  | a :: x => by simp [cmpL, cmpL_snoc0 x]
theorem cmpL_snoc0_le : ∀ s q : List UInt8, cmpL s q < 0 → cmpL (s ++ [0]) q ≤ 0
  | [], [], h => by simp [cmpL] at h
  | [], c :: q, _ => by
    simp only [List.nil_append, cmpL]
    by_cases h1 : (0 : UInt8) < c
    · simp [h1]
    · have h2 : ¬ c < 0 := by rw [UInt8.lt_iff_toNat_lt]; simp
      simp only [h1, h2, if_false]
      cases q <;> simp [cmpL]
  | a :: x, [], h => by simp [cmpL] at h
  | a :: x, c :: q, h => by
    simp only [List.cons_append, cmpL] at h ⊢
    by_cases h1 : a < c
    · simp [h1]
    · by_cases h2 : c < a
      · simp [h1, h2] at h
      · simp only [h1, h2, if_false] at h ⊢
        exact cmpL_snoc0_le x q h
theorem cmpL_full : ∀ (r : Nat) (q : List UInt8), cmpL (List.replicate r 255) q < 0 → r < q.length
  | 0, [], h => by simp [cmpL] at h
  | 0, _ :: _, _ => by simp
  | r + 1, [], h => by simp [List.replicate, cmpL] at h
  | r + 1, c :: q, h => by
    simp only [List.replicate, cmpL] at h
    have h1 : ¬ (255 : UInt8) < c := by rw [UInt8.lt_iff_toNat_lt]; have := c.toNat_lt; simp; omega
    by_cases h2 : c < 255
    · simp [h1, h2] at h
    · simp only [h1, h2, if_false] at h
      have := cmpL_full r q h
      simp; omega
theorem cmpL_bump : ∀ (a : List UInt8) (b : UInt8) (r : Nat), b.toNat < 255 → cmpL (a ++ b :: List.replicate r 255) (a ++ [b + 1]) = -1
  | [], b, r, hb => by
    have : b < b + 1 := by rw [UInt8.lt_iff_toNat_lt, u8_succ b hb]; omega
    simp [cmpL, this]
  | x :: a, b, r, hb => by simp [cmpL, cmpL_bump a b r hb]
theorem cmpL_bump_le : ∀ (a : List UInt8) (b : UInt8) (r : Nat) (q : List UInt8), b.toNat < 255 → q.length ≤ a.length + 1 + r → cmpL (a ++ b :: List.replicate r 255) q < 0 → cmpL (a ++ [b + 1]) q ≤ 0
  | [], b, r, [], hb, hl, h => by simp [cmpL] at h
  | [], b, r, c :: q, hb, hl, h => by
    simp only [List.nil_append, cmpL] at h ⊢
    by_cases h1 : b < c
    · by_cases h2 : b + 1 < c
      · simp [h2]
      · have h3 : ¬ c < b + 1 := by
          rw [UInt8.lt_iff_toNat_lt] at *; rw [u8_succ b hb] at *; omega
        simp only [h2, h3, if_false]
        cases q <;> simp [cmpL]
    · by_cases h2 : c < b
      · simp [h1, h2] at h
      · simp only [h1, h2, if_false] at h
        have := cmpL_full r q h
        simp at hl
        omega
  | x :: a, b, r, [], hb, hl, h => by simp [cmpL] at h
  | x :: a, b, r, c :: q, hb, hl, h => by
    simp only [List.cons_append, cmpL] at h ⊢
    by_cases h1 : x < c
    · simp [h1]
    · by_cases h2 : c < x
      · simp [h1, h2] at h
      · simp only [h1, h2, if_false] at h ⊢
        exact cmpL_bump_le a b r q hb (by simp at hl; omega) h

theorem trimN_le (l : List UInt8) : ∀ n, trimN l n ≤ n
  | 0 => by simp [trimN]
  | n + 1 => by simp only [trimN]; split; · have := trimN_le l n; omega
                · omega
theorem trimN_spec (l : List UInt8) : ∀ n, (∀ j, trimN l n ≤ j → j < n → l.getD j 0 = 255) ∧ (0 < trimN l n → l.getD (trimN l n - 1) 0 ≠ 255)
  | 0 => by simp [trimN]
  | n + 1 => by
    simp only [trimN]
    split
    · rename_i h
      obtain ⟨h1, h2⟩ := trimN_spec l n
      refine ⟨fun j hj hjn => ?_, h2⟩
      by_cases e : j = n
      · rw [e]; exact h
      · exact h1 j hj (by omega)
    · rename_i h
      exact ⟨fun j hj hjn => by omega, fun _ => h⟩
theorem split_at (l : List UInt8) (m : Nat) (hp : 0 < m) (hm : m ≤ l.length) (h : ∀ j, m ≤ j → j < l.length → l.getD j 0 = 255) : l = l.take (m - 1) ++ l.getD (m - 1) 0 :: List.replicate (l.length - m) 255 := by
  apply List.ext_getElem
  · simp; omega
  · intro i h1 h2
    rw [List.getElem_append]
    split
    · rw [List.getElem_take]
    · rename_i hi
      simp only [List.length_take] at hi
      rw [List.getElem_cons]
      split
      · rename_i h0
        simp only [List.length_take] at h0
        have : i = m - 1 := by omega
        subst this
        rw [List.getD_eq_getElem?_getD, List.getElem?_eq_getElem h1]; rfl
      · rename_i h0
        simp only [List.length_take] at h0
        rw [List.getElem_replicate]
        have := h i (by omega) h1
        rw [List.getD_eq_getElem?_getD, List.getElem?_eq_getElem h1] at this
        exact this

/-- What the law says of the value behind a value. -/
def Behind (p m : V) : Prop := vldB m.k m.n m.s = true ∧ cmpV p m = -1 ∧ ∀ q : V, vldB q.k q.n q.s = true → -9223372036854775808 ≤ q.n → q.n ≤ 9223372036854775807 → ¬ (cmpV p q < 0 ∧ cmpV q m < 0)

theorem vld_iff (k n : Int) (s : ByteArray) : vldB k n s = true ↔ (((k = 1 ∨ k = 2) ∧ n = 0 ∧ s = ⟨#[]⟩) ∨ (k = 3 ∧ (n = 0 ∨ n = 1) ∧ s = ⟨#[]⟩) ∨ (k = 4 ∧ s = ⟨#[]⟩) ∨ (k = 5 ∧ n = 0 ∧ s.size ≤ 64)) := by
  unfold vldB
  simp only [decide_eq_true_eq, empty_iff]

theorem behind_text (s : ByteArray) (hs : s.size ≤ 64) (h : (nextS s).2 = true) : Behind ⟨5, 0, s⟩ (nextS s).1 := by
  unfold nextS at h ⊢
  by_cases h64 : s.size < 64
  · rw [if_pos h64]
    refine ⟨?_, ?_, ?_⟩
    · rw [vld_iff]
      right; right; right
      refine ⟨rfl, rfl, ?_⟩
      show (strOf (s.data.toList ++ [0])).size ≤ 64
      have : (strOf (s.data.toList ++ [0])).size = s.size + 1 := by rw [size_strOf]; simp
      omega
    · apply cmpV_m1
      rw [cmpV_lt_iff]
      right
      refine ⟨rfl, .inr ⟨rfl, ?_⟩⟩
      show cmpS s (strOf _) < 0
      rw [cmpS_strOf, cmpL_snoc0]; decide
    · rintro ⟨qk, qn, qs⟩ hq _ _ ⟨h1, h2⟩
      rw [cmpV_lt_iff] at h1 h2
      rw [vld_iff] at hq
      simp only at h1 h2 hq
      have hqk : qk = 5 := by omega
      have hqn : qn = 0 := by omega
      subst hqk hqn
      have h1' : cmpS s qs < 0 := by omega
      have h2' : cmpS qs (strOf (s.data.toList ++ [0])) < 0 := by omega
      unfold cmpS at h1'
      rw [Lib.toList_data, Lib.toList_data] at h1'
      rw [cmpS_strOf] at h2'
      have h3 := cmpL_snoc0_le _ _ h1'
      have h4 := cmpL_flip qs.data.toList (s.data.toList ++ [0])
      omega
  · rw [if_neg h64] at h ⊢
    by_cases h0 : trimN s.data.toList s.size = 0
    · rw [if_pos h0] at h; simp at h
    · rw [if_neg h0]
      have hsl : s.data.toList.length = s.size := by simp
      have hle := trimN_le s.data.toList s.size
      obtain ⟨t1, t2⟩ := trimN_spec s.data.toList s.size
      generalize trimN s.data.toList s.size = m at *
      have hp : 0 < m := by omega
      have hb : (s.data.toList.getD (m - 1) 0).toNat < 255 := by
        have h1 := t2 hp
        have h2 := (s.data.toList.getD (m - 1) 0).toNat_lt
        have h3 : (s.data.toList.getD (m - 1) 0).toNat ≠ 255 := fun e => h1 (UInt8.toNat_inj.1 e)
        omega
      have hsp := split_at s.data.toList m hp (by omega) (fun j h1 h2 => t1 j h1 (by omega))
      have hbl := length_bump s.data.toList m hp (by omega)
      refine ⟨?_, ?_, ?_⟩
      · rw [vld_iff]
        right; right; right
        refine ⟨rfl, rfl, ?_⟩
        show (strOf (bumpL s.data.toList m)).size ≤ 64
        have : (strOf (bumpL s.data.toList m)).size = (bumpL s.data.toList m).length := size_strOf _
        omega
      · apply cmpV_m1
        rw [cmpV_lt_iff]
        right
        refine ⟨rfl, .inr ⟨rfl, ?_⟩⟩
        show cmpS s (strOf (bumpL s.data.toList m)) < 0
        rw [cmpS_strOf]
        have := cmpL_bump (s.data.toList.take (m - 1)) (s.data.toList.getD (m - 1) 0) (s.data.toList.length - m) hb
        rw [← hsp] at this
        unfold bumpL
        omega
      · rintro ⟨qk, qn, qs⟩ hq _ _ ⟨h1, h2⟩
        rw [cmpV_lt_iff] at h1 h2
        rw [vld_iff] at hq
        simp only at h1 h2 hq
        have hqk : qk = 5 := by omega
        have hqn : qn = 0 := by omega
        subst hqk hqn
        have hqs : qs.size ≤ 64 := by omega
        have h1' : cmpS s qs < 0 := by omega
        have h2' : cmpS qs (strOf (bumpL s.data.toList m)) < 0 := by omega
        unfold cmpS at h1'
        rw [Lib.toList_data, Lib.toList_data] at h1'
        rw [cmpS_strOf] at h2'
        rw [hsp] at h1'
        have hql : qs.data.toList.length = qs.size := by simp
        have h3 := cmpL_bump_le _ _ _ _ hb (by simp; omega) h1'
        have h4 := cmpL_flip qs.data.toList (bumpL s.data.toList m)
        unfold bumpL at h4 h2'
        omega

theorem nextV_behind (k n : Int) (s : ByteArray) (h0 : -9223372036854775808 ≤ n) (h1 : n ≤ 9223372036854775807) (h : (nextV k n s).2 = true) : Behind ⟨k, n, s⟩ (nextV k n s).1 := by
  by_cases hv : vldB k n s = true
  · by_cases h5 : k = 5
    · subst h5
      have hv' := (vld_iff _ _ _).1 hv
      have hn : n = 0 := by omega
      subst hn
      have e : nextV 5 0 s = nextS s := by unfold nextV; rw [if_neg (by rw [hv]; decide), if_neg (by omega), if_neg (by omega), if_pos rfl]
      rw [e] at h ⊢
      exact behind_text s (by omega) h
    · have hb := (vld_iff _ _ _).1 hv
      have c0 := cmpS_self ⟨#[]⟩
      rcases nextV_small k n s hv h5 h0 h1 with ⟨rfl, e⟩ | ⟨rfl, e⟩ | ⟨rfl, rfl, e⟩ | ⟨rfl, rfl, e⟩ | ⟨rfl, hm, e⟩ | ⟨rfl, rfl, e⟩
      all_goals
        rw [e]
        have hs : s = ⟨#[]⟩ := by
          rcases hb with h | h | h | h
          · exact h.2.2
          · exact h.2.2
          · exact h.2
          · exact absurd h.1 (by omega)
        subst hs
        clear e h hv
        refine ⟨(vld_iff _ _ _).2 (by simp <;> decide), cmpV_m1 _ _ ((cmpV_lt_iff _ _).2 (by first | exact .inl (by dsimp only; omega) | exact .inr ⟨rfl, .inl (by dsimp only; omega)⟩)), ?_⟩
        rintro ⟨qk, qn, qs⟩ hq hq0 hq1 ⟨h1, h2⟩
        rw [cmpV_lt_iff] at h1 h2
        rw [vld_iff] at hq
        simp only at h1 h2 hq hq0 hq1
        have cn := cmpS_nil qs
        rcases hq with ⟨hk, hn, hs⟩ | ⟨hk, hn, hs⟩ | ⟨hk, hs⟩ | ⟨hk, hn, hs⟩
        all_goals first | (subst hs; omega) | omega
  · exfalso
    unfold nextV at h
    rw [if_pos (by simpa using hv)] at h
    simp at h
end Go.Proofs.Ytjcbmeannhafjaa
