
/- Walk of the reference's Next. -/
import Derived.Test.YtkkhepfokjogpaaNext

import Derived.Deep.RegionHeld3

namespace Go.Proofs.Ytkkhepfokjogpaa

open Go.RowKit

/-- What the reference's Next does once Valid has answered. -/
theorem rNext_pre (k n : Int) (s : ByteArray) (x : Bool) (h : vldB k n s = x) : Hid (∀ W, Calls Try.prog 55 #[.agg #[.int .i64 k, .int .i64 n, .string s]] W fun e w' => e = .returned (.bool x) ∧ Gr W w') := fun W => by
  have := rValid_any k n s W
  rw [h] at this
  exact this

set_option maxHeartbeats 400000 in
theorem rNext_bad (k n : Int) (s : ByteArray) (w : World) (h : vldB k n s = false) : Calls Try.prog 61 #[.agg #[.int .i64 k, .int .i64 n, .string s]] w fun e w' => e = .returned (retV (nextV k n s)) ∧ Below w.heap.size w w' := by
  have hf : nextV k n s = (⟨0, 0, ⟨#[]⟩⟩, false) := by simp only [nextV, if_pos h]
  rw [hf]; clear hf
  have HC := rNext_pre k n s false h
  clear h
  go_enter Try.func61, Try.ntmps61
  go_wp2_with fail
  refine (HC.out _).mono ?_
  rintro e w1 ⟨rfl, hg⟩
  have hb0 : Below w.heap.size w w1 := Below.trans (by (repeat (first | exact Below.refl _ _ | assumption | refine Below.drew ?_ | refine Below.setCell ?_ (by simp; try omega) _ | refine Below.alloc ?_ (by simp; try omega) _))) (hg.below.mono (by simp; omega))
  have hz : w.heap.size + 1 < w1.heap.size := by have := hg.below.size; simp at this; omega
  have hz' : w.heap.size < w1.heap.size := by omega
  obtain ⟨hcl, hfz⟩ := bcell hg.below
  clear hg
  go_wp2_with fail
  exact bodyPost_ret (v := retV (⟨0, 0, ⟨#[]⟩⟩, false)) (by simp [results, Try.results61, go_sem, retV, *]) rfl ⟨rfl, by (repeat (first | exact Below.refl _ _ | assumption | refine Below.drew ?_ | refine Below.setCell ?_ (by simp; try omega) _ | refine Below.alloc ?_ (by simp; try omega) _))⟩

/-- The cases without a loop: what comes out is known. -/
theorem nextV_small (k n : Int) (s : ByteArray) (h : vldB k n s = true) (hk : k ≠ 5) (hlo : -9223372036854775808 ≤ n) (hhi : n ≤ 9223372036854775807) :
    (k = 1 ∧ nextV k n s = (⟨2, 0, ⟨#[]⟩⟩, true)) ∨ (k = 2 ∧ nextV k n s = (⟨3, 0, ⟨#[]⟩⟩, true)) ∨ (k = 3 ∧ n = 0 ∧ nextV k n s = (⟨3, 1, ⟨#[]⟩⟩, true)) ∨ (k = 3 ∧ n = 1 ∧ nextV k n s = (⟨4, -9223372036854775808, ⟨#[]⟩⟩, true)) ∨
    (k = 4 ∧ n < 9223372036854775807 ∧ nextV k n s = (⟨4, n + 1, ⟨#[]⟩⟩, true)) ∨ (k = 4 ∧ n = 9223372036854775807 ∧ nextV k n s = (⟨5, 0, ⟨#[]⟩⟩, true)) := by
  have hv := h
  unfold vldB at hv
  have hv := of_decide_eq_true hv
  have hn : ¬ vldB k n s = false := by rw [h]; decide
  have hkk := vldB_kind h
  have hc : k = 1 ∨ k = 2 ∨ k = 3 ∨ k = 4 := by omega
  rcases hc with rfl | rfl | rfl | rfl
  · left; refine ⟨rfl, ?_⟩; unfold nextV; rw [if_neg hn, if_neg (by omega), if_neg (by omega), if_neg (by omega)]; rfl
  · right; left; refine ⟨rfl, ?_⟩; unfold nextV; rw [if_neg hn, if_neg (by omega), if_neg (by omega), if_neg (by omega)]; rfl
  · have h01 : n = 0 ∨ n = 1 := by omega
    rcases h01 with rfl | rfl
    · right; right; left; refine ⟨rfl, rfl, ?_⟩; unfold nextV; rw [if_neg hn, if_pos ⟨rfl, rfl⟩]
    · right; right; right; left; refine ⟨rfl, rfl, ?_⟩; unfold nextV; rw [if_neg hn, if_neg (by omega), if_neg (by omega), if_neg (by omega)]; rfl
  · by_cases hm : n < 9223372036854775807
    · right; right; right; right; left; refine ⟨rfl, hm, ?_⟩; unfold nextV; rw [if_neg hn, if_neg (by omega), if_pos ⟨rfl, hm⟩]
    · right; right; right; right; right; refine ⟨rfl, by omega, ?_⟩; unfold nextV; rw [if_neg hn, if_neg (by omega), if_neg (by omega), if_neg (by omega)]; rfl

set_option maxHeartbeats 1000000 in
theorem rNext_small (k n : Int) (s : ByteArray) (w : World) (h : vldB k n s = true) (hk : k ≠ 5) (hlo : -9223372036854775808 ≤ n) (hhi : n ≤ 9223372036854775807) : Calls Try.prog 61 #[.agg #[.int .i64 k, .int .i64 n, .string s]] w fun e w' => e = .returned (retV (nextV k n s)) ∧ Below w.heap.size w w' := by
  have HC := rNext_pre k n s true h
  rcases nextV_small k n s h hk hlo hhi with ⟨rfl, hf⟩ | ⟨rfl, hf⟩ | ⟨rfl, rfl, hf⟩ | ⟨rfl, rfl, hf⟩ | ⟨rfl, hm, hf⟩ | ⟨rfl, rfl, hf⟩
  all_goals
    rw [hf]
    clear hf h hk
    go_enter Try.func61, Try.ntmps61
    go_wp2_with fail
    refine (HC.out _).mono ?_
    rintro e w1 ⟨rfl, hg⟩
    have hb0 : Below w.heap.size w w1 := Below.trans (by (repeat (first | exact Below.refl _ _ | assumption | refine Below.drew ?_ | refine Below.setCell ?_ (by simp; try omega) _ | refine Below.alloc ?_ (by simp; try omega) _))) (hg.below.mono (by simp; omega))
    have hz : w.heap.size + 1 < w1.heap.size := by have := hg.below.size; simp at this; omega
    have hz' : w.heap.size < w1.heap.size := by omega
    obtain ⟨hcl, hfz⟩ := bcell hg.below
    clear hg
    go_wp2_with fail
    exact bodyPost_ret (v := retV (⟨_, _, ⟨#[]⟩⟩, true)) (by simp [results, Try.results61, go_sem, retV, *]; first | done | exact ⟨rfl, rfl⟩) rfl ⟨rfl, by (repeat (first | exact Below.refl _ _ | assumption | refine Below.drew ?_ | refine Below.setCell ?_ (by simp; try omega) _ | refine Below.alloc ?_ (by simp; try omega) _))⟩

set_option maxHeartbeats 400000 in
theorem rNext_short (s : ByteArray) (w : World) (h : vldB 5 0 s = true) (hs : s.size < 64) : Calls Try.prog 61 #[.agg #[.int .i64 5, .int .i64 0, .string s]] w fun e w' => e = .returned (retV (nextV 5 0 s)) ∧ Below w.heap.size w w' := by
  have hf : nextV 5 0 s = (⟨5, 0, strOf (s.data.toList ++ [0])⟩, true) := by
    unfold nextV; rw [if_neg (by rw [h]; decide), if_neg (by omega), if_neg (by omega), if_pos rfl]; unfold nextS; rw [if_pos hs]
  rw [hf]
  have HC := rNext_pre 5 0 s true h
  clear hf h
  go_enter Try.func61, Try.ntmps61
  go_wp2_with fail
  refine (HC.out _).mono ?_
  rintro e w1 ⟨rfl, hg⟩
  have hb0 : Below w.heap.size w w1 := Below.trans (by (repeat (first | exact Below.refl _ _ | assumption | refine Below.drew ?_ | refine Below.setCell ?_ (by simp; try omega) _ | refine Below.alloc ?_ (by simp; try omega) _))) (hg.below.mono (by simp; omega))
  have hz : w.heap.size + 1 < w1.heap.size := by have := hg.below.size; simp at this; omega
  have hz' : w.heap.size < w1.heap.size := by omega
  obtain ⟨hcl, hfz⟩ := bcell hg.below
  clear hg
  go_wp2_with fail
  exact bodyPost_ret (v := retV (⟨5, 0, strOf (s.data.toList ++ [0])⟩, true)) (by simp [results, Try.results61, go_sem, retV, hcl]; exact str_append s [0]) rfl ⟨rfl, by (repeat (first | exact Below.refl _ _ | assumption | refine Below.drew ?_ | refine Below.setCell ?_ (by simp; try omega) _ | refine Below.alloc ?_ (by simp; try omega) _))⟩

theorem bytes_one (N : Nat) (b : UInt8) (h : b.toNat < 255) (W : World) (hc : W.cell? ⟨N, 0, none⟩ = some (.int .u8 ((b.toNat : Int) + 1))) : (convert 22 9 (.slice (some ⟨N, 0, none⟩) 1 1)).run Try.prog W = .ok (.string ⟨#[b + 1]⟩) W := by
  have h := run_convert_bytes_back (P := Try.prog) W 22 9 5 ⟨N, 0, none⟩ 1 [b + 1] Try.underlying22 Try.underlying5 Try.underlying9 ?_
  · exact h
  · intro j hj
    obtain rfl : j = 0 := by simpa using hj
    refine hc.trans ?_
    simp [u8_succ b (by assumption)]

set_option maxHeartbeats 1000000 in
theorem rNext_long (s : ByteArray) (w : World) (h : vldB 5 0 s = true) (hs : ¬ s.size < 64) : Calls Try.prog 61 #[.agg #[.int .i64 5, .int .i64 0, .string s]] w fun e w' => e = .returned (retV (nextV 5 0 s)) ∧ Below w.heap.size w w' := by
  have h64 : s.size ≤ 64 := by unfold vldB at h; have := of_decide_eq_true h; omega
  have hN : Hid (nextV 5 0 s = nextS s) := by
    unfold nextV; rw [if_neg (by rw [h]; decide), if_neg (by omega), if_neg (by omega), if_pos rfl]; rfl
  have HC := rNext_pre 5 0 s true h
  clear h
  go_enter Try.func61, Try.ntmps61
  go_wp2_with fail
  refine (HC.out _).mono ?_
  rintro e w1 ⟨rfl, hg⟩
  have hb0 : Below w.heap.size w w1 := Below.trans (by (repeat (first | exact Below.refl _ _ | assumption | refine Below.drew ?_ | refine Below.setCell ?_ (by simp; try omega) _ | refine Below.alloc ?_ (by simp; try omega) _))) (hg.below.mono (by simp; omega))
  have hz : w.heap.size + 1 < w1.heap.size := by have := hg.below.size; simp at this; omega
  have hz' : w.heap.size < w1.heap.size := by omega
  obtain ⟨hcl, hfz⟩ := bcell hg.below
  clear hg
  have f0 : w1.frozen? ⟨w.heap.size + 1, 0, none⟩ = false := by rw [hfz _ _ (by simp)]; go_simp
  have f1 : w1.frozen? ⟨w.heap.size + 1, 1, none⟩ = false := by rw [hfz _ _ (by simp)]; go_simp
  have f2 : w1.frozen? ⟨w.heap.size + 1, 2, none⟩ = false := by rw [hfz _ _ (by simp)]; go_simp
  have g0 : w1.cell? ⟨w.heap.size + 1, 0, none⟩ = some (.int .i64 0) := by rw [hcl _ _ (by first | (simp; done) | (simp; omega))]; go_simp
  have g1 : w1.cell? ⟨w.heap.size + 1, 1, none⟩ = some (.int .i64 0) := by rw [hcl _ _ (by first | (simp; done) | (simp; omega))]; go_simp
  have g2 : w1.cell? ⟨w.heap.size + 1, 2, none⟩ = some (.string ⟨#[]⟩) := by rw [hcl _ _ (by first | (simp; done) | (simp; omega))]; go_simp
  have e0 : w1.cell? ⟨w.heap.size, 0, none⟩ = some (.int .i64 5) := by rw [hcl _ _ (by first | (simp; done) | (simp; omega))]; go_simp
  have e2 : w1.cell? ⟨w.heap.size, 2, none⟩ = some (.string s) := by rw [hcl _ _ (by first | (simp; done) | (simp; omega))]; go_simp
  clear hcl hfz
  go_wp2_with fail
  go_loop [4] (fun n => ∃ m : Nat, m ≤ s.size ∧ n = .int .i64 m ∧ Hid (trimN s.data.toList s.size = trimN s.data.toList m)) (fun n => (intOf n).toNat)
  case atStart => exact ⟨s.size, Nat.le_refl _, rfl, rfl⟩
  case round =>
    obtain ⟨m, hm, rfl, HT⟩ := hrel
    by_cases h0 : m = 0
    · subst h0
      have hf : Hid (nextS s = (⟨0, 0, ⟨#[]⟩⟩, false)) := by
        unfold nextS; rw [if_neg hs, if_pos (by rw [HT.out]; rfl)]; rfl
      go_wp2_with fail
      exact bodyPost_ret (v := retV (⟨0, 0, ⟨#[]⟩⟩, false)) (by simp [results, Try.results61, go_sem, retV, *]) rfl ⟨by rw [hN.out, hf.out], by (repeat (first | exact Below.refl _ _ | assumption | refine Below.drew ?_ | refine Below.setCell ?_ (by simp; try omega) _ | refine Below.alloc ?_ (by simp; try omega) _))⟩
    · have hb : m - 1 < s.size := by omega
      have hp : 0 < m := by omega
      have hgd : s.data.toList.getD (m - 1) 0 = s[m - 1] := by
        have : m - 1 < s.data.size := hb
        simp only [List.getD_eq_getElem?_getD, Array.getElem?_toList]
        rw [Array.getElem?_eq_getElem this]; rfl
      by_cases hc : s[m - 1].toNat = 255
      · have hc' : ((s[m - 1].toNat : Int) == 255) = true := by simp; omega
        have ht : Hid (trimN s.data.toList s.size = trimN s.data.toList (m - 1)) := by
          have e : trimN s.data.toList m = trimN s.data.toList (m - 1) := by
            obtain ⟨m', rfl⟩ : ∃ m', m = m' + 1 := ⟨m - 1, by omega⟩
            simp only [trimN]
            rw [if_pos]
            · rfl
            · simp only [Nat.add_sub_cancel] at hgd hc
              rw [hgd]
              exact UInt8.toNat_inj.1 hc
          exact HT.out.trans e
        clear hgd hc
        go_wp2_with fail
        go_round
        case rel => exact ⟨m - 1, by omega, by go_num, ht⟩
        case measure => simp [intOf]; omega
      · have hc' : ((s[m - 1].toNat : Int) == 255) = false := by simp; omega
        have h255 : (s.data.toList.getD (m - 1) 0).toNat < 255 := by
          have := (s[m - 1]).toNat_lt; rw [hgd]; omega
        have hf : Hid (nextS s = (⟨5, 0, strOf (bumpL s.data.toList m)⟩, true)) := by
          have e : trimN s.data.toList m = m := by
            obtain ⟨m', rfl⟩ : ∃ m', m = m' + 1 := ⟨m - 1, by omega⟩
            simp only [trimN]
            rw [if_neg]
            intro e
            simp only [Nat.add_sub_cancel] at h255
            rw [e] at h255
            simp at h255
          unfold nextS; rw [if_neg hs, if_neg (by rw [HT.out, e]; omega), HT.out, e]; rfl
        have hb1 : s[m - 1].toNat < 255 := by rw [← hgd]; exact h255
        have hcv := bytes_one w1.heap.size s[m - 1] hb1
        have hr : Hid (s.extract 0 (m - 1) ++ ⟨#[s[m - 1] + 1]⟩ = strOf (bumpL s.data.toList m)) := by
          show _ = _
          unfold bumpL
          rw [hgd]
          apply (toList_inj _ _).1
          rw [Lib.toList_data, Lib.toList_data]
          simp [strOf]
        clear hgd h255 hc HT
        generalize s[m - 1] + 1 = bb at hcv hr
        have wr1 : IntKind.i64.wrap ((m : Int) - 1) = (m : Int) - 1 := IntWalk.i64_in _ (by omega)
        have wr2 : (0 : Int) ≤ (m : Int) - 1 := by omega
        have wr3 : (m : Int) - 1 ≤ s.size := by omega
        have wr3' : (m : Int) - 1 < s.size := by omega
        have wr5 : IntKind.u8.wrap ((s[m - 1].toNat : Int) + 1) = (s[m - 1].toNat : Int) + 1 := IntWalk.u8_in _ (by omega)
        have wr4 : ((m : Int) - 1).toNat = m - 1 := by omega
        go_wp2_with fail
        go_region
        go_wp2_with fail
        exact bodyPost_ret (v := retV (⟨5, 0, s.extract 0 (m - 1) ++ ⟨#[bb]⟩⟩, true)) (by simp [results, Try.results61, go_sem, retV, *]) rfl ⟨by rw [hN.out, hf.out, ← hr.out], by (repeat (first | exact Below.refl _ _ | assumption | refine Below.drew ?_ | refine Below.setCell ?_ (by simp; try omega) _ | refine Below.alloc ?_ (by simp; try omega) _))⟩

theorem rNext_any (k n : Int) (s : ByteArray) (w : World) (hlo : -9223372036854775808 ≤ n) (hhi : n ≤ 9223372036854775807) : Calls Try.prog 61 #[.agg #[.int .i64 k, .int .i64 n, .string s]] w fun e w' => e = .returned (retV (nextV k n s)) ∧ Below w.heap.size w w' := by
  by_cases h : vldB k n s = true
  · by_cases h5 : k = 5
    · subst h5
      have h0 : n = 0 := by
        unfold vldB at h
        have := of_decide_eq_true h
        omega
      subst h0
      by_cases hs : s.size < 64
      · exact rNext_short s w h hs
      · exact rNext_long s w h hs
    · exact rNext_small k n s w h h5 hlo hhi
  · exact rNext_bad k n s w (by simpa using h)
end Go.Proofs.Ytkkhepfokjogpaa
