
/- Law 7: begun, same. -/
import Derived.Test.YtjcbmeannhafjaaScCheck

import Derived.Test.YtjcbmeannhafjaaPdSameI

namespace Go.Proofs.Ytjcbmeannhafjaa

open Go.RowKit Go.Deep

set_option maxRecDepth 100000 in
set_option maxHeartbeats 1000000 in
theorem l7Same_any (va vb : Value) (A B : List Int) (w : World) (ha : IntsAt w va A) (hb : IntsAt w vb B) : Calls Try.prog 17 #[va, vb] w fun e w' => e = .returned (.bool (decide (A = B))) ∧ ∃ n, w' = w.drewN n := by
  obtain ⟨aa, ac, rfl, hfa, hai⟩ := ha
  obtain ⟨ba, bc, rfl, hfb, hbi⟩ := hb
  have ha1 := hfa.le
  have ha2 := hfa.few
  have hb1 := hfb.le
  by_cases hl : A.length = B.length
  · obtain ⟨n, hn⟩ : ∃ n, A.length = n := ⟨_, rfl⟩
    have HNA := Lib.hid hn
    have HNB : Hid (B.length = n) := by show _ = _; omega
    have HA := Lib.hid hai
    have HB := Lib.hid hbi
    have hnn : n ≤ 17592186044416 := by omega
    have hna : n ≤ ac := by omega
    have hnb : n ≤ bc := by omega
    rw [hn, show B.length = n from HNB.out]
    obtain ⟨z, hz⟩ : ∃ z, decide (A = B) = z := ⟨_, rfl⟩
    have HZ : Hid (z = true ↔ A.drop 0 = B.drop 0) := by show _ ↔ _; rw [← hz]; simp
    rw [hz]
    clear hl hn hai hbi ha1 hb1 ha2 hz hfa hfb
    go_enter Try.func17, Try.ntmps17
    go_wp2_with fail
    go_loopw [13] (fun i wr => ∃ k m : Nat, k ≤ n ∧ i = .int .i64 k ∧ wr = w.drewN m ∧ Hid (z = true ↔ A.drop k = B.drop k)) (fun i _ => n - (intOf i).toNat)
    case atStart => exact ⟨0, 0, by omega, rfl, rfl, HZ.out⟩
    case round =>
      obtain ⟨k, m, hk, rfl, rfl, ht⟩ := hrel
      clear HZ
      by_cases hlt : k < n
      · have hlt' : (k : Int) < n := by omega
        have i1 : k < A.length := by rw [HNA.out]; exact hlt
        have i2 : k < B.length := by rw [HNB.out]; exact hlt
        obtain ⟨b1, o1, rfl, hb1, c1⟩ := HA.out k i1
        obtain ⟨b2, o2, rfl, hb2, c2⟩ := HB.out k i2
        have HD := Lib.hid (dropI_iff A B k i1 i2)
        generalize A[k] = x at c1 HD
        generalize B[k] = y at c2 HD
        clear i1 i2
        by_cases he : x = y
        · subst he
          have HX : Hid (z = true ↔ A.drop (k + 1) = B.drop (k + 1)) := ht.out.trans (HD.out.trans ⟨fun h => h.2, fun h => ⟨rfl, h⟩⟩)
          clear ht HD
          go_wp2_with fail
          go_quiet (fail)
          rename_i nq
          go_wp2_with fail
          go_roundw
          case rel => exact ⟨k + 1, m + nq, by omega, by go_num, by simp [World.drewN], HX⟩
          case measure => simp [intOf]; omega
        · have hne : (x != y) = true := by simpa using he
          have HX : Hid (z = false) := by
            show z = false
            cases z with
            | false => rfl
            | true => exact absurd (HD.out.1 (ht.out.1 rfl)).1 he
          clear ht HD he
          go_wp2_with fail
          go_quiet (fail)
          rename_i nq
          go_wp2_with fail
          go_ret
          exact ⟨by rw [HX.out]; try rfl, m + nq, by simp [World.drewN, Nat.add_assoc]⟩
      · have HX : Hid (z = true) := by
          refine ht.out.2 ?_
          rw [List.drop_eq_nil_of_le (by rw [HNA.out]; omega), List.drop_eq_nil_of_le (by rw [HNB.out]; omega)]
        clear ht
        go_wp2_with fail
        go_ret
        exact ⟨by rw [HX.out]; try rfl, m, rfl⟩
  · have hd : decide (A = B) = false := by
      have : ¬ A = B := fun e => hl (by rw [e])
      simpa using this
    rw [hd]
    have hb : ((A.length : Int) != B.length) = true := by simp; omega
    clear hai hbi hd hfa hfb
    generalize A.length = n1 at *
    generalize B.length = n2 at *
    go_enter Try.func17, Try.ntmps17
    go_wp2_with fail
    go_ret
    exact ⟨rfl, 0, rfl⟩

theorem rowAt_two (W : World) (k1 n1 : Int) (s1 : ByteArray) (k2 n2 : Int) (s2 : ByteArray) : RowAt (W.alloc (.cells #[.int .i64 k1, .int .i64 n1, .string s1, .int .i64 k2, .int .i64 n2, .string s2] 57)) (.slice (some ⟨W.heap.size, 0, none⟩) 2 2) [⟨k1, n1, s1⟩, ⟨k2, n2, s2⟩] := by
  refine ⟨_, _, rfl, by simp, fun j hj => ⟨W.heap.size, 0, rfl, by simp, ?_⟩⟩
  have hj2 : j = 0 ∨ j = 1 := by simp at hj; omega
  rcases hj2 with rfl | rfl
  · exact ⟨by go_simp, by go_simp, by go_simp⟩
  · exact ⟨by go_simp, by go_simp, by go_simp⟩
def bT : TB := ⟨⟨#[116]⟩, [⟨⟨#[105, 100]⟩, 4⟩, ⟨⟨#[111, 119, 110, 101, 114]⟩, 5⟩], 1, [], []⟩
def bS : SC := ⟨0, [bT]⟩
theorem bS_check : checkS bS = 0 := by decide +kernel
theorem bS_find : fndL ⟨#[116]⟩ bS.ts 0 = 0 := by decide +kernel
theorem bS_find2 : fndL ⟨#[117]⟩ bS.ts 0 = -1 := by decide +kernel
theorem bS_fits1 : fitsT bS 0 [⟨4, 1, ⟨#[]⟩⟩, ⟨2, 0, ⟨#[]⟩⟩] 2 = true := by decide +kernel
theorem bS_fits2 : fitsT bS 0 [⟨2, 0, ⟨#[]⟩⟩, ⟨4, 1, ⟨#[]⟩⟩] 3 = false := by decide +kernel
theorem bS_fits3 : fitsT bS 0 [⟨4, 1, ⟨#[]⟩⟩, ⟨1, 0, ⟨#[]⟩⟩] 3 = true := by decide +kernel
theorem bS_names : namesT bS.ts := by
  intro t ht
  have : t = bT := by simpa [bS] using ht
  subst this
  refine ⟨by show 1 ≤ maxLen; unfold maxLen; omega, fun c hc => ?_⟩
  have hc2 : c = ⟨⟨#[105, 100]⟩, 4⟩ ∨ c = ⟨⟨#[111, 119, 110, 101, 114]⟩, 5⟩ := by simpa [bT] using hc
  rcases hc2 with rfl | rfl
  · show 2 ≤ maxLen; unfold maxLen; omega
  · show 5 ≤ maxLen; unfold maxLen; omega

set_option maxRecDepth 100000 in
set_option maxHeartbeats 4000000 in
theorem begun7_any (w : World) : Calls Try.prog 10 #[] w fun e w' => e = .returned (.bool true) ∧ Below w.heap.size w w' := by
  obtain ⟨W1, hW1⟩ : ∃ W1, ((((((w.alloc (.cells #[.string ⟨#[105, 100]⟩, .int .i64 4, .string ⟨#[111, 119, 110, 101, 114]⟩, .int .i64 5] 35)).alloc (.cells #[.string ⟨#[116]⟩, .slice (some ⟨w.heap.size, 0, none⟩) 2 2, .int .i64 1, .slice none 0 0, .slice none 0 0] 40)).alloc (.cells #[.int .i64 0, .slice (some ⟨w.heap.size + 1, 0, none⟩) 1 1] 25)).alloc (.cells #[.int .i64 4, .int .i64 1, .string ⟨#[]⟩] 57)).alloc (.cells #[.int .i64 2, .int .i64 0, .string ⟨#[]⟩] 57)).alloc (.cells #[.int .i64 1, .int .i64 0, .string ⟨#[]⟩] 57)) = W1 := ⟨_, rfl⟩
  have hz : W1.heap.size = w.heap.size + 6 := by rw [← hW1]; simp
  have HB0 : Hid (Below w.heap.size w W1) := by rw [← hW1]; exact ((((((Below.refl _ _).alloc (Nat.le_refl _) _).alloc (by simp) _).alloc (by simp; omega) _).alloc (by simp; omega) _).alloc (by simp; omega) _).alloc (by simp; omega) _
  have q0 : W1.cell? ⟨w.heap.size + 1 + 1, 0, none⟩ = some (.int .i64 0) := by subst hW1; go_simp
  have q1 : W1.cell? ⟨w.heap.size + 1 + 1, 1, none⟩ = some (.slice (some ⟨w.heap.size + 1, 0, none⟩) 1 1) := by subst hW1; go_simp
  have q2 : W1.cell? ⟨w.heap.size + 1 + 1 + 1, 0, none⟩ = some (.int .i64 4) := by subst hW1; go_simp
  have q3 : W1.cell? ⟨w.heap.size + 1 + 1 + 1, 1, none⟩ = some (.int .i64 1) := by subst hW1; go_simp
  have q4 : W1.cell? ⟨w.heap.size + 1 + 1 + 1, 2, none⟩ = some (.string ⟨#[]⟩) := by subst hW1; go_simp
  have q5 : W1.cell? ⟨w.heap.size + 1 + 1 + 1 + 1, 0, none⟩ = some (.int .i64 2) := by subst hW1; go_simp
  have q6 : W1.cell? ⟨w.heap.size + 1 + 1 + 1 + 1, 1, none⟩ = some (.int .i64 0) := by subst hW1; go_simp
  have q7 : W1.cell? ⟨w.heap.size + 1 + 1 + 1 + 1, 2, none⟩ = some (.string ⟨#[]⟩) := by subst hW1; go_simp
  have q8 : W1.cell? ⟨w.heap.size + 1 + 1 + 1 + 1 + 1, 0, none⟩ = some (.int .i64 1) := by subst hW1; go_simp
  have q9 : W1.cell? ⟨w.heap.size + 1 + 1 + 1 + 1 + 1, 1, none⟩ = some (.int .i64 0) := by subst hW1; go_simp
  have q10 : W1.cell? ⟨w.heap.size + 1 + 1 + 1 + 1 + 1, 2, none⟩ = some (.string ⟨#[]⟩) := by subst hW1; go_simp
  have c0 : W1.cell? ⟨w.heap.size, 0, none⟩ = some (.string ⟨#[105, 100]⟩) := by subst hW1; go_simp
  have c1 : W1.cell? ⟨w.heap.size, 1, none⟩ = some (.int .i64 4) := by subst hW1; go_simp
  have c2 : W1.cell? ⟨w.heap.size, 2, none⟩ = some (.string ⟨#[111, 119, 110, 101, 114]⟩) := by subst hW1; go_simp
  have c3 : W1.cell? ⟨w.heap.size, 3, none⟩ = some (.int .i64 5) := by subst hW1; go_simp
  have t0 : W1.cell? ⟨w.heap.size + 1, 0, none⟩ = some (.string ⟨#[116]⟩) := by subst hW1; go_simp
  have t1 : W1.cell? ⟨w.heap.size + 1, 1, none⟩ = some (.slice (some ⟨w.heap.size, 0, none⟩) 2 2) := by subst hW1; go_simp
  have t2 : W1.cell? ⟨w.heap.size + 1, 2, none⟩ = some (.int .i64 1) := by subst hW1; go_simp
  have t3 : W1.cell? ⟨w.heap.size + 1, 3, none⟩ = some (.slice none 0 0) := by subst hW1; go_simp
  have t4 : W1.cell? ⟨w.heap.size + 1, 4, none⟩ = some (.slice none 0 0) := by subst hW1; go_simp
  have HSC0 : Sc (fun _ => True) W1 (.agg #[.int .i64 0, .slice (some ⟨w.heap.size + 1, 0, none⟩) 1 1]) bS := by
    refine ⟨_, rfl, _, _, rfl, ⟨by simp [bS], by unfold maxLen; omega, fun e => (by cases e), by simp [bS]⟩, fun j hj => ?_⟩
    obtain rfl : j = 0 := by simp [bS] at hj; omega
    refine ⟨w.heap.size + 1, 0, rfl, trivial, by omega, .slice (some ⟨w.heap.size, 0, none⟩) 2 2, .slice none 0 0, none, 0, ⟨t0, t1, t2, t3, t4⟩, ?_, SlR.nil _ _ _, PdS.nil _ _⟩
    refine ⟨_, _, rfl, ⟨by simp [bS, bT], by unfold maxLen; omega, fun e => (by cases e), by simp [bS, bT]⟩, fun i hi => ⟨w.heap.size, 0, rfl, trivial, by omega, ?_⟩⟩
    have hi2 : i = 0 ∨ i = 1 := by simp [bS, bT] at hi; omega
    rcases hi2 with rfl | rfl
    · exact ⟨c0, c1⟩
    · exact ⟨c2, c3⟩
  have HSC : Hid (∀ W, Below W1.heap.size W1 W → Sc (fun _ => True) W (.agg #[.int .i64 0, .slice (some ⟨w.heap.size + 1, 0, none⟩) 1 1]) bS) := fun W hb => HSC0.below hb
  have HQ : Hid (∀ W, Below W1.heap.size W1 W → W.cell? ⟨w.heap.size + 1 + 1, 0, none⟩ = some (.int .i64 0) ∧ W.cell? ⟨w.heap.size + 1 + 1, 1, none⟩ = some (.slice (some ⟨w.heap.size + 1, 0, none⟩) 1 1) ∧ W.cell? ⟨w.heap.size + 1 + 1 + 1, 0, none⟩ = some (.int .i64 4) ∧ W.cell? ⟨w.heap.size + 1 + 1 + 1, 1, none⟩ = some (.int .i64 1) ∧ W.cell? ⟨w.heap.size + 1 + 1 + 1, 2, none⟩ = some (.string ⟨#[]⟩) ∧ W.cell? ⟨w.heap.size + 1 + 1 + 1 + 1, 0, none⟩ = some (.int .i64 2) ∧ W.cell? ⟨w.heap.size + 1 + 1 + 1 + 1, 1, none⟩ = some (.int .i64 0) ∧ W.cell? ⟨w.heap.size + 1 + 1 + 1 + 1, 2, none⟩ = some (.string ⟨#[]⟩) ∧ W.cell? ⟨w.heap.size + 1 + 1 + 1 + 1 + 1, 0, none⟩ = some (.int .i64 1) ∧ W.cell? ⟨w.heap.size + 1 + 1 + 1 + 1 + 1, 1, none⟩ = some (.int .i64 0) ∧ W.cell? ⟨w.heap.size + 1 + 1 + 1 + 1 + 1, 2, none⟩ = some (.string ⟨#[]⟩)) := fun W hb =>
    ⟨(hb.cell (p := ⟨w.heap.size + 1 + 1, 0, none⟩) (show w.heap.size + 1 + 1 < _ by omega)).trans q0, (hb.cell (p := ⟨w.heap.size + 1 + 1, 1, none⟩) (show w.heap.size + 1 + 1 < _ by omega)).trans q1, (hb.cell (p := ⟨w.heap.size + 1 + 1 + 1, 0, none⟩) (show w.heap.size + 1 + 1 + 1 < _ by omega)).trans q2, (hb.cell (p := ⟨w.heap.size + 1 + 1 + 1, 1, none⟩) (show w.heap.size + 1 + 1 + 1 < _ by omega)).trans q3, (hb.cell (p := ⟨w.heap.size + 1 + 1 + 1, 2, none⟩) (show w.heap.size + 1 + 1 + 1 < _ by omega)).trans q4, (hb.cell (p := ⟨w.heap.size + 1 + 1 + 1 + 1, 0, none⟩) (show w.heap.size + 1 + 1 + 1 + 1 < _ by omega)).trans q5, (hb.cell (p := ⟨w.heap.size + 1 + 1 + 1 + 1, 1, none⟩) (show w.heap.size + 1 + 1 + 1 + 1 < _ by omega)).trans q6, (hb.cell (p := ⟨w.heap.size + 1 + 1 + 1 + 1, 2, none⟩) (show w.heap.size + 1 + 1 + 1 + 1 < _ by omega)).trans q7, (hb.cell (p := ⟨w.heap.size + 1 + 1 + 1 + 1 + 1, 0, none⟩) (show w.heap.size + 1 + 1 + 1 + 1 + 1 < _ by omega)).trans q8, (hb.cell (p := ⟨w.heap.size + 1 + 1 + 1 + 1 + 1, 1, none⟩) (show w.heap.size + 1 + 1 + 1 + 1 + 1 < _ by omega)).trans q9, (hb.cell (p := ⟨w.heap.size + 1 + 1 + 1 + 1 + 1, 2, none⟩) (show w.heap.size + 1 + 1 + 1 + 1 + 1 < _ by omega)).trans q10⟩
  have HW1 := Lib.hid hW1
  have HCK : Hid (∀ W, Below W1.heap.size W1 W → Calls Try.prog 11 #[.agg #[.int .i64 0, .slice (some ⟨w.heap.size + 1, 0, none⟩) 1 1]] W fun e w' => e = .returned (.int .i64 0) ∧ Below W.heap.size W w') := fun W hb => by
    have h := sCheck_any _ bS W (HSC.out W hb) bS_names
    rw [bS_check] at h; exact h
  have HF1 : Hid (∀ W, Below W1.heap.size W1 W → Calls Try.prog 25 #[.agg #[.int .i64 0, .slice (some ⟨w.heap.size + 1, 0, none⟩) 1 1], .string ⟨#[116]⟩] W fun e w' => e = .returned (.int .i64 0) ∧ Below W.heap.size W w') := fun W hb => by
    have h := sFind_any _ bS ⟨#[116]⟩ W (HSC.out W hb)
    rw [bS_find] at h; exact h
  have HF2 : Hid (∀ W, Below W1.heap.size W1 W → Calls Try.prog 25 #[.agg #[.int .i64 0, .slice (some ⟨w.heap.size + 1, 0, none⟩) 1 1], .string ⟨#[117]⟩] W fun e w' => e = .returned (.int .i64 (-1)) ∧ Below W.heap.size W w') := fun W hb => by
    have h := sFind_any _ bS ⟨#[117]⟩ W (HSC.out W hb)
    rw [bS_find2] at h; exact h
  have HR0 : Hid (∀ W, Below W1.heap.size W1 W → Calls Try.prog 35 #[.agg #[.int .i64 0, .slice (some ⟨w.heap.size + 1, 0, none⟩) 1 1], .int .i64 0, .slice (some ⟨W.heap.size, 0, none⟩) 2 2, .int .i64 2] (W.alloc (.cells #[.int .i64 4, .int .i64 1, .string ⟨#[]⟩, .int .i64 2, .int .i64 0, .string ⟨#[]⟩] 57)) fun e w' => e = .returned (.bool true) ∧ Below W1.heap.size W1 w') := fun W hb => by
    have h := sFits_any _ bS 0 _ _ 2 (W.alloc (.cells #[.int .i64 4, .int .i64 1, .string ⟨#[]⟩, .int .i64 2, .int .i64 0, .string ⟨#[]⟩] 57)) (HSC.out _ (hb.alloc hb.size _)) (rowAt_two W 4 1 ⟨#[]⟩ 2 0 ⟨#[]⟩)
    rw [bS_fits1] at h
    exact h.mono fun e w' hh => ⟨hh.1, (hb.alloc hb.size _).trans (hh.2.mono (by have := hb.size; simp; omega))⟩
  have HR1 : Hid (∀ W, Below W1.heap.size W1 W → Calls Try.prog 35 #[.agg #[.int .i64 0, .slice (some ⟨w.heap.size + 1, 0, none⟩) 1 1], .int .i64 0, .slice (some ⟨W.heap.size, 0, none⟩) 2 2, .int .i64 3] (W.alloc (.cells #[.int .i64 2, .int .i64 0, .string ⟨#[]⟩, .int .i64 4, .int .i64 1, .string ⟨#[]⟩] 57)) fun e w' => e = .returned (.bool false) ∧ Below W1.heap.size W1 w') := fun W hb => by
    have h := sFits_any _ bS 0 _ _ 3 (W.alloc (.cells #[.int .i64 2, .int .i64 0, .string ⟨#[]⟩, .int .i64 4, .int .i64 1, .string ⟨#[]⟩] 57)) (HSC.out _ (hb.alloc hb.size _)) (rowAt_two W 2 0 ⟨#[]⟩ 4 1 ⟨#[]⟩)
    rw [bS_fits2] at h
    exact h.mono fun e w' hh => ⟨hh.1, (hb.alloc hb.size _).trans (hh.2.mono (by have := hb.size; simp; omega))⟩
  have HR2 : Hid (∀ W, Below W1.heap.size W1 W → Calls Try.prog 35 #[.agg #[.int .i64 0, .slice (some ⟨w.heap.size + 1, 0, none⟩) 1 1], .int .i64 0, .slice (some ⟨W.heap.size, 0, none⟩) 2 2, .int .i64 3] (W.alloc (.cells #[.int .i64 4, .int .i64 1, .string ⟨#[]⟩, .int .i64 1, .int .i64 0, .string ⟨#[]⟩] 57)) fun e w' => e = .returned (.bool true) ∧ Below W1.heap.size W1 w') := fun W hb => by
    have h := sFits_any _ bS 0 _ _ 3 (W.alloc (.cells #[.int .i64 4, .int .i64 1, .string ⟨#[]⟩, .int .i64 1, .int .i64 0, .string ⟨#[]⟩] 57)) (HSC.out _ (hb.alloc hb.size _)) (rowAt_two W 4 1 ⟨#[]⟩ 1 0 ⟨#[]⟩)
    rw [bS_fits3] at h
    exact h.mono fun e w' hh => ⟨hh.1, (hb.alloc hb.size _).trans (hh.2.mono (by have := hb.size; simp; omega))⟩
  clear hW1 HSC0 HSC q0 q1 q2 q3 q4 q5 q6 q7 q8 q9 q10 c0 c1 c2 c3 t0 t1 t2 t3 t4
  go_enter Try.func10, Try.ntmps10
  go_upto_region 3 with fail
  rw [HW1.out]
  obtain ⟨q0, q1, q2, q3, q4, q5, q6, q7, q8, q9, q10⟩ := HQ.out W1 (Below.refl _ _)
  clear HW1
  go_wp2_with fail
  refine (HCK.out W1 (Below.refl _ _)).mono ?_
  rintro e w1 ⟨rfl, hb⟩
  clear q0 q1 q2 q3 q4 q5 q6 q7 q8 q9 q10
  obtain ⟨q0, q1, q2, q3, q4, q5, q6, q7, q8, q9, q10⟩ := HQ.out w1 hb
  have H1 := Lib.hid hb
  clear hb
  go_wp2_with fail
  refine (HF1.out w1 H1.out).mono ?_
  rintro e w2 ⟨rfl, hb⟩
  have H2 : Hid (Below W1.heap.size W1 w2) := H1.out.trans (hb.mono H1.out.size)
  clear q0 q1 q2 q3 q4 q5 q6 q7 q8 q9 q10 hb H1
  obtain ⟨q0, q1, q2, q3, q4, q5, q6, q7, q8, q9, q10⟩ := HQ.out w2 H2.out
  go_wp2_with fail
  refine (HF2.out w2 H2.out).mono ?_
  rintro e w3 ⟨rfl, hb⟩
  have H3 : Hid (Below W1.heap.size W1 w3) := H2.out.trans (hb.mono H2.out.size)
  clear q0 q1 q2 q3 q4 q5 q6 q7 q8 q9 q10 hb H2
  obtain ⟨q0, q1, q2, q3, q4, q5, q6, q7, q8, q9, q10⟩ := HQ.out w3 H3.out
  go_wp2_with fail
  refine (HR0.out w3 H3.out).mono ?_
  rintro e w4 ⟨rfl, hb⟩
  have H4 := Lib.hid hb
  clear q0 q1 q2 q3 q4 q5 q6 q7 q8 q9 q10 hb H3
  obtain ⟨q0, q1, q2, q3, q4, q5, q6, q7, q8, q9, q10⟩ := HQ.out w4 H4.out
  go_wp2_with fail
  refine (HR1.out w4 H4.out).mono ?_
  rintro e w5 ⟨rfl, hb⟩
  have H5 := Lib.hid hb
  clear q0 q1 q2 q3 q4 q5 q6 q7 q8 q9 q10 hb H4
  obtain ⟨q0, q1, q2, q3, q4, q5, q6, q7, q8, q9, q10⟩ := HQ.out w5 H5.out
  go_wp2_with fail
  refine (HR2.out w5 H5.out).mono ?_
  rintro e w6 ⟨rfl, hb⟩
  have H6 : Hid (Below w.heap.size w w6) := HB0.out.trans (hb.mono (by omega))
  clear q0 q1 q2 q3 q4 q5 q6 q7 q8 q9 q10 hb H5
  go_wp2_with fail
  go_ret
  exact ⟨rfl, H6.out⟩
end Go.Proofs.Ytjcbmeannhafjaa
