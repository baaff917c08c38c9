
/- Schemas: Name of the reference. -/
import Derived.Test.YtjcbmeannhafjaaScSound

namespace Go.Proofs.Ytjcbmeannhafjaa

open Go.RowKit Go.Deep

def nmA (s : ByteArray) : Nat → Nat → Bool
  | 0, _ => true
  | b + 1, k => (if h : k < s.size then latB (s[k]'h).toNat && nmA s b (k + 1) else true)
theorem nmA_some (s : ByteArray) (b k : Nat) (h : k < s.size) : nmA s (b + 1) k = (latB (s[k]'h).toNat && nmA s b (k + 1)) := by
  rw [nmA, dif_pos h]
theorem nmA_end (s : ByteArray) (b k : Nat) (h : s.size ≤ k) : nmA s b k = true := by
  cases b with
  | zero => rfl
  | succ b => rw [nmA, dif_neg (by omega)]
theorem nmT_A (s : ByteArray) : ∀ (b k : Nat), 1 ≤ k → nmT s b k = nmA s b k
  | 0, _, _ => rfl
  | b + 1, k, hk => by
    by_cases h : k < s.size
    · rw [nmT_some s b k h, nmA_some s b k h, nmT_A s b (k + 1) (by omega)]
      have e : (k != 0) = true := by simp; omega
      rw [e]
      cases h1 : letB (s[k]'h).toNat with
      | true => have : latB (s[k]'h).toNat = true := by unfold latB; rw [h1]; rfl
                rw [this]; rfl
      | false => simp
    · rw [nmT_end s _ _ (by omega), nmA_end s _ _ (by omega)]
theorem nameB_some (s : ByteArray) (h1 : 0 < s.size) (h2 : s.size ≤ 32) : nameB s = (letB (s[0]'h1).toNat && nmA s s.size 0) := by
  obtain ⟨b, hb⟩ : ∃ b, s.size = b + 1 := ⟨s.size - 1, by omega⟩
  unfold nameB
  rw [decide_eq_true (p := 1 ≤ s.size ∧ s.size ≤ 32) (by omega), hb, nmT_some s b 0 h1, nmA_some s b 0 h1, nmT_A s b 1 (by omega)]
  cases hl : letB (s[0]'h1).toNat with
  | true => have : latB (s[0]'h1).toNat = true := by unfold latB; rw [hl]; rfl
            rw [this]; rfl
  | false => rfl

set_option maxHeartbeats 2000000 in
theorem rName_any (s : ByteArray) (w : World) : Calls Try.prog 14 #[.string s] w fun e w' => e = .returned (.bool (nameB s)) ∧ w = w' := by
  obtain ⟨z, hz⟩ : ∃ z, nameB s = z := ⟨_, rfl⟩
  rw [hz]
  have HZ := Lib.hid hz
  clear hz
  by_cases h1 : s.size = 0
  · have HR : Hid (z = false) := by show _ = _; rw [← HZ.out]; unfold nameB; rw [decide_eq_false (p := 1 ≤ s.size ∧ s.size ≤ 32) (by omega)]; rfl
    have d1 : (s.size == 0) = true := by simpa using h1
    have d2 : ((s.size : Int) == 0) = true := by simpa using h1
    clear h1
    go_enter Try.func14, Try.ntmps14
    go_wp2_with fail
    go_ret
    exact ⟨by rw [HR.out]; rfl, rfl⟩
  · have d1 : (s.size == 0) = false := by simpa using h1
    have d2 : ((s.size : Int) == 0) = false := by simpa using h1
    by_cases h2 : 32 < s.size
    · have HR : Hid (z = false) := by show _ = _; rw [← HZ.out]; unfold nameB; rw [decide_eq_false (p := 1 ≤ s.size ∧ s.size ≤ 32) (by omega)]; rfl
      have d3 : decide (32 < (s.size : Int)) = true := decide_eq_true (by omega)
      have d4 : decide (32 < s.size) = true := decide_eq_true (by omega)
      clear h1
      go_enter Try.func14, Try.ntmps14
      go_wp2_with fail
      go_ret
      exact ⟨by rw [HR.out]; rfl, rfl⟩
    · have d3 : decide (32 < (s.size : Int)) = false := decide_eq_false (by omega)
      have d4 : decide (32 < s.size) = false := decide_eq_false (by omega)
      have hp0 : 0 < s.size := by omega
      have HN := Lib.hid (nameB_some s hp0 (by omega))
      obtain ⟨n0, hn0⟩ : ∃ n, (s[0]'hp0).toNat = n := ⟨_, rfl⟩
      rw [hn0] at HN
      clear h1
      by_cases h3 : n0 < 97
      · have HR : Hid (z = false) := by show _ = _; rw [← HZ.out, HN.out]; unfold letB; rw [decide_eq_false (p := 97 ≤ n0 ∧ n0 ≤ 122) (by omega)]; rfl
        have d5 : decide (n0 < 97) = true := decide_eq_true (by omega)
        have d6 : decide ((n0 : Int) < 97) = true := decide_eq_true (by omega)
        clear HN HZ h3
        go_enter Try.func14, Try.ntmps14
        go_wp2_with fail
        go_ret
        exact ⟨by rw [HR.out]; rfl, rfl⟩
      · have d5 : decide (n0 < 97) = false := decide_eq_false (by omega)
        have d6 : decide ((n0 : Int) < 97) = false := decide_eq_false (by omega)
        by_cases h4 : 122 < n0
        · have HR : Hid (z = false) := by show _ = _; rw [← HZ.out, HN.out]; unfold letB; rw [decide_eq_false (p := 97 ≤ n0 ∧ n0 ≤ 122) (by omega)]; rfl
          have d7 : decide (122 < n0) = true := decide_eq_true (by omega)
          have d8 : decide (122 < (n0 : Int)) = true := decide_eq_true (by omega)
          clear HN HZ h3 h4
          go_enter Try.func14, Try.ntmps14
          go_wp2_with fail
          go_ret
          exact ⟨by rw [HR.out]; rfl, rfl⟩
        · have d7 : decide (122 < n0) = false := decide_eq_false (by omega)
          have d8 : decide (122 < (n0 : Int)) = false := decide_eq_false (by omega)
          have HT0 : Hid (nmA s s.size 0 = z) := by show _ = _; rw [← HZ.out, HN.out]; unfold letB; rw [decide_eq_true (p := 97 ≤ n0 ∧ n0 ≤ 122) (by omega)]; rfl
          clear HN HZ h3 h4
          go_enter Try.func14, Try.ntmps14
          go_wp2_with fail
          clear d1 d2 d3 d4 d5 d6 d7 d8 hn0
          go_loop [3] (fun i => ∃ (k b : Nat), k ≤ s.size ∧ i = .int .i64 k ∧ Hid (nmA s b k = z) ∧ s.size ≤ k + b) (fun i => s.size - (intOf i).toNat)
          case atStart => exact ⟨0, s.size, by omega, rfl, HT0, by omega⟩
          case round =>
            obtain ⟨k, b, hk, rfl, HT, hb⟩ := hrel
            clear HT0
            by_cases hp : k < s.size
            · have hp' : (k : Int) < s.size := by omega
              obtain ⟨b, rfl⟩ : ∃ b', b = b' + 1 := ⟨b - 1, by omega⟩
              have HD := Lib.hid (nmA_some s b k hp)
              obtain ⟨n, hn⟩ : ∃ n, (s[k]'hp).toNat = n := ⟨_, rfl⟩
              rw [hn] at HD
              by_cases c0 : n < 48
              · skip
                have d0 : decide (n < 97) = true := decide_eq_true (by omega)
                have i0 : decide ((n : Int) < 97) = true := decide_eq_true (by omega)
                have d1 : decide (122 < n) = false := decide_eq_false (by omega)
                have i1 : decide (122 < (n : Int)) = false := decide_eq_false (by omega)
                have d2 : decide (n < 48) = true := decide_eq_true (by omega)
                have i2 : decide ((n : Int) < 48) = true := decide_eq_true (by omega)
                have d3 : decide (57 < n) = false := decide_eq_false (by omega)
                have i3 : decide (57 < (n : Int)) = false := decide_eq_false (by omega)
                have d4 : (n != 95) = true := by simp; omega
                have i4 : ((n : Int) != 95) = true := by simp; omega
                have hnl : latB n = false := by unfold latB letB; simp; omega
                rw [hnl] at HD
                have HR : Hid (z = false) := by show _ = _; rw [← HT.out, HD.out]; rfl
                clear hnl c0 HD HT
                go_wp2_with fail
                go_ret
                exact ⟨by rw [HR.out]; rfl, rfl⟩
              · skip
                by_cases c1 : n < 58
                · skip
                  have d0 : decide (n < 97) = true := decide_eq_true (by omega)
                  have i0 : decide ((n : Int) < 97) = true := decide_eq_true (by omega)
                  have d1 : decide (122 < n) = false := decide_eq_false (by omega)
                  have i1 : decide (122 < (n : Int)) = false := decide_eq_false (by omega)
                  have d2 : decide (n < 48) = false := decide_eq_false (by omega)
                  have i2 : decide ((n : Int) < 48) = false := decide_eq_false (by omega)
                  have d3 : decide (57 < n) = false := decide_eq_false (by omega)
                  have i3 : decide (57 < (n : Int)) = false := decide_eq_false (by omega)
                  have d4 : (n != 95) = true := by simp; omega
                  have i4 : ((n : Int) != 95) = true := by simp; omega
                  have hnl : latB n = true := by unfold latB letB; simp; omega
                  rw [hnl] at HD
                  have HR : Hid (nmA s b (k + 1) = z) := by show _ = _; rw [← HT.out, HD.out]; rfl
                  clear hnl c0 c1 HD HT
                  go_wp2_with fail
                  go_round
                  case rel => exact ⟨k + 1, b, by omega, by go_num, HR, by omega⟩
                  case measure => simp [intOf]; omega
                · skip
                  by_cases c2 : n < 95
                  · skip
                    have d0 : decide (n < 97) = true := decide_eq_true (by omega)
                    have i0 : decide ((n : Int) < 97) = true := decide_eq_true (by omega)
                    have d1 : decide (122 < n) = false := decide_eq_false (by omega)
                    have i1 : decide (122 < (n : Int)) = false := decide_eq_false (by omega)
                    have d2 : decide (n < 48) = false := decide_eq_false (by omega)
                    have i2 : decide ((n : Int) < 48) = false := decide_eq_false (by omega)
                    have d3 : decide (57 < n) = true := decide_eq_true (by omega)
                    have i3 : decide (57 < (n : Int)) = true := decide_eq_true (by omega)
                    have d4 : (n != 95) = true := by simp; omega
                    have i4 : ((n : Int) != 95) = true := by simp; omega
                    have hnl : latB n = false := by unfold latB letB; simp; omega
                    rw [hnl] at HD
                    have HR : Hid (z = false) := by show _ = _; rw [← HT.out, HD.out]; rfl
                    clear hnl c0 c1 c2 HD HT
                    go_wp2_with fail
                    go_ret
                    exact ⟨by rw [HR.out]; rfl, rfl⟩
                  · skip
                    by_cases c3 : n < 96
                    · skip
                      have d0 : decide (n < 97) = true := decide_eq_true (by omega)
                      have i0 : decide ((n : Int) < 97) = true := decide_eq_true (by omega)
                      have d1 : decide (122 < n) = false := decide_eq_false (by omega)
                      have i1 : decide (122 < (n : Int)) = false := decide_eq_false (by omega)
                      have d2 : decide (n < 48) = false := decide_eq_false (by omega)
                      have i2 : decide ((n : Int) < 48) = false := decide_eq_false (by omega)
                      have d3 : decide (57 < n) = true := decide_eq_true (by omega)
                      have i3 : decide (57 < (n : Int)) = true := decide_eq_true (by omega)
                      have d4 : (n != 95) = false := by simp; omega
                      have i4 : ((n : Int) != 95) = false := by simp; omega
                      have hnl : latB n = true := by unfold latB letB; simp; omega
                      rw [hnl] at HD
                      have HR : Hid (nmA s b (k + 1) = z) := by show _ = _; rw [← HT.out, HD.out]; rfl
                      clear hnl c0 c1 c2 c3 HD HT
                      go_wp2_with fail
                      go_round
                      case rel => exact ⟨k + 1, b, by omega, by go_num, HR, by omega⟩
                      case measure => simp [intOf]; omega
                    · skip
                      by_cases c4 : n < 97
                      · skip
                        have d0 : decide (n < 97) = true := decide_eq_true (by omega)
                        have i0 : decide ((n : Int) < 97) = true := decide_eq_true (by omega)
                        have d1 : decide (122 < n) = false := decide_eq_false (by omega)
                        have i1 : decide (122 < (n : Int)) = false := decide_eq_false (by omega)
                        have d2 : decide (n < 48) = false := decide_eq_false (by omega)
                        have i2 : decide ((n : Int) < 48) = false := decide_eq_false (by omega)
                        have d3 : decide (57 < n) = true := decide_eq_true (by omega)
                        have i3 : decide (57 < (n : Int)) = true := decide_eq_true (by omega)
                        have d4 : (n != 95) = true := by simp; omega
                        have i4 : ((n : Int) != 95) = true := by simp; omega
                        have hnl : latB n = false := by unfold latB letB; simp; omega
                        rw [hnl] at HD
                        have HR : Hid (z = false) := by show _ = _; rw [← HT.out, HD.out]; rfl
                        clear hnl c0 c1 c2 c3 c4 HD HT
                        go_wp2_with fail
                        go_ret
                        exact ⟨by rw [HR.out]; rfl, rfl⟩
                      · skip
                        by_cases c5 : n < 123
                        · skip
                          have d0 : decide (n < 97) = false := decide_eq_false (by omega)
                          have i0 : decide ((n : Int) < 97) = false := decide_eq_false (by omega)
                          have d1 : decide (122 < n) = false := decide_eq_false (by omega)
                          have i1 : decide (122 < (n : Int)) = false := decide_eq_false (by omega)
                          have d2 : decide (n < 48) = false := decide_eq_false (by omega)
                          have i2 : decide ((n : Int) < 48) = false := decide_eq_false (by omega)
                          have d3 : decide (57 < n) = true := decide_eq_true (by omega)
                          have i3 : decide (57 < (n : Int)) = true := decide_eq_true (by omega)
                          have d4 : (n != 95) = true := by simp; omega
                          have i4 : ((n : Int) != 95) = true := by simp; omega
                          have hnl : latB n = true := by unfold latB letB; simp; omega
                          rw [hnl] at HD
                          have HR : Hid (nmA s b (k + 1) = z) := by show _ = _; rw [← HT.out, HD.out]; rfl
                          clear hnl c0 c1 c2 c3 c4 c5 HD HT
                          go_wp2_with fail
                          go_round
                          case rel => exact ⟨k + 1, b, by omega, by go_num, HR, by omega⟩
                          case measure => simp [intOf]; omega
                        · skip
                          have d0 : decide (n < 97) = false := decide_eq_false (by omega)
                          have i0 : decide ((n : Int) < 97) = false := decide_eq_false (by omega)
                          have d1 : decide (122 < n) = true := decide_eq_true (by omega)
                          have i1 : decide (122 < (n : Int)) = true := decide_eq_true (by omega)
                          have d2 : decide (n < 48) = false := decide_eq_false (by omega)
                          have i2 : decide ((n : Int) < 48) = false := decide_eq_false (by omega)
                          have d3 : decide (57 < n) = true := decide_eq_true (by omega)
                          have i3 : decide (57 < (n : Int)) = true := decide_eq_true (by omega)
                          have d4 : (n != 95) = true := by simp; omega
                          have i4 : ((n : Int) != 95) = true := by simp; omega
                          have hnl : latB n = false := by unfold latB letB; simp; omega
                          rw [hnl] at HD
                          have HR : Hid (z = false) := by show _ = _; rw [← HT.out, HD.out]; rfl
                          clear hnl c0 c1 c2 c3 c4 c5 HD HT
                          go_wp2_with fail
                          go_ret
                          exact ⟨by rw [HR.out]; rfl, rfl⟩
            · have HR : Hid (z = true) := by show _ = _; rw [← HT.out]; exact nmA_end s b k (by omega)
              have hke : k = s.size := by omega
              subst hke
              clear HT
              go_wp2_with fail
              go_ret
              exact ⟨by rw [HR.out]; rfl, rfl⟩
end Go.Proofs.Ytjcbmeannhafjaa
