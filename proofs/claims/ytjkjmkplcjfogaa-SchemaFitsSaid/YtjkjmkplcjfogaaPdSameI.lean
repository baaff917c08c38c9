
/- The law's 'same' on lists of ints. -/
import Derived.Test.YtjkjmkplcjfogaaPdInts

import Derived.Deep.QuietTactic

import Derived.BigQuiet

namespace Go.Proofs.Ytjkjmkplcjfogaa

open Go.RowKit

theorem dropI_iff (A B : List Int) (k : Nat) (i1 : k < A.length) (i2 : k < B.length) : (A.drop k = B.drop k) ↔ (A[k] = B[k] ∧ A.drop (k + 1) = B.drop (k + 1)) := by
  rw [List.drop_eq_getElem_cons i1, List.drop_eq_getElem_cons i2, List.cons.injEq]
set_option maxRecDepth 100000 in
set_option maxHeartbeats 1000000 in
theorem lSame_any (va vb : Value) (A B : List Int) (w : World) (ha : IntsAt w va A) (hb : IntsAt w vb B) : Calls Try.prog 13 #[va, vb] w fun e w' => e = .returned (.bool (decide (A = B))) ∧ ∃ n, w' = w.drewN n := by
  obtain ⟨aa, ac, rfl, hfa, hai⟩ := ha
  obtain ⟨ba, bc, rfl, hfb, hbi⟩ := hb
  have ha1 := hfa.le
  have ha2 := hfa.few
  have hb1 := hfb.le
  by_cases hl : A.length = B.length
  · obtain ⟨n, hn⟩ : ∃ n, A.length = n := ⟨_, rfl⟩
    have HNA := Lib.hid hn
    have HNB : Hid (B.length = n) := by show _ = _; omega
    have HA := Lib.hid hai
    have HB := Lib.hid hbi
    have hnn : n ≤ 17592186044416 := by omega
    have hna : n ≤ ac := by omega
    have hnb : n ≤ bc := by omega
    rw [hn, show B.length = n from HNB.out]
    obtain ⟨z, hz⟩ : ∃ z, decide (A = B) = z := ⟨_, rfl⟩
    have HZ : Hid (z = true ↔ A.drop 0 = B.drop 0) := by show _ ↔ _; rw [← hz]; simp
    rw [hz]
    clear hl hn hai hbi ha1 hb1 ha2 hz hfa hfb
    go_enter Try.func13, Try.ntmps13
    go_wp2_with fail
    go_loopw [13] (fun i wr => ∃ k m : Nat, k ≤ n ∧ i = .int .i64 k ∧ wr = w.drewN m ∧ Hid (z = true ↔ A.drop k = B.drop k)) (fun i _ => n - (intOf i).toNat)
    case atStart => exact ⟨0, 0, by omega, rfl, rfl, HZ.out⟩
    case round =>
      obtain ⟨k, m, hk, rfl, rfl, ht⟩ := hrel
      clear HZ
      by_cases hlt : k < n
      · have hlt' : (k : Int) < n := by omega
        have i1 : k < A.length := by rw [HNA.out]; exact hlt
        have i2 : k < B.length := by rw [HNB.out]; exact hlt
        obtain ⟨b1, o1, rfl, hb1, c1⟩ := HA.out k i1
        obtain ⟨b2, o2, rfl, hb2, c2⟩ := HB.out k i2
        have HD := Lib.hid (dropI_iff A B k i1 i2)
        generalize A[k] = x at c1 HD
        generalize B[k] = y at c2 HD
        clear i1 i2
        by_cases he : x = y
        · subst he
          have HX : Hid (z = true ↔ A.drop (k + 1) = B.drop (k + 1)) := ht.out.trans (HD.out.trans ⟨fun h => h.2, fun h => ⟨rfl, h⟩⟩)
          clear ht HD
          go_wp2_with fail
          go_quiet (fail)
          rename_i nq
          go_wp2_with fail
          go_roundw
          case rel => exact ⟨k + 1, m + nq, by omega, by go_num, by simp [World.drewN], HX⟩
          case measure => simp [intOf]; omega
        · have hne : (x != y) = true := by simpa using he
          have HX : Hid (z = false) := by
            show z = false
            cases z with
            | false => rfl
            | true => exact absurd (HD.out.1 (ht.out.1 rfl)).1 he
          clear ht HD he
          go_wp2_with fail
          go_quiet (fail)
          rename_i nq
          go_wp2_with fail
          go_ret
          exact ⟨by rw [HX.out]; try rfl, m + nq, by simp [World.drewN, Nat.add_assoc]⟩
      · have HX : Hid (z = true) := by
          refine ht.out.2 ?_
          rw [List.drop_eq_nil_of_le (by rw [HNA.out]; omega), List.drop_eq_nil_of_le (by rw [HNB.out]; omega)]
        clear ht
        go_wp2_with fail
        go_ret
        exact ⟨by rw [HX.out]; try rfl, m, rfl⟩
  · have hd : decide (A = B) = false := by
      have : ¬ A = B := fun e => hl (by rw [e])
      simpa using this
    rw [hd]
    have hb : ((A.length : Int) != B.length) = true := by simp; omega
    clear hai hbi hd hfa hfb
    generalize A.length = n1 at *
    generalize B.length = n2 at *
    go_enter Try.func13, Try.ntmps13
    go_wp2_with fail
    go_ret
    exact ⟨rfl, 0, rfl⟩
end Go.Proofs.Ytjkjmkplcjfogaa
