
/- Walks over partsynccase: Number, Text, Value, Any. -/
import Derived.Test.YtkkhepfokjogpaaCase

import Derived.Test.YtkkhepfokjogpaaVal

namespace Go.Proofs.Ytkkhepfokjogpaa

open Go.RowKit

def NumPost (bc B : Nat) (w : World) (e : Ending) (w' : World) : Prop :=
  ∃ r : Int, e = .returned (.int .i64 r) ∧ -9223372036854775808 ≤ r ∧ r ≤ 9223372036854775807 ∧ Mv bc w w' ∧ CaseOk bc B w'

set_option maxHeartbeats 400000 in
theorem cNumber_any (bc B : Nat) (w : World) (h : CaseOk bc B w) : Calls Try.prog 73 #[.pointer (some ⟨bc, 0, none⟩)] w (NumPost bc B w) := by
  have HI := Lib.hid (cInt_any bc B 12 w (by omega) (by omega) h)
  clear h
  go_enter Try.func73, Try.ntmps73
  go_wp2_with fail
  refine HI.out.mono ?_
  rintro e w1 ⟨r, rfl, hr0, hr1, hm, ho⟩
  clear HI
  have hr : r < 12 := by omega
  clear hr1
  by_cases h9 : r = 9
  · subst h9
    go_wp2_with fail
    go_ret
    exact ⟨_, rfl, by omega, by omega, hm, ho⟩
  · by_cases h10 : r = 10
    · subst h10
      go_wp2_with fail
      go_ret
      exact ⟨_, rfl, by omega, by omega, hm, ho⟩
    · by_cases h11 : r = 11
      · subst h11
        go_wp2_with fail
        go_ret
        exact ⟨_, rfl, by omega, by omega, hm, ho⟩
      · have b9 : (r == 9) = false := by simp; omega
        have b10 : (r == 10) = false := by simp; omega
        have b11 : (r == 11) = false := by simp; omega
        clear h9 h10 h11
        go_wp2_with fail
        go_ret
        exact ⟨r % 4, rfl, by omega, by omega, hm, ho⟩

def TextPost (bc B : Nat) (w : World) (e : Ending) (w' : World) : Prop :=
  ∃ s : ByteArray, e = .returned (.string s) ∧ s.size ≤ 64 ∧ Mv bc w w' ∧ CaseOk bc B w'

set_option maxHeartbeats 1000000 in
theorem cText_any (bc B : Nat) (w : World) (h : CaseOk bc B w) : Calls Try.prog 74 #[.pointer (some ⟨bc, 0, none⟩)] w (TextPost bc B w) := by
  have HI := Lib.hid (cInt_any bc B 10 w (by omega) (by omega) h)
  clear h
  go_enter Try.func74, Try.ntmps74
  go_wp2_with fail
  refine HI.out.mono ?_
  rintro e w1 ⟨r, rfl, hr0, hr1, hm, ho⟩
  clear HI
  have hr : r < 10 := by omega
  clear hr1
  have hcases : r = 0 ∨ r = 1 ∨ r = 2 ∨ r = 3 ∨ r = 4 ∨ r = 5 ∨ r = 6 ∨ r = 7 ∨ r = 8 ∨ r = 9 := by omega
  rcases hcases with rfl | rfl | rfl | rfl | rfl | rfl | rfl | rfl | rfl | rfl
  all_goals first | (go_wp2_with fail; go_ret; exact ⟨_, rfl, by decide, hm, ho⟩) | skip
  · go_wp2_with fail
    go_loop [3, 4] (fun s i => ∃ (k : Nat) (x : ByteArray), k ≤ 64 ∧ i = .int .i64 k ∧ s = .string x ∧ Hid (x.size = k)) (fun _ i => 64 - (intOf i).toNat)
    case atStart => exact ⟨0, _, by omega, rfl, rfl, rfl⟩
    case round =>
      obtain ⟨k, x, hk, rfl, rfl, hx⟩ := hrel
      have hxl : x.size ≤ 64 := by rw [hx.out]; omega
      by_cases hlt : k < 64
      · go_wp2_with fail
        go_round
        case rel => exact ⟨k + 1, _, by omega, by go_num, rfl, by show _ = _; rw [ByteArray.size_append, hx.out]; rfl⟩
        case measure => simp [intOf]; omega
      · have hk64 : k = 64 := by omega
        clear hlt
        subst hk64
        go_wp2_with fail
        go_ret
        exact ⟨_, rfl, by rw [hx.out]; omega, hm, ho⟩
  · go_wp2_with fail
    go_loop [3, 5] (fun s i => ∃ (k : Nat) (x : ByteArray), k ≤ 64 ∧ i = .int .i64 k ∧ s = .string x ∧ Hid (x.size = k)) (fun _ i => 64 - (intOf i).toNat)
    case atStart => exact ⟨0, _, by omega, rfl, rfl, rfl⟩
    case round =>
      obtain ⟨k, x, hk, rfl, rfl, hx⟩ := hrel
      have hxl : x.size ≤ 64 := by rw [hx.out]; omega
      by_cases hlt : k < 64
      · go_wp2_with fail
        go_round
        case rel => exact ⟨k + 1, _, by omega, by go_num, rfl, by show _ = _; rw [ByteArray.size_append, hx.out]; rfl⟩
        case measure => simp [intOf]; omega
      · have hk64 : k = 64 := by omega
        clear hlt
        subst hk64
        go_wp2_with fail
        go_ret
        exact ⟨_, rfl, by rw [hx.out]; omega, hm, ho⟩
end Go.Proofs.Ytkkhepfokjogpaa
