
/- Lists of ints in memory; at[int], columnKinds; the reference's ColumnKinds. -/
import Derived.Test.YtjcbmeannhafjaaPdMath

import Derived.Test.YtjcbmeannhafjaaPdLeaf

namespace Go.Proofs.Ytjcbmeannhafjaa

open Go.RowKit

/-- A slice value reads as a list of ints. -/
def IntsAt (w : World) (v : Value) (l : List Int) : Prop :=
  ∃ a c, v = .slice a l.length c ∧ SlF a l.length c ∧ ∀ j (h : j < l.length), ∃ b off, a = some ⟨b, off, none⟩ ∧ b < w.heap.size ∧ w.cell? ⟨b, off + j, none⟩ = some (.int .i64 l[j])
theorem IntsAt.blw {W W' : World} {v : Value} {l : List Int} (h : IntsAt W v l) (hb : Below W.heap.size W W') : IntsAt W' v l := by
  obtain ⟨a, c, e, hf, hi⟩ := h
  refine ⟨a, c, e, hf, fun j hj => ?_⟩
  obtain ⟨b, off, ea, hlt, hc⟩ := hi j hj
  exact ⟨b, off, ea, Nat.lt_of_lt_of_le hlt hb.size, (hb.cell (p := ⟨b, off + j, none⟩) hlt).trans hc⟩
theorem IntsAt.nil (W : World) : IntsAt W (.slice none 0 0) [] := ⟨none, 0, rfl, ⟨by simp, by simp, fun _ => ⟨rfl, rfl⟩, by simp⟩, fun j h => absurd h (by simp)⟩

set_option maxHeartbeats 1000000 in
theorem pAtI_any (rv : Value) (l : List Int) (i : Int) (w : World) (h : IntsAt w rv l) : Calls Try.prog 117 #[rv, .int .i64 i] w fun e w' => e = .returned (.tuple #[.int .i64 (atI l i), .bool (inB l.length i)]) ∧ w = w' := by
  obtain ⟨a, c, rfl, hf, hi⟩ := h
  have hl := hf.few
  cases hin : inB l.length i with
  | true =>
    obtain ⟨k, rfl, hk⟩ := inB_true hin
    obtain ⟨b, off, rfl, hb, c0⟩ := hi k hk
    rw [atI_in hk]
    clear hi hin hf
    generalize l[k] = v at *
    generalize l.length = n at *
    have d1 : decide ((k : Int) < 0) = false := by simp
    have d2 : decide ((n : Int) ≤ k) = false := by simp; omega
    have hlt' : (k : Int) < n := by omega
    go_enter Try.func117, Try.ntmps117
    go_wp2_with fail
    go_ret2
    exact ⟨rfl, rfl⟩
  | false =>
    rw [atI_out hin]
    have hcs := inB_false hin
    clear hi hin hf
    generalize l.length = n at *
    by_cases h0 : i < 0
    · have d1 : decide (i < 0) = true := by simpa using h0
      go_enter Try.func117, Try.ntmps117
      go_wp2_with fail
      go_ret2
      exact ⟨rfl, rfl⟩
    · have d1 : decide (i < 0) = false := by simpa using h0
      have d2 : decide ((n : Int) ≤ i) = true := by simp; omega
      go_enter Try.func117, Try.ntmps117
      go_wp2_with fail
      go_ret2
      exact ⟨rfl, rfl⟩

theorem okK_no {k : Int} (h : okK k = false) : (k != 3) = true ∧ (k != 4) = true ∧ (k != 5) = true := by
  unfold okK at h; simp at h; simp [h]
theorem okK_yes {k : Int} (h : okK k = true) : k = 3 ∨ k = 4 ∨ k = 5 := by
  unfold okK at h; simpa using h

set_option maxRecDepth 100000 in
set_option maxHeartbeats 2000000 in
theorem pColumnKinds_any (rv : Value) (l : List Int) (w : World) (h : IntsAt w rv l) : Calls Try.prog 63 #[rv] w fun e w' => e = .returned (.bool (okKs l)) ∧ w = w' := by
  obtain ⟨a, c, rfl, hf, hi⟩ := h
  have HI := Lib.hid hi
  obtain ⟨n, hn⟩ : ∃ n, l.length = n := ⟨_, rfl⟩
  have HN := Lib.hid hn
  have hfew := hf.few
  rw [hn] at hfew ⊢
  obtain ⟨z, hz⟩ : ∃ z, okKs (l.drop 0) = z := ⟨_, rfl⟩
  have HZ : Hid (okKs (l.drop 0) = z) := hz
  rw [show okKs l = okKs (l.drop 0) from rfl, hz]
  clear hi hf hn hz
  go_enter Try.func63, Try.ntmps63
  go_wp2_with fail
  go_loop [7] (fun i => ∃ k : Nat, k ≤ n ∧ i = .int .i64 k ∧ Hid (okKs (l.drop k) = z)) (fun i => n - (intOf i).toNat)
  case atStart => exact ⟨0, by omega, rfl, HZ.out⟩
  case round =>
    obtain ⟨k, hk, rfl, HT⟩ := hrel
    clear HZ
    by_cases hlt : k < n
    · have hlt' : (k : Int) < n := by omega
      have hkn : k < l.length := by rw [HN.out]; exact hlt
      obtain ⟨b, off, rfl, hb, c0⟩ := HI.out k hkn
      have HD : Hid (okKs (l.drop k) = (okK l[k] && okKs (l.drop (k + 1)))) := okKs_drop l k hkn
      generalize l[k] = v at *
      cases hv : okK v with
      | true =>
        have HX : Hid (okKs (l.drop (k + 1)) = z) := by show _ = _; rw [← HT.out, HD.out, hv]; simp
        clear HD
        rcases okK_yes hv with rfl | rfl | rfl
        all_goals
          clear hv
          go_wp2_with fail
          go_round
          case rel => exact ⟨k + 1, by omega, by go_num, HX.out⟩
          case measure => simp [intOf]; omega
      | false =>
        have HX : Hid (z = false) := by show _ = _; rw [← HT.out, HD.out, hv]; simp
        obtain ⟨v3, v4, v5⟩ := okK_no hv
        clear HD hv
        go_wp2_with fail
        go_ret
        exact ⟨by rw [HX.out]; rfl, rfl⟩
    · have HX : Hid (z = true) := by show _ = _; rw [← HT.out]; exact okKs_end l k (by rw [HN.out]; omega)
      go_wp2_with fail
      go_ret
      exact ⟨by rw [HX.out]; rfl, rfl⟩

theorem rColumnKind_any (k : Int) (w : World) : Calls Try.prog 68 #[.int .i64 k] w fun e w' => e = .returned (.bool (okK k)) ∧ w = w' := by
  unfold okK
  cases h3 : (k == 3) with
  | true =>
    go_enter Try.func68, Try.ntmps68
    go_wp2_with fail
    go_ret
    exact ⟨rfl, rfl⟩
  | false =>
    cases h4 : (k == 4) with
    | true =>
      go_enter Try.func68, Try.ntmps68
      go_wp2_with fail
      go_ret
      exact ⟨rfl, rfl⟩
    | false =>
      go_enter Try.func68, Try.ntmps68
      go_wp2_with fail
      go_ret
      exact ⟨rfl, rfl⟩

set_option maxRecDepth 100000 in
set_option maxHeartbeats 2000000 in
theorem rColumnKinds_any (rv : Value) (l : List Int) (w : World) (h : IntsAt w rv l) : Calls Try.prog 69 #[rv] w fun e w' => e = .returned (.bool (okKs l)) ∧ w = w' := by
  obtain ⟨a, c, rfl, hf, hi⟩ := h
  have HI := Lib.hid hi
  obtain ⟨n, hn⟩ : ∃ n, l.length = n := ⟨_, rfl⟩
  have HN := Lib.hid hn
  have hfew := hf.few
  rw [hn] at hfew ⊢
  obtain ⟨z, hz⟩ : ∃ z, okKs (l.drop 0) = z := ⟨_, rfl⟩
  have HZ : Hid (okKs (l.drop 0) = z) := hz
  rw [show okKs l = okKs (l.drop 0) from rfl, hz]
  clear hi hf hn hz
  go_enter Try.func69, Try.ntmps69
  go_wp2_with fail
  go_loop [7] (fun i => ∃ k : Nat, k ≤ n ∧ i = .int .i64 k ∧ Hid (okKs (l.drop k) = z)) (fun i => n - (intOf i).toNat)
  case atStart => exact ⟨0, by omega, rfl, HZ.out⟩
  case round =>
    obtain ⟨k, hk, rfl, HT⟩ := hrel
    clear HZ
    by_cases hlt : k < n
    · have hlt' : (k : Int) < n := by omega
      have hkn : k < l.length := by rw [HN.out]; exact hlt
      obtain ⟨b, off, rfl, hb, c0⟩ := HI.out k hkn
      have HD : Hid (okKs (l.drop k) = (okK l[k] && okKs (l.drop (k + 1)))) := okKs_drop l k hkn
      have HC : Hid (∀ W, Calls Try.prog 68 #[.int .i64 l[k]] W fun e w' => e = .returned (.bool (okK l[k])) ∧ W = w') := fun W => rColumnKind_any _ W
      generalize okK l[k] = y at *
      generalize l[k] = v at *
      cases y with
      | true =>
        have HX : Hid (okKs (l.drop (k + 1)) = z) := by show _ = _; rw [← HT.out, HD.out]; simp
        clear HD
        go_wp2_with fail
        refine (HC.out _).mono ?_
        rintro e w1 ⟨rfl, rfl⟩
        go_wp2_with fail
        go_round
        case rel => exact ⟨k + 1, by omega, by go_num, HX.out⟩
        case measure => simp [intOf]; omega
      | false =>
        have HX : Hid (z = false) := by show _ = _; rw [← HT.out, HD.out]; simp
        clear HD
        go_wp2_with fail
        refine (HC.out _).mono ?_
        rintro e w1 ⟨rfl, rfl⟩
        go_wp2_with fail
        go_ret
        exact ⟨by rw [HX.out]; rfl, rfl⟩
    · have HX : Hid (z = true) := by show _ = _; rw [← HT.out]; exact okKs_end l k (by rw [HN.out]; omega)
      go_wp2_with fail
      go_ret
      exact ⟨by rw [HX.out]; rfl, rfl⟩
end Go.Proofs.Ytjcbmeannhafjaa
