
/- New of 160 codes. -/
import Derived.Test.YtjcbmeannhafjaaIvCase

namespace Go.Proofs.Ytjcbmeannhafjaa

open Go.RowKit Go.Deep

set_option maxRecDepth 100000 in
set_option maxHeartbeats 400000 in
theorem cNew_160 (v : Value) (n : Nat) (w : World) (h : BytesAt w v n) : Calls Try.prog 7 #[v, .int .i64 160] w (NewPost w) := by
  obtain ⟨a, c, rfl, hnc, hcm, hnil, xs, hxl, hxs, hx⟩ := h
  have hinfo : (Try.prog.info? 5).map (fun i => (i.zero, i.size, i.bytes)) = some (some (.int .u8 0), 1, 1) := by kernel_rfl
  obtain ⟨i0, hi, hz0, hz1, hz2⟩ := info_parts hinfo
  obtain ⟨m, hm, hmn, hmmin⟩ : ∃ m : Nat, m ≤ 160 ∧ m ≤ n ∧ (m = 160 ∨ m = n) := by
    by_cases h : 160 < n
    · exact ⟨160, by omega, by omega, .inl rfl⟩
    · exact ⟨n, by omega, by omega, .inr rfl⟩
  have hnews : ∀ p, a = some p → ∀ j u, ((xs.take m).map (Value.int .u8))[j]? = some u → w.cell? (p.add j) = some u := by
    intro p hp j u hj
    have hc := hxs p hp
    have hjl : j < m := by have := (List.getElem?_eq_some_iff.1 hj).1; simp at this; omega
    rw [hc j (by omega), ← hj]
    rw [List.getElem?_map, List.getElem?_take, if_pos hjl, List.getElem?_eq_getElem (by omega)]
    rfl
  have hone : ∀ u ∈ (xs.take m).map (Value.int .u8), u.oneCell' = true := by
    intro u hu
    obtain ⟨x, _, rfl⟩ := List.mem_map.1 hu
    rfl
  have hlen : ((xs.take m).map (Value.int .u8)).length = m * 1 := by simp; omega
  have hx' : Hid (∀ x ∈ xs.take m, 0 ≤ x ∧ x ≤ 255) := fun x h => hx x (List.mem_of_mem_take h)
  have hlt : Hid ((xs.take m).length = m) := by show _ = _; simp; omega
  clear hx hxs hxl hinfo
  generalize xs.take m = ys at *
  have HNEWS := Lib.hid hnews
  have HONE := Lib.hid hone
  have HLEN := Lib.hid hlen
  have HNIL := Lib.hid hnil
  clear hnews hone hlen hnil
  have HI := Lib.hid hi
  have HZ0 := Lib.hid hz0
  have HZ1 := Lib.hid hz1
  have HZ2 := Lib.hid hz2
  clear hi hz0 hz1 hz2
  have HN1 : Hid (a = none → m = 0 ∧ c = 0) := fun e => by have := HNIL.out e; omega
  have HM1 : Hid (m ≤ maxLen) := by show m ≤ maxLen; unfold maxLen; omega
  have HM2 : Hid (m * 1 ≤ 140737488355328) := by show m * 1 ≤ _; omega
  rcases hmmin with rfl | rfl
  · by_cases h90 : (160 : Int) < n
    · go_enter Try.func7, Try.ntmps7
      go_wp2_with (at_builtin; refine wpList_append_nil rfl _ _ 22 rfl 5 i0 (.int .u8 0) 1 1 Try.underlying22 HI.out HZ0.out HZ1.out HZ2.out rfl (by decide) rfl _ _ _ _ rfl HN1.out HLEN.out HNEWS.out HONE.out HM1.out HM2.out ?_; intro v' w1 hown hb1; obtain ⟨va, vc, rfl⟩ := own_slice hown; have HOWN := Lib.hid hown; have HB1 := Lib.hid hb1; clear hown hb1)
      go_ret
      exact new_ok (by omega) hlt.out hx'.out HOWN.out HB1.out _
    · have hn90 : n = 160 := by omega
      subst hn90
      clear h90
      go_enter Try.func7, Try.ntmps7
      go_wp2_with (at_builtin; refine wpList_append_nil rfl _ _ 22 rfl 5 i0 (.int .u8 0) 1 1 Try.underlying22 HI.out HZ0.out HZ1.out HZ2.out rfl (by decide) rfl _ _ _ _ rfl HN1.out HLEN.out HNEWS.out HONE.out HM1.out HM2.out ?_; intro v' w1 hown hb1; obtain ⟨va, vc, rfl⟩ := own_slice hown; have HOWN := Lib.hid hown; have HB1 := Lib.hid hb1; clear hown hb1)
      go_ret
      exact new_ok (by omega) hlt.out hx'.out HOWN.out HB1.out _
  · by_cases h90 : (160 : Int) < m
    · omega
    · go_enter Try.func7, Try.ntmps7
      go_wp2_with (at_builtin; refine wpList_append_nil rfl _ _ 22 rfl 5 i0 (.int .u8 0) 1 1 Try.underlying22 HI.out HZ0.out HZ1.out HZ2.out rfl (by decide) rfl _ _ _ _ rfl HN1.out HLEN.out HNEWS.out HONE.out HM1.out HM2.out ?_; intro v' w1 hown hb1; obtain ⟨va, vc, rfl⟩ := own_slice hown; have HOWN := Lib.hid hown; have HB1 := Lib.hid hb1; clear hown hb1)
      go_ret
      exact new_ok (by omega) hlt.out hx'.out HOWN.out HB1.out _
end Go.Proofs.Ytjcbmeannhafjaa

/- New of a case of 90 codes. -/
namespace Go.Proofs.Ytjcbmeannhafjaa

open Go.RowKit
set_option maxHeartbeats 400000 in
theorem cNew_90 (v : Value) (n : Nat) (w : World) (h : BytesAt w v n) : Calls Try.prog 7 #[v, .int .i64 90] w (NewPost w) := by
  obtain ⟨a, c, rfl, hnc, hcm, hnil, xs, hxl, hxs, hx⟩ := h
  have hinfo : (Try.prog.info? 5).map (fun i => (i.zero, i.size, i.bytes)) = some (some (.int .u8 0), 1, 1) := by kernel_rfl
  obtain ⟨i0, hi, hz0, hz1, hz2⟩ := info_parts hinfo
  obtain ⟨m, hm, hmn, hmmin⟩ : ∃ m : Nat, m ≤ 90 ∧ m ≤ n ∧ (m = 90 ∨ m = n) := by
    by_cases h : 90 < n
    · exact ⟨90, by omega, by omega, .inl rfl⟩
    · exact ⟨n, by omega, by omega, .inr rfl⟩
  have hnews : ∀ p, a = some p → ∀ j u, ((xs.take m).map (Value.int .u8))[j]? = some u → w.cell? (p.add j) = some u := by
    intro p hp j u hj
    have hc := hxs p hp
    have hjl : j < m := by have := (List.getElem?_eq_some_iff.1 hj).1; simp at this; omega
    rw [hc j (by omega), ← hj]
    rw [List.getElem?_map, List.getElem?_take, if_pos hjl, List.getElem?_eq_getElem (by omega)]
    rfl
  have hone : ∀ u ∈ (xs.take m).map (Value.int .u8), u.oneCell' = true := by
    intro u hu
    obtain ⟨x, _, rfl⟩ := List.mem_map.1 hu
    rfl
  have hlen : ((xs.take m).map (Value.int .u8)).length = m * 1 := by simp; omega
  have hx' : Hid (∀ x ∈ xs.take m, 0 ≤ x ∧ x ≤ 255) := fun x h => hx x (List.mem_of_mem_take h)
  have hlt : Hid ((xs.take m).length = m) := by show _ = _; simp; omega
  clear hx hxs hxl hinfo
  generalize xs.take m = ys at *
  have HNEWS := Lib.hid hnews
  have HONE := Lib.hid hone
  have HLEN := Lib.hid hlen
  have HNIL := Lib.hid hnil
  clear hnews hone hlen hnil
  have HI := Lib.hid hi
  have HZ0 := Lib.hid hz0
  have HZ1 := Lib.hid hz1
  have HZ2 := Lib.hid hz2
  clear hi hz0 hz1 hz2
  have HN1 : Hid (a = none → m = 0 ∧ c = 0) := fun e => by have := HNIL.out e; omega
  have HM1 : Hid (m ≤ maxLen) := by show m ≤ maxLen; unfold maxLen; omega
  have HM2 : Hid (m * 1 ≤ 140737488355328) := by show m * 1 ≤ _; omega
  rcases hmmin with rfl | rfl
  · by_cases h90 : (90 : Int) < n
    · go_enter Try.func7, Try.ntmps7
      go_wp2_with (at_builtin; refine wpList_append_nil rfl _ _ 22 rfl 5 i0 (.int .u8 0) 1 1 Try.underlying22 HI.out HZ0.out HZ1.out HZ2.out rfl (by decide) rfl _ _ _ _ rfl HN1.out HLEN.out HNEWS.out HONE.out HM1.out HM2.out ?_; intro v' w1 hown hb1; obtain ⟨va, vc, rfl⟩ := own_slice hown; have HOWN := Lib.hid hown; have HB1 := Lib.hid hb1; clear hown hb1)
      go_ret
      exact new_ok (by omega) hlt.out hx'.out HOWN.out HB1.out _
    · have hn90 : n = 90 := by omega
      subst hn90
      clear h90
      go_enter Try.func7, Try.ntmps7
      go_wp2_with (at_builtin; refine wpList_append_nil rfl _ _ 22 rfl 5 i0 (.int .u8 0) 1 1 Try.underlying22 HI.out HZ0.out HZ1.out HZ2.out rfl (by decide) rfl _ _ _ _ rfl HN1.out HLEN.out HNEWS.out HONE.out HM1.out HM2.out ?_; intro v' w1 hown hb1; obtain ⟨va, vc, rfl⟩ := own_slice hown; have HOWN := Lib.hid hown; have HB1 := Lib.hid hb1; clear hown hb1)
      go_ret
      exact new_ok (by omega) hlt.out hx'.out HOWN.out HB1.out _
  · by_cases h90 : (90 : Int) < m
    · omega
    · go_enter Try.func7, Try.ntmps7
      go_wp2_with (at_builtin; refine wpList_append_nil rfl _ _ 22 rfl 5 i0 (.int .u8 0) 1 1 Try.underlying22 HI.out HZ0.out HZ1.out HZ2.out rfl (by decide) rfl _ _ _ _ rfl HN1.out HLEN.out HNEWS.out HONE.out HM1.out HM2.out ?_; intro v' w1 hown hb1; obtain ⟨va, vc, rfl⟩ := own_slice hown; have HOWN := Lib.hid hown; have HB1 := Lib.hid hb1; clear hown hb1)
      go_ret
      exact new_ok (by omega) hlt.out hx'.out HOWN.out HB1.out _

end Go.Proofs.Ytjcbmeannhafjaa
