
/- New of 120 codes, Bool(2), Bool(4). -/
import Derived.Test.YtjcbmeannhafjaaCase5

namespace Go.Proofs.Ytjcbmeannhafjaa

open Go.RowKit Go.Deep

set_option maxRecDepth 100000 in
set_option maxHeartbeats 400000 in
theorem cNew_120 (v : Value) (n : Nat) (w : World) (h : BytesAt w v n) : Calls Try.prog 7 #[v, .int .i64 120] w (NewPost w) := by
  obtain ⟨a, c, rfl, hnc, hcm, hnil, xs, hxl, hxs, hx⟩ := h
  have hinfo : (Try.prog.info? 5).map (fun i => (i.zero, i.size, i.bytes)) = some (some (.int .u8 0), 1, 1) := by kernel_rfl
  obtain ⟨i0, hi, hz0, hz1, hz2⟩ := info_parts hinfo
  obtain ⟨m, hm, hmn, hmmin⟩ : ∃ m : Nat, m ≤ 120 ∧ m ≤ n ∧ (m = 120 ∨ m = n) := by
    by_cases h : 120 < n
    · exact ⟨120, by omega, by omega, .inl rfl⟩
    · exact ⟨n, by omega, by omega, .inr rfl⟩
  have hnews : ∀ p, a = some p → ∀ j u, ((xs.take m).map (Value.int .u8))[j]? = some u → w.cell? (p.add j) = some u := by
    intro p hp j u hj
    have hc := hxs p hp
    have hjl : j < m := by have := (List.getElem?_eq_some_iff.1 hj).1; simp at this; omega
    rw [hc j (by omega), ← hj]
    rw [List.getElem?_map, List.getElem?_take, if_pos hjl, List.getElem?_eq_getElem (by omega)]
    rfl
  have hone : ∀ u ∈ (xs.take m).map (Value.int .u8), u.oneCell' = true := by
    intro u hu
    obtain ⟨x, _, rfl⟩ := List.mem_map.1 hu
    rfl
  have hlen : ((xs.take m).map (Value.int .u8)).length = m * 1 := by simp; omega
  have hx' : Hid (∀ x ∈ xs.take m, 0 ≤ x ∧ x ≤ 255) := fun x h => hx x (List.mem_of_mem_take h)
  have hlt : Hid ((xs.take m).length = m) := by show _ = _; simp; omega
  clear hx hxs hxl hinfo
  generalize xs.take m = ys at *
  have HNEWS := Lib.hid hnews
  have HONE := Lib.hid hone
  have HLEN := Lib.hid hlen
  have HNIL := Lib.hid hnil
  clear hnews hone hlen hnil
  have HI := Lib.hid hi
  have HZ0 := Lib.hid hz0
  have HZ1 := Lib.hid hz1
  have HZ2 := Lib.hid hz2
  clear hi hz0 hz1 hz2
  have HN1 : Hid (a = none → m = 0 ∧ c = 0) := fun e => by have := HNIL.out e; omega
  have HM1 : Hid (m ≤ maxLen) := by show m ≤ maxLen; unfold maxLen; omega
  have HM2 : Hid (m * 1 ≤ 140737488355328) := by show m * 1 ≤ _; omega
  rcases hmmin with rfl | rfl
  · by_cases h90 : (120 : Int) < n
    · go_enter Try.func7, Try.ntmps7
      go_wp2_with (at_builtin; refine wpList_append_nil rfl _ _ 22 rfl 5 i0 (.int .u8 0) 1 1 Try.underlying22 HI.out HZ0.out HZ1.out HZ2.out rfl (by decide) rfl _ _ _ _ rfl HN1.out HLEN.out HNEWS.out HONE.out HM1.out HM2.out ?_; intro v' w1 hown hb1; obtain ⟨va, vc, rfl⟩ := own_slice hown; have HOWN := Lib.hid hown; have HB1 := Lib.hid hb1; clear hown hb1)
      go_ret
      exact new_ok (by omega) hlt.out hx'.out HOWN.out HB1.out _
    · have hn90 : n = 120 := by omega
      subst hn90
      clear h90
      go_enter Try.func7, Try.ntmps7
      go_wp2_with (at_builtin; refine wpList_append_nil rfl _ _ 22 rfl 5 i0 (.int .u8 0) 1 1 Try.underlying22 HI.out HZ0.out HZ1.out HZ2.out rfl (by decide) rfl _ _ _ _ rfl HN1.out HLEN.out HNEWS.out HONE.out HM1.out HM2.out ?_; intro v' w1 hown hb1; obtain ⟨va, vc, rfl⟩ := own_slice hown; have HOWN := Lib.hid hown; have HB1 := Lib.hid hb1; clear hown hb1)
      go_ret
      exact new_ok (by omega) hlt.out hx'.out HOWN.out HB1.out _
  · by_cases h90 : (120 : Int) < m
    · omega
    · go_enter Try.func7, Try.ntmps7
      go_wp2_with (at_builtin; refine wpList_append_nil rfl _ _ 22 rfl 5 i0 (.int .u8 0) 1 1 Try.underlying22 HI.out HZ0.out HZ1.out HZ2.out rfl (by decide) rfl _ _ _ _ rfl HN1.out HLEN.out HNEWS.out HONE.out HM1.out HM2.out ?_; intro v' w1 hown hb1; obtain ⟨va, vc, rfl⟩ := own_slice hown; have HOWN := Lib.hid hown; have HB1 := Lib.hid hb1; clear hown hb1)
      go_ret
      exact new_ok (by omega) hlt.out hx'.out HOWN.out HB1.out _
set_option maxHeartbeats 400000 in
theorem cBool_2 (bc B : Nat) (w : World) (h : CaseOk bc B w) : Calls Try.prog 30 #[.pointer (some ⟨bc, 0, none⟩), .int .i64 2] w (BoolPost bc B w) := by
  have HI := Lib.hid (cInt_any bc B 2 w (by omega) (by omega) h)
  clear h
  go_enter Try.func30, Try.ntmps30
  go_wp2_with fail
  refine HI.out.mono ?_
  rintro e w1 ⟨r, rfl, hr0, hr1, hm, ho⟩
  clear HI
  go_wp2_with fail
  go_ret
  exact ⟨_, rfl, hm, ho⟩

set_option maxHeartbeats 400000 in
theorem cBool_4 (bc B : Nat) (w : World) (h : CaseOk bc B w) : Calls Try.prog 30 #[.pointer (some ⟨bc, 0, none⟩), .int .i64 4] w (BoolPost bc B w) := by
  have HI := Lib.hid (cInt_any bc B 4 w (by omega) (by omega) h)
  clear h
  go_enter Try.func30, Try.ntmps30
  go_wp2_with fail
  refine HI.out.mono ?_
  rintro e w1 ⟨r, rfl, hr0, hr1, hm, ho⟩
  clear HI
  go_wp2_with fail
  go_ret
  exact ⟨_, rfl, hm, ho⟩

end Go.Proofs.Ytjcbmeannhafjaa
