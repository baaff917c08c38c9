
/- Bool; lists of kinds. -/
import Derived.Test.YtjkjmkplcjfogaaPdNew

import Derived.Test.YtjkjmkplcjfogaaPdInts

import Derived.Test.YtjkjmkplcjfogaaPdColumns

namespace Go.Proofs.Ytjkjmkplcjfogaa

open Go.RowKit Go.Deep

set_option maxHeartbeats 400000 in
theorem cBool_5 (bc B : Nat) (w : World) (h : CaseOk bc B w) : Calls Try.prog 48 #[.pointer (some ⟨bc, 0, none⟩), .int .i64 5] w (BoolPost bc B w) := by
  have HI := Lib.hid (cInt_any bc B 5 w (by omega) (by omega) h)
  clear h
  go_enter Try.func48, Try.ntmps48
  go_wp2_with fail
  refine HI.out.mono ?_
  rintro e w1 ⟨r, rfl, hr0, hr1, hm, ho⟩
  clear HI
  go_wp2_with fail
  go_ret
  exact ⟨_, rfl, hm, ho⟩

set_option maxHeartbeats 400000 in
theorem cBool_6 (bc B : Nat) (w : World) (h : CaseOk bc B w) : Calls Try.prog 48 #[.pointer (some ⟨bc, 0, none⟩), .int .i64 6] w (BoolPost bc B w) := by
  have HI := Lib.hid (cInt_any bc B 6 w (by omega) (by omega) h)
  clear h
  go_enter Try.func48, Try.ntmps48
  go_wp2_with fail
  refine HI.out.mono ?_
  rintro e w1 ⟨r, rfl, hr0, hr1, hm, ho⟩
  clear HI
  go_wp2_with fail
  go_ret
  exact ⟨_, rfl, hm, ho⟩

/-- A slice value reads as a list of ints whose block is lo or later. -/
def IntsG (lo : Nat) (w : World) (v : Value) (l : List Int) : Prop :=
  ∃ a c, v = .slice a l.length c ∧ SlF a l.length c ∧ ∀ j (h : j < l.length), ∃ b off, a = some ⟨b, off, none⟩ ∧ lo ≤ b ∧ b < w.heap.size ∧ w.cell? ⟨b, off + j, none⟩ = some (.int .i64 l[j])
theorem IntsG.at {lo : Nat} {w : World} {v : Value} {l : List Int} (h : IntsG lo w v l) : IntsAt w v l := by
  obtain ⟨a, c, e, hf, hi⟩ := h
  exact ⟨a, c, e, hf, fun j hj => by obtain ⟨b, off, ea, _, hlt, hc⟩ := hi j hj; exact ⟨b, off, ea, hlt, hc⟩⟩
theorem IntsG.shape {lo : Nat} {w : World} {v : Value} {l : List Int} (h : IntsG lo w v l) : ∃ a c, v = .slice a l.length c := by
  obtain ⟨a, c, e, _⟩ := h; exact ⟨a, c, e⟩
theorem IntsG.nil (lo : Nat) (w : World) : IntsG lo w (.slice none 0 0) [] := ⟨none, 0, rfl, ⟨by simp, by simp, fun _ => ⟨rfl, rfl⟩, by simp⟩, fun j h => absurd h (by simp)⟩
theorem IntsG.mv {lo bc : Nat} {w w' : World} {v : Value} {l : List Int} (h : IntsG lo w v l) (hm : Mv bc w w') (hb : bc < lo) : IntsG lo w' v l := by
  obtain ⟨a, c, e, hf, hi⟩ := h
  refine ⟨a, c, e, hf, fun j hj => ?_⟩
  obtain ⟨b, off, ea, hlo, hlt, hc⟩ := hi j hj
  exact ⟨b, off, ea, hlo, Nat.lt_of_lt_of_le hlt hm.size, (hm.cell (p := ⟨b, off + j, none⟩) hlt (show b ≠ bc by omega)).trans hc⟩
theorem IntsG.below {lo : Nat} {w w' : World} {v : Value} {l : List Int} (h : IntsG lo w v l) (hb : Below w.heap.size w w') : IntsG lo w' v l := by
  obtain ⟨a, c, e, hf, hi⟩ := h
  refine ⟨a, c, e, hf, fun j hj => ?_⟩
  obtain ⟨b, off, ea, hlo, hlt, hc⟩ := hi j hj
  exact ⟨b, off, ea, hlo, Nat.lt_of_lt_of_le hlt hb.size, (hb.cell (p := ⟨b, off + j, none⟩) hlt).trans hc⟩
theorem IntsG.weak {lo lo' : Nat} {w : World} {v : Value} {l : List Int} (h : IntsG lo w v l) (hl : lo' ≤ lo) : IntsG lo' w v l := by
  obtain ⟨a, c, e, hf, hi⟩ := h
  refine ⟨a, c, e, hf, fun j hj => ?_⟩
  obtain ⟨b, off, ea, hlo, hlt, hc⟩ := hi j hj
  exact ⟨b, off, ea, by omega, hlt, hc⟩
theorem intsG_own {w : World} {base : Nat} {v : Value} {s : List Int} (ho : w.ownsRow base 3 1 v s.length (iC s)) (hs : s.length ≤ 17592186044416) : IntsG base w v s := by
  rcases ho.2 with ⟨rfl, hz⟩ | ⟨g, cap, cur, rfl, hg, -, -, -, -, -⟩
  · have : s = [] := List.eq_nil_of_length_eq_zero hz
    subst this
    exact IntsG.nil _ _
  · obtain ⟨hH, hgl, -, -, hcap, hmax⟩ := own_holds ho
    refine ⟨_, cap, rfl, ⟨hcap, hmax, fun e => (by cases e), hs⟩, fun j hj => ⟨g, 0, rfl, hg, hgl, ?_⟩⟩
    have := (hH j (by simpa using hj)).1
    rw [this]
    simp [hj]

def KindsPost (bc B most : Nat) (w : World) (e : Ending) (w' : World) : Prop := ∃ (v : Value) (l : List Int), e = .returned v ∧ l.length ≤ most ∧ okKs l = true ∧ IntsG w.heap.size w' v l ∧ Mv bc w w' ∧ CaseOk bc B w'

set_option maxRecDepth 100000 in
set_option maxHeartbeats 2000000 in
theorem lKinds_any (bc B most : Nat) (hmost : most ≤ 5) (w : World) (h : CaseOk bc B w) : Calls Try.prog 10 #[.pointer (some ⟨bc, 0, none⟩), .int .i64 most] w (KindsPost bc B most w) := by
  have hinfo : (Try.prog.info? 3).map (fun i => (i.zero, i.size, i.bytes)) = some (some (.int .i64 0), 1, 8) := by kernel_rfl
  obtain ⟨i0, hi, hz0, hz1, hz2⟩ := info_parts hinfo
  have HI := Lib.hid hi
  have HZ0 := Lib.hid hz0
  have HZ1 := Lib.hid hz1
  have HZ2 := Lib.hid hz2
  have HI7 := Lib.hid (cInt_any bc B ((most : Int) + 1) w (by omega) (by omega) h)
  have hbl := h.lt
  clear hi hz0 hz1 hz2 hinfo h
  go_enter Try.func10, Try.ntmps10
  go_wp2_with fail
  refine HI7.out.mono ?_
  rintro e w1 ⟨r, rfl, hr0, hr1, hm, ho⟩
  obtain ⟨r, rfl⟩ : ∃ q : Nat, r = q := ⟨r.toNat, by omega⟩
  have hr6 : r ≤ most := by omega
  have HM0 : Hid (Mv bc w w1 ∧ CaseOk bc B w1) := ⟨hm, ho⟩
  clear HI7 hm ho hr0 hr1
  go_wp2_with fail
  go_loopg [5, 6] r (fun g v i wr => ∃ (k : Nat) (L : List Int), k ≤ g ∧ i = .int .i64 k ∧ Hid (k + L.length = r ∧ wr.ownsRow w.heap.size 3 1 v L.length (iC L) ∧ okKs L = true ∧ Mv bc w wr ∧ CaseOk bc B wr))
  case atStart => exact ⟨r, [], by omega, rfl, by simp, World.ownsRow_nil _ _ _ _, rfl, HM0.out.1, HM0.out.2⟩
  case round =>
    clear HM0
    obtain ⟨k, L, hk, rfl, hx⟩ := hrel
    by_cases h0 : k = 0
    · subst h0
      go_wp2_with fail
      go_ret
      obtain ⟨h1, h2, h3, h4, h5⟩ := hx.out
      exact ⟨_, L, rfl, by omega, h3, intsG_own h2 (by omega), h4, h5⟩
    · have hkp : 0 < k := by omega
      have hk2 : k ≤ 5 := by have := hx.out.1; omega
      have hL6 : L.length < 5 := by have := hx.out.1; omega
      have hws : w.heap.size ≤ wr.heap.size := hx.out.2.2.2.1.size
      obtain ⟨va, vc, hv5⟩ := own_slice hx.out.2.1
      subst hv5
      have HI3 := Lib.hid (cInt_any bc B 3 wr (by omega) (by omega) hx.out.2.2.2.2)
      go_wp2_with fail
      refine HI3.out.mono ?_
      rintro e wa ⟨q, rfl, hq0, hq1, hm, ho⟩
      have hq2 : q ≤ 2 := by omega
      have HRa : Hid (wa.ownsRow w.heap.size 3 1 (.slice va L.length vc) L.length (iC L)) := own_mv hx.out.2.1 hm (by omega)
      have HMa : Hid (Mv bc w wa ∧ CaseOk bc B wa) := ⟨hx.out.2.2.2.1.trans hm, ho⟩
      have hwa : wr.heap.size ≤ wa.heap.size := hm.size
      have HOK : Hid (okKs (L ++ [3 + q]) = true) := by
        show okKs (L ++ [3 + q]) = true
        have hL := hx.out.2.2.1
        unfold okKs at hL ⊢
        rw [List.all_append, hL]
        simp [okK]; omega
      clear HI3 hm ho hq1
      have A1 : Hid (L.length + 1 ≤ maxLen) := by show _ ≤ _; unfold maxLen; omega
      have A2 : Hid ((L.length + 1) * 8 ≤ 140737488355328) := by show _ ≤ _; omega
      have A3 : Hid (∀ O : Obj, w.heap.size ≤ (wa.alloc O).heap.size) := fun O => by simp; omega
      have A4 : Hid (∀ t (j : Nat) (u : Value), ([.int .i64 (3 + q)] : List Value)[j]? = some u → (wa.alloc (.cells #[.int .i64 (3 + q)] t)).cell? ((⟨wa.heap.size, 0, none⟩ : Addr).add j) = some u) := fun t => one_cell wa _ t
      have A5 : Hid (∀ u ∈ ([.int .i64 (3 + q)] : List Value), u.oneCell' = true) := by intro u hu; simp only [List.mem_singleton] at hu; subst hu; rfl
      have A6 : Hid (∀ (O : Obj) (v' : Value) (w2 : World), w2.ownsRow w.heap.size 3 1 v' (L.length + 1) (iC L ++ [.int .i64 (3 + q)]) → (wa.alloc O).grownBy w2 (Value.slice va L.length vc).ownBlock → (w2.ownsRow w.heap.size 3 1 v' (L ++ [3 + q]).length (iC (L ++ [3 + q])) ∧ Mv bc w w2 ∧ CaseOk bc B w2)) := fun O v' w2 h1 h2 => by
        have hkr := HRa.out.lt
        exact ⟨by rw [iC_app]; simpa [iC] using h1, (HMa.out.1.alloc O).grown h2 (Nat.le_refl _) (fun kk e => (hkr kk e).1), (HMa.out.2.alloc O).grown h2 hbl.2 (fun kk e => (hkr kk e).1)⟩
      have hxk : Hid (k + L.length = r) := hx.out.1
      clear hx
      have HLE : Hid (L.length = L.length) := rfl
      go_wp2_with (at_builtin; refine wpList_append_own _ rfl _ _ 32 rfl w.heap.size 3 i0 (.int .i64 0) 1 8 Try.underlying32 HI.out HZ0.out HZ1.out HZ2.out rfl (by decide) _ _ _ rfl (HRa.out.alloc _) ⟨wa.heap.size, 0, none⟩ 1 1 [.int .i64 (3 + q)] rfl rfl (A4.out _) A5.out A1.out A2.out (A3.out _) ?_; intro v' w2 hown2 hgr _; have HX := Lib.hid (A6.out _ v' w2 hown2 hgr); clear hown2 hgr)
      go_roundg (k - 1)
      case measure => omega
      case rel =>
        refine ⟨k - 1, L ++ [3 + q], Nat.le_refl _, by go_num, ?_, HX.out.1, HOK.out, HX.out.2.1, HX.out.2.2⟩
        have := hxk.out; simp; omega
end Go.Proofs.Ytjkjmkplcjfogaa
