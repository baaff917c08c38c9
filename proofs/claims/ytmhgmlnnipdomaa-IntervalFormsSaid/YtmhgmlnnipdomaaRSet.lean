
/- The reference's Set. -/
import Derived.Test.YtmhgmlnnipdomaaSorted

import Derived.Test.YtmhgmlnnipdomaaRCopy

namespace Go.Proofs.Ytmhgmlnnipdomaa

open Go.RowKit Go.Deep

def TM (ys : List E) (k : Nat) (L : List E) : Prop :=
  Rel (L.map (·.2)) ∧ (∀ r, r ∈ L.map (·.2) ↔ r ∈ (ys.take k).map (·.2)) ∧ L.length ≤ k ∧ (k = 0 → L = []) ∧ ∀ j (h : j < ys.length), k = j + 1 → ∃ L0 x, L = L0 ++ [x] ∧ x.2 = ys[j].2
theorem take_mem (ys : List E) (k : Nat) (hk : k < ys.length) (r : List V) : r ∈ (ys.take (k + 1)).map (·.2) ↔ (r ∈ (ys.take k).map (·.2) ∨ r = ys[k].2) := by
  rw [List.take_add_one, List.getElem?_eq_getElem hk, List.map_append, List.mem_append]
  simp only [Option.toList_some, List.map_cons, List.map_nil, List.mem_singleton]
theorem TM.skip {ys : List E} {k : Nat} {L : List E} (h : TM ys k L) (hk : k < ys.length) {L0 : List E} {x : E} (e : L = L0 ++ [x]) (ex : x.2 = ys[k].2) : TM ys (k + 1) L := by
  obtain ⟨h1, h2, h3, h4, h5⟩ := h
  refine ⟨h1, fun r => ?_, by omega, fun h => by omega, fun j hj hjk => ?_⟩
  · rw [take_mem ys k hk, ← h2 r]
    constructor
    · exact .inl
    · rintro (h | rfl)
      · exact h
      · rw [e, ← ex]; simp
  · obtain rfl : k = j := by omega
    exact ⟨L0, x, e, ex⟩
theorem TM.add {ys : List E} {k : Nat} {L : List E} (h : TM ys k L) (hk : k < ys.length) (p : E) (hp : p.2 = ys[k].2) (hlt : L = [] ∨ ∃ L0 x, L = L0 ++ [x] ∧ cmpRows x.2 p.2 < 0) : TM ys (k + 1) (L ++ [p]) := by
  obtain ⟨h1, h2, h3, h4, h5⟩ := h
  refine ⟨?_, fun r => ?_, by simp; omega, fun h => by omega, fun j hj hjk => ?_⟩
  · unfold Rel at h1 ⊢
    rw [List.map_append, List.pairwise_append]
    refine ⟨h1, by simp, fun a ha b hb => ?_⟩
    simp only [List.map_cons, List.map_nil, List.mem_singleton] at hb
    subst hb
    rcases hlt with rfl | ⟨L0, x, rfl, hx⟩
    · simp at ha
    · rw [List.map_append, List.pairwise_append] at h1
      rw [List.map_append, List.mem_append] at ha
      rcases ha with ha | ha
      · exact cmpRows_lt_trans (h1.2.2 a ha x.2 (by simp)) hx
      · simp only [List.map_cons, List.map_nil, List.mem_singleton] at ha
        subst ha
        exact hx
  · rw [take_mem ys k hk, ← h2 r, List.map_append, List.mem_append, ← hp]
    simp
  · obtain rfl : k = j := by omega
    exact ⟨L, p, rfl, hp⟩

set_option maxRecDepth 100000 in
set_option maxHeartbeats 4000000 in
theorem rSet_any (v : Value) (xs : List E) (w : World) (h : RowsC w.heap.size w v xs) : Calls Try.prog 69 #[v] w (SetOut w xs) := by
  have hinfo : (Try.prog.info? 83).map (fun i => (i.zero, i.size, i.bytes)) = some (some (.slice none 0 0), 1, 24) := by kernel_rfl
  obtain ⟨i0, hi, hz0, hz1, hz2⟩ := info_parts hinfo
  have HI := Lib.hid hi
  have HZ0 := Lib.hid hz0
  have HZ1 := Lib.hid hz1
  have HZ2 := Lib.hid hz2
  have hxl : xs.length ≤ 4398046511104 := by obtain ⟨_, _, _, _, _, _, hn, _⟩ := h; exact hn
  have HXR : Hid (∀ x ∈ xs, RowB w.heap.size w x.1 x.2) := by obtain ⟨_, _, _, _, _, _, _, hx, _⟩ := h; exact hx
  have HS := Lib.hid (rSorted_any xs.length xs v w (Nat.le_refl _) h)
  clear hi hz0 hz1 hz2 hinfo h
  go_enter Try.func69, Try.ntmps69
  go_wp2_with fail
  refine HS.out.mono ?_
  rintro e w1 ⟨sv, ys, rfl, hperm, hsort, hown, hb1⟩
  have HPM := Lib.hid hperm
  have HST := Lib.hid hsort
  have HB1 := Lib.hid hb1
  have hyl : ys.length = xs.length := hperm.length_eq
  have HMR : Hid (∀ x ∈ ys, RowB w1.heap.size w1 x.1 x.2) := fun x hx => ((HXR.out x (hperm.subset hx)).below hb1 (Nat.le_refl _)).mono hb1.size
  have HRC := Lib.hid (rowsC_own hown HMR.out (by omega))
  obtain ⟨sa, sc, rfl⟩ := own_slice hown
  obtain ⟨n, hn⟩ : ∃ n, ys.length = n := ⟨_, rfl⟩
  rw [hn]
  clear hperm hsort hb1 hown HS HXR
  have HN := Lib.hid hn
  have hn4 : n ≤ 4398046511104 := by omega
  clear hn hyl hxl
  go_wp2_with fail
  go_loopg [3, 9] n (fun g v i wr => ∃ (k : Nat) (L : List E), k ≤ n ∧ n - k ≤ g ∧ i = .int .i64 k ∧ Hid (TM ys k L) ∧ Hid (KInv w1.heap.size w1 v L wr))
  case atStart => exact ⟨0, [], by omega, by omega, rfl, ⟨by simp [Rel], by simp, by simp, fun _ => rfl, fun j h hj => by omega⟩, ⟨⟨by simp, .inl ⟨rfl, rfl⟩⟩, fun x hx => by simp at hx, Below.refl _ _⟩⟩
  case round =>
    obtain ⟨k, L, hk, hkg, rfl, HTM, HK⟩ := hrel
    have hws : w1.heap.size ≤ wr.heap.size := HK.out.below.size
    have hLk : L.length ≤ k := HTM.out.2.2.1
    by_cases hlt : k < n
    · have hkn : k < ys.length := by rw [HN.out]; exact hlt
      have hlt' : (k : Int) < n := by omega
      have hk0 : (0 : Int) ≤ k := by omega
      obtain ⟨_, _, ee, -, -, -, -, hxr, hxi⟩ := HRC.out
      simp only [Value.slice.injEq] at ee
      obtain ⟨rfl, -, rfl⟩ := ee
      obtain ⟨b1, o1, rfl, hb1, hc1⟩ := hxi k hkn
      have hr1 := hxr _ (List.getElem_mem hkn)
      obtain ⟨p, hp⟩ : ∃ p, ys[k] = p := ⟨_, rfl⟩
      rw [hp] at hc1 hr1
      obtain ⟨pv, pl⟩ := p
      simp only at hc1 hr1
      have HPL : Hid (pl = ys[k].2) := by show _ = _; rw [hp]
      obtain ⟨pa, pc, hpv⟩ : ∃ a c, pv = .slice a pl.length c := by obtain ⟨a, c, e, _⟩ := hr1; exact ⟨a, c, e⟩
      subst hpv
      have p1 : wr.cell? ⟨b1, o1 + k, none⟩ = some (.slice pa pl.length pc) := (HK.out.below.cell (p := ⟨b1, o1 + k, none⟩) hb1).trans hc1
      have HR1 := Lib.hid hr1
      have HRW := Lib.hid ((hr1.below HK.out.below (Nat.le_refl _)).at hws)
      clear hp hxr hxi hc1 hr1
      by_cases h0 : k = 0
      · have hL0 : L = [] := HTM.out.2.2.2.1 h0
        have HP := Lib.hid (rCopy_any _ _ wr HRW.out)
        obtain ⟨va, vc, hv5⟩ := own_slice HK.out.own
        subst hv5
        have hl0 : L.length = 0 := by rw [hL0]; rfl
        have hl1 : ((L.length : Int) == 0) = true := by rw [hl0]; rfl
        have HL0 := Lib.hid hL0
        clear hL0 h0 hl0
        go_wp2_with fail
        refine HP.out.mono ?_
        rintro e w2 ⟨rv, rfl, hrt, hb⟩
        have HRb : Hid (KInv w1.heap.size w1 (.slice va L.length vc) L w2) := HK.out.step hb hws
        have HT : Hid (RowT w1.heap.size w2 rv pl) := hrt.lo hws
        have hwb : w1.heap.size ≤ w2.heap.size := Nat.le_trans hws hb.size
        obtain ⟨ra, rc, hrv⟩ : ∃ a c, rv = .slice a pl.length c := by obtain ⟨a, c, e, _⟩ := hrt; exact ⟨a, c, e⟩
        subst hrv
        clear HP hb hrt
        have A1 : Hid (L.length + 1 ≤ maxLen) := by show _ ≤ _; unfold maxLen; omega
        have A2 : Hid ((L.length + 1) * 24 ≤ 140737488355328) := by show _ ≤ _; omega
        have A3 : Hid (∀ O : Obj, w1.heap.size ≤ (w2.alloc O).heap.size) := fun O => by simp; omega
        have A4 : Hid (∀ t (j : Nat) (u : Value), ([.slice ra pl.length rc] : List Value)[j]? = some u → (w2.alloc (.cells #[.slice ra pl.length rc] t)).cell? ((⟨w2.heap.size, 0, none⟩ : Addr).add j) = some u) := fun t => one_cell w2 _ t
        have A5 : Hid (∀ u ∈ ([.slice ra pl.length rc] : List Value), u.oneCell' = true) := by intro u hu; simp only [List.mem_singleton] at hu; subst hu; rfl
        go_wp2_with (at_builtin; refine wpList_append_own _ (by rfl) _ _ 82 (by rfl) w1.heap.size 83 i0 (.slice none 0 0) 1 24 Try.underlying82 HI.out HZ0.out HZ1.out HZ2.out rfl (by decide) (.slice va L.length vc) L.length (L.map (·.1)) (by rfl) (HRb.out.own.alloc _) ⟨w2.heap.size, 0, none⟩ 1 1 [.slice ra pl.length rc] (by rfl) (by rfl) (A4.out _) A5.out A1.out A2.out (A3.out _) ?_; intro v' w3 hown2 hgr _; have HOWN := Lib.hid hown2; have HGR := Lib.hid hgr; clear hown2 hgr)
        go_roundg (n - (k + 1))
        case measure => omega
        case rel => exact ⟨k + 1, L ++ [(.slice ra pl.length rc, pl)], by omega, Nat.le_refl _, by go_num, Lib.hid (HTM.out.add hkn (.slice ra pl.length rc, pl) HPL.out (.inl HL0.out)), Lib.hid <| HRb.out.app (.slice ra pl.length rc, pl) HT.out hwb HOWN.out HGR.out⟩
      · obtain ⟨j, rfl⟩ : ∃ j, k = j + 1 := ⟨k - 1, by omega⟩
        obtain ⟨L0, x, hLx, hx2⟩ := HTM.out.2.2.2.2 j (by omega) rfl
        have hsrt : cmpRows x.2 pl ≤ 0 := by
          rw [hx2, HPL.out]
          exact List.pairwise_iff_getElem.1 HST.out j (j + 1) (by omega) hkn (by omega)
        have hLp : 0 < L.length := by rw [hLx]; simp
        obtain ⟨g, cap, hv5, hown⟩ := own_some hLp HK.out.own
        subst hv5
        have hcl : wr.cell? ⟨g, L.length - 1, none⟩ = some x.1 := by
          rw [hown.cellAt (L.length - 1) (by omega), hLx]
          simp
        have hrx : RowT w1.heap.size wr x.1 x.2 := HK.out.rows x (by rw [hLx]; simp)
        obtain ⟨xv, xl⟩ := x
        simp only at hcl hrx hsrt hx2
        obtain ⟨xa, xc, hxv⟩ : ∃ a c, xv = .slice a xl.length c := by obtain ⟨a, c, e, _⟩ := hrx; exact ⟨a, c, e⟩
        subst hxv
        obtain ⟨m, hm⟩ : ∃ m, L.length = m + 1 := ⟨L.length - 1, by omega⟩
        have hlm : L.length - 1 = m := by omega
        rw [hlm] at hcl
        have hm0 : (0 : Int) ≤ m := by omega
        have hm1 : (m : Int) < L.length := by omega
        have hm3 : IntKind.i64.wrap ((L.length : Int) - 1) = m := by rw [IntKind.wrap_i64]; omega
        have hm4 : (L.length : Int) - 1 = m := by omega
        have hl1 : ((L.length : Int) == 0) = false := by rw [beq_eq_false_iff_ne]; omega
        have HCM := Lib.hid (rCompareRows_any _ _ xl pl wr (hrx.rowB.at (Nat.le_refl _)) HRW.out)
        have HLX := Lib.hid hLx
        have HX2 := Lib.hid hx2
        obtain ⟨c, hc⟩ : ∃ c, cmpRows xl pl = c := ⟨_, rfl⟩
        rw [hc] at hsrt HCM
        have HC := Lib.hid hc
        clear hrx hLx hx2 hlm hc hm hown h0
        go_wp2_with fail
        refine HCM.out.mono ?_
        rintro e w2 ⟨rfl, hg⟩
        have HK2 : Hid (KInv w1.heap.size w1 (.slice (some ⟨g, 0, none⟩) L.length cap) L w2) := HK.out.step hg.below hws
        have hws2 : w1.heap.size ≤ w2.heap.size := Nat.le_trans hws hg.below.size
        have HP := Lib.hid (rCopy_any _ _ w2 ((HR1.out.below HK2.out.below (Nat.le_refl _)).at hws2))
        clear hg HCM hcl p1
        by_cases hc0 : c = 0
        · subst hc0
          go_wp2_with fail
          go_roundg (n - (j + 1 + 1))
          case measure => omega
          case rel => exact ⟨j + 1 + 1, L, by omega, Nat.le_refl _, by go_num, Lib.hid (HTM.out.skip hkn HLX.out (by show xl = _; rw [← HPL.out]; exact (cmpRows_zero _ _).1 HC.out)), HK2⟩
        · go_wp2_with fail
          refine HP.out.mono ?_
          rintro e w4 ⟨rv, rfl, hrt, hb⟩
          have HRb : Hid (KInv w1.heap.size w1 (.slice (some ⟨g, 0, none⟩) L.length cap) L w4) := HK2.out.step hb hws2
          have HT : Hid (RowT w1.heap.size w4 rv pl) := hrt.lo hws2
          have hwb : w1.heap.size ≤ w4.heap.size := Nat.le_trans hws2 hb.size
          obtain ⟨ra, rc, hrv⟩ : ∃ a c, rv = .slice a pl.length c := by obtain ⟨a, c, e, _⟩ := hrt; exact ⟨a, c, e⟩
          subst hrv
          clear HP hb hrt
          have A1 : Hid (L.length + 1 ≤ maxLen) := by show _ ≤ _; unfold maxLen; omega
          have A2 : Hid ((L.length + 1) * 24 ≤ 140737488355328) := by show _ ≤ _; omega
          have A3 : Hid (∀ O : Obj, w1.heap.size ≤ (w4.alloc O).heap.size) := fun O => by simp; omega
          have A4 : Hid (∀ t (j : Nat) (u : Value), ([.slice ra pl.length rc] : List Value)[j]? = some u → (w4.alloc (.cells #[.slice ra pl.length rc] t)).cell? ((⟨w4.heap.size, 0, none⟩ : Addr).add j) = some u) := fun t => one_cell w4 _ t
          have A5 : Hid (∀ u ∈ ([.slice ra pl.length rc] : List Value), u.oneCell' = true) := by intro u hu; simp only [List.mem_singleton] at hu; subst hu; rfl
          go_wp2_with (at_builtin; refine wpList_append_own _ (by rfl) _ _ 82 (by rfl) w1.heap.size 83 i0 (.slice none 0 0) 1 24 Try.underlying82 HI.out HZ0.out HZ1.out HZ2.out rfl (by decide) (.slice (some ⟨g, 0, none⟩) L.length cap) L.length (L.map (·.1)) (by rfl) (HRb.out.own.alloc _) ⟨w4.heap.size, 0, none⟩ 1 1 [.slice ra pl.length rc] (by rfl) (by rfl) (A4.out _) A5.out A1.out A2.out (A3.out _) ?_; intro v' w3 hown2 hgr _; have HOWN := Lib.hid hown2; have HGR := Lib.hid hgr; clear hown2 hgr)
          go_roundg (n - (j + 1 + 1))
          case measure => omega
          case rel => exact ⟨j + 1 + 1, L ++ [(.slice ra pl.length rc, pl)], by omega, Nat.le_refl _, by go_num, Lib.hid (HTM.out.add hkn (.slice ra pl.length rc, pl) HPL.out (.inr ⟨L0, (.slice xa xl.length xc, xl), HLX.out, by show cmpRows xl pl < 0; rw [HC.out]; omega⟩)), Lib.hid <| HRb.out.app (.slice ra pl.length rc, pl) HT.out hwb HOWN.out HGR.out⟩
    · have hd : decide ((k : Int) < n) = false := decide_eq_false (by omega)
      obtain rfl : k = n := by omega
      go_wp2_with fail
      go_ret
      refine ⟨_, L, rfl, HK.out.rowsB (by omega), HTM.out.1, fun r => ?_, by have := HPM.out.length_eq; have := HN.out; omega, HB1.out.trans (HK.out.below.mono HB1.out.size)⟩
      rw [HTM.out.2.1 r, List.take_of_length_le (by rw [HN.out]; exact Nat.le_refl _)]
      exact (HPM.out.map _).mem_iff
end Go.Proofs.Ytmhgmlnnipdomaa
