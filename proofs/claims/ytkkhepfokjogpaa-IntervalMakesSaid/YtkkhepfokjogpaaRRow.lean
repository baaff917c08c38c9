
/- Walk of the reference's CompareRows. -/
import Derived.Test.YtkkhepfokjogpaaEqual

import Derived.Deep.RegionHeld3

import Derived.Deep.LoopGhost

namespace Go.Proofs.Ytkkhepfokjogpaa

open Go.RowKit

theorem cmpRows_drop (l1 l2 : List V) (k : Nat) (i1 : k < l1.length) (i2 : k < l2.length) : cmpRows (l1.drop k) (l2.drop k) = if l1[k] = l2[k] then cmpRows (l1.drop (k + 1)) (l2.drop (k + 1)) else cmpV l1[k] l2[k] := by
  rw [List.drop_eq_getElem_cons i1, List.drop_eq_getElem_cons i2]; rfl

set_option maxHeartbeats 1000000 in
theorem rCompareRows_nn (a1 a2 : Option Addr) (c1 c2 : Nat) (l1 l2 : List V) (w : World) (h1 : l1.length ≤ 4398046511104) (h2 : l2.length ≤ 4398046511104)
    (H1 : Hid (∀ i (h : i < l1.length), ∃ b off, a1 = some ⟨b, off, none⟩ ∧ b < w.heap.size ∧ CellsV w b (off + i * 3) l1[i])) (H2 : Hid (∀ i (h : i < l2.length), ∃ b off, a2 = some ⟨b, off, none⟩ ∧ b < w.heap.size ∧ CellsV w b (off + i * 3) l2[i])) :
    Calls Try.prog 88 #[.slice a1 l1.length c1, .slice a2 l2.length c2] w fun e w' => e = .returned (.int .i64 (cmpRows l1 l2)) ∧ Gr w w' := by
  go_enter Try.func88, Try.ntmps88
  go_wp2_with fail
  go_loopg [5] l1.length (fun g i wr => ∃ k : Nat, k ≤ l1.length ∧ k ≤ l2.length ∧ l1.length - k ≤ g ∧ i = .int .i64 k ∧ Hid (Gr w wr) ∧ Hid (cmpRows l1 l2 = cmpRows (l1.drop k) (l2.drop k)))
  case atStart => exact ⟨0, by omega, by omega, by omega, rfl, Gr.refl _, rfl⟩
  case round =>
    obtain ⟨k, hk1, hk2, hgk, rfl, hg, ht⟩ := hrel
    by_cases i1 : k < l1.length
    · by_cases i2 : k < l2.length
      · obtain ⟨b1, o1, rfl, hb1, hc1⟩ := H1.out k i1
        obtain ⟨b2, o2, rfl, hb2, hc2⟩ := H2.out k i2
        have hd := cmpRows_drop l1 l2 k i1 i2
        generalize l1[k] = p at hc1 hd
        generalize l2[k] = q at hc2 hd
        have HK : Hid (∀ W, Below w.heap.size w W → CellsV W b1 (o1 + k * 3) p ∧ CellsV W b2 (o2 + k * 3) q) := fun W hb =>
          ⟨⟨(hb.cell (p := ⟨b1, _, none⟩) hb1).trans hc1.1, (hb.cell (p := ⟨b1, _, none⟩) hb1).trans hc1.2.1, (hb.cell (p := ⟨b1, _, none⟩) hb1).trans hc1.2.2⟩,
           ⟨(hb.cell (p := ⟨b2, _, none⟩) hb2).trans hc2.1, (hb.cell (p := ⟨b2, _, none⟩) hb2).trans hc2.2.1, (hb.cell (p := ⟨b2, _, none⟩) hb2).trans hc2.2.2⟩⟩
        obtain ⟨⟨p0, p1, p2⟩, ⟨q0, q1, q2⟩⟩ := HK.out wr hg.out.below
        have hz := cmpV_zero p q
        have hC : Hid (∀ W, Calls Try.prog 46 #[.agg #[.int .i64 p.k, .int .i64 p.n, .string p.s], .agg #[.int .i64 q.k, .int .i64 q.n, .string q.s]] W fun e w' => e = .returned (.int .i64 (cmpV p q)) ∧ Gr W w') := fun W => rCompare_any p.k p.n p.s q.k q.n q.s W
        have HD : Hid (cmpRows l1 l2 = if cmpV p q = 0 then cmpRows (l1.drop (k + 1)) (l2.drop (k + 1)) else cmpV p q) := by
          refine (ht.out.trans hd).trans ?_
          by_cases e : p = q
          · rw [if_pos e, if_pos (hz.2 e)]
          · rw [if_neg e, if_neg (fun h => e (hz.1 h))]
        generalize cmpV p q = c at hC HD
        have HG : Hid (Gr w wr) := hg
        clear hc1 hc2 hd hz ht hb1 hb2
        have i1' : (k : Int) < l1.length := by omega
        have i2' : (k : Int) < l2.length := by omega
        have k0 : (0 : Int) ≤ k := by omega
        go_wp2_with fail
        go_region_held3 (fun W => W.cell? ⟨b1, o1 + k * 3, none⟩ = some (.int .i64 p.k) ∧ W.cell? ⟨b1, o1 + k * 3 + 1, none⟩ = some (.int .i64 p.n) ∧ W.cell? ⟨b1, o1 + k * 3 + 2, none⟩ = some (.string p.s) ∧ W.cell? ⟨b2, o2 + k * 3, none⟩ = some (.int .i64 q.k) ∧ W.cell? ⟨b2, o2 + k * 3 + 1, none⟩ = some (.int .i64 q.n) ∧ W.cell? ⟨b2, o2 + k * 3 + 2, none⟩ = some (.string q.s))
          (first | exact ⟨r0, r1, r2, s0, s1, s2⟩ | exact ⟨p0, p1, p2, q0, q1, q2⟩)
          (first | (go_at_call 46; refine (hC.out _).mono ?_; rintro e wz ⟨rfl, hgz⟩; have HGZ : Hid (Gr w wz) := (Gr.drew HG.out).trans hgz; obtain ⟨⟨r0, r1, r2⟩, ⟨s0, s1, s2⟩⟩ := HK.out wz HGZ.out.below; clear hgz))
        by_cases hc : c = 0
        · subst hc
          have ht' : Hid (cmpRows l1 l2 = cmpRows (l1.drop (k + 1)) (l2.drop (k + 1))) := by have := HD.out; rwa [if_pos rfl] at this
          go_wp2_with fail
          go_roundg (l1.length - (k + 1))
          case measure => omega
          case rel => exact ⟨k + 1, by omega, by omega, Nat.le_refl _, by go_num, HGZ, ht'⟩
        · have hcb : (c != 0) = true := by simpa using hc
          have ht' : Hid (cmpRows l1 l2 = c) := by have := HD.out; rwa [if_neg hc] at this
          go_wp2_with fail
          go_ret
          exact ⟨by rw [ht'.out]; try rfl, HGZ.out⟩
      · have hx : Hid (cmpRows l1 l2 = cmpI l1.length l2.length) := ht.out.trans (cmpRows_end l1 l2 k (by omega) (by omega) (by omega))
        have d2 : decide ((k : Int) < l2.length) = false := by simp; omega
        have d3 : decide (l1.length < l2.length) = false := by simp; omega
        have d3' : decide ((l1.length : Int) < l2.length) = false := by simp; omega
        by_cases e : l2.length < l1.length
        · have hr : Hid (cmpRows l1 l2 = 1) := by have := hx.out; unfold cmpI at this; rw [if_neg (by omega), if_pos (by omega)] at this; exact this
          go_wp2_with fail
          go_ret
          exact ⟨by rw [hr.out]; try rfl, hg.out⟩
        · have hr : Hid (cmpRows l1 l2 = 0) := by have := hx.out; unfold cmpI at this; rw [if_neg (by omega), if_neg (by omega)] at this; exact this
          go_wp2_with fail
          go_ret
          exact ⟨by rw [hr.out]; try rfl, hg.out⟩
    · have hx : Hid (cmpRows l1 l2 = cmpI l1.length l2.length) := ht.out.trans (cmpRows_end l1 l2 k (by omega) (by omega) (by omega))
      by_cases e : l1.length < l2.length
      · have hr : Hid (cmpRows l1 l2 = -1) := by have := hx.out; unfold cmpI at this; rw [if_pos (by omega)] at this; exact this
        go_wp2_with fail
        go_ret
        exact ⟨by rw [hr.out]; try rfl, hg.out⟩
      · have hr : Hid (cmpRows l1 l2 = 0) := by have := hx.out; unfold cmpI at this; rw [if_neg (by omega), if_neg (by omega)] at this; exact this
        go_wp2_with fail
        go_ret
        exact ⟨by rw [hr.out]; try rfl, hg.out⟩

theorem rCompareRows_any (r1 r2 : Value) (l1 l2 : List V) (w : World) (h1 : RowAt w r1 l1) (h2 : RowAt w r2 l2) :
    Calls Try.prog 88 #[r1, r2] w fun e w' => e = .returned (.int .i64 (cmpRows l1 l2)) ∧ Gr w w' := by
  obtain ⟨a1, c1, rfl, n1, h1⟩ := h1
  obtain ⟨a2, c2, rfl, n2, h2⟩ := h2
  exact rCompareRows_nn a1 a2 c1 c2 l1 l2 w n1 n2 h1 h2
end Go.Proofs.Ytkkhepfokjogpaa
