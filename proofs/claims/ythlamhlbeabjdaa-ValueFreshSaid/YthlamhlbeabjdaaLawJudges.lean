/- Law ValueJudges. -/
import Derived.Test.YthlamhlbeabjdaaBegun
import Derived.Test.YthlamhlbeabjdaaCase4
import Derived.OpenShut
namespace Go.Proofs.Ythlamhlbeabjdaa
open Go.RowKit Go.Deep

theorem bytesAt_nil (w : World) : BytesAt w (.slice none 0 0) 0 := ⟨none, 0, rfl, Nat.le_refl _, by omega, fun _ => ⟨rfl, rfl⟩, [], rfl, fun p h => by simp at h, fun x h => by simp at h⟩
theorem BytesAt.below {w w' : World} {v : Value} {n : Nat} (h : BytesAt w v n) (hb : Below w.heap.size w w') : BytesAt w' v n := by
  obtain ⟨a, c, e, h1, h2, h3, xs, hl, hc, hx⟩ := h
  exact ⟨a, c, e, h1, h2, h3, xs, hl, fun p hp j hj => cell_later hb (hc p hp j hj), hx⟩
theorem bytesAt_some (w : World) (x : Addr) (n c : Nat) (zs : List Int) (hl : n ≤ c) (hm : c ≤ maxLen) (hz : n ≤ zs.length) (hc : ∀ i, i < zs.length → w.cell? (x.add i) = some (.int .u8 (zs.getD i 0))) (hw : ∀ z ∈ zs, (Lit.int .u8 z).wf = true) : BytesAt w (.slice (some x) n c) n := by
  unfold maxLen at hm
  refine ⟨some x, c, rfl, hl, hm, fun h => by simp at h, zs.take n, by simp; omega, fun p hp j hj => ?_, fun z hz' => bounds_u8 (hw z (List.mem_of_mem_take hz'))⟩
  simp only [Option.some.injEq] at hp
  subst hp
  have hj' : j < zs.length := by simp at hj; omega
  rw [hc j hj', List.getElem_take, List.getD_eq_getElem?_getD, List.getElem?_eq_getElem hj']
  rfl

set_option maxHeartbeats 1000000 in
theorem judges_walk (cv : Value) (cn : Nat) (k n : Int) (s : ByteArray) (w : World) (hcv : BytesAt w cv cn) : Calls Try.prog 3 #[cv, .agg #[.int .i64 k, .int .i64 n, .string s]] w fun e w' => e = .returned (.bool true) ∧ Below w.heap.size w w' := by
  have HN : Hid (∀ O, Calls Try.prog 11 #[cv, .int .i64 90] (w.alloc O) (NewPost (w.alloc O))) := fun O => cNew_any cv cn _ (hcv.below ((Below.refl _ _).alloc (Nat.le_refl _) _))
  obtain ⟨sa, sc, rfl, _⟩ := hcv
  have HB : Hid (∀ W, Calls Try.prog 13 #[] W fun e w' => e = .returned (.bool true) ∧ Below W.heap.size W w') := begun_any
  have HV : Hid (∀ W, Calls Try.prog 14 #[.agg #[.int .i64 k, .int .i64 n, .string s]] W fun e w' => e = .returned (.bool (vldB k n s)) ∧ Below W.heap.size W w') := fun W => (vValid_any k n s W).mono fun _ _ ⟨a, b⟩ => ⟨a, b.below⟩
  have HVr : Hid (∀ W, Calls Try.prog 16 #[.agg #[.int .i64 k, .int .i64 n, .string s]] W fun e w' => e = .returned (.bool (vldB k n s)) ∧ Below W.heap.size W w') := fun W => (rValid_any k n s W).mono fun _ _ ⟨a, b⟩ => ⟨a, b.below⟩
  have HR : Hid (∀ W, Calls Try.prog 15 #[.agg #[.int .i64 k, .int .i64 n, .string s]] W fun e w' => e = .returned (.bool (realB k n s)) ∧ Below W.heap.size W w') := fun W => (vReal_any k n s W).mono fun _ _ ⟨a, b⟩ => ⟨a, b.below⟩
  have HRr : Hid (∀ W, Calls Try.prog 17 #[.agg #[.int .i64 k, .int .i64 n, .string s]] W fun e w' => e = .returned (.bool (realB k n s)) ∧ Below W.heap.size W w') := fun W => (rReal_any k n s W).mono fun _ _ ⟨a, b⟩ => ⟨a, b.below⟩
  generalize vldB k n s = x at HV HVr
  generalize realB k n s = y at HR HRr
  go_enter Try.func3, Try.ntmps3
  go_wp2_with fail
  refine (HN.out _).mono ?_
  rintro e w1 ⟨bc, rfl, hb1, hbc, hok⟩
  have HA := Lib.hid (cAny_any bc w1.heap.size w1 hok)
  have hs1 := hb1.size
  simp only [World.size_alloc] at hs1 hbc
  go_wp2_with fail
  refine HA.out.mono ?_
  rintro e w2 ⟨k', n', s', rfl, hv', _, _, hm, _⟩
  have B1 : Below (w.heap.size + 1) w1 w2 := hm.below hbc hs1
  have v0 : w2.cell? ⟨w.heap.size, 0, none⟩ = some (.int .i64 k) := (B1.cell (p := ⟨w.heap.size, 0, none⟩) (by simp)).trans ((hb1.cell (p := ⟨w.heap.size, 0, none⟩) (by simp)).trans (by go_simp))
  have v1 : w2.cell? ⟨w.heap.size, 1, none⟩ = some (.int .i64 n) := (B1.cell (p := ⟨w.heap.size, 1, none⟩) (by simp)).trans ((hb1.cell (p := ⟨w.heap.size, 1, none⟩) (by simp)).trans (by go_simp))
  have v2 : w2.cell? ⟨w.heap.size, 2, none⟩ = some (.string s) := (B1.cell (p := ⟨w.heap.size, 2, none⟩) (by simp)).trans ((hb1.cell (p := ⟨w.heap.size, 2, none⟩) (by simp)).trans (by go_simp))
  have s2 : w.heap.size < w2.heap.size := by have := hm.size; omega
  have BW : Hid (Below w.heap.size w w2) := Below.trans (Below.trans (by (repeat (first | exact Below.refl _ _ | assumption | refine Below.drew ?_ | refine Below.setCell ?_ (by simp; try omega) _ | refine Below.alloc ?_ (by simp; try omega) _))) (hb1.mono (by simp))) (B1.mono (by omega))
  have HV1 : Hid (∀ W, Calls Try.prog 14 #[.agg #[.int .i64 k', .int .i64 n', .string s']] W fun e w' => e = .returned (.bool true) ∧ Below W.heap.size W w') := fun W => by
    have := vValid_any k' n' s' W
    rw [hv'] at this
    exact this.mono fun _ _ ⟨a, b⟩ => ⟨a, b.below⟩
  have HR1 : Hid (∀ W, Calls Try.prog 15 #[.agg #[.int .i64 k', .int .i64 n', .string s']] W fun e w' => e = .returned (.bool (decide (3 ≤ k'))) ∧ Below W.heap.size W w') := fun W => by
    have := vReal_any k' n' s' W
    rw [show realB k' n' s' = decide (3 ≤ k') by simp [realB, hv']] at this
    exact this.mono fun _ _ ⟨a, b⟩ => ⟨a, b.below⟩
  clear hm hok hb1 hbc hs1 B1 HN HA hv'
  -- the region
  go_wp2_with fail
  have u0 : (w2.alloc (.cells #[.int .i64 k', .int .i64 n', .string s'] 24)).cell? ⟨w2.heap.size, 0, none⟩ = some (.int .i64 k') := by go_simp
  have u1 : (w2.alloc (.cells #[.int .i64 k', .int .i64 n', .string s'] 24)).cell? ⟨w2.heap.size, 1, none⟩ = some (.int .i64 n') := by go_simp
  have u2 : (w2.alloc (.cells #[.int .i64 k', .int .i64 n', .string s'] 24)).cell? ⟨w2.heap.size, 2, none⟩ = some (.string s') := by go_simp
  obtain ⟨w3, hw3⟩ : ∃ w3, w2.alloc (.cells #[.int .i64 k', .int .i64 n', .string s'] 24) = w3 := ⟨_, rfl⟩
  have hb3 : Below w2.heap.size w2 w3 := by rw [← hw3]; (repeat (first | exact Below.refl _ _ | assumption | refine Below.drew ?_ | refine Below.setCell ?_ (by simp; try omega) _ | refine Below.alloc ?_ (by simp; try omega) _))
  replace v0 := (hb3.cell (p := ⟨w.heap.size, 0, none⟩) s2).trans v0
  replace v1 := (hb3.cell (p := ⟨w.heap.size, 1, none⟩) s2).trans v1
  replace v2 := (hb3.cell (p := ⟨w.heap.size, 2, none⟩) s2).trans v2
  rw [hw3] at u0
  rw [hw3] at u1
  rw [hw3] at u2
  have zv : w.heap.size < w3.heap.size := by have := hb3.size; omega
  have zu : w2.heap.size < w3.heap.size := by rw [← hw3]; simp
  have BW3 : Hid (Below w.heap.size w w3) := BW.out.trans (hb3.mono BW.out.size)
  rw [hw3]
  have HK : Hid (∀ W, Below w3.heap.size w3 W → W.cell? ⟨w.heap.size, 0, none⟩ = some (.int .i64 k) ∧ W.cell? ⟨w.heap.size, 1, none⟩ = some (.int .i64 n) ∧ W.cell? ⟨w.heap.size, 2, none⟩ = some (.string s) ∧ W.cell? ⟨w2.heap.size, 0, none⟩ = some (.int .i64 k') ∧ W.cell? ⟨w2.heap.size, 1, none⟩ = some (.int .i64 n') ∧ W.cell? ⟨w2.heap.size, 2, none⟩ = some (.string s')) := fun W hb => ⟨(hb.cell (p := ⟨w.heap.size, 0, none⟩) zv).trans v0, (hb.cell (p := ⟨w.heap.size, 1, none⟩) zv).trans v1, (hb.cell (p := ⟨w.heap.size, 2, none⟩) zv).trans v2, (hb.cell (p := ⟨w2.heap.size, 0, none⟩) zu).trans u0, (hb.cell (p := ⟨w2.heap.size, 1, none⟩) zu).trans u1, (hb.cell (p := ⟨w2.heap.size, 2, none⟩) zu).trans u2⟩
  clear hw3 hb3 BW zv zu s2
  go_region_held3 (fun W => W.cell? ⟨w.heap.size, 0, none⟩ = some (.int .i64 k) ∧ W.cell? ⟨w.heap.size, 1, none⟩ = some (.int .i64 n) ∧ W.cell? ⟨w.heap.size, 2, none⟩ = some (.string s) ∧ W.cell? ⟨w2.heap.size, 0, none⟩ = some (.int .i64 k') ∧ W.cell? ⟨w2.heap.size, 1, none⟩ = some (.int .i64 n') ∧ W.cell? ⟨w2.heap.size, 2, none⟩ = some (.string s'))
    (first | exact ⟨v0h, v1h, v2h, u0h, u1h, u2h⟩ | exact ⟨v0g, v1g, v2g, u0g, u1g, u2g⟩ | exact ⟨v0f, v1f, v2f, u0f, u1f, u2f⟩ | exact ⟨v0d, v1d, v2d, u0d, u1d, u2d⟩ | exact ⟨v0c, v1c, v2c, u0c, u1c, u2c⟩ | exact ⟨v0b, v1b, v2b, u0b, u1b, u2b⟩ | exact ⟨v0a, v1a, v2a, u0a, u1a, u2a⟩ | exact ⟨v0, v1, v2, u0, u1, u2⟩)
    (first | (go_at_call 13; (with_reducible refine (HB.out _).mono ?_); rintro e wza ⟨rfl, hg⟩; have hba : Below w3.heap.size w3 wza := Below.trans (by (repeat (first | exact Below.refl _ _ | assumption | refine Below.drew ?_ | refine Below.setCell ?_ (by simp; try omega) _ | refine Below.alloc ?_ (by simp; try omega) _))) (hg.mono (by first | (simp; done) | ((try simp); exact Below.size (by assumption)))); obtain ⟨v0a, v1a, v2a, u0a, u1a, u2a⟩ := HK.out wza hba; clear hg) | (go_at_call 14; (with_reducible refine (HV1.out _).mono ?_); rintro e wzb ⟨rfl, hg⟩; have hbb : Below w3.heap.size w3 wzb := Below.trans (by (repeat (first | exact Below.refl _ _ | assumption | refine Below.drew ?_ | refine Below.setCell ?_ (by simp; try omega) _ | refine Below.alloc ?_ (by simp; try omega) _))) (hg.mono (by first | (simp; done) | ((try simp); exact Below.size (by assumption)))); obtain ⟨v0b, v1b, v2b, u0b, u1b, u2b⟩ := HK.out wzb hbb; clear hg) | (go_at_call 15; (with_reducible refine (HR1.out _).mono ?_); rintro e wzc ⟨rfl, hg⟩; have hbc : Below w3.heap.size w3 wzc := Below.trans (by (repeat (first | exact Below.refl _ _ | assumption | refine Below.drew ?_ | refine Below.setCell ?_ (by simp; try omega) _ | refine Below.alloc ?_ (by simp; try omega) _))) (hg.mono (by first | (simp; done) | ((try simp); exact Below.size (by assumption)))); obtain ⟨v0c, v1c, v2c, u0c, u1c, u2c⟩ := HK.out wzc hbc; clear hg) | (go_at_call 14; (with_reducible refine (HV.out _).mono ?_); rintro e wzd ⟨rfl, hg⟩; have hbd : Below w3.heap.size w3 wzd := Below.trans (by (repeat (first | exact Below.refl _ _ | assumption | refine Below.drew ?_ | refine Below.setCell ?_ (by simp; try omega) _ | refine Below.alloc ?_ (by simp; try omega) _))) (hg.mono (by first | (simp; done) | ((try simp); exact Below.size (by assumption)))); obtain ⟨v0d, v1d, v2d, u0d, u1d, u2d⟩ := HK.out wzd hbd; clear hg) | (go_at_call 16; (with_reducible refine (HVr.out _).mono ?_); rintro e wzf ⟨rfl, hg⟩; have hbf : Below w3.heap.size w3 wzf := Below.trans (by (repeat (first | exact Below.refl _ _ | assumption | refine Below.drew ?_ | refine Below.setCell ?_ (by simp; try omega) _ | refine Below.alloc ?_ (by simp; try omega) _))) (hg.mono (by first | (simp; done) | ((try simp); exact Below.size (by assumption)))); obtain ⟨v0f, v1f, v2f, u0f, u1f, u2f⟩ := HK.out wzf hbf; clear hg) | (go_at_call 15; (with_reducible refine (HR.out _).mono ?_); rintro e wzg ⟨rfl, hg⟩; have hbg : Below w3.heap.size w3 wzg := Below.trans (by (repeat (first | exact Below.refl _ _ | assumption | refine Below.drew ?_ | refine Below.setCell ?_ (by simp; try omega) _ | refine Below.alloc ?_ (by simp; try omega) _))) (hg.mono (by first | (simp; done) | ((try simp); exact Below.size (by assumption)))); obtain ⟨v0g, v1g, v2g, u0g, u1g, u2g⟩ := HK.out wzg hbg; clear hg) | (go_at_call 17; (with_reducible refine (HRr.out _).mono ?_); rintro e wzh ⟨rfl, hg⟩; have hbh : Below w3.heap.size w3 wzh := Below.trans (by (repeat (first | exact Below.refl _ _ | assumption | refine Below.drew ?_ | refine Below.setCell ?_ (by simp; try omega) _ | refine Below.alloc ?_ (by simp; try omega) _))) (hg.mono (by first | (simp; done) | ((try simp); exact Below.size (by assumption)))); obtain ⟨v0h, v1h, v2h, u0h, u1h, u2h⟩ := HK.out wzh hbh; clear hg))
  go_wp2_with fail
  go_ret
  exact ⟨rfl, BW3.out.trans (hbh.mono BW3.out.size)⟩
end Go.Proofs.Ythlamhlbeabjdaa
