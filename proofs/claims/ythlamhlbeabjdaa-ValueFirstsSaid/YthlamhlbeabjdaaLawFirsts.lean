/- Law ValueFirsts: the least values and what follows the last ones: the call returns true, for every kind and number. -/
import Derived.Test.YthlamhlbeabjdaaBegun
namespace Go.Proofs.Ythlamhlbeabjdaa
open Go.RowKit Go.Deep

theorem lastText_next (s : ByteArray) (hs : s.size = 64) (h : ∀ j, j < 64 → s.data.toList.getD j 0 = 255) : nextV 5 0 s = (⟨0, 0, ⟨#[]⟩⟩, false) := by
  have ht : ∀ m, m ≤ 64 → trimN s.data.toList m = 0 := by
    intro m
    induction m with
    | zero => intro _; rfl
    | succ m ih =>
      intro hm
      simp only [trimN]
      rw [if_pos (h m (by omega))]
      exact ih (by omega)
  have hv : vldB 5 0 s = true := by simp [vldB, hs]
  unfold nextV
  rw [if_neg (by rw [hv]; decide), if_neg (by omega), if_neg (by omega), if_pos rfl]
  unfold nextS
  rw [if_neg (by omega), if_pos (by rw [hs]; exact ht 64 (Nat.le_refl _))]

theorem push255 (x : ByteArray) (k : Nat) (hk : x.size = k) (h : ∀ j, j < k → x.data.toList.getD j 0 = 255) : ∀ j, j < k + 1 → (x ++ ⟨#[255]⟩ : ByteArray).data.toList.getD j 0 = 255 := by
  intro j hj
  have e : (x ++ ⟨#[255]⟩ : ByteArray).data.toList = x.data.toList ++ [255] := by simp
  have hl : x.data.toList.length = k := by simpa using hk
  rw [e]
  simp only [List.getD_eq_getElem?_getD, List.getElem?_append]
  by_cases hjk : j < k
  · rw [if_pos (by omega)]
    have := h j hjk
    rwa [List.getD_eq_getElem?_getD] at this
  · have : j = k := by omega
    subst this
    rw [if_neg (by omega), hl]
    simp

theorem cmp_first (m : Int) (h0 : -9223372036854775808 ≤ m) : cmpV ⟨4, -9223372036854775808, ⟨#[]⟩⟩ ⟨4, m, ⟨#[]⟩⟩ ≤ 0 := by
  unfold cmpV
  simp only [if_true]
  by_cases h : (-9223372036854775808 : Int) = m
  · rw [if_pos h]
    unfold cmpS
    rw [Lib.toList_data]; simp [cmpL]
  · rw [if_neg h]
    rw [cmpI_le]; exact h0
theorem cmp_last (m : Int) : cmpV ⟨4, m, ⟨#[]⟩⟩ ⟨5, 0, ⟨#[]⟩⟩ = -1 := by
  simp [cmpV, cmpI]

set_option maxRecDepth 100000 in
set_option maxHeartbeats 2000000 in
theorem firsts_walk (kind m : Int) (w : World) (h0 : -9223372036854775808 ≤ m) (_h1 : m ≤ 9223372036854775807) : Calls Try.prog 6 #[.int .i64 kind, .int .i64 m] w fun e w' => e = .returned (.bool true) ∧ Below w.heap.size w w' := by
  have H1 : Hid (∀ W, Calls Try.prog 22 #[.int .i64 kind] W fun e w' => e = .returned (retV (firstV kind)) ∧ Below W.heap.size W w') := fun W => (vFirst_any kind W).mono fun e w' ⟨he, hg⟩ => ⟨he, hg.below⟩
  have H2 : Hid (∀ W, Calls Try.prog 23 #[.int .i64 kind] W fun e w' => e = .returned (retV (firstV kind)) ∧ Below W.heap.size W w') := fun W => (rFirst_any kind W).mono fun e w' ⟨he, hg⟩ => ⟨he, hg.below⟩
  generalize firstV kind = r at H1 H2
  simp only [retV] at H1 H2
  have hnx : ∀ (k n : Int) (s : ByteArray) (x : V × Bool), -9223372036854775808 ≤ n → nextV k n s = x → Hid (∀ W, Calls Try.prog 20 #[.agg #[.int .i64 k, .int .i64 n, .string s]] W fun e w' => e = .returned (retV x) ∧ Below W.heap.size W w') := by
    intro k n s x hn hx W
    have := vNext_any k n s W hn
    rw [hx] at this
    exact this
  have H3 := hnx 2 0 ⟨#[]⟩ (⟨3, 0, ⟨#[]⟩⟩, true) (by omega) (by decide)
  have H4 := hnx 3 1 ⟨#[]⟩ (⟨4, -9223372036854775808, ⟨#[]⟩⟩, true) (by omega) (by decide)
  have H5 := hnx 4 9223372036854775807 ⟨#[]⟩ (⟨5, 0, ⟨#[]⟩⟩, true) (by omega) (by decide)
  have H6 : Hid (∀ s : ByteArray, s.size = 64 → (∀ j, j < 64 → s.data.toList.getD j 0 = 255) → ∀ W, Calls Try.prog 20 #[.agg #[.int .i64 5, .int .i64 0, .string s]] W fun e w' => e = .returned (retV (⟨0, 0, ⟨#[]⟩⟩, false)) ∧ Below W.heap.size W w') := fun s hs hh => hnx 5 0 s _ (by omega) (lastText_next s hs hh)
  clear hnx
  simp only [retV] at H3 H4 H5 H6
  have H7 : Hid (∀ W, Calls Try.prog 13 #[] W fun e w' => e = .returned (.bool true) ∧ Below W.heap.size W w') := begun_any
  obtain ⟨c8, hc8, hl8⟩ : ∃ c, cmpV ⟨4, -9223372036854775808, ⟨#[]⟩⟩ ⟨4, m, ⟨#[]⟩⟩ = c ∧ c ≤ 0 := ⟨_, rfl, cmp_first m h0⟩
  have H8 : Hid (∀ W, Calls Try.prog 18 #[.agg #[.int .i64 4, .int .i64 (-9223372036854775808), .string ⟨#[]⟩], .agg #[.int .i64 4, .int .i64 m, .string ⟨#[]⟩]] W fun e w' => e = .returned (.int .i64 c8) ∧ Below W.heap.size W w') := by
    intro W
    have := vCompare_any 4 (-9223372036854775808) ⟨#[]⟩ 4 m ⟨#[]⟩ W
    rw [hc8] at this
    exact this.mono fun e w' ⟨he, hg⟩ => ⟨he, hg.below⟩
  have H9 : Hid (∀ W, Calls Try.prog 18 #[.agg #[.int .i64 4, .int .i64 m, .string ⟨#[]⟩], .agg #[.int .i64 5, .int .i64 0, .string ⟨#[]⟩]] W fun e w' => e = .returned (.int .i64 (-1)) ∧ Below W.heap.size W w') := by
    intro W
    have := vCompare_any 4 m ⟨#[]⟩ 5 0 ⟨#[]⟩ W
    rw [cmp_last m] at this
    exact this.mono fun e w' ⟨he, hg⟩ => ⟨he, hg.below⟩
  clear hc8
  have heq := fun W => eqV_run r.1.k r.1.n r.1.s r.1.k r.1.n r.1.s W
  have heq2 := fun W => eqV_run 5 0 ⟨#[]⟩ 5 0 ⟨#[]⟩ W
  simp only [decide_true] at heq heq2
  have HEQ := Lib.hid heq
  have HEQ2 := Lib.hid heq2
  clear heq heq2
  go_enter Try.func6, Try.ntmps6
  go_wp2_with fail
  refine (H1.out _).mono ?_
  rintro e w1 ⟨rfl, hb⟩
  have B1 : Hid (Below w.heap.size w w1) := hb
  have s1 := hb.size
  clear hb
  go_wp2_with fail
  refine (H2.out _).mono ?_
  rintro e w2 ⟨rfl, hb⟩
  have hbp : Below w1.heap.size w1 w2 := Below.trans (by (repeat (first | exact Below.refl _ _ | assumption | refine Below.drew ?_ | refine Below.setCell ?_ (by simp; try omega) _ | refine Below.alloc ?_ (by simp; try omega) _))) (hb.mono (B' := w1.heap.size) (by first | (simp; done) | (simp; omega) | omega))
  have B2 : Hid (Below w.heap.size w w2) := Below.trans B1.out (hbp.mono B1.out.size)
  have v0 : w2.cell? ⟨w1.heap.size, 0, none⟩ = some (.int .i64 r.1.k) := (hb.cell (p := ⟨w1.heap.size, 0, none⟩) (by simp; try omega)).trans (by go_simp)
  have v1 : w2.cell? ⟨w1.heap.size, 1, none⟩ = some (.int .i64 r.1.n) := (hb.cell (p := ⟨w1.heap.size, 1, none⟩) (by simp; try omega)).trans (by go_simp)
  have v2 : w2.cell? ⟨w1.heap.size, 2, none⟩ = some (.string r.1.s) := (hb.cell (p := ⟨w1.heap.size, 2, none⟩) (by simp; try omega)).trans (by go_simp)
  have s2 := hb.size
  simp only [World.size_alloc] at s2
  clear hb hbp
  go_wp2_with fail
  go_loop [9, 10] (fun s i => ∃ (k : Nat) (x : ByteArray), k ≤ 64 ∧ i = .int .i64 k ∧ s = .string x ∧ Hid (x.size = k ∧ ∀ j, j < k → x.data.toList.getD j 0 = 255)) (fun _ i => 64 - (intOf i).toNat)
  case atStart => exact ⟨0, _, by omega, rfl, rfl, rfl, fun j hj => absurd hj (by omega)⟩
  case round =>
    obtain ⟨k, x, hk, rfl, rfl, hx⟩ := hrel
    have hxl : x.size ≤ 64 := by rw [hx.out.1]; omega
    by_cases hlt : k < 64
    · clear H1 H2 H3 H4 H5 H6 H7 H8 H9
      go_wp2_with fail
      go_round
      case rel => exact ⟨k + 1, _, by omega, by go_num, rfl, by rw [ByteArray.size_append, hx.out.1]; rfl, push255 x k hx.out.1 hx.out.2⟩
      case measure => simp [intOf]; omega
    · have hk64 : k = 64 := by omega
      clear hlt
      subst hk64
      have H6' := Lib.hid (H6.out x hx.out.1 hx.out.2)
      clear H6
      go_wp2_with fail
      refine (H3.out _).mono ?_
      rintro e w3 ⟨rfl, hb⟩
      have hbp : Below w2.heap.size w2 w3 := Below.trans (by (repeat (first | exact Below.refl _ _ | assumption | refine Below.drew ?_ | refine Below.setCell ?_ (by simp; try omega) _ | refine Below.alloc ?_ (by simp; try omega) _))) (hb.mono (B' := w2.heap.size) (by first | (simp; done) | (simp; omega) | omega))
      have B3 : Hid (Below w.heap.size w w3) := Below.trans B2.out (hbp.mono B2.out.size)
      have u0 : w3.cell? ⟨w2.heap.size, 0, none⟩ = some (.int .i64 r.1.k) := (hb.cell (p := ⟨w2.heap.size, 0, none⟩) (by simp; try omega)).trans (by go_simp)
      have u1 : w3.cell? ⟨w2.heap.size, 1, none⟩ = some (.int .i64 r.1.n) := (hb.cell (p := ⟨w2.heap.size, 1, none⟩) (by simp; try omega)).trans (by go_simp)
      have u2 : w3.cell? ⟨w2.heap.size, 2, none⟩ = some (.string r.1.s) := (hb.cell (p := ⟨w2.heap.size, 2, none⟩) (by simp; try omega)).trans (by go_simp)
      have tv0 := (hbp.cell (p := ⟨w1.heap.size, 0, none⟩) (by simp only; omega)).trans v0
      have tv1 := (hbp.cell (p := ⟨w1.heap.size, 1, none⟩) (by simp only; omega)).trans v1
      have tv2 := (hbp.cell (p := ⟨w1.heap.size, 2, none⟩) (by simp only; omega)).trans v2
      clear v0 v1 v2
      have s3 := hb.size
      simp only [World.size_alloc] at s3
      clear hb hbp
      go_wp2_with fail
      refine (H4.out _).mono ?_
      rintro e w4 ⟨rfl, hb⟩
      have hbp : Below w3.heap.size w3 w4 := Below.trans (by (repeat (first | exact Below.refl _ _ | assumption | refine Below.drew ?_ | refine Below.setCell ?_ (by simp; try omega) _ | refine Below.alloc ?_ (by simp; try omega) _))) (hb.mono (B' := w3.heap.size) (by first | (simp; done) | (simp; omega) | omega))
      have B4 : Hid (Below w.heap.size w w4) := Below.trans B3.out (hbp.mono B3.out.size)
      have a0 : w4.cell? ⟨w3.heap.size, 0, none⟩ = some (.int .i64 3) := (hb.cell (p := ⟨w3.heap.size, 0, none⟩) (by simp; try omega)).trans (by go_simp)
      have a1 : w4.cell? ⟨w3.heap.size, 1, none⟩ = some (.int .i64 0) := (hb.cell (p := ⟨w3.heap.size, 1, none⟩) (by simp; try omega)).trans (by go_simp)
      have a2 : w4.cell? ⟨w3.heap.size, 2, none⟩ = some (.string ⟨#[]⟩) := (hb.cell (p := ⟨w3.heap.size, 2, none⟩) (by simp; try omega)).trans (by go_simp)
      have ttv0 := (hbp.cell (p := ⟨w1.heap.size, 0, none⟩) (by simp only; omega)).trans tv0
      have ttv1 := (hbp.cell (p := ⟨w1.heap.size, 1, none⟩) (by simp only; omega)).trans tv1
      have ttv2 := (hbp.cell (p := ⟨w1.heap.size, 2, none⟩) (by simp only; omega)).trans tv2
      have tu0 := (hbp.cell (p := ⟨w2.heap.size, 0, none⟩) (by simp only; omega)).trans u0
      have tu1 := (hbp.cell (p := ⟨w2.heap.size, 1, none⟩) (by simp only; omega)).trans u1
      have tu2 := (hbp.cell (p := ⟨w2.heap.size, 2, none⟩) (by simp only; omega)).trans u2
      clear tv0 tv1 tv2 u0 u1 u2
      have s4 := hb.size
      simp only [World.size_alloc] at s4
      clear hb hbp
      go_wp2_with fail
      refine (H5.out _).mono ?_
      rintro e w5 ⟨rfl, hb⟩
      have hbp : Below w4.heap.size w4 w5 := Below.trans (by (repeat (first | exact Below.refl _ _ | assumption | refine Below.drew ?_ | refine Below.setCell ?_ (by simp; try omega) _ | refine Below.alloc ?_ (by simp; try omega) _))) (hb.mono (B' := w4.heap.size) (by first | (simp; done) | (simp; omega) | omega))
      have B5 : Hid (Below w.heap.size w w5) := Below.trans B4.out (hbp.mono B4.out.size)
      have b0 : w5.cell? ⟨w4.heap.size, 0, none⟩ = some (.int .i64 4) := (hb.cell (p := ⟨w4.heap.size, 0, none⟩) (by simp; try omega)).trans (by go_simp)
      have b1 : w5.cell? ⟨w4.heap.size, 1, none⟩ = some (.int .i64 (-9223372036854775808)) := (hb.cell (p := ⟨w4.heap.size, 1, none⟩) (by simp; try omega)).trans (by go_simp)
      have b2 : w5.cell? ⟨w4.heap.size, 2, none⟩ = some (.string ⟨#[]⟩) := (hb.cell (p := ⟨w4.heap.size, 2, none⟩) (by simp; try omega)).trans (by go_simp)
      have tttv0 := (hbp.cell (p := ⟨w1.heap.size, 0, none⟩) (by simp only; omega)).trans ttv0
      have tttv1 := (hbp.cell (p := ⟨w1.heap.size, 1, none⟩) (by simp only; omega)).trans ttv1
      have tttv2 := (hbp.cell (p := ⟨w1.heap.size, 2, none⟩) (by simp only; omega)).trans ttv2
      have ttu0 := (hbp.cell (p := ⟨w2.heap.size, 0, none⟩) (by simp only; omega)).trans tu0
      have ttu1 := (hbp.cell (p := ⟨w2.heap.size, 1, none⟩) (by simp only; omega)).trans tu1
      have ttu2 := (hbp.cell (p := ⟨w2.heap.size, 2, none⟩) (by simp only; omega)).trans tu2
      have ta0 := (hbp.cell (p := ⟨w3.heap.size, 0, none⟩) (by simp only; omega)).trans a0
      have ta1 := (hbp.cell (p := ⟨w3.heap.size, 1, none⟩) (by simp only; omega)).trans a1
      have ta2 := (hbp.cell (p := ⟨w3.heap.size, 2, none⟩) (by simp only; omega)).trans a2
      clear ttv0 ttv1 ttv2 tu0 tu1 tu2 a0 a1 a2
      have s5 := hb.size
      simp only [World.size_alloc] at s5
      clear hb hbp
      go_wp2_with fail
      refine (H6'.out _).mono ?_
      rintro e w6 ⟨rfl, hb⟩
      have hbp : Below w5.heap.size w5 w6 := Below.trans (by (repeat (first | exact Below.refl _ _ | assumption | refine Below.drew ?_ | refine Below.setCell ?_ (by simp; try omega) _ | refine Below.alloc ?_ (by simp; try omega) _))) (hb.mono (B' := w5.heap.size) (by first | (simp; done) | (simp; omega) | omega))
      have B6 : Hid (Below w.heap.size w w6) := Below.trans B5.out (hbp.mono B5.out.size)
      have d0 : w6.cell? ⟨w5.heap.size, 0, none⟩ = some (.int .i64 5) := (hb.cell (p := ⟨w5.heap.size, 0, none⟩) (by simp; try omega)).trans (by go_simp)
      have d1 : w6.cell? ⟨w5.heap.size, 1, none⟩ = some (.int .i64 0) := (hb.cell (p := ⟨w5.heap.size, 1, none⟩) (by simp; try omega)).trans (by go_simp)
      have d2 : w6.cell? ⟨w5.heap.size, 2, none⟩ = some (.string ⟨#[]⟩) := (hb.cell (p := ⟨w5.heap.size, 2, none⟩) (by simp; try omega)).trans (by go_simp)
      have ttttv0 := (hbp.cell (p := ⟨w1.heap.size, 0, none⟩) (by simp only; omega)).trans tttv0
      have ttttv1 := (hbp.cell (p := ⟨w1.heap.size, 1, none⟩) (by simp only; omega)).trans tttv1
      have ttttv2 := (hbp.cell (p := ⟨w1.heap.size, 2, none⟩) (by simp only; omega)).trans tttv2
      have tttu0 := (hbp.cell (p := ⟨w2.heap.size, 0, none⟩) (by simp only; omega)).trans ttu0
      have tttu1 := (hbp.cell (p := ⟨w2.heap.size, 1, none⟩) (by simp only; omega)).trans ttu1
      have tttu2 := (hbp.cell (p := ⟨w2.heap.size, 2, none⟩) (by simp only; omega)).trans ttu2
      have tta0 := (hbp.cell (p := ⟨w3.heap.size, 0, none⟩) (by simp only; omega)).trans ta0
      have tta1 := (hbp.cell (p := ⟨w3.heap.size, 1, none⟩) (by simp only; omega)).trans ta1
      have tta2 := (hbp.cell (p := ⟨w3.heap.size, 2, none⟩) (by simp only; omega)).trans ta2
      have tb0 := (hbp.cell (p := ⟨w4.heap.size, 0, none⟩) (by simp only; omega)).trans b0
      have tb1 := (hbp.cell (p := ⟨w4.heap.size, 1, none⟩) (by simp only; omega)).trans b1
      have tb2 := (hbp.cell (p := ⟨w4.heap.size, 2, none⟩) (by simp only; omega)).trans b2
      clear tttv0 tttv1 tttv2 ttu0 ttu1 ttu2 ta0 ta1 ta2 b0 b1 b2
      have s6 := hb.size
      simp only [World.size_alloc] at s6
      clear hb hbp
      go_wp2_with fail
      refine (H7.out _).mono ?_
      rintro e w7 ⟨rfl, hb⟩
      have hbp : Below w6.heap.size w6 w7 := Below.trans (by (repeat (first | exact Below.refl _ _ | assumption | refine Below.drew ?_ | refine Below.setCell ?_ (by simp; try omega) _ | refine Below.alloc ?_ (by simp; try omega) _))) (hb.mono (B' := w6.heap.size) (by first | (simp; done) | (simp; omega) | omega))
      have B7 : Hid (Below w.heap.size w w7) := Below.trans B6.out (hbp.mono B6.out.size)
      have f0 : w7.cell? ⟨w6.heap.size, 0, none⟩ = some (.int .i64 0) := (hb.cell (p := ⟨w6.heap.size, 0, none⟩) (by simp; try omega)).trans (by go_simp)
      have f1 : w7.cell? ⟨w6.heap.size, 1, none⟩ = some (.int .i64 0) := (hb.cell (p := ⟨w6.heap.size, 1, none⟩) (by simp; try omega)).trans (by go_simp)
      have f2 : w7.cell? ⟨w6.heap.size, 2, none⟩ = some (.string ⟨#[]⟩) := (hb.cell (p := ⟨w6.heap.size, 2, none⟩) (by simp; try omega)).trans (by go_simp)
      have x0 : w7.cell? ⟨w6.heap.size + 1, 0, none⟩ = some (.int .i64 4) := (hb.cell (p := ⟨w6.heap.size + 1, 0, none⟩) (by simp; try omega)).trans (by go_simp)
      have x1 : w7.cell? ⟨w6.heap.size + 1, 1, none⟩ = some (.int .i64 m) := (hb.cell (p := ⟨w6.heap.size + 1, 1, none⟩) (by simp; try omega)).trans (by go_simp)
      have x2 : w7.cell? ⟨w6.heap.size + 1, 2, none⟩ = some (.string ⟨#[]⟩) := (hb.cell (p := ⟨w6.heap.size + 1, 2, none⟩) (by simp; try omega)).trans (by go_simp)
      have tttttv0 := (hbp.cell (p := ⟨w1.heap.size, 0, none⟩) (by simp only; omega)).trans ttttv0
      have tttttv1 := (hbp.cell (p := ⟨w1.heap.size, 1, none⟩) (by simp only; omega)).trans ttttv1
      have tttttv2 := (hbp.cell (p := ⟨w1.heap.size, 2, none⟩) (by simp only; omega)).trans ttttv2
      have ttttu0 := (hbp.cell (p := ⟨w2.heap.size, 0, none⟩) (by simp only; omega)).trans tttu0
      have ttttu1 := (hbp.cell (p := ⟨w2.heap.size, 1, none⟩) (by simp only; omega)).trans tttu1
      have ttttu2 := (hbp.cell (p := ⟨w2.heap.size, 2, none⟩) (by simp only; omega)).trans tttu2
      have ttta0 := (hbp.cell (p := ⟨w3.heap.size, 0, none⟩) (by simp only; omega)).trans tta0
      have ttta1 := (hbp.cell (p := ⟨w3.heap.size, 1, none⟩) (by simp only; omega)).trans tta1
      have ttta2 := (hbp.cell (p := ⟨w3.heap.size, 2, none⟩) (by simp only; omega)).trans tta2
      have ttb0 := (hbp.cell (p := ⟨w4.heap.size, 0, none⟩) (by simp only; omega)).trans tb0
      have ttb1 := (hbp.cell (p := ⟨w4.heap.size, 1, none⟩) (by simp only; omega)).trans tb1
      have ttb2 := (hbp.cell (p := ⟨w4.heap.size, 2, none⟩) (by simp only; omega)).trans tb2
      have td0 := (hbp.cell (p := ⟨w5.heap.size, 0, none⟩) (by simp only; omega)).trans d0
      have td1 := (hbp.cell (p := ⟨w5.heap.size, 1, none⟩) (by simp only; omega)).trans d1
      have td2 := (hbp.cell (p := ⟨w5.heap.size, 2, none⟩) (by simp only; omega)).trans d2
      clear ttttv0 ttttv1 ttttv2 tttu0 tttu1 tttu2 tta0 tta1 tta2 tb0 tb1 tb2 d0 d1 d2
      have s7 := hb.size
      simp only [World.size_alloc] at s7
      clear hb hbp
      have heq := HEQ.out
      have heq2 := HEQ2.out
      go_wp2_with fail
      refine (H8.out _).mono ?_
      rintro e w8 ⟨rfl, hb⟩
      have hbp : Below w7.heap.size w7 w8 := Below.trans (by (repeat (first | exact Below.refl _ _ | assumption | refine Below.drew ?_ | refine Below.setCell ?_ (by simp; try omega) _ | refine Below.alloc ?_ (by simp; try omega) _))) (hb.mono (B' := w7.heap.size) (by first | (simp; done) | (simp; omega) | omega))
      have B8 : Hid (Below w.heap.size w w8) := Below.trans B7.out (hbp.mono B7.out.size)
      have ttttttv0 := (hbp.cell (p := ⟨w1.heap.size, 0, none⟩) (by simp only; omega)).trans tttttv0
      have ttttttv1 := (hbp.cell (p := ⟨w1.heap.size, 1, none⟩) (by simp only; omega)).trans tttttv1
      have ttttttv2 := (hbp.cell (p := ⟨w1.heap.size, 2, none⟩) (by simp only; omega)).trans tttttv2
      have tttttu0 := (hbp.cell (p := ⟨w2.heap.size, 0, none⟩) (by simp only; omega)).trans ttttu0
      have tttttu1 := (hbp.cell (p := ⟨w2.heap.size, 1, none⟩) (by simp only; omega)).trans ttttu1
      have tttttu2 := (hbp.cell (p := ⟨w2.heap.size, 2, none⟩) (by simp only; omega)).trans ttttu2
      have tttta0 := (hbp.cell (p := ⟨w3.heap.size, 0, none⟩) (by simp only; omega)).trans ttta0
      have tttta1 := (hbp.cell (p := ⟨w3.heap.size, 1, none⟩) (by simp only; omega)).trans ttta1
      have tttta2 := (hbp.cell (p := ⟨w3.heap.size, 2, none⟩) (by simp only; omega)).trans ttta2
      have tttb0 := (hbp.cell (p := ⟨w4.heap.size, 0, none⟩) (by simp only; omega)).trans ttb0
      have tttb1 := (hbp.cell (p := ⟨w4.heap.size, 1, none⟩) (by simp only; omega)).trans ttb1
      have tttb2 := (hbp.cell (p := ⟨w4.heap.size, 2, none⟩) (by simp only; omega)).trans ttb2
      have ttd0 := (hbp.cell (p := ⟨w5.heap.size, 0, none⟩) (by simp only; omega)).trans td0
      have ttd1 := (hbp.cell (p := ⟨w5.heap.size, 1, none⟩) (by simp only; omega)).trans td1
      have ttd2 := (hbp.cell (p := ⟨w5.heap.size, 2, none⟩) (by simp only; omega)).trans td2
      have tf0 := (hbp.cell (p := ⟨w6.heap.size, 0, none⟩) (by simp only; omega)).trans f0
      have tf1 := (hbp.cell (p := ⟨w6.heap.size, 1, none⟩) (by simp only; omega)).trans f1
      have tf2 := (hbp.cell (p := ⟨w6.heap.size, 2, none⟩) (by simp only; omega)).trans f2
      have tx0 := (hbp.cell (p := ⟨w6.heap.size + 1, 0, none⟩) (by simp only; omega)).trans x0
      have tx1 := (hbp.cell (p := ⟨w6.heap.size + 1, 1, none⟩) (by simp only; omega)).trans x1
      have tx2 := (hbp.cell (p := ⟨w6.heap.size + 1, 2, none⟩) (by simp only; omega)).trans x2
      clear tttttv0 tttttv1 tttttv2 ttttu0 ttttu1 ttttu2 ttta0 ttta1 ttta2 ttb0 ttb1 ttb2 td0 td1 td2 f0 f1 f2 x0 x1 x2
      have s8 := hb.size
      clear hb hbp
      clear heq heq2
      go_wp2_with fail
      refine (H9.out _).mono ?_
      rintro e w9 ⟨rfl, hb⟩
      have hbp : Below w8.heap.size w8 w9 := Below.trans (by (repeat (first | exact Below.refl _ _ | assumption | refine Below.drew ?_ | refine Below.setCell ?_ (by simp; try omega) _ | refine Below.alloc ?_ (by simp; try omega) _))) (hb.mono (B' := w8.heap.size) (by first | (simp; done) | (simp; omega) | omega))
      have B9 : Hid (Below w.heap.size w w9) := Below.trans B8.out (hbp.mono B8.out.size)
      have tttttttv0 := (hbp.cell (p := ⟨w1.heap.size, 0, none⟩) (by simp only; omega)).trans ttttttv0
      have tttttttv1 := (hbp.cell (p := ⟨w1.heap.size, 1, none⟩) (by simp only; omega)).trans ttttttv1
      have tttttttv2 := (hbp.cell (p := ⟨w1.heap.size, 2, none⟩) (by simp only; omega)).trans ttttttv2
      have ttttttu0 := (hbp.cell (p := ⟨w2.heap.size, 0, none⟩) (by simp only; omega)).trans tttttu0
      have ttttttu1 := (hbp.cell (p := ⟨w2.heap.size, 1, none⟩) (by simp only; omega)).trans tttttu1
      have ttttttu2 := (hbp.cell (p := ⟨w2.heap.size, 2, none⟩) (by simp only; omega)).trans tttttu2
      have ttttta0 := (hbp.cell (p := ⟨w3.heap.size, 0, none⟩) (by simp only; omega)).trans tttta0
      have ttttta1 := (hbp.cell (p := ⟨w3.heap.size, 1, none⟩) (by simp only; omega)).trans tttta1
      have ttttta2 := (hbp.cell (p := ⟨w3.heap.size, 2, none⟩) (by simp only; omega)).trans tttta2
      have ttttb0 := (hbp.cell (p := ⟨w4.heap.size, 0, none⟩) (by simp only; omega)).trans tttb0
      have ttttb1 := (hbp.cell (p := ⟨w4.heap.size, 1, none⟩) (by simp only; omega)).trans tttb1
      have ttttb2 := (hbp.cell (p := ⟨w4.heap.size, 2, none⟩) (by simp only; omega)).trans tttb2
      have tttd0 := (hbp.cell (p := ⟨w5.heap.size, 0, none⟩) (by simp only; omega)).trans ttd0
      have tttd1 := (hbp.cell (p := ⟨w5.heap.size, 1, none⟩) (by simp only; omega)).trans ttd1
      have tttd2 := (hbp.cell (p := ⟨w5.heap.size, 2, none⟩) (by simp only; omega)).trans ttd2
      have ttf0 := (hbp.cell (p := ⟨w6.heap.size, 0, none⟩) (by simp only; omega)).trans tf0
      have ttf1 := (hbp.cell (p := ⟨w6.heap.size, 1, none⟩) (by simp only; omega)).trans tf1
      have ttf2 := (hbp.cell (p := ⟨w6.heap.size, 2, none⟩) (by simp only; omega)).trans tf2
      have ttx0 := (hbp.cell (p := ⟨w6.heap.size + 1, 0, none⟩) (by simp only; omega)).trans tx0
      have ttx1 := (hbp.cell (p := ⟨w6.heap.size + 1, 1, none⟩) (by simp only; omega)).trans tx1
      have ttx2 := (hbp.cell (p := ⟨w6.heap.size + 1, 2, none⟩) (by simp only; omega)).trans tx2
      clear ttttttv0 ttttttv1 ttttttv2 tttttu0 tttttu1 tttttu2 tttta0 tttta1 tttta2 tttb0 tttb1 tttb2 ttd0 ttd1 ttd2 tf0 tf1 tf2 tx0 tx1 tx2
      have s9 := hb.size
      clear hb hbp
      go_wp2_with fail
      go_ret
      exact ⟨rfl, B9.out⟩
