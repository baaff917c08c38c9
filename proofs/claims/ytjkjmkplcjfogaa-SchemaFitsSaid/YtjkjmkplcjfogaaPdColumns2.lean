
/- Columns' closure, and Columns. -/
import Derived.Test.YtjkjmkplcjfogaaPdColumns

import Derived.Test.YtjkjmkplcjfogaaPdCase

namespace Go.Proofs.Ytjkjmkplcjfogaa

open Go.RowKit Go.Sort

set_option maxRecDepth 100000 in
set_option maxHeartbeats 4000000 in
theorem pColumnsC_any (B bx : Nat) (s : List Int) (d : Int) (p : PT) (v : Value) (w : World) (hs : s.length + (colP p).length ≤ 1099511627776) (hI : CoInv B bx s w) (h : PdAt (fun b => b < B) w v p) : Calls Try.prog 43 #[v, .int .i64 d, .pointer (some ⟨bx, 0, none⟩)] w (EvPost (fC s p d) B (CoInv B bx) (CoSafe bx) w) := by
  have hs2 : s.length + (colN p).length ≤ 1099511627776 := by rw [colP_eq, List.length_append] at hs; omega
  obtain ⟨op, cmp, lk, li, lvk, lvn, lvs, rk, ri, rvk, rvn, rvs, ps, a, c, rfl, rfl, hp⟩ := pd_fieldsP h
  unfold fC
  unfold colN at hs2 ⊢
  change s.length + (if op = 3 then colO ⟨lk, li, ⟨lvk, lvn, lvs⟩⟩ ++ colO ⟨rk, ri, ⟨rvk, rvn, rvs⟩⟩ else []).length ≤ _ at hs2
  change Calls _ _ _ _ (EvPost (some (s ++ if op = 3 then colO ⟨lk, li, ⟨lvk, lvn, lvs⟩⟩ ++ colO ⟨rk, ri, ⟨rvk, rvn, rvs⟩⟩ else [])) _ _ _ _)
  have HI := Lib.hid hI
  have BO : ∀ O, Below w.heap.size w (w.alloc O) := fun O => (Below.refl _ _).alloc (Nat.le_refl _) _
  have HBO := Lib.hid BO
  have hltb := hI.lt
  have hgeb := hI.ge
  by_cases h3 : op = 3
  · subst h3
    simp only [if_true] at hs2 ⊢
    rw [List.length_append] at hs2
    have HA1 : Hid (∀ (v : Value) (W : World), CoInv B bx s W → W.cell? ⟨bx, 0, none⟩ = some v → Calls Try.prog 44 #[v, .agg #[.int .i64 lk, .int .i64 li, .int .i64 lvk, .int .i64 lvn, .string lvs]] W (AppPost (bx + 1) s (colO ⟨lk, li, ⟨lvk, lvn, lvs⟩⟩) v W)) := fun v W hW hv => by
      obtain ⟨v0, hv0, ho⟩ := hW.own
      rw [hv] at hv0
      obtain rfl : v = v0 := by simpa using hv0
      exact pAppendColumn_any (bx + 1) s v ⟨lk, li, ⟨lvk, lvn, lvs⟩⟩ W (by omega) hW.lt ho
    have HA2 : Hid (∀ (v : Value) (W : World), CoInv B bx (s ++ colO ⟨lk, li, ⟨lvk, lvn, lvs⟩⟩) W → W.cell? ⟨bx, 0, none⟩ = some v → Calls Try.prog 44 #[v, .agg #[.int .i64 rk, .int .i64 ri, .int .i64 rvk, .int .i64 rvn, .string rvs]] W (AppPost (bx + 1) (s ++ colO ⟨lk, li, ⟨lvk, lvn, lvs⟩⟩) (colO ⟨rk, ri, ⟨rvk, rvn, rvs⟩⟩) v W)) := fun v W hW hv => by
      obtain ⟨v0, hv0, ho⟩ := hW.own
      rw [hv] at hv0
      obtain rfl : v = v0 := by simpa using hv0
      exact pAppendColumn_any (bx + 1) _ v ⟨rk, ri, ⟨rvk, rvn, rvs⟩⟩ W (by rw [List.length_append]; omega) hW.lt ho
    rw [← List.append_assoc]
    generalize colO ⟨lk, li, ⟨lvk, lvn, lvs⟩⟩ = x1 at *
    generalize colO ⟨rk, ri, ⟨rvk, rvn, rvs⟩⟩ = x2 at *
    generalize ps.length = n at *
    obtain ⟨w0, hw0⟩ : ∃ w0, w.alloc (.cells #[.int .i64 3, .int .i64 cmp, .int .i64 lk, .int .i64 li, .int .i64 lvk, .int .i64 lvn, .string lvs, .int .i64 rk, .int .i64 ri, .int .i64 rvk, .int .i64 rvn, .string rvs, .slice a n c] 29) = w0 := ⟨_, rfl⟩
    obtain ⟨bv, hbv, hbo⟩ := hI.own
    obtain ⟨bva, bvc, rfl⟩ := own_slice hbo
    have hb0 : Below w.heap.size w w0 := hw0 ▸ BO _
    have I0 : Hid (CoInv B bx s w0) := hI.below hb0
    have c0 : w0.cell? ⟨bx, 0, none⟩ = some (.slice bva s.length bvc) := (hb0.cell (p := ⟨bx, 0, none⟩) hltb).trans hbv
    have z0 : w0.heap.size = w.heap.size + 1 := by rw [← hw0]; simp
    have S0 : CoSafe bx w.heap.size w0 := ⟨by omega, fun u hu e => by
      rw [c0] at hu
      obtain rfl : Value.slice bva s.length bvc = u := by simpa using hu
      have := hbo.lt _ e; omega⟩
    have F0 : ∀ k, k < w.heap.size → CoSafe bx k w → w0.heap[k]? = w.heap[k]? ∧ CoSafe bx k w0 := fun k hk hS => ⟨hb0.block k hk, hS.1, fun u hu => hS.2 u (by rw [← hu]; exact (hb0.cell (p := ⟨bx, 0, none⟩) hltb).symm)⟩
    have HF0 := Lib.hid F0
    have HB0 : Hid (Below B w w0) := hb0.mono (by omega)
    have HR0 : Hid (w0.cell? ⟨w.heap.size, 7, none⟩ = some (.int .i64 rk) ∧ w0.cell? ⟨w.heap.size, 8, none⟩ = some (.int .i64 ri) ∧ w0.cell? ⟨w.heap.size, 9, none⟩ = some (.int .i64 rvk) ∧ w0.cell? ⟨w.heap.size, 10, none⟩ = some (.int .i64 rvn) ∧ w0.cell? ⟨w.heap.size, 11, none⟩ = some (.string rvs)) := by
      subst hw0
      exact ⟨by go_simp, by go_simp, by go_simp, by go_simp, by go_simp⟩
    have HS0 := Lib.hid S0
    have k0 : w0.cell? ⟨w.heap.size, 0, none⟩ = some (.int .i64 3) := by subst hw0; go_simp
    have k2 : w0.cell? ⟨w.heap.size, 2, none⟩ = some (.int .i64 lk) := by subst hw0; go_simp
    have k3 : w0.cell? ⟨w.heap.size, 3, none⟩ = some (.int .i64 li) := by subst hw0; go_simp
    have k4 : w0.cell? ⟨w.heap.size, 4, none⟩ = some (.int .i64 lvk) := by subst hw0; go_simp
    have k5 : w0.cell? ⟨w.heap.size, 5, none⟩ = some (.int .i64 lvn) := by subst hw0; go_simp
    have k6 : w0.cell? ⟨w.heap.size, 6, none⟩ = some (.string lvs) := by subst hw0; go_simp
    clear hI hp h hs BO hbv hbo F0 hb0 S0
    go_enter Try.func43, Try.ntmps43
    go_wp2_with fail
    refine (HA1.out _ _ I0.out c0).mono ?_
    rintro e w1 h1
    obtain ⟨v1, rfl, ⟨a1, n1, c1, rfl⟩, q0, z1, f1, I1, B1, cs1, F1⟩ := I0.out.app c0 h1
    have R1 := F1 w.heap.size (by omega) HS0.out
    obtain ⟨w2, hw2⟩ : ∃ w2, w1.setCell ⟨bx, 0, none⟩ (.slice a1 n1 c1) = w2 := ⟨_, rfl⟩
    rw [hw2] at I1 B1 cs1 F1 R1
    have IH1 := Lib.hid I1
    have BH1 : Hid (Below B w w2) := HB0.out.trans B1
    have FH1 : Hid (∀ k, k < w.heap.size → CoSafe bx k w → w2.heap[k]? = w.heap[k]? ∧ CoSafe bx k w2) := fun k hk hS => ⟨(F1 k (by omega) (HF0.out k hk hS).2).1.trans (HF0.out k hk hS).1, (F1 k (by omega) (HF0.out k hk hS).2).2⟩
    have ZH1 : w.heap.size + 1 ≤ w2.heap.size := by have := B1.size; omega
    have r7 : w2.cell? ⟨w.heap.size, 7, none⟩ = some (.int .i64 rk) := (World.cell?_of_block (w := w0) (a := ⟨w.heap.size, 7, none⟩) R1.1).trans HR0.out.1
    have r8 : w2.cell? ⟨w.heap.size, 8, none⟩ = some (.int .i64 ri) := (World.cell?_of_block (w := w0) (a := ⟨w.heap.size, 8, none⟩) R1.1).trans HR0.out.2.1
    have r9 : w2.cell? ⟨w.heap.size, 9, none⟩ = some (.int .i64 rvk) := (World.cell?_of_block (w := w0) (a := ⟨w.heap.size, 9, none⟩) R1.1).trans HR0.out.2.2.1
    have r10 : w2.cell? ⟨w.heap.size, 10, none⟩ = some (.int .i64 rvn) := (World.cell?_of_block (w := w0) (a := ⟨w.heap.size, 10, none⟩) R1.1).trans HR0.out.2.2.2.1
    have r11 : w2.cell? ⟨w.heap.size, 11, none⟩ = some (.string rvs) := (World.cell?_of_block (w := w0) (a := ⟨w.heap.size, 11, none⟩) R1.1).trans HR0.out.2.2.2.2
    clear h1 I1 B1 F1 R1 k0 k2 k3 k4 k5 k6 hw0 c0
    go_wp2_with fail
    refine (HA2.out _ _ IH1.out cs1).mono ?_
    rintro e w3 h3
    obtain ⟨v3, rfl, ⟨a3, n3, c3, rfl⟩, q3, z3, f3, I3, B3, cs3, F3⟩ := IH1.out.app cs1 h3
    clear h3 r7 r8 r9 r10 r11 hw2 q0 f1 cs1
    have HX : Hid (EvPost (some (s ++ x1 ++ x2)) B (CoInv B bx) (CoSafe bx) w (.returned (.bool true)) (w3.setCell ⟨bx, 0, none⟩ (.slice a3 n3 c3))) :=
      ⟨rfl, BH1.out.trans B3, fun s' e => by
        cases e
        exact ⟨I3, fun k hk hS => ⟨(F3 k (by omega) (FH1.out k hk hS).2).1.trans (FH1.out k hk hS).1, (F3 k (by omega) (FH1.out k hk hS).2).2⟩⟩⟩
    clear I3 B3 F3 cs3
    go_wp2_with fail
    go_ret
    exact HX.out
  · rw [if_neg h3, List.append_nil]
    have b3 : (op == 3) = false := by simpa using h3
    have HX : Hid (∀ O, EvPost (some s) B (CoInv B bx) (CoSafe bx) w (.returned (.bool true)) (w.alloc O)) := fun O =>
      ⟨rfl, (BO O).mono (by omega), fun s' e => by
        cases e
        exact ⟨hI.below (BO O), fun k hk hS => ⟨(BO O).block k hk, hS.1, fun u hu => hS.2 u (by rw [← hu]; exact ((BO O).cell (p := ⟨bx, 0, none⟩) hltb).symm)⟩⟩⟩
    generalize ps.length = n at *
    clear hI hp h hs hs2 BO h3 HI HBO
    go_enter Try.func43, Try.ntmps43
    go_wp2_with fail
    go_ret
    exact HX.out _

theorem coClo (B bx : Nat) : Clo (List Int) fC B 43 bx (CoInv B bx) (CoSafe bx) (fun s p => s.length + (colP p).length ≤ 1099511627776) (fun s ps => s.length + (colL ps).length ≤ 1099511627776) where
  inv _ _ _ h hb := h.below hb
  lt s w h := by have := h.lt; have := h.ge; omega
  safe s w w' k h hb hS := ⟨hS.1, fun u hu => hS.2 u (by rw [← hu]; exact (hb.cell (p := ⟨bx, 0, none⟩) h.lt).symm)⟩
  new s w w' k h hb hk := ⟨by have := h.lt; omega, fun u hu e => by
    obtain ⟨v, hc, ho⟩ := h.own
    rw [hb.cell (p := ⟨bx, 0, none⟩) h.lt, hc] at hu
    obtain rfl : v = u := by simpa using hu
    have := ho.lt k e; omega⟩
  args s s1 p d hok hf := by
    obtain rfl : s ++ colN p = s1 := by unfold fC at hf; simpa using hf
    rw [colP_eq, List.length_append] at hok
    show (s ++ colN p).length + (colL (p.args.drop 0)).length ≤ _
    rw [List.length_append, List.drop_zero]; omega
  head s ps k h hok := by
    have e := colL_drop ps k h
    rw [e, List.length_append] at hok
    show s.length + (colP ps[k]).length ≤ _; omega
  tail s s1 ps k h d hok hw := by
    rw [walk_fC] at hw
    obtain rfl : s ++ colP ps[k] = s1 := by simpa using hw
    rw [colL_drop ps k h, List.length_append] at hok
    show (s ++ colP ps[k]).length + _ ≤ _
    rw [List.length_append]; omega
  call s p d v w hok hI h := pColumnsC_any B bx s d p v w hok hI h

/-- What Columns answers. -/
def colsP (p : PT) : List Int := Lib.compact ((colP p).mergeSort fun x y => decide (x ≤ y))
theorem compact_le (s : List Int) : (Lib.compact s).length ≤ s.length := by
  unfold Lib.compact Lib.compactUpTo
  rw [List.length_map]
  refine Nat.le_trans (List.length_filter_le _ _) ?_
  simp
theorem compact_nil : Lib.compact ([] : List Int) = [] := rfl
def ColsPost (B : Nat) (l : List Int) (w : World) (e : Ending) (w' : World) : Prop := ∃ a c, e = .returned (.slice a l.length c) ∧ IntsG B w' (.slice a l.length c) l ∧ Below B w w'

set_option maxRecDepth 100000 in
set_option maxHeartbeats 4000000 in
theorem pColumns_any (p : PT) (v : Value) (w : World) (h : Pd w v p) (hl : (colP p).length ≤ 1099511627776) : Calls Try.prog 12 #[v] w (ColsPost w.heap.size (colsP p) w) := by
  have HE : Hid (∀ W, CoInv w.heap.size (w.heap.size + 1) [] W → Below w.heap.size w W → Calls Try.prog 42 #[v, .int .i64 1, .func (.func 43) #[] #[.pointer (some ⟨w.heap.size + 1, 0, none⟩)]] W fun e w' => e = .returned (.bool true) ∧ CoInv w.heap.size (w.heap.size + 1) (colP p) w' ∧ Below w.heap.size W w') := fun W hI hb =>
    (every_Columns (coClo w.heap.size (w.heap.size + 1)) p.depth p (Nat.le_refl _) [] 1 v W (by simpa using hl) hI (h.lt.under hb)).mono fun e w' hx => by
      obtain ⟨he, hB, hI'⟩ := hx
      rw [walk_fC] at he hI'
      exact ⟨he, by simpa using (hI' _ rfl).1, hB⟩
  obtain ⟨op, cmp, lk, li, lvk, lvn, lvs, rk, ri, rvk, rvn, rvs, ps, a, c, rfl, rfl, hp⟩ := pd_fields h
  obtain ⟨s, hs⟩ : ∃ s, colP (.mk op cmp ⟨lk, li, ⟨lvk, lvn, lvs⟩⟩ ⟨rk, ri, ⟨rvk, rvn, rvs⟩⟩ ps) = s := ⟨_, rfl⟩
  have HC : Hid (colsP (.mk op cmp ⟨lk, li, ⟨lvk, lvn, lvs⟩⟩ ⟨rk, ri, ⟨rvk, rvn, rvs⟩⟩ ps) = Lib.compact (s.mergeSort fun x y => decide (x ≤ y))) := by show colsP _ = _; unfold colsP; rw [hs]
  generalize colsP _ = R at *
  rw [hs] at HE hl
  generalize ps.length = n at *
  clear hp h hs
  go_enter Try.func12, Try.ntmps12
  go_wp2_with fail
  have hI : CoInv w.heap.size (w.heap.size + 1) [] ((w.alloc (.cells #[.int .i64 op, .int .i64 cmp, .int .i64 lk, .int .i64 li, .int .i64 lvk, .int .i64 lvn, .string lvs, .int .i64 rk, .int .i64 ri, .int .i64 rvk, .int .i64 rvn, .string rvs, .slice a n c] 29)).alloc (.cells #[.slice none 0 0] 32)) :=
    ⟨by simp, by omega, by go_simp, _, by go_simp; first | done | rfl, World.ownsRow_nil _ _ _ _⟩
  refine (HE.out _ hI (by (repeat (first | exact Below.refl _ _ | assumption | refine Below.drew ?_ | refine Below.setCell ?_ (by first | omega | (simp only [World.size_alloc]; omega) | (simp; try omega)) _ | refine Below.alloc ?_ (by first | omega | (simp only [World.size_alloc]; omega) | (simp; try omega)) _)))).mono ?_
  rintro e w1 ⟨rfl, hI1, hb⟩
  have B1 : Hid (Below w.heap.size w w1) := Below.trans (by (repeat (first | exact Below.refl _ _ | assumption | refine Below.drew ?_ | refine Below.setCell ?_ (by first | omega | (simp only [World.size_alloc]; omega) | (simp; try omega)) _ | refine Below.alloc ?_ (by first | omega | (simp only [World.size_alloc]; omega) | (simp; try omega)) _))) hb
  obtain ⟨bv, hbv, hbo⟩ := hI1.own
  have hlt1 := hI1.lt
  clear hb hI HE hI1
  rcases hbo.2 with ⟨rfl, hz⟩ | ⟨g, cap, cur, rfl, hg, -, -, -, -, -⟩
  · have hs0 : s = [] := List.eq_nil_of_length_eq_zero hz
    subst hs0
    have HR : Hid (R = []) := by show R = []; rw [HC.out]; simp [compact_nil]
    clear hbo hz
    go_wp2_with fail
    refine (sortI_nil none 0 w1).mono ?_
    rintro e w2 ⟨rfl, rfl⟩
    go_wp2_with fail
    refine (compactI_nil none 0 w1).mono ?_
    rintro e w2 ⟨rfl, rfl⟩
    go_wp2_with fail
    go_ret
    exact ⟨none, 0, by rw [HR.out]; rfl, by rw [HR.out]; exact IntsG.nil _ _, B1.out⟩
  · obtain ⟨hH, hgl, -, -, hcap, hmax⟩ := own_holds hbo
    have hle := compact_le (s.mergeSort fun x y => decide (x ≤ y))
    have hms : (s.mergeSort fun x y => decide (x ≤ y)).length = s.length := by simp
    have HS : Hid (∀ c, Calls Try.prog 45 #[.slice (some ⟨g, 0, none⟩) s.length c] w1 fun e w' => e = .returned (.tuple #[]) ∧ Mv g w1 w' ∧ Holds (Value.int .i64) w' g 0 (s.mergeSort fun x y => decide (x ≤ y)).toArray) := fun c => sortI_any g c s w1 hH hgl hl
    have HCC : Hid (∀ W, Holds (Value.int .i64) W g 0 (s.mergeSort fun x y => decide (x ≤ y)).toArray → Calls Try.prog 46 #[.slice (some ⟨g, 0, none⟩) s.length cap] W fun e w' => e = .returned (.slice (some ⟨g, 0, none⟩) R.length cap) ∧ Mv g W w' ∧ ∀ j (h : j < R.length), w'.cell? ⟨g, j, none⟩ = some (.int .i64 R[j])) := fun W hW => by
      have := compactI_any g cap (s.mergeSort fun x y => decide (x ≤ y)) W hW (by rw [hms]; exact hcap) (by rw [hms]; exact hl)
      rw [hms] at this
      have e := HC.out
      subst e
      exact this
    have HRL : Hid (R.length ≤ s.length) := by show _ ≤ _; rw [HC.out]; omega
    generalize hsl : s.length = sl at *
    clear hH hle hms hbo hsl
    go_wp2_with fail
    refine (HS.out _).mono ?_
    rintro e w2 ⟨rfl, hm2, hH2⟩
    have c2 : w2.cell? ⟨w.heap.size + 1, 0, none⟩ = some (.slice (some ⟨g, 0, none⟩) sl cap) := (hm2.cell (p := ⟨w.heap.size + 1, 0, none⟩) hlt1 (show w.heap.size + 1 ≠ g by omega)).trans hbv
    have HH2 := Lib.hid hH2
    have M2 := Lib.hid hm2
    clear hH2 hm2 hbv
    go_wp2_with fail
    refine (HCC.out _ HH2.out).mono ?_
    rintro e w3 ⟨rfl, hm3, hc3⟩
    have M3 := Lib.hid (M2.out.trans hm3)
    have HC3 := Lib.hid hc3
    clear hm3 hc3 c2
    go_wp2_with fail
    go_ret
    refine ⟨some ⟨g, 0, none⟩, cap, rfl, ⟨_, _, rfl, ⟨by have := HRL.out; omega, hmax, fun e => (by cases e), by have := HRL.out; omega⟩, fun j hj => ⟨g, 0, rfl, by omega, Nat.lt_of_lt_of_le hgl M3.out.size, by rw [Nat.zero_add]; exact HC3.out j hj⟩⟩, B1.out.trans (M3.out.below (by omega) B1.out.size)⟩
end Go.Proofs.Ytjkjmkplcjfogaa
