
/- The reference's Ordered, Valid, Has, Least. -/
import Derived.Test.YtmhgmlnnipdomaaIvIn

import Derived.Test.YtmhgmlnnipdomaaFirst

namespace Go.Proofs.Ytmhgmlnnipdomaa

open Go.RowKit

/-- What the reference has asked of what stands before the k-th interval. -/
def preOk (L : List IV) (k : Nat) : Bool := match L[k - 1]? with
  | none => true
  | some x => if k = 0 then true else nextOk x (L.drop k)
theorem preOk_zero (L : List IV) : preOk L 0 = true := by unfold preOk; split <;> simp
theorem preOk_succ (L : List IV) (k : Nat) (h : k < L.length) : preOk L (k + 1) = nextOk L[k] (L.drop (k + 1)) := by
  unfold preOk
  rw [show k + 1 - 1 = k by omega, List.getElem?_eq_getElem h]
  simp
theorem preOk_end (L : List IV) : preOk L L.length = true := by
  rcases Nat.eq_zero_or_pos L.length with h | h
  · rw [h]; exact preOk_zero L
  · obtain ⟨k, hk⟩ : ∃ k, L.length = k + 1 := ⟨L.length - 1, by omega⟩
    rw [hk, preOk_succ L k (by omega)]
    exact nextOk_end _ _ _ (by omega)
theorem preOk_at (L : List IV) (m : Nat) (h : m + 1 < L.length) (ho : L[m].o = false) : preOk L (m + 1) = decide (cmpV L[m].t L[m + 1].f < 0) := by
  rw [preOk_succ L m (by omega), nextOk_next _ _ _ h]
  simp [apartB, ho]

set_option linter.unusedSimpArgs false in
set_option maxRecDepth 100000 in
set_option maxHeartbeats 3000000 in
theorem rOrdered_any (v : Value) (L : List IV) (w : World) (h : Ivs w v L) : Calls Try.prog 44 #[v] w fun e w' => e = .returned (.bool (ordL L)) ∧ Below w.heap.size w w' := by
  obtain ⟨a, c, rfl, hc1, hc2, hnil, hn, hi⟩ := h
  have HI := Lib.hid hi
  clear hi hnil
  obtain ⟨n, hnn⟩ : ∃ n, L.length = n := ⟨_, rfl⟩
  rw [hnn] at hc1 hn ⊢
  have HN := Lib.hid hnn
  clear hnn
  go_enter Try.func44, Try.ntmps44
  go_wp2_with fail
  go_loopw [7] (fun i wr => ∃ k : Nat, k ≤ n ∧ i = .int .i64 k ∧ Below w.heap.size w wr ∧ Hid (ordL L = (preOk L k && ordL (L.drop k))) ∧ Hid (∀ m (h : m < L.length), k = m + 1 → L[m].o = false ∨ k = n)) (fun i _ => n - (intOf i).toNat)
  case atStart => exact ⟨0, by omega, rfl, Below.refl _ _, by show _ = _; rw [preOk_zero]; rfl, fun m h e => by omega⟩
  case round =>
    obtain ⟨k, hk, rfl, hbw, ht, HLO⟩ := hrel
    have hws := hbw.size
    by_cases hlt : k < n
    · have hkL : k < L.length := by rw [HN.out]; exact hlt
      obtain ⟨b, off, rfl, -, hb, hc⟩ := HI.out k hkL
      have HE : Hid (ordL L = (preOk L k && (okI L[k] && nextOk L[k] (L.drop (k + 1)) && ordL (L.drop (k + 1))))) := by show _ = _; rw [← ordL_drop L k hkL]; exact ht.out
      have hx0 := (hc.same (hbw.block b hb))
      have HNX : Hid (n ≠ k + 1 → L[k].o = true → nextOk L[k] (L.drop (k + 1)) = false) := fun h ho => by
        rw [nextOk_next _ _ _ (by rw [HN.out]; omega)]; simp [apartB, ho]
      have HP : Hid (∀ m (h : m < L.length), k = m + 1 → preOk L k = decide (cmpV L[m].t L[k].f < 0) ∧ IvC wr b (off + m * 7) L[m]) := fun m h e => by
        subst e
        have ho : L[m].o = false := by
          rcases HLO.out m h rfl with h1 | h1
          · exact h1
          · omega
        refine ⟨preOk_at L m hkL ho, ?_⟩
        obtain ⟨b', off', e', -, hb', hc'⟩ := HI.out m h
        simp only [Option.some.injEq, Addr.mk.injEq] at e'
        obtain ⟨rfl, rfl, -⟩ := e'
        exact hc'.same (hbw.block b hb)
      have HPS : Hid (preOk L (k + 1) = nextOk L[k] (L.drop (k + 1))) := preOk_succ L k hkL
      have HLK : Hid (∀ m (h : m < L.length), k + 1 = m + 1 → L[m] = L[k]) := fun m h e => by
        have e2 : m = k := by omega
        subst e2
        rfl
      clear hc ht HLO
      generalize hxx : L[k] = x at hx0 HE HNX HP HPS HLK
      clear hxx
      obtain ⟨⟨fk, fn, fs⟩, ⟨tk, tn, ts⟩, xo⟩ := x
      obtain ⟨⟨p0, p1, p2⟩, ⟨p3, p4, p5⟩, p6⟩ := hx0
      simp only at p0 p1 p2 p3 p4 p5 p6
      have HV := Lib.hid (fun W => rValid_any fk fn fs W)
      have HT := Lib.hid (fun W => rValid_any tk tn ts W)
      have HC := Lib.hid (fun W => rCompare_any fk fn fs tk tn ts W)
      have HO : Hid (okI ⟨⟨fk, fn, fs⟩, ⟨tk, tn, ts⟩, xo⟩ = (vldB fk fn fs && (if xo then decide (V.mk tk tn ts = ⟨0, 0, ⟨#[]⟩⟩) else vldB tk tn ts && decide (cmpV ⟨fk, fn, fs⟩ ⟨tk, tn, ts⟩ < 0)))) := rfl
      have hne := fun W => neV_run tk tn ts 0 0 ⟨#[]⟩ W
      generalize vldB fk fn fs = y1 at HV HO
      generalize vldB tk tn ts = y2 at HT HO
      generalize cmpV ⟨fk, fn, fs⟩ ⟨tk, tn, ts⟩ = c1 at HC HO
      generalize decide (V.mk tk tn ts = ⟨0, 0, ⟨#[]⟩⟩) = y3 at hne HO
      generalize okI ⟨⟨fk, fn, fs⟩, ⟨tk, tn, ts⟩, xo⟩ = z at HE HO
      have hn1 : IntKind.i64.wrap ((n : Int) - 1) = n - 1 := by rw [IntKind.wrap_i64]; omega
      cases y1 with
      | false =>
        have hz : z = false := HO.out
        have HE2 : Hid (ordL L = false) := by have := HE.out; rw [hz] at this; show _ = _; simpa using this
        clear hz HE HO HP HPS HLK HNX
        go_wp2_with fail
        refine (HV.out _).mono ?_
        rintro e w3 ⟨rfl, hg3⟩
        have hk3 : ∀ o, w3.cell? ⟨wr.heap.size, o, none⟩ = _ := kept_new hg3
        have b3 : Below wr.heap.size wr w3 := (((Gr.refl wr).alloc _).trans hg3).below
        have z3 : wr.heap.size < w3.heap.size := by have := hg3.below.size; simp only [World.size_alloc] at this; omega
        go_wp2_with fail
        go_ret
        exact ⟨by rw [HE2.out]; try rfl, hbw.trans (Below.mono b3 hws)⟩
      | true =>
        cases xo with
        | true =>
          by_cases hl : n = k + 1
          · have hd : decide ((k : Int) < n - 1) = false := by simp; omega
            cases y3 with
            | false =>
              clear hl
              have hz : z = false := HO.out
              have HE2 : Hid (ordL L = false) := by have := HE.out; rw [hz] at this; show _ = _; simpa using this
              clear hz HE HO HP HPS HLK HNX
              go_wp2_with fail
              refine (HV.out _).mono ?_
              rintro e w3 ⟨rfl, hg3⟩
              have hk3 : ∀ o, w3.cell? ⟨wr.heap.size, o, none⟩ = _ := kept_new hg3
              have b3 : Below wr.heap.size wr w3 := (((Gr.refl wr).alloc _).trans hg3).below
              have z3 : wr.heap.size < w3.heap.size := by have := hg3.below.size; simp only [World.size_alloc] at this; omega
              go_wp2_with fail
              go_ret
              exact ⟨by rw [HE2.out]; try rfl, hbw.trans (Below.mono b3 hws)⟩
            | true =>
              have hz : z = true := HO.out
              have HLZ : Hid (∀ m (h : m < L.length), k + 1 = m + 1 → L[m].o = false ∨ k + 1 = n) := fun m h e => .inr hl.symm
              clear hl
              have HE1 : Hid (ordL L = (preOk L k && (preOk L (k + 1) && ordL (L.drop (k + 1))))) := by have := HE.out; rw [hz] at this; show _ = _; rw [HPS.out]; simpa using this
              clear hz HE HO HPS HLK HNX
              by_cases hk0 : k = 0
              · have hp0 : preOk L k = true := by rw [hk0]; exact preOk_zero L
                have HE2 : Hid (ordL L = (preOk L (k + 1) && ordL (L.drop (k + 1)))) := by have := HE1.out; rw [hp0] at this; show _ = _; simpa using this
                have hg0 : decide (0 < k) = false := by simp; omega
                clear HE1 HP hk0 hp0
                go_wp2_with fail
                refine (HV.out _).mono ?_
                rintro e w3 ⟨rfl, hg3⟩
                have hk3 : ∀ o, w3.cell? ⟨wr.heap.size, o, none⟩ = _ := kept_new hg3
                have b3 : Below wr.heap.size wr w3 := (((Gr.refl wr).alloc _).trans hg3).below
                have z3 : wr.heap.size < w3.heap.size := by have := hg3.below.size; simp only [World.size_alloc] at this; omega
                have zq := z3
                go_wp2_with fail
                have q0 : w3.cell? ⟨wr.heap.size, 0, none⟩ = some (.int .i64 fk) := (hk3 0).trans (World.cell?_alloc_mark wr #[.int .i64 fk, .int .i64 fn, .string fs, .int .i64 tk, .int .i64 tn, .string ts, .bool true] 59 (0, 0) 0)
                have q1 : w3.cell? ⟨wr.heap.size, 1, none⟩ = some (.int .i64 fn) := (hk3 1).trans (World.cell?_alloc_mark wr #[.int .i64 fk, .int .i64 fn, .string fs, .int .i64 tk, .int .i64 tn, .string ts, .bool true] 59 (0, 0) 1)
                have q2 : w3.cell? ⟨wr.heap.size, 2, none⟩ = some (.string fs) := (hk3 2).trans (World.cell?_alloc_mark wr #[.int .i64 fk, .int .i64 fn, .string fs, .int .i64 tk, .int .i64 tn, .string ts, .bool true] 59 (0, 0) 2)
                clear hk3 p0 p1 p2 p3 p4 p5 p6
                have HK : Hid (∀ W, Below w3.heap.size w3 W → W.cell? ⟨wr.heap.size, 0, none⟩ = some (.int .i64 fk) ∧ W.cell? ⟨wr.heap.size, 1, none⟩ = some (.int .i64 fn) ∧ W.cell? ⟨wr.heap.size, 2, none⟩ = some (.string fs)) := fun W hb => ⟨(hb.cell (p := ⟨wr.heap.size, 0, none⟩) zq).trans q0, (hb.cell (p := ⟨wr.heap.size, 1, none⟩) zq).trans q1, (hb.cell (p := ⟨wr.heap.size, 2, none⟩) zq).trans q2⟩
                refine wp_region_held_drew (S := (fun W => W.cell? ⟨wr.heap.size, 0, none⟩ = some (.int .i64 fk) ∧ W.cell? ⟨wr.heap.size, 1, none⟩ = some (.int .i64 fn) ∧ W.cell? ⟨wr.heap.size, 2, none⟩ = some (.string fs))) (by kernel_rfl) (by exact ⟨q0, q1, q2⟩) (fun hHeld => ?_)
                refine wpAnyH_takeD (i := 0) (d := 41) (v := ?_) rfl rfl (by kernel_rfl) (by kernel_rfl) (by kernel_rfl) (fun _ _ _ h => h) (Or.inl ⟨by rfl, ?_⟩) (by assumption) ?_; rotate_left
                · intro W hSw; (try dsimp only at hSw); go_simp; (try with_reducible rfl)
                (try simp only [List.set_cons_zero, List.set_cons_succ])
                refine wpAnyH_takeD (i := 1) (d := 42) (v := ?_) rfl rfl (by kernel_rfl) (by kernel_rfl) (by kernel_rfl) (fun _ _ _ h => h) (Or.inl ⟨by rfl, ?_⟩) (by assumption) ?_; rotate_left
                · intro W hSw; (try dsimp only at hSw); go_simp; (try with_reducible rfl)
                (try simp only [List.set_cons_zero, List.set_cons_succ])
                refine wpAnyH_takeD (i := 2) (d := 43) (v := ?_) rfl rfl (by kernel_rfl) (by kernel_rfl) (by kernel_rfl) (fun _ _ _ h => h) (Or.inl ⟨by rfl, ?_⟩) (by assumption) ?_; rotate_left
                · intro W hSw; (try dsimp only at hSw); go_simp; (try with_reducible rfl)
                (try simp only [List.set_cons_zero, List.set_cons_succ])
                refine wpAnyH_skips (by kernel_rfl) (fun _ _ _ _ _ h => h) (by assumption) [(3, 44), (4, 45), (5, 46), (6, 47), (7, 48), (8, 49), (9, 50), (10, 51), (11, 52), (12, 53)] (fuel := 1) (by kernel_rfl) ?_
                simp only [skipPut, skipList]
                (try simp only [List.set_cons_zero, List.set_cons_succ])
                refine wpAnyH_takeD (i := 13) (d := 54) (v := ?_) rfl rfl (by kernel_rfl) (by kernel_rfl) (by kernel_rfl) (fun _ _ _ h => h) (Or.inl ⟨by rfl, ?_⟩) (by assumption) ?_; rotate_left
                · intro W hSw; (try dsimp only at hSw); go_simp; (try with_reducible rfl)
                (try simp only [List.set_cons_zero, List.set_cons_succ])
                refine wpAnyH_done (by kernel_rfl) ?_ _
                go_wp2_with fail
                go_roundw
                case rel => exact ⟨k + 1, by omega, by go_num, hbw.trans (Below.mono (b3.trans (Below.mono (by (repeat (first | exact Below.refl _ _ | assumption | refine Below.drew ?_ | refine Below.setCell ?_ (by simp; try omega) _ | refine Below.alloc ?_ (by simp; try omega) _))) b3.size)) hws), HE2, HLZ⟩
                case measure => simp [intOf]; omega
              · obtain ⟨m, hm⟩ : ∃ m, k = m + 1 := ⟨k - 1, by omega⟩
                have hmL : m < L.length := by rw [HN.out]; omega
                obtain ⟨hpk, hmc⟩ := HP.out m hmL hm
                have hmo : m < n := by omega
                generalize L[m] = xm at hpk hmc
                obtain ⟨xf, ⟨uk, un, us⟩, xmo⟩ := xm
                obtain ⟨-, ⟨r0', r1', r2'⟩, -⟩ := hmc
                simp only at hpk r0' r1' r2'
                have HPC : Hid (∀ W, Calls Try.prog 35 _ W (fun e w' => e = _ ∧ Below W.heap.size W w')) := fun W => (rCompare_any uk un us fk fn fs W).mono fun e w' h => ⟨h.1, h.2.below⟩
                generalize cmpV ⟨uk, un, us⟩ ⟨fk, fn, fs⟩ = c3 at hpk HPC
                have hg0 : decide (0 < k) = true := by simp; omega
                have hm1 : (m : Int) < n := by omega
                have hm2 : (0 : Int) ≤ m := by omega
                have hm3 : IntKind.i64.wrap ((k : Int) - 1) = m := by rw [IntKind.wrap_i64]; omega
                have hm4 : (k : Int) - 1 = m := by omega
                have hm5 : IntKind.i64.wrap (m : Int) = m := by rw [IntKind.wrap_i64]; omega
                have HMK := Lib.hid hm
                clear HP hm hmL
                go_wp2_with fail
                refine (HV.out _).mono ?_
                rintro e w3 ⟨rfl, hg3⟩
                have hk3 : ∀ o, w3.cell? ⟨wr.heap.size, o, none⟩ = _ := kept_new hg3
                have b3 : Below wr.heap.size wr w3 := (((Gr.refl wr).alloc _).trans hg3).below
                have z3 : wr.heap.size < w3.heap.size := by have := hg3.below.size; simp only [World.size_alloc] at this; omega
                have zq := z3
                go_wp2_with fail
                have q0 : w3.cell? ⟨wr.heap.size, 0, none⟩ = some (.int .i64 fk) := (hk3 0).trans (World.cell?_alloc_mark wr #[.int .i64 fk, .int .i64 fn, .string fs, .int .i64 tk, .int .i64 tn, .string ts, .bool true] 59 (0, 0) 0)
                have q1 : w3.cell? ⟨wr.heap.size, 1, none⟩ = some (.int .i64 fn) := (hk3 1).trans (World.cell?_alloc_mark wr #[.int .i64 fk, .int .i64 fn, .string fs, .int .i64 tk, .int .i64 tn, .string ts, .bool true] 59 (0, 0) 1)
                have q2 : w3.cell? ⟨wr.heap.size, 2, none⟩ = some (.string fs) := (hk3 2).trans (World.cell?_alloc_mark wr #[.int .i64 fk, .int .i64 fn, .string fs, .int .i64 tk, .int .i64 tn, .string ts, .bool true] 59 (0, 0) 2)
                clear hk3 p0 p1 p2 p3 p4 p5 p6
                have zr : b < w3.heap.size := by have := b3.size; omega
                have r0 : w3.cell? ⟨b, off + m * 7 + 3, none⟩ = some (.int .i64 uk) := (b3.cell (p := ⟨b, off + m * 7 + 3, none⟩) (show b < wr.heap.size by omega)).trans r0'
                have r1 : w3.cell? ⟨b, off + m * 7 + 3 + 1, none⟩ = some (.int .i64 un) := (b3.cell (p := ⟨b, off + m * 7 + 3 + 1, none⟩) (show b < wr.heap.size by omega)).trans r1'
                have r2 : w3.cell? ⟨b, off + m * 7 + 3 + 2, none⟩ = some (.string us) := (b3.cell (p := ⟨b, off + m * 7 + 3 + 2, none⟩) (show b < wr.heap.size by omega)).trans r2'
                clear r0' r1' r2'
                have HK : Hid (∀ W, Below w3.heap.size w3 W → W.cell? ⟨wr.heap.size, 0, none⟩ = some (.int .i64 fk) ∧ W.cell? ⟨wr.heap.size, 1, none⟩ = some (.int .i64 fn) ∧ W.cell? ⟨wr.heap.size, 2, none⟩ = some (.string fs) ∧ W.cell? ⟨b, off + m * 7 + 3, none⟩ = some (.int .i64 uk) ∧ W.cell? ⟨b, off + m * 7 + 3 + 1, none⟩ = some (.int .i64 un) ∧ W.cell? ⟨b, off + m * 7 + 3 + 2, none⟩ = some (.string us)) := fun W hb => ⟨(hb.cell (p := ⟨wr.heap.size, 0, none⟩) zq).trans q0, (hb.cell (p := ⟨wr.heap.size, 1, none⟩) zq).trans q1, (hb.cell (p := ⟨wr.heap.size, 2, none⟩) zq).trans q2, (hb.cell (p := ⟨b, off + m * 7 + 3, none⟩) zr).trans r0, (hb.cell (p := ⟨b, off + m * 7 + 3 + 1, none⟩) zr).trans r1, (hb.cell (p := ⟨b, off + m * 7 + 3 + 2, none⟩) zr).trans r2⟩
                by_cases h3 : c3 < 0
                · have hd3 : decide (0 ≤ c3) = false := by simp; omega
                  have HE2 : Hid (ordL L = (preOk L (k + 1) && ordL (L.drop (k + 1)))) := by have := HE1.out; rw [hpk] at this; show _ = _; simpa [h3] using this
                  clear HE1 hpk
                  go_region_held3 (fun W => W.cell? ⟨wr.heap.size, 0, none⟩ = some (.int .i64 fk) ∧ W.cell? ⟨wr.heap.size, 1, none⟩ = some (.int .i64 fn) ∧ W.cell? ⟨wr.heap.size, 2, none⟩ = some (.string fs) ∧ W.cell? ⟨b, off + m * 7 + 3, none⟩ = some (.int .i64 uk) ∧ W.cell? ⟨b, off + m * 7 + 3 + 1, none⟩ = some (.int .i64 un) ∧ W.cell? ⟨b, off + m * 7 + 3 + 2, none⟩ = some (.string us))
                    (first | exact ⟨q0d, q1d, q2d, r0d, r1d, r2d⟩ | exact ⟨q0, q1, q2, r0, r1, r2⟩)
                    (first | (go_at_call 35; (with_reducible refine (HPC.out _).mono ?_); rintro e wzd ⟨rfl, hg⟩; have hbd : Below w3.heap.size w3 wzd := Below.trans (by (repeat (first | exact Below.refl _ _ | assumption | refine Below.drew ?_ | refine Below.setCell ?_ (by simp; try omega) _ | refine Below.alloc ?_ (by simp; try omega) _))) (hg.mono (by first | (simp; done) | ((try simp); exact Below.size (by assumption)))); obtain ⟨q0d, q1d, q2d, r0d, r1d, r2d⟩ := HK.out wzd hbd; clear hg))
                  go_wp2_with fail
                  go_roundw
                  case rel => exact ⟨k + 1, by omega, by go_num, hbw.trans (Below.mono (b3.trans (Below.mono (by (repeat (first | exact Below.refl _ _ | assumption | refine Below.drew ?_ | refine Below.setCell ?_ (by simp; try omega) _ | refine Below.alloc ?_ (by simp; try omega) _))) b3.size)) hws), HE2, HLZ⟩
                  case measure => simp [intOf]; omega
                · have hd3 : decide (0 ≤ c3) = true := by simp; omega
                  have HE2 : Hid (ordL L = false) := by have := HE1.out; rw [hpk] at this; show _ = _; simpa [h3] using this
                  clear HE1 hpk
                  go_region_held3 (fun W => W.cell? ⟨wr.heap.size, 0, none⟩ = some (.int .i64 fk) ∧ W.cell? ⟨wr.heap.size, 1, none⟩ = some (.int .i64 fn) ∧ W.cell? ⟨wr.heap.size, 2, none⟩ = some (.string fs) ∧ W.cell? ⟨b, off + m * 7 + 3, none⟩ = some (.int .i64 uk) ∧ W.cell? ⟨b, off + m * 7 + 3 + 1, none⟩ = some (.int .i64 un) ∧ W.cell? ⟨b, off + m * 7 + 3 + 2, none⟩ = some (.string us))
                    (first | exact ⟨q0d, q1d, q2d, r0d, r1d, r2d⟩ | exact ⟨q0, q1, q2, r0, r1, r2⟩)
                    (first | (go_at_call 35; (with_reducible refine (HPC.out _).mono ?_); rintro e wzd ⟨rfl, hg⟩; have hbd : Below w3.heap.size w3 wzd := Below.trans (by (repeat (first | exact Below.refl _ _ | assumption | refine Below.drew ?_ | refine Below.setCell ?_ (by simp; try omega) _ | refine Below.alloc ?_ (by simp; try omega) _))) (hg.mono (by first | (simp; done) | ((try simp); exact Below.size (by assumption)))); obtain ⟨q0d, q1d, q2d, r0d, r1d, r2d⟩ := HK.out wzd hbd; clear hg))
                  go_wp2_with fail
                  go_ret
                  exact ⟨by rw [HE2.out]; try rfl, hbw.trans (Below.mono (b3.trans (Below.mono (by (repeat (first | exact Below.refl _ _ | assumption | refine Below.drew ?_ | refine Below.setCell ?_ (by simp; try omega) _ | refine Below.alloc ?_ (by simp; try omega) _))) b3.size)) hws)⟩
          · have hd : decide ((k : Int) < n - 1) = true := by simp; omega
            have hnx := HNX.out hl rfl
            have HE2 : Hid (ordL L = false) := by have := HE.out; rw [hnx] at this; show _ = _; simpa using this
            clear hnx HE HO HP HPS HLK HNX
            go_wp2_with fail
            refine (HV.out _).mono ?_
            rintro e w3 ⟨rfl, hg3⟩
            have hk3 : ∀ o, w3.cell? ⟨wr.heap.size, o, none⟩ = _ := kept_new hg3
            have b3 : Below wr.heap.size wr w3 := (((Gr.refl wr).alloc _).trans hg3).below
            have z3 : wr.heap.size < w3.heap.size := by have := hg3.below.size; simp only [World.size_alloc] at this; omega
            go_wp2_with fail
            go_ret
            exact ⟨by rw [HE2.out]; try rfl, hbw.trans (Below.mono b3 hws)⟩
        | false =>
          cases y2 with
          | false =>
            have hz : z = false := HO.out
            have HE2 : Hid (ordL L = false) := by have := HE.out; rw [hz] at this; show _ = _; simpa using this
            clear hz HE HO HP HPS HLK HNX
            go_wp2_with fail
            refine (HV.out _).mono ?_
            rintro e w3 ⟨rfl, hg3⟩
            have hk3 : ∀ o, w3.cell? ⟨wr.heap.size, o, none⟩ = _ := kept_new hg3
            have b3 : Below wr.heap.size wr w3 := (((Gr.refl wr).alloc _).trans hg3).below
            have z3 : wr.heap.size < w3.heap.size := by have := hg3.below.size; simp only [World.size_alloc] at this; omega
            go_wp2_with fail
            refine (HT.out _).mono ?_
            rintro e w4 ⟨rfl, hg4⟩
            have b4 : Below wr.heap.size wr w4 := b3.trans (hg4.below.mono b3.size)
            clear hk3
            go_wp2_with fail
            go_ret
            exact ⟨by rw [HE2.out]; try rfl, hbw.trans (Below.mono b4 hws)⟩
          | true =>
            by_cases h1 : c1 < 0
            · have hd : decide (0 ≤ c1) = false := by simp; omega
              have hz : z = true := by have := HO.out; simpa [h1] using this
              have HLZ : Hid (∀ m (h : m < L.length), k + 1 = m + 1 → L[m].o = false ∨ k + 1 = n) := fun m h e => .inl (by rw [HLK.out m h e])
              have HE1 : Hid (ordL L = (preOk L k && (preOk L (k + 1) && ordL (L.drop (k + 1))))) := by have := HE.out; rw [hz] at this; show _ = _; rw [HPS.out]; simpa using this
              clear hz HE HO HPS HLK HNX
              by_cases hk0 : k = 0
              · have hp0 : preOk L k = true := by rw [hk0]; exact preOk_zero L
                have HE2 : Hid (ordL L = (preOk L (k + 1) && ordL (L.drop (k + 1)))) := by have := HE1.out; rw [hp0] at this; show _ = _; simpa using this
                have hg0 : decide (0 < k) = false := by simp; omega
                clear HE1 HP hk0 hp0
                go_wp2_with fail
                refine (HV.out _).mono ?_
                rintro e w3 ⟨rfl, hg3⟩
                have hk3 : ∀ o, w3.cell? ⟨wr.heap.size, o, none⟩ = _ := kept_new hg3
                have b3 : Below wr.heap.size wr w3 := (((Gr.refl wr).alloc _).trans hg3).below
                have z3 : wr.heap.size < w3.heap.size := by have := hg3.below.size; simp only [World.size_alloc] at this; omega
                go_wp2_with fail
                refine (HT.out _).mono ?_
                rintro e w4 ⟨rfl, hg4⟩
                have hk4 : ∀ o, w4.cell? ⟨wr.heap.size, o, none⟩ = _ := fun o => (hg4.below.cell (p := ⟨wr.heap.size, o, none⟩) z3).trans (hk3 o)
                have z4 : wr.heap.size < w4.heap.size := Nat.lt_of_lt_of_le z3 hg4.below.size
                clear hk3
                have b4 : Below wr.heap.size wr w4 := b3.trans (hg4.below.mono b3.size)
                go_wp2_with fail
                refine (HC.out _).mono ?_
                rintro e w5 ⟨rfl, hg5⟩
                have hk5 : ∀ o, w5.cell? ⟨wr.heap.size, o, none⟩ = _ := fun o => (hg5.below.cell (p := ⟨wr.heap.size, o, none⟩) z4).trans (hk4 o)
                have zq : wr.heap.size < w5.heap.size := Nat.lt_of_lt_of_le z4 hg5.below.size
                have b5 : Below wr.heap.size wr w5 := b4.trans (hg5.below.mono b4.size)
                clear hk4
                go_wp2_with fail
                have q0 : w5.cell? ⟨wr.heap.size, 0, none⟩ = some (.int .i64 fk) := (hk5 0).trans (World.cell?_alloc_mark wr #[.int .i64 fk, .int .i64 fn, .string fs, .int .i64 tk, .int .i64 tn, .string ts, .bool false] 59 (0, 0) 0)
                have q1 : w5.cell? ⟨wr.heap.size, 1, none⟩ = some (.int .i64 fn) := (hk5 1).trans (World.cell?_alloc_mark wr #[.int .i64 fk, .int .i64 fn, .string fs, .int .i64 tk, .int .i64 tn, .string ts, .bool false] 59 (0, 0) 1)
                have q2 : w5.cell? ⟨wr.heap.size, 2, none⟩ = some (.string fs) := (hk5 2).trans (World.cell?_alloc_mark wr #[.int .i64 fk, .int .i64 fn, .string fs, .int .i64 tk, .int .i64 tn, .string ts, .bool false] 59 (0, 0) 2)
                clear hk5 p0 p1 p2 p3 p4 p5 p6
                have HK : Hid (∀ W, Below w5.heap.size w5 W → W.cell? ⟨wr.heap.size, 0, none⟩ = some (.int .i64 fk) ∧ W.cell? ⟨wr.heap.size, 1, none⟩ = some (.int .i64 fn) ∧ W.cell? ⟨wr.heap.size, 2, none⟩ = some (.string fs)) := fun W hb => ⟨(hb.cell (p := ⟨wr.heap.size, 0, none⟩) zq).trans q0, (hb.cell (p := ⟨wr.heap.size, 1, none⟩) zq).trans q1, (hb.cell (p := ⟨wr.heap.size, 2, none⟩) zq).trans q2⟩
                refine wp_region_held_drew (S := (fun W => W.cell? ⟨wr.heap.size, 0, none⟩ = some (.int .i64 fk) ∧ W.cell? ⟨wr.heap.size, 1, none⟩ = some (.int .i64 fn) ∧ W.cell? ⟨wr.heap.size, 2, none⟩ = some (.string fs))) (by kernel_rfl) (by exact ⟨q0, q1, q2⟩) (fun hHeld => ?_)
                refine wpAnyH_takeD (i := 0) (d := 41) (v := ?_) rfl rfl (by kernel_rfl) (by kernel_rfl) (by kernel_rfl) (fun _ _ _ h => h) (Or.inl ⟨by rfl, ?_⟩) (by assumption) ?_; rotate_left
                · intro W hSw; (try dsimp only at hSw); go_simp; (try with_reducible rfl)
                (try simp only [List.set_cons_zero, List.set_cons_succ])
                refine wpAnyH_takeD (i := 1) (d := 42) (v := ?_) rfl rfl (by kernel_rfl) (by kernel_rfl) (by kernel_rfl) (fun _ _ _ h => h) (Or.inl ⟨by rfl, ?_⟩) (by assumption) ?_; rotate_left
                · intro W hSw; (try dsimp only at hSw); go_simp; (try with_reducible rfl)
                (try simp only [List.set_cons_zero, List.set_cons_succ])
                refine wpAnyH_takeD (i := 2) (d := 43) (v := ?_) rfl rfl (by kernel_rfl) (by kernel_rfl) (by kernel_rfl) (fun _ _ _ h => h) (Or.inl ⟨by rfl, ?_⟩) (by assumption) ?_; rotate_left
                · intro W hSw; (try dsimp only at hSw); go_simp; (try with_reducible rfl)
                (try simp only [List.set_cons_zero, List.set_cons_succ])
                refine wpAnyH_skips (by kernel_rfl) (fun _ _ _ _ _ h => h) (by assumption) [(3, 44), (4, 45), (5, 46), (6, 47), (7, 48), (8, 49), (9, 50), (10, 51), (11, 52), (12, 53)] (fuel := 1) (by kernel_rfl) ?_
                simp only [skipPut, skipList]
                (try simp only [List.set_cons_zero, List.set_cons_succ])
                refine wpAnyH_takeD (i := 13) (d := 54) (v := ?_) rfl rfl (by kernel_rfl) (by kernel_rfl) (by kernel_rfl) (fun _ _ _ h => h) (Or.inl ⟨by rfl, ?_⟩) (by assumption) ?_; rotate_left
                · intro W hSw; (try dsimp only at hSw); go_simp; (try with_reducible rfl)
                (try simp only [List.set_cons_zero, List.set_cons_succ])
                refine wpAnyH_done (by kernel_rfl) ?_ _
                go_wp2_with fail
                go_roundw
                case rel => exact ⟨k + 1, by omega, by go_num, hbw.trans (Below.mono (b5.trans (Below.mono (by (repeat (first | exact Below.refl _ _ | assumption | refine Below.drew ?_ | refine Below.setCell ?_ (by simp; try omega) _ | refine Below.alloc ?_ (by simp; try omega) _))) b5.size)) hws), HE2, HLZ⟩
                case measure => simp [intOf]; omega
              · obtain ⟨m, hm⟩ : ∃ m, k = m + 1 := ⟨k - 1, by omega⟩
                have hmL : m < L.length := by rw [HN.out]; omega
                obtain ⟨hpk, hmc⟩ := HP.out m hmL hm
                have hmo : m < n := by omega
                generalize L[m] = xm at hpk hmc
                obtain ⟨xf, ⟨uk, un, us⟩, xmo⟩ := xm
                obtain ⟨-, ⟨r0', r1', r2'⟩, -⟩ := hmc
                simp only at hpk r0' r1' r2'
                have HPC : Hid (∀ W, Calls Try.prog 35 _ W (fun e w' => e = _ ∧ Below W.heap.size W w')) := fun W => (rCompare_any uk un us fk fn fs W).mono fun e w' h => ⟨h.1, h.2.below⟩
                generalize cmpV ⟨uk, un, us⟩ ⟨fk, fn, fs⟩ = c3 at hpk HPC
                have hg0 : decide (0 < k) = true := by simp; omega
                have hm1 : (m : Int) < n := by omega
                have hm2 : (0 : Int) ≤ m := by omega
                have hm3 : IntKind.i64.wrap ((k : Int) - 1) = m := by rw [IntKind.wrap_i64]; omega
                have hm4 : (k : Int) - 1 = m := by omega
                have hm5 : IntKind.i64.wrap (m : Int) = m := by rw [IntKind.wrap_i64]; omega
                have HMK := Lib.hid hm
                clear HP hm hmL
                go_wp2_with fail
                refine (HV.out _).mono ?_
                rintro e w3 ⟨rfl, hg3⟩
                have hk3 : ∀ o, w3.cell? ⟨wr.heap.size, o, none⟩ = _ := kept_new hg3
                have b3 : Below wr.heap.size wr w3 := (((Gr.refl wr).alloc _).trans hg3).below
                have z3 : wr.heap.size < w3.heap.size := by have := hg3.below.size; simp only [World.size_alloc] at this; omega
                go_wp2_with fail
                refine (HT.out _).mono ?_
                rintro e w4 ⟨rfl, hg4⟩
                have hk4 : ∀ o, w4.cell? ⟨wr.heap.size, o, none⟩ = _ := fun o => (hg4.below.cell (p := ⟨wr.heap.size, o, none⟩) z3).trans (hk3 o)
                have z4 : wr.heap.size < w4.heap.size := Nat.lt_of_lt_of_le z3 hg4.below.size
                clear hk3
                have b4 : Below wr.heap.size wr w4 := b3.trans (hg4.below.mono b3.size)
                go_wp2_with fail
                refine (HC.out _).mono ?_
                rintro e w5 ⟨rfl, hg5⟩
                have hk5 : ∀ o, w5.cell? ⟨wr.heap.size, o, none⟩ = _ := fun o => (hg5.below.cell (p := ⟨wr.heap.size, o, none⟩) z4).trans (hk4 o)
                have zq : wr.heap.size < w5.heap.size := Nat.lt_of_lt_of_le z4 hg5.below.size
                have b5 : Below wr.heap.size wr w5 := b4.trans (hg5.below.mono b4.size)
                clear hk4
                go_wp2_with fail
                have q0 : w5.cell? ⟨wr.heap.size, 0, none⟩ = some (.int .i64 fk) := (hk5 0).trans (World.cell?_alloc_mark wr #[.int .i64 fk, .int .i64 fn, .string fs, .int .i64 tk, .int .i64 tn, .string ts, .bool false] 59 (0, 0) 0)
                have q1 : w5.cell? ⟨wr.heap.size, 1, none⟩ = some (.int .i64 fn) := (hk5 1).trans (World.cell?_alloc_mark wr #[.int .i64 fk, .int .i64 fn, .string fs, .int .i64 tk, .int .i64 tn, .string ts, .bool false] 59 (0, 0) 1)
                have q2 : w5.cell? ⟨wr.heap.size, 2, none⟩ = some (.string fs) := (hk5 2).trans (World.cell?_alloc_mark wr #[.int .i64 fk, .int .i64 fn, .string fs, .int .i64 tk, .int .i64 tn, .string ts, .bool false] 59 (0, 0) 2)
                clear hk5 p0 p1 p2 p3 p4 p5 p6
                have zr : b < w5.heap.size := by have := b5.size; omega
                have r0 : w5.cell? ⟨b, off + m * 7 + 3, none⟩ = some (.int .i64 uk) := (b5.cell (p := ⟨b, off + m * 7 + 3, none⟩) (show b < wr.heap.size by omega)).trans r0'
                have r1 : w5.cell? ⟨b, off + m * 7 + 3 + 1, none⟩ = some (.int .i64 un) := (b5.cell (p := ⟨b, off + m * 7 + 3 + 1, none⟩) (show b < wr.heap.size by omega)).trans r1'
                have r2 : w5.cell? ⟨b, off + m * 7 + 3 + 2, none⟩ = some (.string us) := (b5.cell (p := ⟨b, off + m * 7 + 3 + 2, none⟩) (show b < wr.heap.size by omega)).trans r2'
                clear r0' r1' r2'
                have HK : Hid (∀ W, Below w5.heap.size w5 W → W.cell? ⟨wr.heap.size, 0, none⟩ = some (.int .i64 fk) ∧ W.cell? ⟨wr.heap.size, 1, none⟩ = some (.int .i64 fn) ∧ W.cell? ⟨wr.heap.size, 2, none⟩ = some (.string fs) ∧ W.cell? ⟨b, off + m * 7 + 3, none⟩ = some (.int .i64 uk) ∧ W.cell? ⟨b, off + m * 7 + 3 + 1, none⟩ = some (.int .i64 un) ∧ W.cell? ⟨b, off + m * 7 + 3 + 2, none⟩ = some (.string us)) := fun W hb => ⟨(hb.cell (p := ⟨wr.heap.size, 0, none⟩) zq).trans q0, (hb.cell (p := ⟨wr.heap.size, 1, none⟩) zq).trans q1, (hb.cell (p := ⟨wr.heap.size, 2, none⟩) zq).trans q2, (hb.cell (p := ⟨b, off + m * 7 + 3, none⟩) zr).trans r0, (hb.cell (p := ⟨b, off + m * 7 + 3 + 1, none⟩) zr).trans r1, (hb.cell (p := ⟨b, off + m * 7 + 3 + 2, none⟩) zr).trans r2⟩
                by_cases h3 : c3 < 0
                · have hd3 : decide (0 ≤ c3) = false := by simp; omega
                  have HE2 : Hid (ordL L = (preOk L (k + 1) && ordL (L.drop (k + 1)))) := by have := HE1.out; rw [hpk] at this; show _ = _; simpa [h3] using this
                  clear HE1 hpk
                  go_region_held3 (fun W => W.cell? ⟨wr.heap.size, 0, none⟩ = some (.int .i64 fk) ∧ W.cell? ⟨wr.heap.size, 1, none⟩ = some (.int .i64 fn) ∧ W.cell? ⟨wr.heap.size, 2, none⟩ = some (.string fs) ∧ W.cell? ⟨b, off + m * 7 + 3, none⟩ = some (.int .i64 uk) ∧ W.cell? ⟨b, off + m * 7 + 3 + 1, none⟩ = some (.int .i64 un) ∧ W.cell? ⟨b, off + m * 7 + 3 + 2, none⟩ = some (.string us))
                    (first | exact ⟨q0d, q1d, q2d, r0d, r1d, r2d⟩ | exact ⟨q0, q1, q2, r0, r1, r2⟩)
                    (first | (go_at_call 35; (with_reducible refine (HPC.out _).mono ?_); rintro e wzd ⟨rfl, hg⟩; have hbd : Below w5.heap.size w5 wzd := Below.trans (by (repeat (first | exact Below.refl _ _ | assumption | refine Below.drew ?_ | refine Below.setCell ?_ (by simp; try omega) _ | refine Below.alloc ?_ (by simp; try omega) _))) (hg.mono (by first | (simp; done) | ((try simp); exact Below.size (by assumption)))); obtain ⟨q0d, q1d, q2d, r0d, r1d, r2d⟩ := HK.out wzd hbd; clear hg))
                  go_wp2_with fail
                  go_roundw
                  case rel => exact ⟨k + 1, by omega, by go_num, hbw.trans (Below.mono (b5.trans (Below.mono (by (repeat (first | exact Below.refl _ _ | assumption | refine Below.drew ?_ | refine Below.setCell ?_ (by simp; try omega) _ | refine Below.alloc ?_ (by simp; try omega) _))) b5.size)) hws), HE2, HLZ⟩
                  case measure => simp [intOf]; omega
                · have hd3 : decide (0 ≤ c3) = true := by simp; omega
                  have HE2 : Hid (ordL L = false) := by have := HE1.out; rw [hpk] at this; show _ = _; simpa [h3] using this
                  clear HE1 hpk
                  go_region_held3 (fun W => W.cell? ⟨wr.heap.size, 0, none⟩ = some (.int .i64 fk) ∧ W.cell? ⟨wr.heap.size, 1, none⟩ = some (.int .i64 fn) ∧ W.cell? ⟨wr.heap.size, 2, none⟩ = some (.string fs) ∧ W.cell? ⟨b, off + m * 7 + 3, none⟩ = some (.int .i64 uk) ∧ W.cell? ⟨b, off + m * 7 + 3 + 1, none⟩ = some (.int .i64 un) ∧ W.cell? ⟨b, off + m * 7 + 3 + 2, none⟩ = some (.string us))
                    (first | exact ⟨q0d, q1d, q2d, r0d, r1d, r2d⟩ | exact ⟨q0, q1, q2, r0, r1, r2⟩)
                    (first | (go_at_call 35; (with_reducible refine (HPC.out _).mono ?_); rintro e wzd ⟨rfl, hg⟩; have hbd : Below w5.heap.size w5 wzd := Below.trans (by (repeat (first | exact Below.refl _ _ | assumption | refine Below.drew ?_ | refine Below.setCell ?_ (by simp; try omega) _ | refine Below.alloc ?_ (by simp; try omega) _))) (hg.mono (by first | (simp; done) | ((try simp); exact Below.size (by assumption)))); obtain ⟨q0d, q1d, q2d, r0d, r1d, r2d⟩ := HK.out wzd hbd; clear hg))
                  go_wp2_with fail
                  go_ret
                  exact ⟨by rw [HE2.out]; try rfl, hbw.trans (Below.mono (b5.trans (Below.mono (by (repeat (first | exact Below.refl _ _ | assumption | refine Below.drew ?_ | refine Below.setCell ?_ (by simp; try omega) _ | refine Below.alloc ?_ (by simp; try omega) _))) b5.size)) hws)⟩
            · have hd : decide (0 ≤ c1) = true := by simp; omega
              have hz : z = false := by have := HO.out; simpa [h1] using this
              have HE2 : Hid (ordL L = false) := by have := HE.out; rw [hz] at this; show _ = _; simpa using this
              clear hz HE HO HP HPS HLK HNX
              go_wp2_with fail
              refine (HV.out _).mono ?_
              rintro e w3 ⟨rfl, hg3⟩
              have hk3 : ∀ o, w3.cell? ⟨wr.heap.size, o, none⟩ = _ := kept_new hg3
              have b3 : Below wr.heap.size wr w3 := (((Gr.refl wr).alloc _).trans hg3).below
              have z3 : wr.heap.size < w3.heap.size := by have := hg3.below.size; simp only [World.size_alloc] at this; omega
              go_wp2_with fail
              refine (HT.out _).mono ?_
              rintro e w4 ⟨rfl, hg4⟩
              have hk4 : ∀ o, w4.cell? ⟨wr.heap.size, o, none⟩ = _ := fun o => (hg4.below.cell (p := ⟨wr.heap.size, o, none⟩) z3).trans (hk3 o)
              clear hk3
              have b4 : Below wr.heap.size wr w4 := b3.trans (hg4.below.mono b3.size)
              go_wp2_with fail
              refine (HC.out _).mono ?_
              rintro e w5 ⟨rfl, hg5⟩
              have b5 : Below wr.heap.size wr w5 := b4.trans (hg5.below.mono b4.size)
              clear hk4
              go_wp2_with fail
              go_ret
              exact ⟨by rw [HE2.out]; try rfl, hbw.trans (Below.mono b5 hws)⟩
    · have HE2 : Hid (ordL L = true) := by
        have := ht.out
        obtain rfl : k = n := by omega
        rw [← HN.out, preOk_end, List.drop_eq_nil_of_le (Nat.le_refl _)] at this
        exact this
      clear ht
      go_wp2_with fail
      go_ret
      exact ⟨by rw [HE2.out]; try rfl, hbw⟩

set_option maxHeartbeats 400000 in
theorem rValidL_any (v : Value) (L : List IV) (w : World) (h : Ivs w v L) : Calls Try.prog 12 #[v] w fun e w' => e = .returned (.bool (vldL L)) ∧ Below w.heap.size w w' := by
  have HO := Lib.hid (rOrdered_any v L w h)
  obtain ⟨a, c, rfl⟩ := h.shape
  unfold vldL
  obtain ⟨n, hnn⟩ : ∃ n, L.length = n := ⟨_, rfl⟩
  rw [hnn] at HO ⊢
  generalize ordL L = z at HO ⊢
  clear h hnn
  by_cases h64 : n ≤ 64
  · have hd : decide ((n : Int) ≤ 64) = true := by simp; omega
    have hd2 : decide (n ≤ 64) = true := by simpa using h64
    rw [hd2, Bool.true_and]
    go_enter Try.func12, Try.ntmps12
    go_wp2_with fail
    refine HO.out.mono ?_
    rintro e w1 ⟨rfl, hb⟩
    go_wp2_with fail
    go_ret
    exact ⟨rfl, hb⟩
  · have hd : decide ((n : Int) ≤ 64) = false := by simp; omega
    have hd2 : decide (n ≤ 64) = false := by simpa using h64
    rw [hd2, Bool.false_and]
    go_enter Try.func12, Try.ntmps12
    go_wp2_with fail
    go_ret
    exact ⟨rfl, Below.refl _ _⟩
end Go.Proofs.Ytmhgmlnnipdomaa
