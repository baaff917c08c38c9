
/- The reference's In. -/
import Derived.Test.YtmhgmlnnipdomaaIvHas

namespace Go.Proofs.Ytmhgmlnnipdomaa

open Go.RowKit

set_option maxHeartbeats 2000000 in
theorem rIn_any (v : Value) (L : List IV) (gk gn : Int) (gs : ByteArray) (w : World) (h : Ivs w v L) : Calls Try.prog 49 #[v, .agg #[.int .i64 gk, .int .i64 gn, .string gs]] w fun e w' => e = .returned (.bool (inL L ⟨gk, gn, gs⟩)) ∧ Below w.heap.size w w' := by
  obtain ⟨a, c, rfl, hc1, hc2, hnil, hn, hi⟩ := h
  have HI := Lib.hid hi
  clear hi hnil
  obtain ⟨n, hnn⟩ : ∃ n, L.length = n := ⟨_, rfl⟩
  rw [hnn] at hc1 hn ⊢
  have HN := Lib.hid hnn
  clear hnn
  go_enter Try.func49, Try.ntmps49
  go_wp2_with fail
  have g0 : (w.alloc (.cells #[.int .i64 gk, .int .i64 gn, .string gs] 25)).cell? ⟨w.heap.size, 0, none⟩ = some (.int .i64 gk) := World.cell?_alloc_mark w #[.int .i64 gk, .int .i64 gn, .string gs] 25 (0, 0) 0
  have g1 : (w.alloc (.cells #[.int .i64 gk, .int .i64 gn, .string gs] 25)).cell? ⟨w.heap.size, 1, none⟩ = some (.int .i64 gn) := World.cell?_alloc_mark w #[.int .i64 gk, .int .i64 gn, .string gs] 25 (0, 0) 1
  have g2 : (w.alloc (.cells #[.int .i64 gk, .int .i64 gn, .string gs] 25)).cell? ⟨w.heap.size, 2, none⟩ = some (.string gs) := World.cell?_alloc_mark w #[.int .i64 gk, .int .i64 gn, .string gs] 25 (0, 0) 2
  have hb2 : Below w.heap.size w (w.alloc (.cells #[.int .i64 gk, .int .i64 gn, .string gs] 25)) := (Below.refl _ _).alloc (Nat.le_refl _) _
  have hs2 : w.heap.size < (w.alloc (.cells #[.int .i64 gk, .int .i64 gn, .string gs] 25)).heap.size := by simp
  generalize w.alloc (.cells #[.int .i64 gk, .int .i64 gn, .string gs] 25) = w2 at *
  go_loopw [9] (fun i wr => ∃ k : Nat, k ≤ n ∧ i = .int .i64 k ∧ Below w2.heap.size w2 wr ∧ Hid (inL L ⟨gk, gn, gs⟩ = inL (L.drop k) ⟨gk, gn, gs⟩)) (fun i _ => n - (intOf i).toNat)
  case atStart => exact ⟨0, by omega, rfl, Below.refl _ _, rfl⟩
  case round =>
    obtain ⟨k, hk, rfl, hbw, ht⟩ := hrel
    have hws := hbw.size
    by_cases hlt : k < n
    · have hkL : k < L.length := by rw [HN.out]; exact hlt
      obtain ⟨b, off, rfl, -, hb', hc⟩ := HI.out k hkL
      have HE : Hid (inL L ⟨gk, gn, gs⟩ = (inI L[k] ⟨gk, gn, gs⟩ || inL (L.drop (k + 1)) ⟨gk, gn, gs⟩)) := ht.out.trans (inL_drop L _ k hkL)
      have hx0 := ((hc.same (hb2.block b hb')).same (hbw.block b (by omega)))
      generalize L[k] = x at hx0 HE
      obtain ⟨⟨fk, fn, fs⟩, ⟨tk, tn, ts⟩, xo⟩ := x
      obtain ⟨⟨p0, p1, p2⟩, ⟨p3, p4, p5⟩, p6⟩ := hx0
      simp only at p0 p1 p2 p3 p4 p5 p6
      have HC := Lib.hid (fun W => rCompare_any fk fn fs gk gn gs W)
      have HD := Lib.hid (fun W => rCompare_any gk gn gs tk tn ts W)
      have HX : Hid (inI ⟨⟨fk, fn, fs⟩, ⟨tk, tn, ts⟩, xo⟩ ⟨gk, gn, gs⟩ = (decide (cmpV ⟨fk, fn, fs⟩ ⟨gk, gn, gs⟩ ≤ 0) && (xo || decide (cmpV ⟨gk, gn, gs⟩ ⟨tk, tn, ts⟩ < 0)))) := rfl
      generalize cmpV ⟨fk, fn, fs⟩ ⟨gk, gn, gs⟩ = c1 at HX HC
      generalize cmpV ⟨gk, gn, gs⟩ ⟨tk, tn, ts⟩ = c2 at HX HD
      generalize inI ⟨⟨fk, fn, fs⟩, ⟨tk, tn, ts⟩, xo⟩ ⟨gk, gn, gs⟩ = z at HE HX
      have q0 : wr.cell? ⟨w.heap.size, 0, none⟩ = some (.int .i64 gk) := (hbw.cell (p := ⟨w.heap.size, 0, none⟩) hs2).trans g0
      have q1 : wr.cell? ⟨w.heap.size, 1, none⟩ = some (.int .i64 gn) := (hbw.cell (p := ⟨w.heap.size, 1, none⟩) hs2).trans g1
      have q2 : wr.cell? ⟨w.heap.size, 2, none⟩ = some (.string gs) := (hbw.cell (p := ⟨w.heap.size, 2, none⟩) hs2).trans g2
      have hlw : w.heap.size < wr.heap.size := by omega
      clear hc ht g0 g1 g2

      by_cases h1 : c1 ≤ 0
      · have hd1 : decide (c1 ≤ 0) = true := by simpa using h1
        cases xo with
        | true =>
          have hz : z = true := by rw [HX.out, hd1]; rfl
          clear HX
          go_wp2_with fail
          refine (HC.out _).mono ?_
          rintro e w3 ⟨rfl, hg3⟩
          have hb3 : Below w2.heap.size w2 w3 := hbw.trans ((((Gr.refl wr).alloc _).trans hg3).below.mono hws)
          have hk3 : ∀ o, w3.cell? ⟨wr.heap.size, o, none⟩ = _ := kept_new hg3
          have e0 : ∀ o, w3.cell? ⟨w.heap.size, o, none⟩ = wr.cell? ⟨w.heap.size, o, none⟩ := fun o => (((Gr.refl wr).alloc _).trans hg3).below.cell (p := ⟨w.heap.size, o, none⟩) hlw
          have u0 := (e0 0).trans q0
          have u1 := (e0 1).trans q1
          have u2 := (e0 2).trans q2
          clear e0 p0 p1 p2 p3 p4 p5 p6 q0 q1 q2 hbw
          have HE2 : Hid (inL L ⟨gk, gn, gs⟩ = true) := by have := HE.out; rw [hz] at this; show _ = _; simpa using this
          clear HE hz
          go_wp2_with fail
          go_ret
          exact ⟨by rw [HE2.out]; try rfl, hb2.trans (Below.mono hb3 hb2.size)⟩
        | false =>
          by_cases h2 : c2 < 0
          · have hd2 : decide (c2 < 0) = true := by simpa using h2
            have hz : z = true := by rw [HX.out, hd1, hd2]; rfl
            clear HX
            go_wp2_with fail
            refine (HC.out _).mono ?_
            rintro e w3 ⟨rfl, hg3⟩
            have hb3 : Below w2.heap.size w2 w3 := hbw.trans ((((Gr.refl wr).alloc _).trans hg3).below.mono hws)
            have hk3 : ∀ o, w3.cell? ⟨wr.heap.size, o, none⟩ = _ := kept_new hg3
            have e0 : ∀ o, w3.cell? ⟨w.heap.size, o, none⟩ = wr.cell? ⟨w.heap.size, o, none⟩ := fun o => (((Gr.refl wr).alloc _).trans hg3).below.cell (p := ⟨w.heap.size, o, none⟩) hlw
            have u0 := (e0 0).trans q0
            have u1 := (e0 1).trans q1
            have u2 := (e0 2).trans q2
            clear e0 p0 p1 p2 p3 p4 p5 p6 q0 q1 q2 hbw
            go_wp2_with fail
            refine (HD.out _).mono ?_
            rintro e w4 ⟨rfl, hg4⟩
            have hb4 : Below w2.heap.size w2 w4 := hb3.trans (hg4.below.mono hb3.size)
            have HE2 : Hid (inL L ⟨gk, gn, gs⟩ = true) := by have := HE.out; rw [hz] at this; show _ = _; simpa using this
            clear HE hz
            go_wp2_with fail
            go_ret
            exact ⟨by rw [HE2.out]; try rfl, hb2.trans (Below.mono hb4 hb2.size)⟩
          · have hd2 : decide (c2 < 0) = false := by simpa using h2
            have hz : z = false := by rw [HX.out, hd1, hd2]; rfl
            clear HX
            go_wp2_with fail
            refine (HC.out _).mono ?_
            rintro e w3 ⟨rfl, hg3⟩
            have hb3 : Below w2.heap.size w2 w3 := hbw.trans ((((Gr.refl wr).alloc _).trans hg3).below.mono hws)
            have hk3 : ∀ o, w3.cell? ⟨wr.heap.size, o, none⟩ = _ := kept_new hg3
            have e0 : ∀ o, w3.cell? ⟨w.heap.size, o, none⟩ = wr.cell? ⟨w.heap.size, o, none⟩ := fun o => (((Gr.refl wr).alloc _).trans hg3).below.cell (p := ⟨w.heap.size, o, none⟩) hlw
            have u0 := (e0 0).trans q0
            have u1 := (e0 1).trans q1
            have u2 := (e0 2).trans q2
            clear e0 p0 p1 p2 p3 p4 p5 p6 q0 q1 q2 hbw
            go_wp2_with fail
            refine (HD.out _).mono ?_
            rintro e w4 ⟨rfl, hg4⟩
            have hb4 : Below w2.heap.size w2 w4 := hb3.trans (hg4.below.mono hb3.size)
            have HE2 : Hid (inL L ⟨gk, gn, gs⟩ = inL (L.drop (k + 1)) ⟨gk, gn, gs⟩) := by have := HE.out; rw [hz] at this; show _ = _; simpa using this
            clear HE hz
            go_wp2_with fail
            go_roundw
            case rel => exact ⟨k + 1, by omega, by go_num, hb4, HE2⟩
            case measure => simp [intOf]; omega
      · have hd1 : decide (c1 ≤ 0) = false := by simpa using h1
        have hz : z = false := by rw [HX.out, hd1]; rfl
        clear HX
        go_wp2_with fail
        refine (HC.out _).mono ?_
        rintro e w3 ⟨rfl, hg3⟩
        have hb3 : Below w2.heap.size w2 w3 := hbw.trans ((((Gr.refl wr).alloc _).trans hg3).below.mono hws)
        clear p0 p1 p2 p3 p4 p5 p6 q0 q1 q2 hbw
        have HE2 : Hid (inL L ⟨gk, gn, gs⟩ = inL (L.drop (k + 1)) ⟨gk, gn, gs⟩) := by have := HE.out; rw [hz] at this; show _ = _; simpa using this
        clear HE hz
        go_wp2_with fail
        go_roundw
        case rel => exact ⟨k + 1, by omega, by go_num, hb3, HE2⟩
        case measure => simp [intOf]; omega
    · have HE2 : Hid (inL L ⟨gk, gn, gs⟩ = false) := by have := ht.out; rw [List.drop_eq_nil_of_le (by rw [HN.out]; omega)] at this; exact this
      clear ht
      go_wp2_with fail
      go_ret
      exact ⟨by rw [HE2.out]; try rfl, hb2.trans (hbw.mono hb2.size)⟩
end Go.Proofs.Ytmhgmlnnipdomaa
