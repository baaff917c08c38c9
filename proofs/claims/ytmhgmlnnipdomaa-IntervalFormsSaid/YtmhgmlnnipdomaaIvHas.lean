
/- interval.Has, Least. -/
import Derived.Test.YtmhgmlnnipdomaaIvMake

namespace Go.Proofs.Ytmhgmlnnipdomaa

open Go.RowKit

def vldL (L : List IV) : Bool := decide (L.length ≤ 64) && ordL L
def hasB (L : List IV) (v : V) : Bool := okV v && (vldL L && inL L v)
def leastV : List IV → V × Bool
  | [] => (z0, false)
  | x :: r => if vldL (x :: r) then (x.f, true) else (z0, false)
theorem inL_drop (L : List IV) (v : V) (k : Nat) (h : k < L.length) : inL (L.drop k) v = (inI L[k] v || inL (L.drop (k + 1)) v) := by
  rw [List.drop_eq_getElem_cons h]; rfl

set_option maxHeartbeats 1000000 in
theorem iHas_any (v : Value) (L : List IV) (gk gn : Int) (gs : ByteArray) (w : World) (h : Ivs w v L) : Calls Try.prog 16 #[v, .agg #[.int .i64 gk, .int .i64 gn, .string gs]] w fun e w' => e = .returned (.bool (hasB L ⟨gk, gn, gs⟩)) ∧ Below w.heap.size w w' := by
  have HV := Lib.hid (fun W => vValid_any gk gn gs W)
  have HL : Hid (∀ W, Below w.heap.size w W → Calls Try.prog 11 #[v] W fun e w' => e = .returned (.bool (vldL L)) ∧ Below W.heap.size W w') := fun W hb => iValid_any v L W (h.below hb)
  unfold hasB
  obtain ⟨a, c, rfl, hc1, hc2, hnil, hn, hi⟩ := h
  have HI := Lib.hid hi
  clear hi hnil
  have ho : okV ⟨gk, gn, gs⟩ = vldB gk gn gs := rfl
  rw [ho]; clear ho
  generalize vldB gk gn gs = x at HV ⊢
  cases x
  · simp only [Bool.false_and]
    go_enter Try.func16, Try.ntmps16
    go_wp2_with fail
    refine (HV.out _).mono ?_
    rintro e w1 ⟨rfl, hg⟩
    go_wp2_with fail
    go_ret
    exact ⟨rfl, (((Gr.refl _).alloc _).trans hg).below⟩
  simp only [Bool.true_and]
  generalize vldL L = y at HL ⊢
  cases y
  · simp only [Bool.false_and]
    go_enter Try.func16, Try.ntmps16
    go_wp2_with fail
    refine (HV.out _).mono ?_
    rintro e w1 ⟨rfl, hg⟩
    have hb1 : Below w.heap.size w w1 := (((Gr.refl _).alloc _).trans hg).below
    go_wp2_with fail
    refine (HL.out _ hb1).mono ?_
    rintro e w2 ⟨rfl, hb⟩
    go_wp2_with fail
    go_ret
    exact ⟨rfl, hb1.trans (hb.mono hb1.size)⟩
  simp only [Bool.true_and]
  obtain ⟨n, hnn⟩ : ∃ n, L.length = n := ⟨_, rfl⟩
  rw [hnn] at hc1 hn HL ⊢
  have HN := Lib.hid hnn
  clear hnn
  go_enter Try.func16, Try.ntmps16
  go_wp2_with fail
  refine (HV.out _).mono ?_
  rintro e w1 ⟨rfl, hg⟩
  have hb1 : Below w.heap.size w w1 := (((Gr.refl _).alloc _).trans hg).below
  have hs1 : w.heap.size < w1.heap.size := by have := hg.below.size; simp only [World.size_alloc] at this; omega
  have hk := kept_new hg
  go_wp2_with fail
  refine (HL.out _ hb1).mono ?_
  rintro e w2 ⟨rfl, hb⟩
  have hb2 : Below w.heap.size w w2 := hb1.trans (hb.mono hb1.size)
  have hs2 : w.heap.size < w2.heap.size := Nat.lt_of_lt_of_le hs1 hb.size
  have hk2 : ∀ o, w2.cell? ⟨w.heap.size, o, none⟩ = _ := fun o => (hb.cell (p := ⟨w.heap.size, o, none⟩) hs1).trans (hk o)
  have g0 : w2.cell? ⟨w.heap.size, 0, none⟩ = some (.int .i64 gk) := (hk2 0).trans (World.cell?_alloc_mark w #[.int .i64 gk, .int .i64 gn, .string gs] 25 (0, 0) 0)
  have g1 : w2.cell? ⟨w.heap.size, 1, none⟩ = some (.int .i64 gn) := (hk2 1).trans (World.cell?_alloc_mark w #[.int .i64 gk, .int .i64 gn, .string gs] 25 (0, 0) 1)
  have g2 : w2.cell? ⟨w.heap.size, 2, none⟩ = some (.string gs) := (hk2 2).trans (World.cell?_alloc_mark w #[.int .i64 gk, .int .i64 gn, .string gs] 25 (0, 0) 2)
  clear hk hk2 hg
  go_wp2_with fail
  go_loopw [17] (fun i wr => ∃ k : Nat, k ≤ n ∧ i = .int .i64 k ∧ Below w2.heap.size w2 wr ∧ Hid (inL L ⟨gk, gn, gs⟩ = inL (L.drop k) ⟨gk, gn, gs⟩)) (fun i _ => n - (intOf i).toNat)
  case atStart => exact ⟨0, by omega, rfl, Below.refl _ _, rfl⟩
  case round =>
    obtain ⟨k, hk, rfl, hbw, ht⟩ := hrel
    have hws := hbw.size
    by_cases hlt : k < n
    · have hkL : k < L.length := by rw [HN.out]; exact hlt
      obtain ⟨b, off, rfl, -, hb', hc⟩ := HI.out k hkL
      have HE : Hid (inL L ⟨gk, gn, gs⟩ = (inI L[k] ⟨gk, gn, gs⟩ || inL (L.drop (k + 1)) ⟨gk, gn, gs⟩)) := ht.out.trans (inL_drop L _ k hkL)
      have hx0 := ((hc.same (hb2.block b hb')).same (hbw.block b (by omega)))
      generalize L[k] = x at hx0 HE
      obtain ⟨⟨fk, fn, fs⟩, ⟨tk, tn, ts⟩, xo⟩ := x
      obtain ⟨⟨p0, p1, p2⟩, ⟨p3, p4, p5⟩, p6⟩ := hx0
      simp only at p0 p1 p2 p3 p4 p5 p6
      have HC := Lib.hid (fun W => iContains_any fk fn fs tk tn ts xo gk gn gs W)
      generalize inI ⟨⟨fk, fn, fs⟩, ⟨tk, tn, ts⟩, xo⟩ ⟨gk, gn, gs⟩ = z at HE HC
      have q0 : wr.cell? ⟨w.heap.size, 0, none⟩ = some (.int .i64 gk) := (hbw.cell (p := ⟨w.heap.size, 0, none⟩) hs2).trans g0
      have q1 : wr.cell? ⟨w.heap.size, 1, none⟩ = some (.int .i64 gn) := (hbw.cell (p := ⟨w.heap.size, 1, none⟩) hs2).trans g1
      have q2 : wr.cell? ⟨w.heap.size, 2, none⟩ = some (.string gs) := (hbw.cell (p := ⟨w.heap.size, 2, none⟩) hs2).trans g2
      have hlw : w.heap.size < wr.heap.size := by omega
      clear hc ht g0 g1 g2
      go_wp2_with fail
      refine (HC.out _).mono ?_
      rintro e w3 ⟨rfl, hg3⟩
      have hb3 : Below w2.heap.size w2 w3 := hbw.trans ((((Gr.refl wr).alloc _).trans hg3).below.mono hws)
      clear p0 p1 p2 p3 p4 p5 p6 q0 q1 q2 hbw
      cases z
      · have HE2 : Hid (inL L ⟨gk, gn, gs⟩ = inL (L.drop (k + 1)) ⟨gk, gn, gs⟩) := by have := HE.out; show _ = _; simpa using this
        clear HE
        go_wp2_with fail
        go_roundw
        case rel => exact ⟨k + 1, by omega, by go_num, hb3, HE2⟩
        case measure => simp [intOf]; omega
      · have HE2 : Hid (inL L ⟨gk, gn, gs⟩ = true) := by have := HE.out; show _ = _; simpa using this
        clear HE
        go_wp2_with fail
        go_ret
        exact ⟨by rw [HE2.out]; try rfl, hb2.trans (hb3.mono hb2.size)⟩
    · have HE2 : Hid (inL L ⟨gk, gn, gs⟩ = false) := by have := ht.out; rw [List.drop_eq_nil_of_le (by rw [HN.out]; omega)] at this; exact this
      clear ht
      go_wp2_with fail
      go_ret
      exact ⟨by rw [HE2.out]; try rfl, hb2.trans (hbw.mono hb2.size)⟩

set_option linter.unusedSimpArgs false in
set_option maxHeartbeats 1000000 in
theorem iLeast_any (v : Value) (L : List IV) (w : World) (h : Ivs w v L) : Calls Try.prog 13 #[v] w fun e w' => e = .returned (retV (leastV L)) ∧ Below w.heap.size w w' := by
  have HL : Hid (∀ W, Below w.heap.size w W → Calls Try.prog 11 #[v] W fun e w' => e = .returned (.bool (vldL L)) ∧ Below W.heap.size W w') := fun W hb => iValid_any v L W (h.below hb)
  obtain ⟨a, c, rfl, hc1, hc2, hnil, hn, hi⟩ := h
  cases L with
  | nil =>
    clear HL hi hnil
    simp only [List.length_nil, leastV, retV, z0]
    go_enter Try.func13, Try.ntmps13
    go_wp2_with fail
    refine bodyPost_ret (v := .tuple #[.agg #[.int .i64 0, .int .i64 0, .string ⟨#[]⟩], .bool false]) (by simp [results, Try.results13, go_sem, *]) rfl ?_
    exact ⟨rfl, by (repeat (first | exact Below.refl _ _ | assumption | refine Below.drew ?_ | refine Below.setCell ?_ (by first | omega | (simp only [World.size_alloc]; omega) | (simp; try omega)) _ | refine Below.alloc ?_ (by first | omega | (simp only [World.size_alloc]; omega) | (simp; try omega)) _))⟩
  | cons x r =>
    obtain ⟨b, off, rfl, -, hb', hc⟩ := hi 0 (by simp)
    simp only [List.getElem_cons_zero, Nat.zero_mul, Nat.add_zero] at hc
    simp only [leastV]
    generalize vldL (x :: r) = y at HL ⊢
    obtain ⟨n, hnn⟩ : ∃ n, (x :: r).length = n := ⟨_, rfl⟩
    have hn0 : ((n : Int) == 0) = false := by rw [beq_eq_false_iff_ne]; simp at hnn; omega
    have hn1 : (0 : Int) < n := by simp at hnn; omega
    rw [hnn] at hc1 hn HL ⊢
    clear hnn hi hnil
    obtain ⟨⟨fk, fn, fs⟩, ⟨tk, tn, ts⟩, xo⟩ := x
    have HC := Lib.hid hc
    clear hc
    cases y
    · simp only [Bool.false_eq_true, if_false, retV, z0]
      go_enter Try.func13, Try.ntmps13
      go_wp2_with fail
      refine (HL.out _ (by (repeat (first | exact Below.refl _ _ | assumption | refine Below.drew ?_ | refine Below.setCell ?_ (by first | omega | (simp only [World.size_alloc]; omega) | (simp; try omega)) _ | refine Below.alloc ?_ (by first | omega | (simp only [World.size_alloc]; omega) | (simp; try omega)) _)))).mono ?_
      rintro e w1 ⟨rfl, hb⟩
      have hs := hb.size
      simp only [World.size_alloc] at hs
      have hlt : w.heap.size < w1.heap.size := by omega
      have hcl : ∀ o, w1.cell? ⟨w.heap.size, o, none⟩ = _ := fun o => hb.cell (p := ⟨w.heap.size, o, none⟩) (show w.heap.size < _ by simp only [World.size_alloc]; omega)
      have hfl : ∀ o, w1.frozen? ⟨w.heap.size, o, none⟩ = _ := fun o => hb.frozen (p := ⟨w.heap.size, o, none⟩) (show w.heap.size < _ by simp only [World.size_alloc]; omega)
      have hbw : Below w.heap.size w w1 := Below.trans (by (repeat (first | exact Below.refl _ _ | assumption | refine Below.drew ?_ | refine Below.setCell ?_ (by first | omega | (simp only [World.size_alloc]; omega) | (simp; try omega)) _ | refine Below.alloc ?_ (by first | omega | (simp only [World.size_alloc]; omega) | (simp; try omega)) _))) (hb.mono (by simp only [World.size_alloc]; omega))
      go_wp2_with fail
      refine bodyPost_ret (v := .tuple #[.agg #[.int .i64 0, .int .i64 0, .string ⟨#[]⟩], .bool false]) (by simp [results, Try.results13, go_sem, *]) rfl ?_
      exact ⟨rfl, by (repeat (first | exact Below.refl _ _ | assumption | refine Below.drew ?_ | refine Below.setCell ?_ (by first | omega | (simp only [World.size_alloc]; omega) | (simp; try omega)) _ | refine Below.alloc ?_ (by first | omega | (simp only [World.size_alloc]; omega) | (simp; try omega)) _))⟩
    · simp only [if_true, retV]
      go_enter Try.func13, Try.ntmps13
      go_wp2_with fail
      refine (HL.out _ (by (repeat (first | exact Below.refl _ _ | assumption | refine Below.drew ?_ | refine Below.setCell ?_ (by first | omega | (simp only [World.size_alloc]; omega) | (simp; try omega)) _ | refine Below.alloc ?_ (by first | omega | (simp only [World.size_alloc]; omega) | (simp; try omega)) _)))).mono ?_
      rintro e w1 ⟨rfl, hb⟩
      have hs := hb.size
      simp only [World.size_alloc] at hs
      have hlt : w.heap.size < w1.heap.size := by omega
      have hbw : Below w.heap.size w w1 := Below.trans (by (repeat (first | exact Below.refl _ _ | assumption | refine Below.drew ?_ | refine Below.setCell ?_ (by first | omega | (simp only [World.size_alloc]; omega) | (simp; try omega)) _ | refine Below.alloc ?_ (by first | omega | (simp only [World.size_alloc]; omega) | (simp; try omega)) _))) (hb.mono (by simp only [World.size_alloc]; omega))
      have hcl : ∀ o, w1.cell? ⟨w.heap.size, o, none⟩ = _ := fun o => hb.cell (p := ⟨w.heap.size, o, none⟩) (show w.heap.size < _ by simp only [World.size_alloc]; omega)
      have hfl : ∀ o, w1.frozen? ⟨w.heap.size, o, none⟩ = _ := fun o => hb.frozen (p := ⟨w.heap.size, o, none⟩) (show w.heap.size < _ by simp only [World.size_alloc]; omega)
      obtain ⟨⟨p0, p1, p2⟩, _, _⟩ := HC.out.same (hbw.block b hb')
      simp only at p0 p1 p2
      go_wp2_with fail
      refine bodyPost_ret (v := .tuple #[.agg #[.int .i64 fk, .int .i64 fn, .string fs], .bool true]) (by simp [results, Try.results13, go_sem, *]) rfl ?_
      exact ⟨rfl, by (repeat (first | exact Below.refl _ _ | assumption | refine Below.drew ?_ | refine Below.setCell ?_ (by first | omega | (simp only [World.size_alloc]; omega) | (simp; try omega)) _ | refine Below.alloc ?_ (by first | omega | (simp only [World.size_alloc]; omega) | (simp; try omega)) _))⟩
end Go.Proofs.Ytmhgmlnnipdomaa
