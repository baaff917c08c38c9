/- Law CodecReads: what is read as values and rows is what the reference reads: the call returns true. -/
import Derived.Test.YtkhbephcmcnfjaaBegun2
import Derived.Test.YtkhbephcmcnfjaaRefRow
import Derived.Test.YtkhbephcmcnfjaaRRow
namespace Go.Proofs.Ytkhbephcmcnfjaa
open Go.RowKit Go.Deep

theorem RowAt.below2 {w w' : World} {v : Value} {l : List V} (h : RowAt w v l) (hb : Below w.heap.size w w') : RowAt w' v l := by
  obtain ⟨a, c, e, hn, hi⟩ := h
  refine ⟨a, c, e, hn, fun i h => ?_⟩
  obtain ⟨b, off, ea, hlt, hc⟩ := hi i h
  exact ⟨b, off, ea, Nat.lt_of_lt_of_le hlt hb.size, CellsV.below hb hlt hc⟩

set_option maxRecDepth 100000 in
set_option maxHeartbeats 4000000 in
theorem reads_walk (dv : Value) (D : List UInt8) (p : Int) (w : World) (hd : Reads w dv D) (hp : -9223372036854775808 ≤ p) (hp' : p ≤ 9223372036854775807) :
    Calls Try.prog 7 #[dv, .int .i64 p] w fun e w' => e = .returned (.bool true) ∧ Below w.heap.size w w' := by
  have he := eqV_run
  have HP := Lib.hid (part_any dv D w hd)
  obtain ⟨P, hP⟩ : ∃ P, P = D.take 200 := ⟨_, rfl⟩
  have hPl : P.length ≤ 200 := by rw [hP, List.length_take]; omega
  rw [← hP] at HP
  clear hP hd
  obtain ⟨x, i, e1, hV⟩ : ∃ n i e, readV P p = (n, i, e) := ⟨_, _, _, rfl⟩
  obtain ⟨l, y, e2, hR⟩ : ∃ n i e, readR P p = (n, i, e) := ⟨_, _, _, rfl⟩
  obtain ⟨xk, xn, xs⟩ := x
  have V1 : Hid (∀ v W, Reads W v P → Calls Try.prog 46 #[v, .int .i64 p] W fun e w' => e = .returned (.tuple #[.agg #[.int .i64 xk, .int .i64 xn, .string xs], .int .i64 i, .int .i64 e1]) ∧ Below W.heap.size W w') := fun v W h => by
    have := eValue_any v P p W h (by omega)
    rwa [hV] at this
  have V2 : Hid (∀ v W, Reads W v P → Calls Try.prog 47 #[v, .int .i64 p] W fun e w' => e = .returned (.tuple #[.agg #[.int .i64 xk, .int .i64 xn, .string xs], .int .i64 i, .int .i64 e1]) ∧ Below W.heap.size W w') := fun v W h => by
    have := fValue_any v P p W h (by omega) hp hp'
    rwa [hV] at this
  have R1 : Hid (∀ v W, Reads W v P → Calls Try.prog 48 #[v, .int .i64 p] W fun e w' => ∃ rv, e = .returned (.tuple #[rv, .int .i64 y, .int .i64 e2]) ∧ RowAt w' rv l ∧ Below W.heap.size W w') := fun v W h => by
    have := eRow_any v P p W h (by omega)
    rwa [hR] at this
  have R2 : Hid (∀ v W, Reads W v P → Calls Try.prog 49 #[v, .int .i64 p] W fun e w' => ∃ rv, e = .returned (.tuple #[rv, .int .i64 y, .int .i64 e2]) ∧ RowAt w' rv l ∧ Below W.heap.size W w') := fun v W h => by
    have := fRow_any v P p W h (by omega) hp hp'
    rwa [hR] at this
  clear hV hR
  go_enter Try.func7, Try.ntmps7
  go_wp2_with fail
  refine HP.out.mono ?_
  rintro e w0 ⟨pv, rfl, hpr, rfl⟩
  have HR0 := Lib.hid hpr
  clear hpr
  go_wp2_with fail
  have HA := Lib.hid (V1.out pv w0 HR0.out)
  refine HA.out.mono ?_
  rintro e w1 ⟨rfl, hb⟩
  have hal : Below w1.heap.size w1 (w1.alloc (.cells #[.int .i64 xk, .int .i64 xn, .string xs] 42)) := (Below.refl _ _).alloc (Nat.le_refl _) _
  have HB1 : Hid (Below w0.heap.size w0 (w1.alloc (.cells #[.int .i64 xk, .int .i64 xn, .string xs] 42))) := hb.trans (hal.mono hb.size)
  have C1 : Hid (∀ W, Below (w1.alloc (.cells #[.int .i64 xk, .int .i64 xn, .string xs] 42)).heap.size (w1.alloc (.cells #[.int .i64 xk, .int .i64 xn, .string xs] 42)) W → W.cell? ⟨w1.heap.size, 0, none⟩ = some (.int .i64 xk) ∧ W.cell? ⟨w1.heap.size, 1, none⟩ = some (.int .i64 xn) ∧ W.cell? ⟨w1.heap.size, 2, none⟩ = some (.string xs)) := fun W hW =>
    ⟨(hW.cell (p := ⟨w1.heap.size, 0, none⟩) (by simp)).trans (World.cell?_alloc_mark w1 _ _ _ 0), (hW.cell (p := ⟨w1.heap.size, 1, none⟩) (by simp)).trans (World.cell?_alloc_mark w1 _ _ _ 1), (hW.cell (p := ⟨w1.heap.size, 2, none⟩) (by simp)).trans (World.cell?_alloc_mark w1 _ _ _ 2)⟩
  have HA2 := Lib.hid (V2.out pv _ (HR0.out.below HB1.out))
  clear hb hal HA
  go_wp2_with fail
  refine HA2.out.mono ?_
  rintro e w2 ⟨rfl, hb⟩
  have hal : Below w2.heap.size w2 (w2.alloc (.cells #[.int .i64 xk, .int .i64 xn, .string xs] 42)) := (Below.refl _ _).alloc (Nat.le_refl _) _
  have HB2 : Hid (Below (w1.alloc (.cells #[.int .i64 xk, .int .i64 xn, .string xs] 42)).heap.size (w1.alloc (.cells #[.int .i64 xk, .int .i64 xn, .string xs] 42)) (w2.alloc (.cells #[.int .i64 xk, .int .i64 xn, .string xs] 42))) := hb.trans (hal.mono hb.size)
  have C2 : Hid (∀ W, Below (w2.alloc (.cells #[.int .i64 xk, .int .i64 xn, .string xs] 42)).heap.size (w2.alloc (.cells #[.int .i64 xk, .int .i64 xn, .string xs] 42)) W → W.cell? ⟨w2.heap.size, 0, none⟩ = some (.int .i64 xk) ∧ W.cell? ⟨w2.heap.size, 1, none⟩ = some (.int .i64 xn) ∧ W.cell? ⟨w2.heap.size, 2, none⟩ = some (.string xs)) := fun W hW =>
    ⟨(hW.cell (p := ⟨w2.heap.size, 0, none⟩) (by simp)).trans (World.cell?_alloc_mark w2 _ _ _ 0), (hW.cell (p := ⟨w2.heap.size, 1, none⟩) (by simp)).trans (World.cell?_alloc_mark w2 _ _ _ 1), (hW.cell (p := ⟨w2.heap.size, 2, none⟩) (by simp)).trans (World.cell?_alloc_mark w2 _ _ _ 2)⟩
  have HBB : Hid (Below w0.heap.size w0 (w2.alloc (.cells #[.int .i64 xk, .int .i64 xn, .string xs] 42))) := HB1.out.trans (HB2.out.mono HB1.out.size)
  have HA3 := Lib.hid (R1.out pv _ (HR0.out.below HBB.out))
  clear hb hal HA2
  go_wp2_with fail
  refine HA3.out.mono ?_
  rintro e w3 ⟨rv, rfl, hrow1, hb3⟩
  have HA4 := Lib.hid (R2.out pv w3 (HR0.out.below (HBB.out.trans (hb3.mono HBB.out.size))))
  have HROW1 := Lib.hid hrow1
  have HB3 := Lib.hid hb3
  clear hrow1 hb3 HA3
  go_wp2_with fail
  refine HA4.out.mono ?_
  rintro e w4 ⟨sv, rfl, hrow2, hb4⟩
  have HG := Lib.hid (begun2_any w4)
  have HROW2 := Lib.hid hrow2
  have HB4 : Hid (Below (w2.alloc (.cells #[.int .i64 xk, .int .i64 xn, .string xs] 42)).heap.size (w2.alloc (.cells #[.int .i64 xk, .int .i64 xn, .string xs] 42)) w4) := HB3.out.trans (hb4.mono HB3.out.size)
  have HROW1' := Lib.hid (HROW1.out.below2 hb4)
  clear hrow2 hb4 HA4 HROW1 HB3
  go_wp2_with fail
  refine HG.out.mono ?_
  rintro e w5 ⟨rfl, hb5⟩
  have HB5 : Hid (Below (w2.alloc (.cells #[.int .i64 xk, .int .i64 xn, .string xs] 42)).heap.size (w2.alloc (.cells #[.int .i64 xk, .int .i64 xn, .string xs] 42)) w5) := HB4.out.trans (hb5.mono HB4.out.size)
  obtain ⟨p0, p1, p2⟩ := C1.out w5 (HB2.out.trans (HB5.out.mono HB2.out.size))
  obtain ⟨q0, q1, q2⟩ := C2.out w5 HB5.out
  have HCMP := Lib.hid (rCompareRows_any rv sv l l w5 (HROW1'.out.below2 hb5) (HROW2.out.below2 hb5))
  rw [(cmpRows_zero l l).2 rfl] at HCMP
  have HBF : Hid (Below w0.heap.size w0 w5) := HBB.out.trans (HB5.out.mono HBB.out.size)
  clear hb5 HG C1 C2 HB2 HB4 HB5 HBB HROW2 HROW1'
  go_wp2_with fail
  refine HCMP.out.mono ?_
  rintro e w6 ⟨rfl, hg⟩
  have HBL : Hid (Below w0.heap.size w0 w6) := HBF.out.trans (hg.below.mono HBF.out.size)
  clear hg
  go_wp2_with fail
  go_ret
  exact ⟨rfl, HBL.out⟩
end Go.Proofs.Ytkhbephcmcnfjaa
